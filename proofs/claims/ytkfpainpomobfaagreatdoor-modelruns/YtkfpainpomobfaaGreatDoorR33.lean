/- The reference's Do where it is not refus -/
import Derived.Test.YtkfpainpomobfaaGreatDoorR27
import Derived.Test.YtkfpainpomobfaaGreatDoorR32
import Derived.Test.YtkfpainpomobfaaGreatDoorRows
import Derived.Lib.LaidTab
set_option linter.unusedVariables false
set_option linter.unusedSimpArgs false
set_option maxHeartbeats 16000000
set_option maxRecDepth 16000
namespace Go.Proofs.YtkfpainpomobfaaGreatDoor.Wd
open Go.RowKit Fx List World Nat
def RkS (op:Int):Prop:=∀ (p p2 p3 p4:Option Addr) (n c n2 c2 n3 c3 n4 c4:Nat) (dd yy d' y':List Int) (K:Int) (hK:InR K) (hg:f_q dd yy) (hd':RI d') (hy':RI y') (hnc:n<=c) (hE:rkE op dd yy d' y' K=0) (w:World) (h1:Nums .i64 w (.slice p n c) dd) (h2:Nums .i64 w (.slice p2 n2 c2) yy) (h3:Nums .i64 w (.slice p3 n3 c3) d') (h4:Nums .i64 w (.slice p4 n4 c4) y'),
  Calls Tryz.prog 45 #[.int .i64 op,.agg #[.slice p n c,.slice p2 n2 c2],.agg #[.slice p3 n3 c3,.slice p4 n4 c4],.int .i64 K] w fun e w'=>∃ v',e = .returned (.tuple #[v',.int .i64 (rkE op dd yy d' y' K)])/\TRes w' w.heap.size v' (rkD op dd yy d' y' K) (rkV op dd yy d' y' K)/\Bw w w'
theorem o_a {d x d' y:List Int} (h:c_8 d x d' y=0):∃ a b J,Joint d x d' y a b J:=by
 unfold c_8 at h
 split at h
 ·rename_i hp
  exact q_O hp h
 ·cases h
theorem u_3:RkS 2:=by
 intro p p2 p3 p4 n c n2 V n3 M n4 c4 dd O d' y' K hK I H E Z hE w L R h3 h4;obtain ⟨a,b,J,hJ⟩:=o_a hE;exact t_g (.inl ⟨rfl,rfl,rfl⟩) fun W A=>i_J 0 (fun a b=>Fx.hold (a+b)) 97 (by decide) (fun X Y hX hY W=>Rf.add_ref X Y hX hY _ rfl W) p p2 p3 p4 n c n2 V n3 M n4 c4 dd O d' y' I.2.1 I.2.2 H E W (L.up A) (R.up A) (h3.up A) (h4.up A) a b J hJ
theorem u_4:RkS 4:=by
 intro p p2 p3 p4 n c n2 c2 n3 R n4 c4 dd V d' y' K hK I H E aa hE w M Z h3 h4;obtain ⟨a,b,J,hJ⟩:=o_a hE;exact t_g (.inr (.inr (.inl ⟨rfl,rfl,rfl⟩))) fun W A=>i_J 2 (Fx.mulI) 99 (by decide) (fun X Y L O W=>Rf.mul_ref X Y L O _ rfl W) p p2 p3 p4 n c n2 c2 n3 R n4 c4 dd V d' y' I.2.1 I.2.2 H E W (M.up A) (Z.up A) (h3.up A) (h4.up A) a b J hJ
theorem u_5:RkS 8:=by
 intro p p2 p3 p4 n c n2 c2 n3 c3 n4 c4 dd E d' y' K hK I ab aa J A w L Z h3 h4;refine n_7 (.inl ⟨rfl,rfl,rfl⟩) rfl fun W O=>?_;have A:smE dd E K=0:=A;have H:=t_R (k:=K) I.1;show Calls _ _ _ _ fun e R=>∃ M,e = .returned (.tuple #[M,.int .i64 (smE dd E K)])/\TRes R W.heap.size M (smD dd E K) (smV dd E K)/\Bw W R;rw [<- H.1] at A;rw [<- H.1,<- H.2.1,<- H.2.2];exact r_Z p p2 n c n2 c2 dd E (whI K) (r_M hK) I.2.1 I.2.2 (by obtain ⟨_,_,_,V,HD⟩:=L.lst;cases V;have h5:=I.1.1.1;rw [a_O,HD.1] at h5;omega) J W (L.up O) (Z.up O) (by unfold smE at A;split at A <;> first|assumption|cases A)
theorem u_p:RkS 12:=by
 intro p p2 p3 p4 n c n2 c2 n3 c3 n4 c4 dd E d' H K hK R M L aa A w Z h2 h3 h4;refine n_7 (.inr (.inr ⟨rfl,rfl,rfl⟩)) rfl fun W J=>?_;have A:rwE dd E d' H K=0:=A;have I:=t_S (k:=K) (D:=dd) (X:=E) (D':=d') (X':=H);show Calls _ _ _ _ fun e V=>∃ O,e = .returned (.tuple #[O,.int .i64 (rwE dd E d' H K)])/\TRes V W.heap.size O (rwD dd E d' H K) (rwV dd E d' H K)/\Bw W V;rw [<- I.1] at A;rw [<- I.1,<- I.2.1,<- I.2.2];refine r_0 p p2 p3 p4 n c n2 c2 n3 c3 n4 c4 dd E d' H (whI K) R.2.1 R.2.2 M L W (Z.up J) (h2.up J) (h3.up J) (h4.up J) ?_;unfold rwE at A
 split at A
 ·split at A
  ·exact ⟨by assumption,by assumption⟩
  ·cases A
 ·cases A
theorem u_q:RkS 13:=by
 intro p p2 p3 p4 n c n2 Z n3 c3 n4 c4 dd E d' y' K hK H ac ab aa A w R V h3 h4;refine r_1 (P:=plP dd E (whI K)) rfl fun W O=>?_;have A:plE dd E K=0:=A;have I:=t_T (k:=K) H.1;show Calls _ _ _ _ fun e J=>∃ L M,e = .returned (.tuple #[L,M,.int .i64 (plE dd E K)])/\TRes J W.heap.size L (plD dd E K) (plV dd E K)/\OwnK .i64 3 J W.heap.size M (plP dd E (whI K))/\Bw W J;rw [<- I.1] at A;rw [<- I.1,<- I.2.1,<- I.2.2];refine p_R p p2 n c n2 Z dd E (whI K) H.2.1 H.2.2 W (R.up O) (V.up O) ⟨H.1,?_⟩;unfold plE at A;rw [if_pos H.1] at A
 split at A
 ·split at A
  ·exact ⟨by assumption,by assumption⟩
  ·cases A
 ·cases A
theorem u_r:RkS 14:=by
 intro p p2 p3 p4 n c H c2 n3 c3 n4 c4 dd A d' y' K hK L ac ab aa E w Z I h3 h4;obtain ⟨_,_,_,V,O⟩:=I.lst;cases V;have hn:H<=4096:=by rw [<- O.1];exact L.1.len.2
 refine r_Y fun q W M hl=>?_;have E:l_c dd A [(A.length:Int)]=0:=E;show Calls _ _ _ _ fun e R=>∃ J,e = .returned (.tuple #[J,.int .i64 (l_c dd A [(A.length:Int)])])/\TRes R W.heap.size J (m_p dd A [(A.length:Int)]) (o_T dd A [(A.length:Int)])/\Bw W R;rw [O.1] at E ⊢;refine j_B p p2 q n c H c2 1 1 dd A [(H:Int)] L.2.1 (fun q hq=>by simp at hq;omega) W (Z.up M) (I.up M) hl ?_;unfold l_c at E
 split at E
 ·split at E
  ·exact ⟨by assumption,by assumption⟩
  ·cases E
 ·cases E
theorem RkS.of {op:Int} (h:RkP op):RkS op:=fun p p2 L p4 n c n2 c2 n3 O n4 Z dd R d' I K hK M E A H _ w J h2 V h4=>h p p2 L p4 n c n2 c2 n3 O n4 Z dd R d' I K hK M E A H w J h2 V h4
theorem u_s (B M:Nat) (ns:List Nd) (hG:NodesG ns) (op a b k:Int) (ad:RkS op) (hE:doE ns op a b k=0) (w:World) (hT:Tap 43 55 w B M ns) (hk:InR k):
  Calls Tryz.prog 28 #[.pointer (some ⟨M,0,none⟩),.int .i64 op,.int .i64 a,.int .i64 b,.int .i64 k] w fun e w'=>e = .returned (.tuple #[.int .i64 (doR ns op a b k),.int .i64 (doE ns op a b k)])/\Tap 43 55 w' B M (doN ns op a b k)/\Below B w w'/\Only [43,55] w w'/\SpG 43 w.heap.size M w w':=by
 obtain ⟨hf,I⟩:¬ 512<=ns.length/\okD ns op a b:=by
  unfold doE at hE
  split at hE
  ·omega
  ·split at hE
   ·exact ⟨by assumption,by assumption⟩
   ·omega
 obtain ⟨J,rfl⟩:∃ i:Nat,a=i:=⟨a.toNat,by have:=I.2.1;omega⟩
 have ab:J < ns.length:=by have:=I.2.1;omega
 obtain ⟨A,H⟩:∃ nd,ns[J]?=some nd:=⟨_,getElem?_eq_getElem ab⟩
 have af:f_q A.D A.X:=hG A (i_v H);have R:=l_n H;have f1:dE ns op (J:Int) b k=rkE op A.D A.X (dD ns op b) (dX ns op b) (dK op k):=by unfold dE;rw [R]
 have f2:dN ns op (J:Int) b k=⟨op,(J:Int),dB op b,dK op k,rkD op A.D A.X (dD ns op b) (dX ns op b) (dK op k),rkV op A.D A.X (dD ns op b) (dX ns op b) (dK op k)⟩:=by unfold dN;rw [R]
 have g1:doE ns op (J:Int) b k=rkE op A.D A.X (dD ns op b) (dX ns op b) (dK op k):=(if_neg hf).trans ((if_pos I).trans f1)
 have V:RI (dD ns op b)/\RI (dX ns op b):=by
  unfold dD dX;by_cases E:d_H op
  ·rw [if_pos E,if_pos E];exact (hG.at (I.2.2 E).1 (I.2.2 E).2).2
  ·rw [if_neg E,if_neg E];exact ⟨fun y hy=>by simp at hy,fun y hy=>by simp at hy⟩
 have ac:InR (dK op k):=by
  unfold dK
  split
  ·exact hk
  ·unfold InR;omega
 have aa:=g1.symm.trans hE;rw [g1];refine t_d B M ns op J b k A H (dD ns op b) (dX ns op b) (dB op b) (dK op k) ?_ ?_ I.1.1 I.1.2 (by omega) _ (rkD op A.D A.X (dD ns op b) (dX ns op b) (dK op k)) (rkV op A.D A.X (dD ns op b) (dX ns op b) (dK op k)) _ _ ⟨fun h=>?_,fun h=>?_⟩ w hT ?_
 ·by_cases E:d_H op
  ·have hb:=I.2.2 E;obtain ⟨bi,rfl⟩:∃ i:Nat,b=i:=⟨b.toNat,by omega⟩
   obtain ⟨ae,L⟩:∃ nd,ns[bi]?=some nd:=⟨_,getElem?_eq_getElem (by omega)⟩
   have Z:=l_n L;exact .inl ⟨E,if_pos E,bi,ae,rfl,L,(if_pos E).trans (by rw [Z]),(if_pos E).trans (by rw [Z])⟩
  ·exact .inr ⟨E,if_neg E,if_neg E,if_neg E⟩
 ·by_cases h3:byP op
  ·exact .inl ⟨h3,if_pos h3⟩
  ·exact .inr ⟨h3,if_neg h3⟩
 ·have O:doP ns op (J:Int) b k:=⟨⟨by omega,I⟩,f1.trans h⟩
  exact ⟨if_pos O,(if_pos O).trans (by rw [f2])⟩
 ·have O:¬ doP ns op (J:Int) b k:=fun h'=>h (f1.symm.trans h'.2);exact ⟨if_neg O,if_neg O⟩
 intro W pA qA pB qB nA cA mA eA nB cB mB eB hW gc g1 g2 g4 g5;exact ad pA qA pB qB nA cA mA eA nB cB mB eB _ _ _ _ _ ac af V.1 V.2 gc aa W g1 g2 g4 g5
theorem u_t:RLfC:=fun B E ns p I n c V O dd J A L hp w R H M=>l_B B E ns p I n c V O dd J A w R H M L hp
theorem u_u:RDoC:=fun B H ns E op a b k A L w J I=>u_s B H ns E op a b k (by
 rcases A with rfl|rfl|rfl|rfl|rfl|rfl|rfl
 ·exact u_3
 ·exact u_4
 ·exact u_5
 ·exact RkS.of u_0
 ·exact u_p
 ·exact u_q
 ·exact u_r) L w J I
theorem mruns_walk (w:World) (hT:Hid (Tz w)) (hK:Hid (Kz w)) (hP:Hid (Pz w)) (z:Nat->Int) (n c:Nat) (p:Option Addr) (ls:List Ly) (M I:Nat) (R:Option Addr) (zp:Nat->Int) (V J:Nat) (L:Option Addr) (Z:Nat->Int) (O E:Nat) (H:Option Addr) (A:Bool) (h1:RowN .i64 w p n c z) (h2:LayN w R M I ls) (h3:RowN .i64 w L V J zp) (h4:RowN .i64 w H O E Z):
  Calls Tryz.prog 3 #[.agg #[.slice p n c,.slice R M I],.slice L V J,.slice H O E,.bool A] w fun e w'=>e = .returned (.bool true)/\Bw w w':=
 p_K u_t u_u w hT hK hP z n c p ls M I R zp V J L Z O E H A h1 h2 h3 h4
end Go.Proofs.YtkfpainpomobfaaGreatDoor.Wd
namespace Go.Proofs.YtkfpainpomobfaaGreatDoor.Wd
open Go.RowKit List World Nat
theorem c_Z {H:Type} {enc:TypeId×Value->H} {P:Program} {w:World} {E:Nat} {sp:Nat->Bool} {L:Bool} {fuel:Nat} {e q:TypeId} {M J I:Field} {Z:List Value} {bs:List UInt8} {a b c:Int} {p:List MemPlace}
  (he:P.underlying e=some (.struct #[M,J,I])) (ce:P.cellsOf e=4) (o0:M.offset=0) (o1:J.offset=1) (o2:I.offset=2) (c0:P.cellsOf M.type=1) (c1:P.cellsOf J.type=1) (c2:P.cellsOf I.type=2)
  (u0:P.underlying M.type=some .string) (u1:P.underlying J.type=some (.int .i64)) (u2:P.underlying I.type=some (.array 2 q)) (uq:P.underlying q=some (.int .i64)) (cq:P.cellsOf q=1)
  (h:DataW.trod enc P w E sp L fuel e Z=some (.agg [.lit (.string bs),.lit (.int .i64 a),.agg [.lit (.int .i64 b),.lit (.int .i64 c)]],p)):Z = [.string ⟨bs.toArray⟩,.int .i64 a,.int .i64 b,.int .i64 c]:=by
 obtain ⟨ys,n,_,hx,hl,aa,hf⟩:=DataW.trod_struct he h;rw [ce] at hl;have A:=(Prod.mk.inj hx).1;simp only [DataW.agg.injEq] at A
 match ys,aa with
 | [y0,y1,y2],_=>
  simp only [map_cons,map_nil,List.cons.injEq,and_true] at A;obtain ⟨V,R,h2⟩:=A;have t0:=hf 0 M rfl;have t1:=hf 1 J rfl;have t2:=hf 2 I rfl
  match Z,hl with
  | [v0,v1,v2,v3],_=>
   simp [o0,c0] at t0;simp [o1,c1] at t1;simp [o2,c2] at t2;obtain ⟨z0,e0,x0,_⟩:=DataW.trod_string u0 t0;obtain ⟨z1,e1,x1,_⟩:=DataW.trod_int u1 t1;obtain ⟨ab,ac⟩:=y2;simp only [] at h2;subst h2;have O:=Lib.cells_of_tab (zs:=[b,c]) u2 uq cq c2 t2;simp only [List.cons.injEq,and_true,map_cons,map_nil] at e0 e1 O;obtain ⟨O,e3⟩:=O;subst e0 e1 O e3;rw [x0] at V;rw [x1] at R;simp only [DataW.lit.injEq,Lit.string.injEq,Lit.int.injEq,true_and] at V R;subst R;rw [V]
theorem u_v {α:Type} (l:List α) (h:l.length=20):l=(l.drop 0).take 4++((l.drop 4).take 4++((l.drop 8).take 4++((l.drop 12).take 4++(l.drop 16).take 4))):=by
 have k:∀ n,l.drop n=(l.drop n).take 4++l.drop (n+4):=fun n=>by
  have:=(take_append_drop 4 (l.drop n)).symm;rw [drop_drop] at this;exact this
 conv=>lhs;rw [<- drop_zero (l:=l),k 0,k 4,k 8,k 12,k 16,drop_eq_nil_of_le (show l.length<=16+4 by omega),append_nil]
theorem kinds_cells {H:Type} {enc:TypeId×Value->H} {P:Program} {w:World} {J:Nat} {sp:Nat->Bool} {aa:Bool} {fuel:Nat} {t e q:TypeId} {f0 f1 f2:Field} {E:List Value} {p:List MemPlace}
  (ht:P.underlying t=some (.array 5 e)) (ct:P.cellsOf t=20)
  (he:P.underlying e=some (.struct #[f0,f1,f2])) (I:P.cellsOf e=4) (o0:f0.offset=0) (o1:f1.offset=1) (o2:f2.offset=2) (R:P.cellsOf f0.type=1) (c1:P.cellsOf f1.type=1) (V:P.cellsOf f2.type=2)
  (u0:P.underlying f0.type=some .string) (u1:P.underlying f1.type=some (.int .i64)) (u2:P.underlying f2.type=some (.array 2 q)) (uq:P.underlying q=some (.int .i64)) (cq:P.cellsOf q=1)
  (h:DataW.trod enc P w J sp aa fuel t E=some (Rows.laid_carousel_model_kinds,p)):E=kArr.toList:=by
 cases fuel with
 | zero=>simp [DataW.trod] at h
 | succ fuel=>
  simp only [DataW.trod,ht,I,ct] at h
  split at h
  ·rename_i hl
   obtain ⟨xs,hm,hx⟩:=Option.map_eq_some_iff.1 h;have A:=(Prod.mk.inj hx).1;unfold Rows.laid_carousel_model_kinds at A;simp only [DataW.agg.injEq] at A;have ac:xs.length=5:=by simpa using Lib.mapM_length hm
   have g:=fun i (hi:i < 5)=>Lib.mapM_at hm i i (by simp [hi]);obtain ⟨b0,ab,g0⟩:=g 0 (by omega);obtain ⟨b1,M,g1⟩:=g 1 (by omega);obtain ⟨b2,O,g2⟩:=g 2 (by omega);obtain ⟨b3,L,g3⟩:=g 3 (by omega);obtain ⟨b4,Z,g4⟩:=g 4 (by omega)
   match xs,ac with
   | [(d0,q0),(d1,q1),(d2,q2),(d3,q3),(d4,q4)],_=>
    simp only [map_cons,map_nil,List.cons.injEq,and_true] at A;obtain ⟨rfl,rfl,rfl,rfl,rfl⟩:=A;simp at ab M O L Z;subst ab M O L Z;have r0:=c_Z he I o0 o1 o2 R c1 V u0 u1 u2 uq cq g0;have r1:=c_Z he I o0 o1 o2 R c1 V u0 u1 u2 uq cq g1;have r2:=c_Z he I o0 o1 o2 R c1 V u0 u1 u2 uq cq g2;have r3:=c_Z he I o0 o1 o2 R c1 V u0 u1 u2 uq cq g3;have r4:=c_Z he I o0 o1 o2 R c1 V u0 u1 u2 uq cq g4;rw [u_v E (by omega)];rw [show (drop 0 E).take 4=_ from r0,show (drop 4 E).take 4=_ from r1,show (drop 8 E).take 4=_ from r2,show (drop 12 E).take 4=_ from r3,show (drop 16 E).take 4=_ from r4];rfl
  ·cases h
theorem kz_var {W : World} (h : W.var? Tryz.prog "carousel/model.kinds" = some kArr) : Kz W := by
 have A:=World.var?_cell (g:=0) (by kernel_rfl) h;intro i E;have e:∀ j,j < 20->kArr[j]?=kArr.toList[j]?:=fun j _=>by simp
 rcases (show i=0∨i=1∨i=2∨i=3∨i=4 by omega) with rfl|rfl|rfl|rfl|rfl
 ·exact ⟨(A 0).trans rfl,(A 1).trans rfl,(A 2).trans rfl,(A 3).trans rfl⟩
 ·exact ⟨(A 4).trans rfl,(A 5).trans rfl,(A 6).trans rfl,(A 7).trans rfl⟩
 ·exact ⟨(A 8).trans rfl,(A 9).trans rfl,(A 10).trans rfl,(A 11).trans rfl⟩
 ·exact ⟨(A 12).trans rfl,(A 13).trans rfl,(A 14).trans rfl,(A 15).trans rfl⟩
 ·exact ⟨(A 16).trans rfl,(A 17).trans rfl,(A 18).trans rfl,(A 19).trans rfl⟩
end Go.Proofs.YtkfpainpomobfaaGreatDoor.Wd
