/- The code's plans: param, dense. · The co -/
import Derived.Test.YtkfpainpomobfaaGreatDoorR14
import Derived.Maps.AppendAt
set_option linter.unusedVariables false
set_option linter.unusedSimpArgs false
set_option maxHeartbeats 16000000
set_option maxRecDepth 16000
namespace Go.Proofs.YtkfpainpomobfaaGreatDoor.Wd
open Go.RowKit List World Nat
theorem Kept.none (B:Nat) (W:World):Kept B W (.slice none 0 0) []:=fun _ _=>.inl ⟨rfl,rfl⟩
theorem Kept.cut {B:Nat} {W:World} {p:Option Addr} {n c i j:Nat} {l:List Int} (h:Kept B W (.slice p n c) l) (A:i<=j) (E:j<=n) (J:l.length=n) (H:n<=c):Kept B W (sliced p i j c 1) ((l.drop i).take (j - i)):=fun W' I=>d_Y A E J H (h W' I)
theorem n_m (B E:Nat) (sts:List Sp) (rest:List Int) (ab:sts.length<=200) (d:List Int) (ah:k_3 d) (m:Nat) (hm:a_o d=(m:Int)) (aj:m<=rest.length) (O:rest.length<=1073741824) (p:Option Addr) (n c:Nat) (I w:World) (hP:PlanO B I w E sts rest) (h1:Kept B I (.slice p n c) d):
  Calls Tryz.prog 61 #[.pointer (some ⟨E,0,none⟩),.slice p n c] w fun e w'=>e = .returned (.int .i64 (sts.length:Int))/\PlanO B I w' E (sts++[⟨1,0,0,0,d,rest.take m,true⟩]) (rest.drop m)/\Rn B w w':=by
 have HP:Hid _:=hP;obtain ⟨M,V,pS,al,cS,pR,H,A,xs,hb,ho,hn,hc,hk,Z,R⟩:=hP;have ae:=Nat.le_trans M (Nat.le_of_lt (a_k hb));have cs:=d_D _ d ah w (h1 w V.r4);rw [hm] at cs;obtain ⟨N,eN⟩:∃ N,sts.length=N:=⟨_,rfl⟩
 have HN:Hid (sts.length=N/\N<=200):=⟨eN,by omega⟩
 rw [eN] at ho hn ⊢;subst hn;obtain ⟨⟨x0,y0⟩,⟨x1,y1⟩⟩:=b_4 hb;have J:=s_o pR H A m (by omega);have aa:=s_n pR H A m (by omega);obtain ⟨qh,af⟩:=b_H pR 0 m A;obtain ⟨ql,ad⟩:=b_H pR m H A;have kh:=hk.cut (zero_le m) (by omega) R Z;have kl:=hk.cut (show m<=H by omega) (Nat.le_refl _) R Z;rw [drop_zero,Nat.sub_zero] at kh;rw [take_of_length_le (by rw [length_drop];omega)] at kl;rw [af] at J kh;rw [ad] at aa kl;simp only [Nat.sub_zero] at J kh;have HK:Hid (Kept B I (.slice qh m A) (rest.take m)/\Kept B I (.slice ql (H - m) (A - m)) (rest.drop m)/\Kept B I (.slice p n c) d):=⟨kh,kl,h1⟩
 have HW:Hid (B<=E/\B<=w.heap.size/\w.heap[E]?=some (.cells #[.slice pS N cS,.slice pR H A] 95 (0,0))/\w.ownsRow B 98 7 (.slice pS N cS) N xs/\StsC B I sts xs/\(rest.drop m).length=H - m/\H - m<=A - m/\Rn B I w):=⟨M,ae,hb,ho,hc,by rw [length_drop];omega,by omega,V⟩
 have ak:=a_h x0;clear M hb ho hc hk Z R ae kh kl h1 V af ad hm aj O ab ah eN;go_enter Tryz.func61,Tryz.ntmps61;go_wp2_with fail
 refine cs.mono ?_;rintro e L ⟨rfl,rfl⟩;clear cs
 have HV:Hid (PlanO B I ((L.setCell ⟨E,1,none⟩ (.slice ql (H - m) (A - m))).alloc (.cells #[.slice p n c,.slice qh m A] 50)) E sts (rest.drop m)/\Rn B L ((L.setCell ⟨E,1,none⟩ (.slice ql (H - m) (A - m))).alloc (.cells #[.slice p n c,.slice qh m A] 50))):=by
  obtain ⟨h1,h2,h3,h4,h5,h6,h7,h8⟩:=HW.out;have hR:Rn B L (L.setCell ⟨E,1,none⟩ (.slice ql (H - m) (A - m))):=⟨(Below.refl _ _).setCell (p:=⟨E,1,none⟩) h1 _,Only.set h3 (by simp)⟩
  have hv:(L.setCell ⟨E,1,none⟩ (.slice ql (H - m) (A - m))).heap[E]?=some (.cells #[.slice pS N cS,.slice ql (H - m) (A - m)] 95 (0,0)):=by
   rw [a_l h3];rfl
  have ai:PlanO B I (L.setCell ⟨E,1,none⟩ (.slice ql (H - m) (A - m))) E sts (rest.drop m):=⟨h1,h8.trans hR,_,_,_,_,_,_,_,hv,by rw [HN.1];exact a_z (S:=[95]) h4 (Only.set h3 (by simp)) (by decide),HN.1,h5,HK.2.1,h7,h6⟩
  exact ⟨ai.up (a_a _ _),hR.trans (Rn.of (Nat.le_trans h2 hR.size) (a_a _ _))⟩
 go_wp2_with fail
 have ca:=h_x B E sts (rest.drop m) (by rw [HN.1];exact HN.2) ⟨1,0,0,0,d,rest.take m,true⟩ p n c qh m A I _ HV.1 HK.2.2 HK.1;rw [HN.1] at ca;refine ca.mono ?_;rintro e w2 ⟨rfl,ac,ag⟩;have HF:Hid (PlanO B I w2 E (sts++[⟨1,0,0,0,d,rest.take m,true⟩]) (rest.drop m)/\Rn B L w2):=⟨ac,HV.2.trans ag⟩
 clear ca ac ag HV x0 x1 y0 y1;go_wp2;go_ret;exact ⟨rfl,HF.out⟩
/-- A step that is no Leaf. -/
abbrev spD (op a b k:Int):Sp:=⟨op,a,b,k,[],[],false⟩
theorem c_D (B E N:Nat) (sts:List Sp) (rest:List Int) (M:sts.length=N) (A:N<=200) (op a b k:Int) (H w:World) (L:PlanO B H w E sts rest):
  Calls Tryz.prog 39 #[.pointer (some ⟨E,0,none⟩),.agg #[.int .i64 op,.int .i64 a,.int .i64 b,.int .i64 k,.slice none 0 0,.slice none 0 0,.bool false]] w fun e I=>e = .returned (.int .i64 (N:Int))/\Hid (PlanO B H I E (sts++[spD op a b k]) rest/\(sts++[spD op a b k]).length=N+1/\Rn B w I):=by
 subst M;refine (h_x B E sts rest A (spD op a b k) none 0 0 none 0 0 H w L (Kept.none _ _) (Kept.none _ _)).mono ?_;rintro e I ⟨J,R,O⟩;exact ⟨J,R,by simp,O⟩
/-- What dense lays: its steps, and the last one's number. -/
def l_r (two:Bool) (N:Nat) (m r l:Int):List Sp:=if two then [spD 14 l 0 0,spD 4 m (N:Int) 0,spD 8 ((N+1:Nat):Int) 0 1,spD 2 ((N+2:Nat):Int) r 0] else [spD 4 m l 0,spD 8 (N:Int) 0 1,spD 2 ((N+1:Nat):Int) r 0]
def l_s (two:Bool) (N:Nat):Nat:=if two then N+3 else N+2
theorem n_n (B A N:Nat) (sts:List Sp) (rest:List Int) (hN:sts.length=N) (aa:N<=190) (m r l:Int) (p:Option Addr) (n c:Nat) (E w:World) (hP:PlanO B E w A sts rest):
  Calls Tryz.prog 62 #[.pointer (some ⟨A,0,none⟩),.int .i64 m,.int .i64 r,.slice p n c,.int .i64 l] w fun e w'=>e = .returned (.int .i64 (l_s (decide (n=2)) N:Int))/\PlanO B E w' A (sts++l_r (decide (n=2)) N m r l) rest/\Rn B w w':=by
 have O:Hid (PlanO B E w A sts rest/\sts.length=N/\Rn B w w):=⟨hP,hN,Rn.refl _ _⟩
 obtain ⟨R,eR⟩:∃ R,l_s (decide (n=2)) N=R:=⟨_,rfl⟩
 obtain ⟨S,eS⟩:∃ S,sts++l_r (decide (n=2)) N m r l=S:=⟨_,rfl⟩
 have V:Hid (l_s (decide (n=2)) N=R/\sts++l_r (decide (n=2)) N m r l=S):=⟨eR,eS⟩
 rw [eR,eS];clear hP eR eS hN;go_enter Tryz.func62,Tryz.ntmps62;by_cases h2:n=2
 ·subst h2;go_wp2_with fail
  refine (c_D B A N _ rest O.2.1 (by omega) 14 l 0 0 E w O.1).mono ?_;rintro e w1 ⟨rfl,M⟩;go_wp2_with fail
  refine (c_D B A (N+1) _ rest M.2.1 (by omega) 4 m (N:Int) 0 E w1 M.1).mono ?_;rintro e w2 ⟨rfl,I⟩;go_wp2_with fail
  refine (c_D B A (N+1+1) _ rest I.2.1 (by omega) 8 ((N+1:Nat):Int) 0 1 E w2 I.1).mono ?_;rintro e w3 ⟨rfl,H⟩;go_wp2_with fail
  refine (c_D B A (N+1+1+1) _ rest H.2.1 (by omega) 2 ((N+2:Nat):Int) r 0 E w3 H.1).mono ?_;rintro e L ⟨rfl,J⟩;have e1:R=N+3:=by rw [<- V.1];rfl
  have Z:Hid (PlanO B E L A S rest/\Rn B w L):=by
   refine ⟨?_,((M.2.2.trans I.2.2).trans H.2.2).trans J.2.2⟩;rw [<- V.2];have:=J.1;simp only [append_assoc,cons_append,nil_append] at this;exact this
  subst e1;clear M I H J;go_wp2;go_ret;exact ⟨by simp;omega,Z.out⟩
 ·have ab:((n:Int)==2)=false:=by simpa using (show (n:Int)≠2 by omega)
  go_wp2_with fail
  refine (c_D B A N _ rest O.2.1 (by omega) 4 m l 0 E w O.1).mono ?_;rintro e w2 ⟨rfl,I⟩;go_wp2_with fail
  refine (c_D B A (N+1) _ rest I.2.1 (by omega) 8 (N:Int) 0 1 E w2 I.1).mono ?_;rintro e w3 ⟨rfl,H⟩;go_wp2_with fail
  refine (c_D B A (N+1+1) _ rest H.2.1 (by omega) 2 ((N+1:Nat):Int) r 0 E w3 H.1).mono ?_;rintro e L ⟨rfl,J⟩;have e1:R=N+2:=by rw [<- V.1,decide_eq_false h2];rfl
  have Z:Hid (PlanO B E L A S rest/\Rn B w L):=by
   refine ⟨?_,(I.2.2.trans H.2.2).trans J.2.2⟩;rw [<- V.2,decide_eq_false h2];have:=J.1;simp only [append_assoc,cons_append,nil_append] at this;exact this
  subst e1;clear I H J;go_wp2;go_ret;exact ⟨by simp;omega,Z.out⟩
/-- A Leaf of parameters. -/
abbrev spL (D X:List Int):Sp:=⟨1,0,0,0,D,X,true⟩
/-- The Leafs of the first j parameters, and what is left. -/
def prS (PP:List (List Int)) (rest:List Int):Nat->List Sp×List Int
 | 0=>([],rest)
 | j+1=>((prS PP rest j).1++[spL (shA PP j) ((prS PP rest j).2.take (a_o (shA PP j)).toNat)],(prS PP rest j).2.drop (a_o (shA PP j)).toNat)
theorem j_o {PP:List (List Int)} {rest:List Int}:∀ j,(∀ i,i < j->0<=a_o (shA PP i))->(∀ i,i<=j->e_u PP i<=(rest.length:Int))->((prS PP rest j).2.length:Int)=(rest.length:Int) - e_u PP j/\(prS PP rest j).1.length=j
 | 0,_,_=>by simp [prS,e_u]
 | j+1,h,h2=>by
  obtain ⟨J,E⟩:=j_o j (fun i A=>h i (by omega)) (fun i A=>h2 i (by omega));have I:=h j (by omega);have H:=h2 (j+1) (by omega);simp only [e_u] at H ⊢;simp only [prS,length_drop,length_append,length_cons,length_nil];omega
/-- The numbers of nodes, from N on. -/
def k_r (N j:Nat):List Int:=(range j).map fun i=>((N+i:Nat):Int)
theorem n_o (N j:Nat):k_r N (j+1)=k_r N j++[((N+j:Nat):Int)]:=by simp [k_r,range_succ]
theorem Rn.low {B:Nat} {A W W':World} (h:Rn B A W) (I:B<=A.heap.size) (E:Below A.heap.size W W'):Rn B A W':=⟨h.bel.trans (E.mono I),Nat.le_trans h.onl.1 E.size,fun k H hp=>(E.block k H).trans (h.onl.2 k H hp)⟩
theorem PlanO.int {B:Nat} {A W W':World} {E:Nat} {sts:List Sp} {rest:List Int} (h:PlanO B A W E sts rest) (L:B<=A.heap.size) (H:Only [3] W W') (R:Below A.heap.size W W'):PlanO B A W' E sts rest:=by
 obtain ⟨hb,O,p,n,c,J,n2,V,xs,I,M,Z⟩:=h;exact ⟨hb,O.low L R,p,n,c,J,n2,V,xs,H.keep I (by decide),a_z M H (by decide),Z⟩
theorem PlanO.rn {B:Nat} {A W:World} {E:Nat} {sts:List Sp} {rest:List Int} (h:PlanO B A W E sts rest):Rn B A W:=h.2.1
theorem Rn.block {B:Nat} {H W:World} (h:Rn B H W) {k:Nat} {E:Array Value} {e:TypeId} {A:Nat×Nat} (I:H.heap[k]?=some (.cells E e A)) (he:e∉S2):W.heap[k]?=some (.cells E e A):=h.onl.keep I he
theorem OwnS.dims {B:Nat} {E:World} {p:Option Addr} {n c:Nat} {PP:List (List Int)} (h:OwnS E 0 (.slice p n c) PP) (L:PP.length=n):∀ j,j < n->∃ q o a b d,p=some ⟨q,o,none⟩/\(∀ W',Rn B E W'->W'.cell? ⟨q,o+j,none⟩=some (.slice a b d))/\Kept B E (.slice a b d) (shA PP j):=by
 subst L;intro j M;obtain ⟨vs,H,V⟩:=h;obtain ⟨a,b,d,e,R⟩:=V j M;have A:=H;rcases H.2 with ⟨_,h0⟩|⟨g,J,I,Z,hB,hc,_⟩
 ·omega
 ·cases Z;refine ⟨g,0,a,b,d,rfl,fun W' O=>?_,R.kept (by decide)⟩;have:=ownsRow.cells (a_z A O.onl (by decide)) rfl j _ e;rw [a_r] at this;exact this
theorem s_K:GT Tryz.prog 22 3 1 8:=⟨Tryz.underlying22,by kernel_rfl⟩
/-- What a layer lays: its steps, and the number of what comes out. -/
def b_X (l:Ly) (d:List Int) (N:Nat) (rest:List Int) (bf last:Int):List Sp:=(prS (b_L l d) rest (b_L l d).length).1++(if a_m l.1=0 then l_r (decide (d.length=2)) (N+2) (N:Int) ((N+1:Nat):Int) last else if a_m l.1=1 then [spD 12 last (N:Int) 1] else if a_m l.1=2 then [spD 13 last 0 l.2.1] else if a_m l.1=3 then [spD 11 last 0 l.2.1] else [spD 2 bf last 0])
def c_F (l:Ly) (d:List Int) (N:Nat):Nat:=if a_m l.1=0 then l_s (decide (d.length=2)) (N+2) else if a_m l.1=1 then N+1 else N
def g_X (l:Ly) (d:List Int) (rest:List Int):List Int:=(prS (b_L l d) rest (b_L l d).length).2
theorem n_p (B L N:Nat) (sts:List Sp) (rest:List Int) (hN:sts.length=N) (aW:N<=180) (s:ByteArray) (a b:Int) (hl:a_L (s,a,b)) (d:List Int) (hd:InOk d) (ak:a_m s=1->d.length=2) (aJ:psz (s,a,b) d<=(rest.length:Int)) (aH:rest.length<=1073741824) (p:Option Addr) (n c:Nat) (bf last:Int) (w:World) (hP:PlanO B w w L sts rest) (h1:Kept B w (.slice p n c) d):
  Calls Tryz.prog 40 #[.pointer (some ⟨L,0,none⟩),.agg #[.string s,.int .i64 a,.int .i64 b],.slice p n c,.int .i64 bf,.int .i64 last] w fun e w'=>e = .returned (.int .i64 (c_F (s,a,b) d N:Int))/\PlanO B w' w' L (sts++b_X (s,a,b) d N rest bf last) (g_X (s,a,b) d rest)/\Rn B w w':=by
 haveI:Nonempty World:=⟨w⟩
 obtain ⟨RN,ao⟩:∃ R,c_F (s,a,b) d N=R:=⟨_,rfl⟩
 obtain ⟨RS,am⟩:∃ R,b_X (s,a,b) d N rest bf last=R:=⟨_,rfl⟩
 obtain ⟨RR,ay⟩:∃ R,g_X (s,a,b) d rest=R:=⟨_,rfl⟩
 rw [ao,am,ay];obtain ⟨PP,eP⟩:∃ PP,b_L (s,a,b) d=PP:=⟨_,rfl⟩
 have aA:d.length=n:=by
  obtain ⟨_,_,_,e,h⟩:=h1.nums.lst;cases e;exact h.1
 obtain ⟨H,ah⟩:∃ n,PP.length=n:=⟨_,rfl⟩
 have ag:=j_1 hl hd;have aw:=f_A (l:=(s,a,b)) (d:=d);have I:=f_7 hl hd;have J:=f_B (s,a,b) d;rw [eP] at ag aw I J;rw [ah] at ag aw I J
 have ai:∀ i,i < H->0<=a_o (shA PP i):=fun i hi=>by
  rw [<- eP,<- ah] at *;have hp:=hd.prod;unfold b_L at hi ⊢;rcases a_s hl with ⟨-,k,g1,g2⟩|⟨-,k,g1,g2⟩|⟨-,k,g1,g2⟩|⟨-,k,g1,g2⟩|⟨-,k,g1,g2⟩ <;> simp only [] at k g1 g2 hi ⊢ <;> rw [k] at hi ⊢ <;> simp at hi
  ·have:=a_S g1 hp;rcases (show i=0∨i=1 by omega) with rfl|rfl <;> simp [shA,b_n,b_m] <;> omega
  ·subst hi;have h0:0<=d.getD 0 0:=by rcases hd with ⟨x,rfl,h⟩|⟨x,y,rfl,hx,hy⟩ <;> simp <;> omega
   simp only [if_neg (show ¬ (1:Nat)=0 by omega),if_true];show 0<=a_o [a,d.getD 0 0,b];rw [b_o];exact Int.mul_nonneg (Int.mul_nonneg (by omega) h0) (by omega)
 have V:∀ i,i<=H->e_u PP i<=(rest.length:Int):=by
  have aN:∀ k i,i+k=H->e_u PP i<=e_u PP H:=by
   intro k
   induction k with
   | zero=>intro i hi;rw [show i=H by omega];exact Int.le_refl _
   | succ k ih=>
    intro i hi;have h5:=ih (i+1) (by omega);have h6:=ai i (by omega);simp only [e_u] at h5;omega
  intro i hi;have:=aN (H - i) i (by omega);omega
 have Z:∀ j,j<=H->((prS PP rest j).2.length:Int)=(rest.length:Int) - e_u PP j/\(prS PP rest j).1.length=j:=fun j hj=>j_o j (fun i hi=>ai i (by omega)) (fun i hi=>V i (by omega))
 have HM:Hid ((∀ j,j<=H->(prS PP rest j).2.length<=rest.length/\(prS PP rest j).1.length=j)/\(∀ j,j < H->(a_o (shA PP j)).toNat<=(prS PP rest j).2.length/\a_o (shA PP j)=((a_o (shA PP j)).toNat:Int)/\k_3 (shA PP j))):=by
  refine ⟨fun j hj=>?_,fun j hj=>?_⟩
  ·have:=Z j hj;have h5:=ag j (by omega);exact ⟨by omega,this.2⟩
  ·have:=Z j (by omega);have h5:=ai j hj;have h6:=V (j+1) (by omega);simp only [e_u] at h6;exact ⟨by omega,by omega,I j hj⟩
 have aL:=a_s hl
 have cp:Hid (∀ W,Bw w W->Calls Tryz.prog 38 #[.agg #[.string s,.int .i64 a,.int .i64 b],.slice p n c] W fun e w'=>∃ v',e = .returned v'/\ParR PP v' w'/\Bw W w'):=fun W hW=>by
  rw [<- eP];exact d_E s a b d hl hd ak p n c W (h1.nums.up hW)
 have E:Hid (c_F (s,a,b) d N=RN/\b_X (s,a,b) d N rest bf last=RS/\g_X (s,a,b) d rest=RR/\b_L (s,a,b) d=PP/\PP.length=H/\d.length=n/\sts.length=N/\H<=2/\rest.length<=1073741824):=⟨ao,am,ay,eP,ah,aA,hN,J,aH⟩
 have HP:Hid (PlanO B w w L sts rest):=hP;obtain ⟨t0,t1,t2,t3,-⟩:=kts s;clear ao am ay eP ah aA ag aw I ai V Z hP h1 aJ aH ak hd hl hN;go_enter Tryz.func40,Tryz.ntmps40;go_wp2_with fail
 generalize al:alloc _ _=W0;have ap:Hid (Bw w W0):=by rw [<- al];exact a_a w _
 have aq:Hid (W0.heap[w.heap.size]?=some (.cells #[.string s,.int .i64 a,.int .i64 b] 69 (0,0))):=by
  show _=_;rw [<- al];exact Array.getElem?_push_size
 clear al;refine (cp.out W0 ap).mono ?_;rintro e A ⟨v1,rfl,aV,an⟩;obtain ⟨aQ,aY,rfl,-,ab⟩:=aV;have ae:Bw w A:=a_c ap an;rw [E.2.2.2.2.1] at ab ⊢;have af:Hid (PlanO B A A L sts rest/\B<=A.heap.size/\Rn B w A):=⟨(HP.out.up ae).on,Nat.le_trans HP.size ae.size,Rn.of HP.size ae⟩
 have HD:Hid (∀ j,j < H->∃ q o a b d,aQ=some ⟨q,o,none⟩/\(∀ W',Rn B A W'->W'.cell? ⟨q,o+j,none⟩=some (.slice a b d))/\Kept B A (.slice a b d) (shA PP j)):=OwnS.dims ab E.2.2.2.2.1;have aO:Hid (A.heap[w.heap.size]?=some (.cells #[.string s,.int .i64 a,.int .i64 b] 69 (0,0))):=(an.block _ (a_k aq.out)).trans aq.out;have aC:H<=2:=J;clear ab an ae cp aq ap;go_wp2_with fail
 go_loopg [11,18] H (fun gg u v wr=>∃ (j:Nat),j<=H/\gg=H - j/\v = .int .i64 (j:Int)/\Hid (OwnK .i64 3 wr A.heap.size u (k_r N j))/\Hid (PlanO B A wr L (sts++(prS PP rest j).1) (prS PP rest j).2))
 case atStart=>exact ⟨0,by omega,by omega,rfl,OwnK.nil _ _ _ _,by show PlanO _ _ _ _ _ _;simpa [prS] using af.1⟩
 case round=>
  obtain ⟨j,hj,hg,rfl,HO,HJ⟩:=hrel;obtain ⟨pv,nv,cv,rfl,M⟩:=HO.out.nums.lst;have aR:k_r N j=k_r N j:=rfl;have aj:=M.1;simp only [k_r,length_map,length_range] at aj;subst aj;clear aR;by_cases aI:j < H
  ·have aX:(j:Int) < (H:Int):=by omega
   obtain ⟨q,o,a3,b3,d3,rfl,ad,aD⟩:=HD.out j aI;have c0:=ad wr HJ.out.rn;obtain ⟨m1,m2,m3⟩:=HM.2 j aI;have aa:=HM.1 j (by omega);have av:(sts++(prS PP rest j).1).length=N+j:=by rw [length_append,aa.2,E.2.2.2.2.2.2.1]
   have cq:=n_m B L (sts++(prS PP rest j).1) (prS PP rest j).2 (by rw [av];omega) (shA PP j) m3 _ m2 m1 (by have:=E.2.2.2.2.2.2.2.2;omega) a3 b3 d3 A wr HJ.out aD;rw [av] at cq;clear m1 m2 m3 aD ad aa av M;go_wp2_with fail
   refine cq.mono ?_;rintro e w1 ⟨rfl,aB,aF⟩;have aE:Hid (OwnK .i64 3 w1 A.heap.size (.slice pv j cv) (k_r N j)):=HO.out.only aF.onl (by decide)
   have az:Hid (PlanO B A w1 L (sts++(prS PP rest (j+1)).1) (prS PP rest (j+1)).2):=by
    have:=aB;rw [append_assoc] at this;exact this
   have aS:Hid (A.heap.size<=w1.heap.size):=az.out.rn.size;have ar:Bw w1 (w1.alloc (.cells #[.int .i64 ((N+j:Nat):Int)] 3)):=a_a w1 _
   have A1:Hid ((w1.alloc (.cells #[.int .i64 ((N+j:Nat):Int)] 3)).ownsRow A.heap.size 3 1 (.slice pv j cv) j (a_N .i64 (k_r N j))):=by
    have:=aE.out.up ar;unfold OwnK at this;rw [show (k_r N j).length=j by simp [k_r]] at this;exact this
   have A2:Hid ((w1.alloc (.cells #[.int .i64 ((N+j:Nat):Int)] 3)).heap[w1.heap.size]?=some (.cells [Value.int .i64 ((N+j:Nat):Int)].toArray 3 (0,0))):=Array.getElem?_push_size;have A3:Hid (∀ y∈[Value.int .i64 ((N+j:Nat):Int)],y.oneCell'=true):=fun y hy=>by simp at hy;subst hy;rfl
   have A4:Hid (A.heap.size<=(w1.alloc (.cells #[.int .i64 ((N+j:Nat):Int)] 3)).heap.size):=Nat.le_trans aS.out ar.size;clear cq aB aF HO HJ c0 ar;go_wp2_with (at_builtin;refine a_6 s_K (by decide) (by decide) rfl (.tmp 22) (.tmp 26) rfl A.heap.size _ _ _ rfl A1.out _ [.int .i64 ((N+j:Nat):Int)] rfl A2.out rfl A3.out (by omega) A4.out ?_;intro v0 w0 H0 O0 B0)
   have HF:Hid (OwnK .i64 3 w0 A.heap.size v0 (k_r N (j+1))):=by
    show OwnK _ _ _ _ _ _;unfold OwnK;rw [n_o,show (k_r N j++[((N+j:Nat):Int)]).length=j+1 by simp [k_r]];have:=H0.out;unfold a_N at *;rw [map_append];exact this
   have aM:Hid (PlanO B A w0 L (sts++(prS PP rest (j+1)).1) (prS PP rest (j+1)).2):=(az.out.up (a_a w1 _)).int af.2.1 O0.out (B0.out _ (Below.refl _ _));clear A1 A2 A3 A4 H0 O0 B0 aE az;go_wp2;go_roundg (H - (j+1))
   case measure=>omega
   case rel=>exact ⟨j+1,by omega,rfl,by first|rfl|simp,HF,aM⟩
  ·obtain rfl:j=H:=by omega
   have hX:=HJ.out.rn.block aO.out (by decide);obtain ⟨⟨y0,_⟩,⟨y1,_⟩,⟨y2,_⟩⟩:=q_V hX;have ac:(sts++(prS PP rest j).1).length=N+j:=by rw [length_append,(HM.1 j (Nat.le_refl _)).2,E.2.2.2.2.2.2.1]
   have ax:(b_L (s,a,b) d).length=j:=by rw [E.2.2.2.1];exact E.2.2.2.2.1
   have O:=M.2;clear hX aC J;rcases aL with ⟨-,k,-⟩|⟨-,k,-⟩|⟨-,k,-⟩|⟨-,k,-⟩|⟨-,k,-⟩ <;> (try simp only [] at k) <;> rw [k] at t0 t1 t2 t3 <;> simp [b_L,k] at ax
   ·replace t0:=t0.trans (show decide ((0:Nat)=0)=true from rfl);subst ax;obtain ⟨q,o,rfl,c0⟩:=O 0 (by omega);obtain ⟨q',o',e',c1⟩:=O 1 (by omega);cases e';replace c0:wr.cell? ⟨q,o,none⟩=some (.int .i64 (N:Int)):=c0;replace c1:wr.cell? ⟨q,o+1,none⟩=some (.int .i64 ((N+1:Nat):Int)):=c1;have aU:=a_h c0;clear O M HO HD t1 t2 t3;go_wp2;refine rel [] 9 73 (by kernel_rfl) rfl rfl (by kernel_rfl) (by rfl) ?_ ?_
    ·intro e he;simp at he
    apply Exists.intro;refine ⟨fun x=>?_,?_,?_⟩
    ·simp only [take_succ_cons,take_zero]
     iterate 9
      apply c_w;rfl;rfl
      ·intro F hF hf K hK hFc hFf
       go_big_quiet_op
       exact hK
      (try simp only [a_v])
     refine b_A ?_;exact rfl
    ·exact fun x=>rfl
    ·intro w9 xs aG hf;simp only [drop_succ_cons,drop_zero];have aT:Hid (PlanO B A w9 L (sts++(prS PP rest 2).1) (prS PP rest 2).2):=HJ.out.up aG;clear hf aG c0 c1;go_wp2_with fail
     refine (n_n B L (N+2) _ _ ac (by omega) (N:Int) ((N+1:Nat):Int) last p n c A w9 aT.out).mono ?_;rintro e w2 ⟨rfl,au,aP⟩
     have HF:Hid (PlanO B w2 w2 L (sts++RS) RR/\Rn B w w2):=by
      refine ⟨?_,af.2.2.trans au.rn⟩;have h3:=au.on;rw [append_assoc] at h3;rw [<- E.2.1,<- E.2.2.1];unfold b_X g_X;rw [E.2.2.2.1,E.2.2.2.2.1,E.2.2.2.2.2.1];simp only [k,if_true];exact h3
     have eN:RN=l_s (decide (n=2)) (N+2):=by
      rw [<- E.1];unfold c_F;rw [E.2.2.2.2.2.1];simp only [k,if_true]
     rw [<- eN];clear au aP E;go_wp2;go_ret;exact ⟨by first|rfl|simp [eN],HF.out⟩
   all_goals
    simp only [nn5,decide_false,decide_true] at t0 t1 t2 t3;subst ax
   obtain ⟨q,o,rfl,c0⟩:=O 0 (by omega);replace c0:wr.cell? ⟨q,o,none⟩=some (.int .i64 (N:Int)):=c0;have aU:=a_h c0
   have eN:Hid (RN=N+1):=by
    show _=_;rw [<- E.1];unfold c_F;simp only [k,if_true,if_false,nn5]
    (try rfl)
   clear O M HO HD;go_wp2_with fail
   refine (c_D B L (N+1) _ _ ac (by omega) 12 last (N:Int) 1 A wr HJ.out).mono ?_;rotate_left
   have eN:Hid (RN=N+0):=by
    show _=_;rw [<- E.1];unfold c_F;simp only [k,if_true,if_false,nn5]
    (try rfl)
   clear O M HO HD;go_wp2_with fail
   refine (c_D B L (N+0) _ _ ac (by omega) 13 last 0 a A wr HJ.out).mono ?_;rotate_left
   have eN:Hid (RN=N+0):=by
    show _=_;rw [<- E.1];unfold c_F;simp only [k,if_true,if_false,nn5]
    (try rfl)
   clear O M HO HD;go_wp2_with fail
   refine (c_D B L (N+0) _ _ ac (by omega) 11 last 0 a A wr HJ.out).mono ?_;rotate_left
   have eN:Hid (RN=N+0):=by
    show _=_;rw [<- E.1];unfold c_F;simp only [k,if_true,if_false,nn5]
    (try rfl)
   clear O M HO HD;go_wp2_with fail
   refine (c_D B L (N+0) _ _ ac (by omega) 2 bf last 0 A wr HJ.out).mono ?_;rotate_left
   all_goals
    rintro e w2 ⟨rfl,H2⟩
    have HF:Hid (PlanO B w2 w2 L (sts++RS) RR/\Rn B w w2):=by
     refine ⟨?_,af.2.2.trans H2.1.rn⟩;have h3:=H2.1.on;rw [append_assoc] at h3;rw [<- E.2.1,<- E.2.2.1];unfold b_X g_X;rw [E.2.2.2.1,E.2.2.2.2.1];simp only [k,if_true,if_false,nn5];exact h3
    have eN:=eN.out;subst eN;clear H2 E;go_wp2;go_ret;exact ⟨by first|rfl|simp,HF.out⟩
/-- The plan of the first i layers: its steps, the parameters that are left, what went in, what comes out. -/
def plF (d:List Int) (ls:List Ly) (S:List (List Int)) (P X:List Int):Nat->List Sp×List Int×Int×Int
 | 0=>([⟨1,0,0,0,d,X,false⟩],P,0,0)
 | i+1=>((plF d ls S P X i).1++b_X (lyA ls i) (shA S i) (plF d ls S P X i).1.length (plF d ls S P X i).2.1 (plF d ls S P X i).2.2.1 (plF d ls S P X i).2.2.2,g_X (lyA ls i) (shA S i) (plF d ls S P X i).2.1,(plF d ls S P X i).2.2.2,(c_F (lyA ls i) (shA S i) (plF d ls S P X i).1.length:Int))
theorem j_p (PP:List (List Int)) (rest:List Int):∀ j,(prS PP rest j).1.length=j
 | 0=>rfl
 | j+1=>by simp [prS,j_p PP rest j]
theorem p_v (l:Ly) (d:List Int) (N:Nat) (rest:List Int) (bf last:Int):(b_X l d N rest bf last).length<=6:=by
 unfold b_X;rw [length_append,j_p];have:=f_B l d;have E:a_m l.1≠0->(b_L l d).length<=1:=fun h=>by unfold b_L;rw [if_neg h];split <;> simp
 by_cases A:a_m l.1=0
 ·rw [if_pos A];unfold l_r;split <;> simp <;> omega
 ·have:=E A;rw [if_neg A]
  split
  ·simp;omega
  ·split
   ·simp;omega
   ·split <;> simp <;> omega
theorem d_J (d:List Int) (ls:List Ly) (S:List (List Int)) (P X:List Int):∀ i,(plF d ls S P X i).1.length<=1+6*i
 | 0=>by simp [plF]
 | i+1=>by
  have:=d_J d ls S P X i;have A:=p_v (lyA ls i) (shA S i) (plF d ls S P X i).1.length (plF d ls S P X i).2.1 (plF d ls S P X i).2.2.1 (plF d ls S P X i).2.2.2;simp only [plF,length_append];omega
theorem k_s {l:Ly} {d:List Int} (J:a_L l) (I:InOk d):∀ i,i < (b_L l d).length->0<=a_o (shA (b_L l d) i):=fun i E=>by
 have hp:=I.prod;unfold b_L at E ⊢;rcases a_s J with ⟨-,k,A,H⟩|⟨-,k,A,H⟩|⟨-,k,A,H⟩|⟨-,k,A,H⟩|⟨-,k,A,H⟩ <;> rw [k] at E ⊢ <;> simp at E
 ·have:=a_S A hp;rcases (show i=0∨i=1 by omega) with rfl|rfl <;> simp [shA,b_n,b_m] <;> omega
 ·subst E;have L:0<=d.getD 0 0:=by rcases I with ⟨x,rfl,h⟩|⟨x,y,rfl,O,M⟩ <;> simp <;> omega
  simp only [if_neg (show ¬ (1:Nat)=0 by omega),if_true];show 0<=a_o [l.2.1,d.getD 0 0,l.2.2];rw [b_o];exact Int.mul_nonneg (Int.mul_nonneg (by omega) L) (by omega)
theorem q_g {l:Ly} {d:List Int} (E:a_L l) (A:InOk d):∀ k i,i+k=(b_L l d).length->e_u (b_L l d) i<=e_u (b_L l d) (b_L l d).length
 | 0,i,hi=>by rw [show i=(b_L l d).length by omega];exact Int.le_refl _
 | k+1,i,hi=>by
  have H:=q_g E A k (i+1) (by omega);have I:=k_s E A i (by omega);simp only [e_u] at H;omega
theorem p_w {l:Ly} {d:List Int} (E:a_L l) (A:InOk d) {rest:List Int} (h:psz l d<=(rest.length:Int)):((g_X l d rest).length:Int)=(rest.length:Int) - psz l d:=by
 unfold g_X;rw [<- f_A] at h ⊢;exact (j_o (PP:=b_L l d) (rest:=rest) _ (k_s E A) (fun i H=>Int.le_trans (q_g E A ((b_L l d).length - i) i (by omega)) h)).1
theorem j_q {d:List Int} {ls:List Ly} {S:List (List Int)} (H:NetOk d ls S):∀ i,i<=ls.length->b_Q ls S i<=b_Q ls S ls.length:=by
 have A:∀ k i,i+k=ls.length->b_Q ls S i<=b_Q ls S ls.length:=by
  intro k
  induction k with
  | zero=>intro i E;rw [show i=ls.length by omega];exact Int.le_refl _
  | succ k ih=>
   intro i E;have I:=ih (i+1) (by omega);have J:=e_d (H.inn i (by omega)) (H.lay i (by omega));simp only [b_Q] at I;omega
 exact fun i E=>A (ls.length - i) i (by omega)
theorem f_D {d:List Int} {ls:List Ly} {S:List (List Int)} {P X:List Int} (E:NetOk d ls S) (J:(P.length:Int)=b_Q ls S ls.length):∀ i,i<=ls.length->((plF d ls S P X i).2.1.length:Int)=(P.length:Int) - b_Q ls S i/\(i < ls.length->psz (lyA ls i) (shA S i)<=((plF d ls S P X i).2.1.length:Int))
 | 0,_=>by
  refine ⟨by simp [plF,b_Q],fun h=>?_⟩;have A:=j_q E 1 (by omega);simp only [b_Q] at A;simp only [plF];omega
 | i+1,hi=>by
  obtain ⟨L,I⟩:=f_D (X:=X) E J i (by omega);have H:=I (by omega);have M:=p_w (E.lay i (by omega)) (E.inn i (by omega)) H
  have e:((plF d ls S P X (i+1)).2.1.length:Int)=(P.length:Int) - b_Q ls S (i+1):=by
   simp only [plF,b_Q];omega
  refine ⟨e,fun h=>?_⟩;have A:=j_q E (i+1+1) (by omega);rw [e];simp only [b_Q] at A ⊢;omega
theorem l_t (B:Nat) (d:List Int) (ls:List Ly) (S:List (List Int)) (ok:NetOk d ls S) (az:ls.length<=16) (P X:List Int) (ao:(P.length:Int)=b_Q ls S ls.length) (aD:P.length<=1073741824) (p p2 ps pp px:Option Addr) (n c H c2 ns cs np cp nx cx:Nat) (w:World) (hB:B<=w.heap.size) (aF:Kept B w (.slice p n c) d) (ag:∀ W',Rn B w W'->LyR 0 W' p2 H ls) (aw:OwnS w 0 (.slice ps ns cs) S) (ad:S.length=ns) (hp:Kept B w (.slice pp np cp) P) (ap:np<=cp) (hx:Kept B w (.slice px nx cx) X):
  Calls Tryz.prog 25 #[.agg #[.slice p n c,.slice p2 H c2],.slice ps ns cs,.slice pp np cp,.slice px nx cx] w fun e w'=>∃ q m r xs,e = .returned (.slice q m r)/\(plF d ls S P X ls.length).1.length=m/\w'.ownsRow B 98 7 (.slice q m r) m xs/\StsC B w' (plF d ls S P X ls.length).1 xs/\Rn B w w':=by
 haveI:Nonempty World:=⟨w⟩
 obtain ⟨F,eF⟩:∃ F,plF d ls S P X=F:=⟨_,rfl⟩
 have L:=d_J d ls S P X;have I:=f_D (P:=P) (X:=X) ok ao;have h0:F 0=([⟨1,0,0,0,d,X,false⟩],P,0,0):=by rw [<- eF];rfl
 have hs:∀ i,F (i+1)=((F i).1++b_X (lyA ls i) (shA S i) (F i).1.length (F i).2.1 (F i).2.2.1 (F i).2.2.2,g_X (lyA ls i) (shA S i) (F i).2.1,(F i).2.2.2,(c_F (lyA ls i) (shA S i) (F i).1.length:Int)):=fun i=>by rw [<- eF];rfl
 rw [eF] at L I ⊢;have HF:Hid (F 0=([⟨1,0,0,0,d,X,false⟩],P,0,0)/\(∀ i,F (i+1)=((F i).1++b_X (lyA ls i) (shA S i) (F i).1.length (F i).2.1 (F i).2.2.1 (F i).2.2.2,g_X (lyA ls i) (shA S i) (F i).2.1,(F i).2.2.2,(c_F (lyA ls i) (shA S i) (F i).1.length:Int)))/\(∀ i,(F i).1.length<=1+6*i)/\(∀ i,i<=ls.length->((F i).2.1.length:Int)=(P.length:Int) - b_Q ls S i/\(i < ls.length->psz (lyA ls i) (shA S i)<=((F i).2.1.length:Int)))):=⟨h0,hs,L,I⟩
 have aL:P.length=np:=by
  obtain ⟨_,_,_,e,h⟩:=hp.nums.lst;cases e;exact h.1
 have af:ls.length=H:=(ag w (Rn.refl _ _)).1;have J:Hid (NetOk d ls S/\ls.length<=16/\Kept B w (.slice p n c) d/\(∀ W',Rn B w W'->LyR 0 W' p2 H ls)/\Kept B w (.slice pp np cp) P/\np<=cp/\Kept B w (.slice px nx cx) X/\P.length<=1073741824/\P.length=np/\ls.length=H):=⟨ok,az,aF,ag,hp,ap,hx,aD,aL,af⟩
 have aM:Hid (∀ j,j < ns->∃ q o a b d,ps=some ⟨q,o,none⟩/\(∀ W',Rn B w W'->W'.cell? ⟨q,o+j,none⟩=some (.slice a b d))/\Kept B w (.slice a b d) (shA S j)):=OwnS.dims aw ad;have aJ:ns=H+1:=by rw [<- ad,ok.len,af]
 subst aJ;have aR:H<=16:=by omega
 clear eF h0 hs L I aF ag aw ad hp ap hx aD ao ok az aL af;go_enter Tryz.func25,Tryz.ntmps25;go_wp2_with fail
 generalize R:alloc _ _=W0;have aT:W0.heap.size=w.heap.size+2:=by rw [<- R];simp
 have ay:Bw w W0:=by rw [<- R];go_grown
 have ah:Rn B w W0:=Rn.of hB ay
 have av:Hid (W0.heap[w.heap.size]?=some (.cells #[.slice p n c,.slice p2 H c2] 25 (0,0))/\W0.heap[w.heap.size+1]?=some (.cells #[.slice none 0 0,.slice pp np cp] 95 (0,0))):=by
  show _/\_;rw [<- R];refine ⟨((a_a _ _).block _ (by simp)).trans Array.getElem?_push_size,?_⟩;rw [show w.heap.size+1=(w.alloc (.cells #[.slice p n c,.slice p2 H c2] 25)).heap.size by simp];exact Array.getElem?_push_size
 have Z:Hid (PlanO B W0 W0 (w.heap.size+1) [] P/\Rn B w W0):=⟨⟨by omega,Rn.refl _ _,_,_,_,_,_,_,[],av.2,⟨rfl,.inl ⟨rfl,rfl⟩⟩,rfl,StsC.nil _ _,J.2.2.2.2.1.up ah,J.2.2.2.2.2.1,J.2.2.2.2.2.2.2.2.1⟩,ah⟩
 clear R ay ah;refine (h_x B (w.heap.size+1) [] P (by simp) ⟨1,0,0,0,d,X,false⟩ p n c px nx cx W0 W0 Z.1 (J.2.2.1.up Z.2) (J.2.2.2.2.2.2.1.up Z.2)).mono ?_;rintro e w1 ⟨rfl,au,ak⟩
 have aI:Hid (PlanO B w1 w1 (w.heap.size+1) (F 0).1 (F 0).2.1/\Rn B W0 w1):=by
  rw [HF.1];exact ⟨au.on,ak⟩
 have aO:Hid (w1.heap[w.heap.size]?=some (.cells #[.slice p n c,.slice p2 H c2] 25 (0,0))):=ak.block av.1 (by decide);obtain ⟨_,⟨g1,_⟩⟩:=b_4 aO.out;clear au ak;go_wp2_with fail
 go_loopg [10,11,27] H (fun gg u u2 v wr=>∃ (k:Nat),k<=H/\gg=H - k/\u = .int .i64 (F k).2.2.1/\u2 = .int .i64 (F k).2.2.2/\v = .int .i64 (k:Int)/\Hid (PlanO B wr wr (w.heap.size+1) (F k).1 (F k).2.1/\Rn B w wr))
 case atStart=>exact ⟨0,by omega,by omega,by rw [HF.1],by rw [HF.1],rfl,aI.1,Z.2.trans aI.2⟩
 case round=>
  obtain ⟨k,hk,hg,rfl,rfl,rfl,O⟩:=hrel;by_cases ar:k < H
  ·have aW:(k:Int) < (H:Int):=by omega
   have aV:(k:Int) < ((H+1:Nat):Int):=by omega
   have V:k < ls.length:=by rw [J.2.2.2.2.2.2.2.2.2];exact ar
   obtain ⟨q,o,rfl,y0,y1,y2⟩:=(J.2.2.2.1 wr O.2).2 k ar;obtain ⟨q3,o3,a3,b3,d3,rfl,ax,aB⟩:=aM.out k (by omega);have s3:=ax wr O.2;have M:=HF.2.1 k;have aE:=HF.2.2.1 k;have ab:=HF.2.2.2 k (by omega);obtain ⟨l,el⟩:∃ l,lyA ls k=l:=⟨_,rfl⟩
   have ai:=J.1.lay k V;have aa:=J.1.fit k V;have aq:=J.1.inn k V;rw [el] at y0 y1 y2 ai aa M ab;obtain ⟨s,a,b⟩:=l;simp only [] at y0 y1 y2 aa;obtain ⟨N,eN⟩:∃ N,(F k).1.length=N:=⟨_,rfl⟩
   obtain ⟨bf,aj⟩:∃ x,(F k).2.2.1=x:=⟨_,rfl⟩
   obtain ⟨la,am⟩:∃ x,(F k).2.2.2=x:=⟨_,rfl⟩
   rw [eN,aj,am] at M;rw [eN] at aE;rw [aj,am]
   have cL:Hid (∀ W,Bw wr W->Calls Tryz.prog 40 #[.pointer (some ⟨w.heap.size+1,0,none⟩),.agg #[.string s,.int .i64 a,.int .i64 b],.slice a3 b3 d3,.int .i64 bf,.int .i64 la] W fun e w'=>e = .returned (.int .i64 (F (k+1)).2.2.2)/\PlanO B w' w' (w.heap.size+1) (F (k+1)).1 (F (k+1)).2.1/\Rn B W w'):=fun W hW=>by
    have hR:Rn B w W:=O.2.trans (Rn.of O.1.size hW);have:=n_p B (w.heap.size+1) N (F k).1 (F k).2.1 eN (by omega) s a b ai (shA S k) aq aa (ab.2 V) (by have h7:=ab.1;have h8:=e_z (ls:=ls) (S:=S) (i:=k) (fun j hj=>J.1.inn j (by omega)) (fun j hj=>J.1.lay j (by omega));have h9:=J.2.2.2.2.2.2.2.1;omega) a3 b3 d3 bf la W (O.1.up hW).on (aB.up hR);rw [M];exact this
   have aQ:Hid ((F (k+1)).2.2.1=la):=by show _=_;rw [M]
   have aX:=a_h y0;have aU:=a_h s3;clear M aE ab ai aa aq ax aB el eN aj am;go_wp2;generalize an:alloc _ _=W2;have al:Hid (Bw wr W2):=by rw [<- an];exact a_a wr _
   obtain ⟨e0,e1,e2⟩:W2.cell? ⟨wr.heap.size,0,none⟩=some (.string s)/\W2.cell? ⟨wr.heap.size,1,none⟩=some (.int .i64 a)/\W2.cell? ⟨wr.heap.size,2,none⟩=some (.int .i64 b):=by rw [<- an];simp [go_sem]
   replace s3:=a_g al s3;have aY:=a_h e0;have aP:=a_h s3;clear an y0 y1 y2;refine q_G [] 9 47 (by kernel_rfl) rfl rfl 0 _ rfl (by decide) rfl (by kernel_rfl) (by kernel_rfl) (fun _ _ _ _ h=>h) (by rfl) ?_ ?_
   ·intro e he;simp at he
   apply Exists.intro;refine ⟨?yl1,?wk1,?pk1,?rest1⟩
   case wk1=>
    intro x;simp only [take_succ_cons,take_zero]
    iterate 9
     apply c_w;rfl;rfl
     ·intro F hF hf K hK hFc hFf
      go_big_quiet_op
      exact hK
     (try simp only [a_v])
    refine b_A ?_;exact rfl
   case pk1=>
    intro x;simp only [b_q,foldl_cons,foldl_nil,a_v]
   case yl1=>
    intro x hx;have e9:True:=trivial;refine ⟨.int .i64 la,fun t ht=>?_,.inl ⟨by rfl,fun w=>?_⟩⟩
    ·cases ht;rfl
    ·simp [execOp,Act.eval,e9,go_sem]
   intro w9 xs aH hf;simp only [drop_succ_cons,drop_zero];have ae:Hid (Bw wr w9):=a_c al aH;clear hf aH e0 e1 e2 s3 aP;go_wp2_with fail
   refine (cL.out w9 ae).mono ?_;rintro e w2 ⟨rfl,aG,aA⟩;have aN:Hid (PlanO B w2 w2 (w.heap.size+1) (F (k+1)).1 (F (k+1)).2.1/\Rn B w w2):=⟨aG,(O.2.trans (Rn.of O.1.size ae)).trans aA⟩
   clear aG aA cL O ae al;go_wp2;go_roundg (H - (k+1))
   case measure=>omega
   case rel=>exact ⟨k+1,by omega,rfl,by rw [aQ.out],rfl,by first|rfl|simp,aN⟩
  ·obtain rfl:k=H:=by omega
   have aC:=J.2.2.2.2.2.2.2.2.2;obtain ⟨hb,hr,q,m,r,pR,nR,cR,xs,h1,h3,h4,h5,_⟩:=O.1;obtain ⟨⟨x0,_⟩,_⟩:=b_4 h1
   have HE:Hid ((F ls.length).1.length=m/\wr.ownsRow B 98 7 (.slice q m r) m xs/\StsC B wr (F ls.length).1 xs/\Rn B w wr):=by
    rw [aC];exact ⟨h4,by rw [h4] at h3;exact h3,h5,O.2⟩
   clear hb hr h1 h3 h4 h5 aC;go_wp2;go_ret;exact ⟨_,_,_,_,rfl,HE.out⟩
end Go.Proofs.YtkfpainpomobfaaGreatDoor.Wd
namespace Go.Proofs.YtkfpainpomobfaaGreatDoor.Wd
open Go.RowKit Fx List World Nat
def spA (sts:List Sp) (i:Nat):Sp:=sts.getD i ⟨1,0,0,0,[],[],false⟩
/-- The first i steps: an error, the nodes, the last node, the parameters' nodes. -/
def pyF (f:Int) (sts:List Sp) (ns:List Nd):Nat->Int×List Nd×Int×List Int
 | 0=>(0,ns,0,[])
 | i+1=>if (pyF f sts ns i).1=0 then (stE f (pyF f sts ns i).2.1 (spA sts i),stN f (pyF f sts ns i).2.1 (spA sts i),stR f (pyF f sts ns i).2.1 (spA sts i),if (spA sts i).par=true then (pyF f sts ns i).2.2.2++[stR f (pyF f sts ns i).2.1 (spA sts i)] else (pyF f sts ns i).2.2.2) else pyF f sts ns i
theorem j_r {P:Program} {t e:TypeId} {s b:Nat} (T:GT P t e s b) (hb:b<=256) (V:0 < s) {ops:Array Oper} {rest:List Oper} {o:Oper} {a:Act} {Q:Exit->Act->World->Prop} {w:World} (M:o.guard=none) (O x:Operand)
  (ho:o.op = .call { callee:=.builtin .append,args:=#[O,x],argTypes:=#[t,t] }) (B:Nat) (v:Value) (n:Nat) (Z:List Value) (hs:a.eval O=v) (H:w.ownsRow B e s v n Z) (g:Nat) (u:List Value) (hx:a.eval x = .slice (some ⟨g,0,none⟩) 1 1)
  (hg:w.heap[g]?=some (.cells u.toArray e (0,0))) (hu:u.length=s) (h1:∀ y∈u,y.oneCell'=true) (hn:n+1<=1073741825) (hB:B<=w.heap.size)
  (h:∀ E L,Hid (L.ownsRow B e s E (n+1) (Z++u))->Hid (w.grownBy L v.ownBlock)->Hid (E.ownBlock=v.ownBlock∨E.ownBlock=some w.heap.size)->wpList P ops Q rest (a.put o.dst E) L):wpList P ops Q (o :: rest) a w:=by
 have I:=T.hi;cases R:P.info? e with
 | none=>rw [R] at I;cases I
 | some i=>
  rw [R] at I;simp only [Option.map_some,Option.some.injEq,Prod.mk.injEq] at I;obtain ⟨J,ab,aa⟩:=I;cases A:i.zero with
  | none=>rw [A] at J;cases J
  | some z=>
   rw [A] at J;simp only [Option.map_some,Option.some.injEq] at J;have hm:=Nat.mul_le_mul hn hb
   exact wpList_append_own_at w M O x t ho B e i z s b T.ht R A ab aa J V v n Z hs H ⟨g,0,none⟩ 1 1 u hx (by omega) (fun j y hj=>by
    rw [a_r,Nat.zero_add];unfold cell?;simpa [hg] using hj) h1 (by unfold maxLen;omega) (by omega) hB (fun E L h2 h3 _ h5=>h E L h2 h3 h5)
theorem u_W {B n c:Nat} {W W':World} {p:Option Addr} {sts:List Sp} {H:List Value} {Bs m:Nat} (ho:W'.ownsRow Bs 98 7 (.slice p m c) m H) (A:StsC B W sts H) (hm:sts.length=m) (i:Nat) (hi:i < m):
  ∃ q M J O R L I,p=some ⟨q,0,none⟩/\W'.cell? ⟨q,i*7,none⟩=some (.int .i64 (spA sts i).op)/\W'.cell? ⟨q,i*7+1,none⟩=some (.int .i64 (spA sts i).a)/\W'.cell? ⟨q,i*7+2,none⟩=some (.int .i64 (spA sts i).b)/\W'.cell? ⟨q,i*7+3,none⟩=some (.int .i64 (spA sts i).k)/\W'.cell? ⟨q,i*7+4,none⟩=some (.slice M J O)/\W'.cell? ⟨q,i*7+5,none⟩=some (.slice R L I)/\W'.cell? ⟨q,i*7+6,none⟩=some (.bool (spA sts i).par)/\Kept B W (.slice M J O) (spA sts i).D/\Kept B W (.slice R L I) (spA sts i).X:=by
 have V:sts[i]?=some (spA sts i):=by
  unfold spA;rw [getD_eq_getElem?_getD,getElem?_eq_getElem (by omega)];rfl
 obtain ⟨M,J,O,R,L,I,e,Z,h2⟩:=A.2 i _ V
 have E:∀ j u,((H.drop (i*7)).take 7)[j]?=some u->H[i*7+j]?=some u:=fun j u h=>by
  rw [getElem?_take] at h
  split at h
  ·rw [getElem?_drop] at h;exact h
  ·cases h
 rw [e] at E;rcases ho.2 with ⟨h0,Z⟩|⟨g,aa,ab,hv,hb,hg,rest⟩
 ·omega
 ·cases hv
  have A:∀ j u,H[j]?=some u->W'.cell? ⟨g,j,none⟩=some u:=fun j u h=>by
   have:=ho.cells (g:=g) rfl j u h;rw [a_r,Nat.zero_add] at this;exact this
  exact ⟨g,M,J,O,R,L,I,rfl,A _ _ (E 0 _ rfl),A _ _ (E 1 _ rfl),A _ _ (E 2 _ rfl),A _ _ (E 3 _ rfl),A _ _ (E 4 _ rfl),A _ _ (E 5 _ rfl),A _ _ (E 6 _ rfl),Z,h2⟩
theorem k_t (f:Int) (sts:List Sp) (ns:List Nd) (i:Nat) (h:(pyF f sts ns i).1≠0):∀ k,pyF f sts ns (i+k)=pyF f sts ns i
 | 0=>rfl
 | k+1=>by
  have e:=k_t f sts ns i h k;show (if (pyF f sts ns (i+k)).1=0 then _ else pyF f sts ns (i+k))=_;rw [e,if_neg h]
theorem n_q (f:Int) (sts:List Sp) (ns:List Nd):∀ i,(pyF f sts ns i).2.2.2.length<=i
 | 0=>by simp [pyF]
 | i+1=>by
  have:=n_q f sts ns i;unfold pyF
  split
  ·dsimp only
   split
   ·rw [length_append];simp;omega
   ·omega
  ·omega
theorem NodesG.st {f:Int} {ns:List Nd} {st:Sp} (h:NodesG ns) (A:RI st.X):NodesG (stN f ns st):=by
 unfold stN
 split
 ·exact h.leaf A
 ·exact h.do
/-- The parameters' row, and that no node lies there. -/
structure PrO (w:World) (B tb:Nat) (ps:List Int) (v:Value) (W:World):Prop where
 own:OwnK .i64 3 W w.heap.size v ps
 off:∀ x,v.ownBlock=some x->AvT x W tb
theorem PrO.nil (w:World) (B A:Nat) (W:World):PrO w B A [] (.slice none 0 0) W:=⟨OwnK.nil _ _ _ _,fun x h=>by cases h⟩
theorem PrO.lt {w:World} {B E:Nat} {ps:List Int} {v:Value} {W:World} (h:PrO w B E ps v W):∀ x,v.ownBlock=some x->w.heap.size<=x/\x < W.heap.size:=fun x A=>ownsRow.lt h.own x A
theorem PrO.tape {w:World} {B A:Nat} {ps:List Int} {v:Value} {W W':World} (h:PrO w B A ps v W) (I:Only SC W W') (H:Spar2 A W W'):PrO w B A ps v W':=⟨h.own.only I (by decide),fun x E=>H.2 x (h.lt x E).2 (h.off x E)⟩
theorem PrO.up {w:World} {B A:Nat} {ps:List Int} {v:Value} {W W':World} (h:PrO w B A ps v W) (E:Bw W W'):PrO w B A ps v W':=⟨h.own.up E,fun x H=>(h.off x H).up E⟩
theorem l_u {a b:World} (h:a.grownBy b none):Bw a b:=⟨h.os,h.tape,h.output,h.size,fun k A=>h.block k A (fun e=>by cases e)⟩
theorem PrO.grow {w:World} {B Z:Nat} {ps:List Int} {ns:List Nd} {v V:Value} {x:Int} {W W':World} (h:PrO w B Z ps v W) (O:TapC W B Z ns) (ho:W'.ownsRow w.heap.size 3 1 V (ps.length+1) (a_N .i64 ps++[.int .i64 x])) (I:W.grownBy W' v.ownBlock) (H:V.ownBlock=v.ownBlock∨V.ownBlock=some W.heap.size):PrO w B Z (ps++[x]) V W'/\TapC W' B Z ns/\(∀ A,Below B A W->Only SC A W->A.heap.size<=w.heap.size->B<=w.heap.size->Below B A W'/\Only SC A W'):=by
 have J:OwnK .i64 3 W' w.heap.size V (ps++[x]):=by
  unfold OwnK;rw [length_append];unfold a_N at *;rw [map_append];exact ho
 have L:∀ A,Below B A W->Only SC A W->A.heap.size<=w.heap.size->B<=w.heap.size->Below B A W'/\Only SC A W':=fun A ab R hz aa=>by
  refine ⟨Below.grown ab I ?_ fun k hk=>Nat.le_trans aa (h.lt k hk).1,Nat.le_trans R.1 I.size,fun k hk hp=>?_⟩
  ·obtain ⟨hb,_,_,hv,_⟩:=O;exact Nat.le_trans hb (Nat.le_of_lt (a_k hv))
  ·rw [I.block k (Nat.lt_of_lt_of_le hk R.1) (fun e=>by have:=(h.lt k e.symm).1;omega)];exact R.2 k hk hp
 cases hb:v.ownBlock with
 | none=>
  rw [hb] at I H;have hB:=l_u I;refine ⟨⟨J,fun y E=>?_⟩,O.up hB,L⟩;rcases H with M|M
  ·rw [M] at E;cases E
  ·rw [M] at E;cases E;exact (O.av (Nat.le_refl _)).up hB
 | some r=>
  rw [hb] at I H
  obtain ⟨cs,fz,hr⟩:∃ cs fz,W.heap[r]?=some (.cells cs 3 fz):=by
   rcases h.own.2 with ⟨rfl,_⟩|⟨g,ac,ad,rfl,_,hc,_⟩
   ·cases hb
   ·cases hb;exact ⟨_,_,hc⟩
  refine ⟨⟨J,fun y E=>?_⟩,O.beside I hr (h.off r hb),L⟩;rcases H with M|M
  ·rw [M] at E;cases E;exact (h.off r hb).beside O I hr
  ·rw [M] at E;cases E;exact (O.av (Nat.le_refl _)).beside O I hr
theorem p_x (B I:Nat) (ns:List Nd) (hG:NodesG ns) (sts:List Sp) (O:∀ i,i < sts.length->SpOk (spA sts i)/\((spA sts i).op≠1->RkC (spA sts i).op)) (ao:sts.length<=200) (aB:ns.length<=512) (q:Option Addr) (m r Bs:Nat) (xs:List Value) (hm:sts.length=m) (w:World) (hT:TapC w B I ns) (aE:Hid (∀ W,Below B w W->Tz W)) (ho:w.ownsRow Bs 98 7 (.slice q m r) m xs) (hc:StsC B w sts xs):
  Calls Tryz.prog 26 #[.pointer (some ⟨I,0,none⟩),.slice q m r] w fun e w'=>∃ v,e = .returned (.tuple #[.int .i64 (if (pyF ns.length sts ns m).1=0 then (pyF ns.length sts ns m).2.2.1 else 0),v,.int .i64 (pyF ns.length sts ns m).1])/\OwnK .i64 3 w' w.heap.size v (if (pyF ns.length sts ns m).1=0 then (pyF ns.length sts ns m).2.2.2 else [])/\TapC w' B I (pyF ns.length sts ns m).2.1/\Below B w w'/\Only SC w w':=by
 haveI:Nonempty World:=⟨w⟩
 have am:=h_y B I ns w hT
 have ay:B<=w.heap.size:=by
  obtain ⟨hb,_,_,hv,_⟩:=hT;exact Nat.le_trans hb (Nat.le_of_lt (a_k hv))
 obtain ⟨f,ef⟩:∃ f:Int,(ns.length:Int)=f:=⟨_,rfl⟩
 have hf:0<=f/\f<=1000:=by omega
 rw [ef] at am ⊢;have Z:=k_t f sts ns;have ab:=n_q f sts ns;obtain ⟨F,eF⟩:∃ F,pyF f sts ns=F:=⟨_,rfl⟩
 have h0:F 0=(0,ns,0,[]):=by rw [<- eF];rfl
 have hs:∀ i,(F i).1=0->F (i+1)=(stE f (F i).2.1 (spA sts i),stN f (F i).2.1 (spA sts i),stR f (F i).2.1 (spA sts i),if (spA sts i).par=true then (F i).2.2.2++[stR f (F i).2.1 (spA sts i)] else (F i).2.2.2):=fun i h=>by
  rw [<- eF] at h ⊢
  conv=>lhs;unfold pyF
  rw [if_pos h]
 rw [eF] at Z ab ⊢;have HF:Hid (F 0=(0,ns,0,[])/\(∀ i,(F i).1=0->F (i+1)=(stE f (F i).2.1 (spA sts i),stN f (F i).2.1 (spA sts i),stR f (F i).2.1 (spA sts i),if (spA sts i).par=true then (F i).2.2.2++[stR f (F i).2.1 (spA sts i)] else (F i).2.2.2))/\(∀ i,(F i).1≠0->∀ k,F (i+k)=F i)/\(∀ i,(F i).2.2.2.length<=i)):=⟨h0,hs,Z,ab⟩
 have HK:Hid (B<=w.heap.size/\w.ownsRow Bs 98 7 (.slice q m r) m xs/\StsC B w sts xs/\sts.length=m/\(∀ i,i < m->SpOk (spA sts i)/\((spA sts i).op≠1->RkC (spA sts i).op))):=⟨ay,ho,hc,hm,by rw [<- hm];exact O⟩
 have HT:Hid (TapC w B I ns/\NodesG ns):=⟨hT,hG⟩
 have aH:m<=200:=by omega
 obtain ⟨LR,ai⟩:∃ z,(if (F m).1=0 then (F m).2.2.1 else 0)=z:=⟨_,rfl⟩
 obtain ⟨PR,an⟩:∃ z,(if (F m).1=0 then (F m).2.2.2 else [])=z:=⟨_,rfl⟩
 rw [ai,an];have ax:Hid ((if (F m).1=0 then (F m).2.2.1 else 0)=LR/\(if (F m).1=0 then (F m).2.2.2 else [])=PR):=⟨ai,an⟩
 clear ai an h0 hs Z ab eF ho hc hm O hT hG ao aB ay ef;go_enter Tryz.func26,Tryz.ntmps26;go_wp2_with fail
 refine am.mono ?_;rintro e H ⟨rfl,rfl⟩;clear am;go_wp2_with fail
 go_loopg [8,9,18] m (fun gg u v i wr=>∃ (k:Nat),k<=m/\gg=m - k/\u = .int .i64 (F k).2.2.1/\i = .int .i64 (k:Int)/\Hid ((F k).1=0/\TapC wr B I (F k).2.1/\NodesG (F k).2.1/\PrO H B I (F k).2.2.2 v wr/\Below B H wr/\Only SC H wr))
 case atStart=>
  refine ⟨0,by omega,by omega,by rw [HF.1],rfl,?_⟩;show _/\_;rw [HF.1];exact ⟨rfl,HT.1,HT.2,PrO.nil _ _ _ _,Below.refl _ _,Only.refl _ _⟩
 case round=>
  obtain ⟨k,hk,hg,rfl,rfl,J⟩:=hrel;by_cases az:k < m
  ·have aI:(k:Int) < (m:Int):=by omega
   obtain ⟨O,ah⟩:=HK.2.2.2.2 k az;have M:=HF.2.1 k J.1;obtain ⟨g,s1,n1,c1,s2,n2,c2,rfl,y0,y1,y2,y3,y4,y5,y6,k1,k2⟩:=u_W (n:=0) (a_z HK.2.1 J.2.2.2.2.2 (by decide)) HK.2.2.1 HK.2.2.2.1 k az;obtain ⟨st,aA⟩:∃ st,spA sts k=st:=⟨_,rfl⟩
   rw [aA] at y0 y1 y2 y3 y6 k1 k2 M O ah;have ak:R4 B H wr:=⟨J.2.2.2.2.1,J.2.2.2.2.2.more (by simp)⟩
   have cL:Hid (∀ W,Bw wr W->Calls Tryz.prog 41 #[.pointer (some ⟨I,0,none⟩),.agg #[.int .i64 st.op,.int .i64 st.a,.int .i64 st.b,.int .i64 st.k,.slice s1 n1 c1,.slice s2 n2 c2,.bool st.par],.int .i64 f] W fun e w'=>e = .returned (.tuple #[.int .i64 (stR f (F k).2.1 st),.int .i64 (stE f (F k).2.1 st)])/\TapC w' B I (stN f (F k).2.1 st)/\Below B W w'/\Only SC W w'/\Spar2 I W w'):=fun W hW=>by
    have hR:=ak.trans (R4.of (Nat.le_trans HK.1 ak.size) hW);exact r_q B I (F k).2.1 J.2.2.1 st O ah f hf s1 n1 c1 s2 n2 c2 W (J.2.1.up hW) (aE.out W hR.bel) (k1 W hR) (k2 W hR)
   have al:Hid (NodesG (stN f (F k).2.1 st)):=J.2.2.1.st O.rX;obtain ⟨E,eE⟩:∃ E,stE f (F k).2.1 st=E:=⟨_,rfl⟩
   obtain ⟨R,eR⟩:∃ E,stR f (F k).2.1 st=E:=⟨_,rfl⟩
   obtain ⟨NS,eN⟩:∃ E,stN f (F k).2.1 st=E:=⟨_,rfl⟩
   rw [eE,eR,eN] at cL M;rw [eN] at al;have L:Hid _:=M;obtain ⟨op,a,b,kk,D,X,V⟩:=st;simp only [] at y0 y1 y2 y3 y6 cL;have aD:=a_h y0;clear O ah M k1 k2 aA ak eE eR eN hf;go_wp2_with fail
   generalize af:alloc _ _=W2;have ae:Hid (Bw wr W2):=by rw [<- af];exact a_a wr _
   have e6:W2.cell? ⟨wr.heap.size,6,none⟩=some (.bool V):=by rw [<- af];simp [go_sem]
   have au:Hid (∃ cs,W2.heap[wr.heap.size]?=some (.cells cs 98 (0,0))/\cs[6]?=some (.bool V)):=⟨_,by rw [<- af];exact Array.getElem?_push_size,rfl⟩
   clear af y0 y1 y2 y3 y4 y5 y6 aD;refine (cL.out W2 ae).mono ?_;rintro e w3 ⟨rfl,av,ap,ac,aq⟩
   have aG:w3.cell? ⟨wr.heap.size,6,none⟩=some (.bool V):=by
    obtain ⟨cs,h1,h2⟩:=au.out;have:=ac.keep h1 (by decide);unfold cell?;simp [this,h2]
   have A:Hid (TapC w3 B I NS/\PrO H B I (F k).2.2.2 u9 w3/\Below B H w3/\Only SC H w3):=⟨av,(J.2.2.2.1.up ae).tape ac aq,J.2.2.2.2.1.trans ((ae.mono (Nat.le_trans HK.1 J.2.2.2.2.2.1)).trans ap),J.2.2.2.2.2.trans ((Only.of ae).trans ac)⟩
   clear av ap ac aq e6 au cL;by_cases hE:E=0
   case neg=>
    have aJ:(E != 0)=true:=by simpa using hE
    have HE:Hid (F m=(E,NS,R,if V=true then (F k).2.2.2++[R] else (F k).2.2.2)):=by
     have h4:=HF.2.2.1 (k+1) (by rw [L.out];exact hE) (m - (k+1));rw [show k+1+(m - (k+1))=m by omega] at h4;show _=_;rw [h4,L.out]
    have ag:Hid (∃ v,Ending.returned (.tuple #[.int .i64 0,.slice none 0 0,.int .i64 E]) = .returned (.tuple #[.int .i64 LR,v,.int .i64 (F m).1])/\OwnK .i64 3 w3 H.heap.size v PR/\TapC w3 B I (F m).2.1/\Below B H w3/\Only SC H w3):=by
     show ∃ _,_;have e1:(F m).1=E:=by rw [HE.out]
     have e2:=ax.out;rw [if_neg (by rw [e1];exact hE),if_neg (by rw [e1];exact hE)] at e2;rw [<- e2.1,<- e2.2,e1];refine ⟨_,rfl,OwnK.nil _ _ _ _,?_,A.2.2⟩;rw [HE.out];exact A.1
    clear HE A L J;go_wp2;exact bodyPost_ret (v:=.tuple #[.int .i64 0,.slice none 0 0,.int .i64 E]) (by simp [results,Tryz.results26,go_sem]) rfl ag.out
   subst hE;cases V with
   | false=>
    have HN:Hid ((F (k+1)).1=0/\TapC w3 B I (F (k+1)).2.1/\NodesG (F (k+1)).2.1/\PrO H B I (F (k+1)).2.2.2 u9 w3/\Below B H w3/\Only SC H w3):=by
     show _/\_;rw [L.out];exact ⟨rfl,A.1,al.out,A.2.1,A.2.2⟩
    have HL:Hid ((F (k+1)).2.2.1=R):=by show _=_;rw [L.out]
    clear A J L;go_wp2;go_roundg (m - (k+1))
    case measure=>omega
    case rel=>exact ⟨k+1,by omega,rfl,by rw [HL.out],by first|rfl|simp,HN⟩
   | true=>
    obtain ⟨pv,nv,cv,rfl,ar⟩:=A.2.1.own.nums.lst;have aj:=ar.1;have aF:=HF.2.2.2 k;have aC:Hid _:=aj;clear ar;have aa:Bw w3 (w3.alloc (.cells #[.int .i64 R] 3)):=a_a w3 _;have ad:Hid (PrO H B I (F k).2.2.2 (.slice pv nv cv) (w3.alloc (.cells #[.int .i64 R] 3))/\TapC (w3.alloc (.cells #[.int .i64 R] 3)) B I NS):=⟨A.2.1.up aa,A.1.up aa⟩
    have A1:Hid ((w3.alloc (.cells #[.int .i64 R] 3)).ownsRow H.heap.size 3 1 (.slice pv nv cv) nv (a_N .i64 (F k).2.2.2)):=by
     have:=ad.1.own;unfold OwnK at this;rw [aj] at this;exact this
    have A2:Hid ((w3.alloc (.cells #[.int .i64 R] 3)).heap[w3.heap.size]?=some (.cells [Value.int .i64 R].toArray 3 (0,0))):=Array.getElem?_push_size;have A3:Hid (∀ y∈[Value.int .i64 R],y.oneCell'=true):=fun y hy=>by simp at hy;subst hy;rfl
    have A4:Hid _:=Nat.le_trans A.2.2.2.1 aa.size;have A5:Hid (Below B H (w3.alloc (.cells #[.int .i64 R] 3))/\Only SC H (w3.alloc (.cells #[.int .i64 R] 3))):=⟨A.2.2.1.trans (aa.mono (Nat.le_trans HK.1 A.2.2.2.1)),A.2.2.2.trans (Only.of aa)⟩
    have aw:nv+1<=1073741825:=by omega
    clear aa A aj;go_wp2_with (at_builtin;refine j_r s_K (by decide) (by decide) rfl (.tmp 34) (.tmp 36) rfl H.heap.size _ _ _ rfl A1.out _ [.int .i64 R] rfl A2.out rfl A3.out aw A4.out ?_;intro v0 w0 H0 O0 B0)
    have HN:Hid ((F (k+1)).1=0/\TapC w0 B I (F (k+1)).2.1/\NodesG (F (k+1)).2.1/\PrO H B I (F (k+1)).2.2.2 v0 w0/\Below B H w0/\Only SC H w0):=by
     show _/\_;rw [L.out];obtain ⟨g1,g2,g3⟩:=ad.1.grow (x:=R) ad.2 (by rw [aC.out];exact H0.out) O0.out B0.out;exact ⟨rfl,g2,al.out,g1,g3 H A5.1 A5.2 (Nat.le_refl _) HK.1⟩
    have HL:Hid ((F (k+1)).2.2.1=R):=by show _=_;rw [L.out]
    clear A1 A2 A3 A4 A5 H0 O0 B0 ad L J;go_wp2;go_roundg (m - (k+1))
    case measure=>omega
    case rel=>exact ⟨k+1,by omega,rfl,by rw [HL.out],by first|rfl|simp,HN⟩
  ·obtain rfl:k=m:=by omega
   have ag:Hid (∃ v,Ending.returned (.tuple #[.int .i64 (F k).2.2.1,u9,.int .i64 0]) = .returned (.tuple #[.int .i64 LR,v,.int .i64 (F k).1])/\OwnK .i64 3 wr H.heap.size v PR/\TapC wr B I (F k).2.1/\Below B H wr/\Only SC H wr):=by
    show ∃ _,_;have e2:=ax.out;rw [if_pos J.1,if_pos J.1] at e2;rw [<- e2.1,<- e2.2,J.1];exact ⟨_,rfl,J.2.2.2.1.own,J.2.1,J.2.2.2.2⟩
   go_wp2;exact bodyPost_ret (v:=.tuple #[.int .i64 (F k).2.2.1,u9,.int .i64 0]) (by simp [results,Tryz.results26,go_sem]) rfl ag.out
theorem j_s {sts:List Sp} {i:Nat} (h:i < sts.length):spA sts i∈sts:=by
 unfold spA;rw [getD_eq_getElem?_getD,getElem?_eq_getElem h];exact getElem_mem h
theorem RI.nil:RI []:=fun y h=>by simp at h
theorem RI.takes {l:List Int} (h:RI l) (n:Nat):RI (l.take n):=fun y A=>h y (mem_of_mem_take A)
theorem RI.drops {l:List Int} (h:RI l) (n:Nat):RI (l.drop n):=fun y A=>h y (mem_of_mem_drop A)
theorem n_r {op a b k:Int} (A:1<=op/\op<=14) (H:0<=a/\a<=1000) (hb:0<=b/\b<=1000) (E:0<=k/\k<=1000):SpOk (spD op a b k):=⟨H,hb,E,A,RI.nil,RI.nil⟩
theorem q_h {D X:List Int} {q:Bool} (A:RI D) (E:RI X):SpOk ⟨1,0,0,0,D,X,q⟩:=⟨show (0:Int)<=0/\(0:Int)<=1000 by omega,show (0:Int)<=0/\(0:Int)<=1000 by omega,show (0:Int)<=0/\(0:Int)<=1000 by omega,show (1:Int)<=1/\(1:Int)<=14 by omega,A,E⟩
theorem s_L {l:Ly} {d:List Int} (J:a_L l) (I:InOk d):∀ j,RI (shA (b_L l d) j):=fun j=>by
 have hp:=I.prod;have L:0<=d.getD 0 0/\d.getD 0 0<=1024:=by rcases I with ⟨x,rfl,h⟩|⟨x,y,rfl,M,A⟩ <;> simp <;> omega
 unfold b_L;rcases a_s J with ⟨-,k,E,H⟩|⟨-,k,E,H⟩|⟨-,k,E,H⟩|⟨-,k,E,H⟩|⟨-,k,E,H⟩ <;> rw [k]
 ·match j with
  | 0=>intro y A;simp [shA] at A;omega
  | 1=>intro y A;simp [shA] at A;omega
  | j+2=>intro y A;simp [shA] at A
 ·match j with
  | 0=>intro y A;simp [shA] at A;simp at L;omega
  | j+1=>intro y A;simp [shA] at A
 all_goals intro y A;simp [shA] at A
theorem q_i {PP:List (List Int)} {rest:List Int} (H:∀ j,RI (shA PP j)) (A:RI rest):∀ j,(∀ st,st∈(prS PP rest j).1->SpOk st)/\RI (prS PP rest j).2
 | 0=>⟨fun st h=>by simp [prS] at h,A⟩
 | j+1=>by
  obtain ⟨I,E⟩:=q_i H A j;refine ⟨fun st h=>?_,E.drops _⟩;simp only [prS,mem_append,mem_cons,not_mem_nil,or_false] at h;rcases h with h|rfl
  ·exact I st h
  ·exact q_h (H j) (E.takes _)
theorem r_r {l:Ly} {d:List Int} (H:a_L l) (I:InOk d) {N:Nat} (R:N<=200) {rest:List Int} (L:RI rest) {bf last:Int} (hb:0<=bf/\bf<=300) (O:0<=last/\last<=300):(∀ st,st∈b_X l d N rest bf last->SpOk st)/\RI (g_X l d rest)/\c_F l d N<=N+5:=by
 obtain ⟨J,M⟩:=q_i (s_L H I) L (b_L l d).length;refine ⟨fun st h=>?_,M,?_⟩
 ·unfold b_X at h;rw [mem_append] at h;rcases h with h|h
  ·exact J st h
  ·rcases a_s H with ⟨-,k,A,E⟩|⟨-,k,A,E⟩|⟨-,k,A,E⟩|⟨-,k,A,E⟩|⟨-,k,A,E⟩ <;> rw [k] at h
   ·simp only [if_true] at h;unfold l_r at h
    split at h <;> simp only [mem_cons,not_mem_nil,or_false] at h
    ·rcases h with rfl|rfl|rfl|rfl <;> refine n_r ?_ ?_ ?_ ?_ <;> omega
    ·rcases h with rfl|rfl|rfl <;> refine n_r ?_ ?_ ?_ ?_ <;> omega
   all_goals
    simp at h;subst h;refine n_r ?_ ?_ ?_ ?_ <;> omega
 ·unfold c_F l_s
  split
  ·split <;> omega
  ·split <;> omega
theorem i_A {d:List Int} {ls:List Ly} {S:List (List Int)} {P X:List Int} (E:NetOk d ls S) (A:ls.length<=16) (H:RI d) (I:RI P) (L:RI X):∀ i,i<=ls.length->(∀ st,st∈(plF d ls S P X i).1->SpOk st)/\RI (plF d ls S P X i).2.1/\(0<=(plF d ls S P X i).2.2.1/\(plF d ls S P X i).2.2.1<=300)/\0<=(plF d ls S P X i).2.2.2/\(plF d ls S P X i).2.2.2<=300
 | 0,_=>by
  refine ⟨fun st h=>?_,I,by simp [plF],by simp [plF],by simp [plF]⟩;simp only [plF,mem_cons,not_mem_nil,or_false] at h;subst h;exact q_h H L
 | i+1,hi=>by
  obtain ⟨M,Z,O,J⟩:=i_A E A H I L i (by omega);have hN:=d_J d ls S P X i;obtain ⟨R,V,g3⟩:=r_r (E.lay i (by omega)) (E.inn i (by omega)) (N:=(plF d ls S P X i).1.length) (by omega) Z O J;refine ⟨fun st h=>?_,V,J,?_,?_⟩
  ·simp only [plF,mem_append] at h;rcases h with h|h
   ·exact M st h
   ·exact R st h
  ·simp only [plF];omega
  ·simp only [plF];omega
/-- What Run makes: an error, the nodes, the last one, the parameters' nodes. -/
def rnF (d:List Int) (ls:List Ly) (ns:List Nd) (P X:List Int):Int×List Nd×Int×List Int:=
 if nE d ls=0 then
  if (P.length:Int)=b_Q ls (nS d ls) ls.length/\(X.length:Int)=a_o d then
   if ns.length+(plF d ls (nS d ls) P X ls.length).1.length<=512 then
    ((pyF ns.length (plF d ls (nS d ls) P X ls.length).1 ns (plF d ls (nS d ls) P X ls.length).1.length).1,(pyF ns.length (plF d ls (nS d ls) P X ls.length).1 ns (plF d ls (nS d ls) P X ls.length).1.length).2.1,(if (pyF ns.length (plF d ls (nS d ls) P X ls.length).1 ns (plF d ls (nS d ls) P X ls.length).1.length).1=0 then (pyF ns.length (plF d ls (nS d ls) P X ls.length).1 ns (plF d ls (nS d ls) P X ls.length).1.length).2.2.1 else 0),(if (pyF ns.length (plF d ls (nS d ls) P X ls.length).1 ns (plF d ls (nS d ls) P X ls.length).1.length).1=0 then (pyF ns.length (plF d ls (nS d ls) P X ls.length).1 ns (plF d ls (nS d ls) P X ls.length).1.length).2.2.2 else []))
   else (2,ns,0,[])
  else (1,ns,0,[])
 else (nE d ls,ns,0,[])
theorem TapC.rn {B H A:Nat} {W W':World} {ns:List Nd} (h:TapC W B A ns) (E:Rn H W W'):TapC W' B A ns:=Tap.only h E.onl (by decide) (by decide) (by decide) (by decide)
theorem InOk.ri {d:List Int} (h:InOk d):RI d:=by
 rcases h with ⟨x,rfl,h⟩|⟨x,y,rfl,E,H⟩ <;> intro z A <;> simp at A <;> omega
theorem s_M (B tb:Nat) (ns:List Nd) (hG:NodesG ns) (aL:ns.length<=512) (d:List Int) (ls:List Ly) (P X:List Int) (hP:RI P) (hX:RI X) (aY:nE d ls=0->∀ st,st∈(plF d ls (nS d ls) P X ls.length).1->st.op≠1->RkC st.op) (p p2 pp px:Option Addr) (n c n2 c2 np cp nx cx:Nat) (ak:n2<=1073741823) (aT:P.length<=1073741824) (w:World) (hT:TapC w B tb ns) (a4:Hid (∀ W,Below B w W->Tz W)) (aW:Hid (Kz w)) (aB:Kept B w (.slice p n c) d) (az:∀ W',Rn B w W'->LyR 0 W' p2 n2 ls) (hp:Kept B w (.slice pp np cp) P) (aO:np<=cp) (hx:Kept B w (.slice px nx cx) X):
  Calls Tryz.prog 10 #[.pointer (some ⟨tb,0,none⟩),.agg #[.slice p n c,.slice p2 n2 c2],.slice pp np cp,.slice px nx cx] w fun e w'=>∃ v,e = .returned (.tuple #[.int .i64 (rnF d ls ns P X).2.2.1,v,.int .i64 (rnF d ls ns P X).1])/\OwnK .i64 3 w' w.heap.size v (rnF d ls ns P X).2.2.2/\TapC w' B tb (rnF d ls ns P X).2.1/\Below B w w'/\Only S4 w w':=by
 haveI:Nonempty World:=⟨w⟩
 have aX:B<=w.heap.size:=by
  obtain ⟨hb,_,_,hv,_⟩:=hT;exact Nat.le_trans hb (Nat.le_of_lt (a_k hv))
 obtain ⟨I,aE⟩:∃ R,rnF d ls ns P X=R:=⟨_,rfl⟩
 obtain ⟨E,eE⟩:∃ E,nE d ls=E:=⟨_,rfl⟩
 obtain ⟨O,eS⟩:∃ S,nS d ls=S:=⟨_,rfl⟩
 obtain ⟨sl,av⟩:∃ sl,O.length=sl:=⟨_,rfl⟩
 have a0:P.length=np:=by
  obtain ⟨_,_,_,e,h⟩:=hp.nums.lst;cases e;exact h.1
 have aM:X.length=nx:=by
  obtain ⟨_,_,_,e,h⟩:=hx.nums.lst;cases e;exact h.1
 have H:Hid (rnF d ls ns P X=I/\nE d ls=E/\nS d ls=O/\O.length=sl/\P.length=np/\X.length=nx):=⟨aE,eE,eS,av,a0,aM⟩
 have cS:Hid (∀ W,Bw w W->Calls Tryz.prog 22 #[.agg #[.slice p n c,.slice p2 n2 c2]] W fun e w'=>∃ ps cs,e = .returned (.tuple #[.slice ps sl cs,.int .i64 E])/\OwnS w' W.heap.size (.slice ps sl cs) O/\Bw W w'):=fun W hW=>by
  have:=d_V p p2 n c n2 c2 d ls ak W (Hid.up_kz aW hW) (aB.nums.up hW) ((az w (Rn.refl _ _)).up hW);rw [eE,eS,av] at this;exact this
 have J:Hid (B<=w.heap.size/\TapC w B tb ns/\NodesG ns/\ns.length<=512/\Kept B w (.slice p n c) d/\(∀ W',Rn B w W'->LyR 0 W' p2 n2 ls)/\Kept B w (.slice pp np cp) P/\np<=cp/\Kept B w (.slice px nx cx) X/\P.length<=1073741824/\RI P/\RI X/\n2<=1073741823):=⟨aX,hT,hG,aL,aB,az,hp,aO,hx,aT,hP,hX,ak⟩
 have aH:Hid (E=0->∀ st,st∈(plF d ls O P X ls.length).1->st.op≠1->RkC st.op):=by
  show _->_;rw [<- eE,<- eS];exact aY
 rw [aE];clear aE eE eS av a0 aM aB az hp aO hx aT hP hX hT hG aL aY aW aX ak;go_enter Tryz.func10,Tryz.ntmps10;go_wp2_with fail
 generalize ax:alloc _ _=W0;have aP:Hid (Bw w W0):=by rw [<- ax];exact a_a w _
 obtain ⟨g0,g1⟩:W0.cell? ⟨w.heap.size,0,none⟩=some (.slice p n c)/\W0.cell? ⟨w.heap.size,1,none⟩=some (.slice p2 n2 c2):=by rw [<- ax];simp [go_sem]
 clear ax;refine (cS.out W0 aP).mono ?_;rintro e w1 ⟨ps,cs,rfl,ao,ai⟩;have ag:Hid (Bw w w1):=a_c aP ai;replace g0:=a_g ai g0;replace g1:=a_g ai g1;by_cases h0:E=0
 case neg=>
  have a6:(E != 0)=true:=by simpa using h0
  have V:Hid (∃ v,Ending.returned (.tuple #[.int .i64 0,.slice none 0 0,.int .i64 E]) = .returned (.tuple #[.int .i64 I.2.2.1,v,.int .i64 I.1])/\OwnK .i64 3 w1 w.heap.size v I.2.2.2/\TapC w1 B tb I.2.1/\Below B w w1/\Only S4 w w1):=by
   have h5:I=(E,ns,0,[]):=by
    rw [<- H.1];unfold rnF;rw [H.2.1,if_neg h0]
   show ∃ _,_;rw [h5];exact ⟨_,rfl,OwnK.nil _ _ _ _,J.2.1.up ag,ag.mono J.1,Only.of ag⟩
  clear ao ai cS H;go_wp2;exact bodyPost_ret (v:=.tuple #[.int .i64 0,.slice none 0 0,.int .i64 E]) (by simp [results,Tryz.results10,go_sem]) rfl V.out
 subst h0;obtain ⟨S,hf,hs,ht⟩:=c_H H.2.1;obtain ⟨_,h4,h5⟩:=h_O hf hs ht;rw [H.2.2.1] at h4;subst h4;obtain ⟨p',c',e',aU⟩:=ao.rd;cases e';have L:Hid (NetOk d ls O/\InOk d/\ls.length<=16):=⟨NetOk.of hf hs,((b_a d ls).1 hf).1,by unfold d_7 at ht;simp at ht;omega⟩
 have cc:=c_y p p2 ps n c n2 c2 _ cs d ls O L.1 (by have:=J.2.2.2.2.2.2.2.2.2.2.2.2;omega) w1 ((J.2.2.2.2.2.1 w (Rn.refl _ _)).up ag) aU;obtain ⟨ct,aF⟩:∃ ct,b_Q ls O ls.length=ct:=⟨_,rfl⟩
 rw [aF] at cc;have aN:Hid (OwnS w1 W0.heap.size (.slice ps O.length cs) O):=ao;clear ao ai hf hs ht h5 aU cS;go_wp2_with fail
 refine cc.mono ?_;rintro e w2 ⟨rfl,ah⟩;have af:Hid (Bw w w2):=a_c ag ah;have ar:Hid (OwnS w2 0 (.slice ps O.length cs) O):=(aN.out.up ah).low (zero_le _);replace g0:=a_g ah g0;replace g1:=a_g ah g1;have am:Hid _:=aF;have kg:=a_h g0;clear ah cc aN aF
 have al:Hid (¬ ((P.length:Int)=ct/\(X.length:Int)=a_o d)->∀ W,Bw w W->∃ v,Ending.returned (.tuple #[.int .i64 0,.slice none 0 0,.int .i64 1]) = .returned (.tuple #[.int .i64 I.2.2.1,v,.int .i64 I.1])/\OwnK .i64 3 W w.heap.size v I.2.2.2/\TapC W B tb I.2.1/\Below B w W/\Only S4 w W):=fun a2 W hW=>by
  have h5:I=(1,ns,0,[]):=by
   rw [<- H.1];unfold rnF;rw [H.2.1,H.2.2.1,am.out,if_pos rfl,if_neg a2]
  rw [h5];exact ⟨_,rfl,OwnK.nil _ _ _ _,J.2.1.up hW,hW.mono J.1,Only.of hW⟩
 by_cases ac:(np:Int)=ct
 case neg=>
  have aJ:((np:Int) != ct)=true:=by simpa using ac
  have V:Hid _:=al.out (fun h=>ac (by rw [<- H.2.2.2.2.1];exact h.1)) w2 af;clear al ac;go_wp2;exact bodyPost_ret (v:=.tuple #[.int .i64 0,.slice none 0 0,.int .i64 1]) (by simp [results,Tryz.results10,go_sem]) rfl V.out
 have aJ:((np:Int) != ct)=false:=by simpa using ac
 have cz:=d_D (.slice p n c) d L.2.1.smal w2 (J.2.2.2.2.1.nums.up af);obtain ⟨pd,aw⟩:∃ x,a_o d=x:=⟨_,rfl⟩
 rw [aw] at cz;have Z:Hid (a_o d=pd/\(np:Int)=ct):=⟨aw,ac⟩
 clear aw ac;go_wp2_with fail
 refine cz.mono ?_;rintro e w3 ⟨rfl,rfl⟩;clear cz;by_cases ae:(nx:Int)=pd
 case neg=>
  have aZ:((nx:Int) != pd)=true:=by simpa using ae
  have V:Hid _:=al.out (fun h=>ae (by rw [<- H.2.2.2.2.2,<- Z.1];exact h.2)) w3 af;clear al ae;go_wp2;exact bodyPost_ret (v:=.tuple #[.int .i64 0,.slice none 0 0,.int .i64 1]) (by simp [results,Tryz.results10,go_sem]) rfl V.out
 have aZ:((nx:Int) != pd)=false:=by simpa using ae
 have aA:Hid _:=ae;clear ae al;have ad:Hid _:=Rn.of J.1 af;have ay:=l_t B d ls O L.1 L.2.2 P X (by rw [H.2.2.2.2.1,am.out];exact Z.2) J.2.2.2.2.2.2.2.2.2.1 p p2 ps pp px n c n2 c2 O.length cs np cp nx cx w3 (Nat.le_trans J.1 af.size) (J.2.2.2.2.1.up ad.out) (fun W' a3=>J.2.2.2.2.2.1 W' (ad.trans a3)) ar.out rfl (J.2.2.2.2.2.2.1.up ad.out) J.2.2.2.2.2.2.2.1 (J.2.2.2.2.2.2.2.2.1.up ad.out);have aq:=d_J d ls O P X ls.length;have aj:=(i_A L.1 L.2.2 L.2.1.ri J.2.2.2.2.2.2.2.2.2.2.1 J.2.2.2.2.2.2.2.2.2.2.2.1 (P:=P) (X:=X) ls.length (Nat.le_refl _)).1;obtain ⟨sts,aa⟩:∃ z,(plF d ls O P X ls.length).1=z:=⟨_,rfl⟩
 rw [aa] at ay aq aj;have M:Hid ((plF d ls O P X ls.length).1=sts/\sts.length<=97/\(∀ st,st∈sts->SpOk st)/\(∀ st,st∈sts->st.op≠1->RkC st.op)):=⟨aa,by have:=L.2.2;omega,aj,by have:=aH.out (by trivial);rw [aa] at this;exact this⟩
 clear aq aj aa ar;go_wp2_with fail
 refine ay.mono ?_;rintro e w4 ⟨q,m,r,xs,rfl,hm,au,aI,aC⟩;have HM:Hid (sts.length=m/\w4.ownsRow B 98 7 (.slice q m r) m xs/\StsC B w4 sts xs/\Rn B w w4):=⟨hm,au,aI,ad.trans aC⟩
 have a5:m<=97:=by rw [<- hm];exact M.2.1
 have ap:Hid (TapC w4 B tb ns):=(J.2.1.up af).rn aC;have aD:=h_y B tb ns w4 ap.out;obtain ⟨nl,an⟩:∃ nl,ns.length=nl:=⟨_,rfl⟩
 have a7:nl<=512:=by rw [<- an];exact J.2.2.2.1
 rw [an] at aD;have aQ:Hid _:=an;clear ay hm au aI aC an g0 g1 kg ad;go_wp2_with fail
 refine aD.mono ?_;rintro e w5 ⟨rfl,rfl⟩;clear aD;by_cases ab:nl+m<=512
 case neg=>
  have aG:(512:Int) < (nl:Int)+(m:Int):=by omega
  have V:Hid (∃ v,Ending.returned (.tuple #[.int .i64 0,.slice none 0 0,.int .i64 2]) = .returned (.tuple #[.int .i64 I.2.2.1,v,.int .i64 I.1])/\OwnK .i64 3 w5 w.heap.size v I.2.2.2/\TapC w5 B tb I.2.1/\Below B w w5/\Only S4 w w5):=by
   have h5:I=(2,ns,0,[]):=by
    rw [<- H.1];unfold rnF;rw [H.2.1,H.2.2.1,am.out,if_pos rfl,if_pos ⟨by rw [H.2.2.2.2.1];exact Z.2,by rw [H.2.2.2.2.2,Z.1];exact aA.out⟩,M.1,HM.1,aQ.out,if_neg ab]
   show ∃ _,_;rw [h5];exact ⟨_,rfl,OwnK.nil _ _ _ _,ap.out,HM.2.2.2.bel,HM.2.2.2.r4.onl⟩
  clear H M HM ab;go_wp2;exact bodyPost_ret (v:=.tuple #[.int .i64 0,.slice none 0 0,.int .i64 2]) (by simp [results,Tryz.results10,go_sem]) rfl V.out
 have aG:¬ (512:Int) < (nl:Int)+(m:Int):=by omega
 have a1:(nl:Int)+(m:Int)<=512:=by omega
 have aV:=p_x B tb ns J.2.2.1 sts (fun i hi=>⟨M.2.2.1 _ (j_s hi),M.2.2.2 _ (j_s hi)⟩) (by have:=M.2.1;omega) J.2.2.2.1 q m r B xs HM.1 w5 ap.out (by show ∀ W,_;intro W hW;exact a4.out W (HM.2.2.2.bel.trans hW)) HM.2.1 HM.2.2.1
 have aS:Hid (I=((pyF ns.length sts ns m).1,(pyF ns.length sts ns m).2.1,(if (pyF ns.length sts ns m).1=0 then (pyF ns.length sts ns m).2.2.1 else 0),(if (pyF ns.length sts ns m).1=0 then (pyF ns.length sts ns m).2.2.2 else []))):=by
  show _=_;rw [<- H.1];unfold rnF;rw [H.2.1,H.2.2.1,am.out,if_pos rfl,if_pos ⟨by rw [H.2.2.2.2.1];exact Z.2,by rw [H.2.2.2.2.2,Z.1];exact aA.out⟩,M.1,HM.1,if_pos (by rw [aQ.out];exact ab)]
 have aR:Calls Tryz.prog 26 #[.pointer (some ⟨tb,0,none⟩),.slice q m r] w5 fun e w'=>∃ v,e = .returned (.tuple #[.int .i64 I.2.2.1,v,.int .i64 I.1])/\OwnK .i64 3 w' w.heap.size v I.2.2.2/\TapC w' B tb I.2.1/\Below B w w'/\Only S4 w w':=by
  refine aV.mono ?_;rintro e w' ⟨v,h1,h2,h3,h4,h5⟩;rw [aS.out];exact ⟨v,h1,h2.low HM.2.2.2.size,h3,HM.2.2.2.bel.trans h4,HM.2.2.2.r4.onl.trans (h5.more (by simp))⟩
 clear aV aS M H HM ab J Z aA am L ap aH;go_wp2_with fail
 refine aR.mono ?_;rintro e w6 ⟨v6,rfl,h6⟩;have HF:Hid _:=h6;clear h6 aR;go_wp2;exact bodyPost_ret (v:=.tuple #[.int .i64 I.2.2.1,v6,.int .i64 I.1]) (by simp [results,Tryz.results10,go_sem]) rfl ⟨_,rfl,HF.out⟩
theorem r_s (B E:Nat) (ns:List Nd) (hG:NodesG ns) (Z:ns.length<=512) (d:List Int) (ls:List Ly) (P X:List Int) (hP:RI P) (hX:RI X) (aa:nE d ls=0->∀ st,st∈(plF d ls (nS d ls) P X ls.length).1->st.op≠1->RkC st.op) (p p2 pp V:Option Addr) (n c H c2 I J nx L:Nat) (A:H<=1073741823) (M:P.length<=1073741824) (w:World) (hT:TapC w B E ns) (R:Hid (∀ W,Below B w W->Tz W)) (O:Hid (Kz w)) (ac:Kept B w (.slice p n c) d) (ab:∀ W',Rn B w W'->LyR 0 W' p2 H ls) (hp:Kept B w (.slice pp I J) P) (ad:I<=J) (hx:Kept B w (.slice V nx L) X):
  Calls Tryz.prog 10 #[.pointer (some ⟨E,0,none⟩),.agg #[.slice p n c,.slice p2 H c2],.slice pp I J,.slice V nx L] w fun e w'=>∃ v,e = .returned (.tuple #[.int .i64 (rnF d ls ns P X).2.2.1,v,.int .i64 (rnF d ls ns P X).1])/\OwnK .i64 3 w' w.heap.size v (rnF d ls ns P X).2.2.2/\TapC w' B E (rnF d ls ns P X).2.1/\Below B w w':=by
 exact (s_M B E ns hG Z d ls P X hP hX aa p p2 pp V n c H c2 I J nx L A M w hT R O ac ab hp ad hx).mono fun _ _ ⟨v,h1,h2,h3,h4,_⟩=>⟨v,h1,h2,h3,h4⟩
theorem n_s {a b:List Int} (h:a.length=b.length) (H:∀ i,i < a.length->a.getD i 0=b.getD i 0):a=b:=by
 refine ext_getElem h fun i A E=>?_;have:=H i A;rwa [getD_eq_getElem?_getD,getElem?_eq_getElem A,getD_eq_getElem?_getD,getElem?_eq_getElem E] at this
/-- Numbers again and again. -/
def k_u (l:List Int) (n:Nat):List Int:=if l.length=0 then replicate n 0 else (range n).map fun i=>l.getD (i % l.length) 0
theorem p_y (l:List Int) (n:Nat):(k_u l n).length=n:=by
 unfold k_u
 split <;> simp
theorem n_t {l:List Int} (h:RI l) (n:Nat):RI (k_u l n):=by
 unfold k_u
 split
 ·intro y A;rw [(mem_replicate.1 A).2];omega
 ·rename_i E
  intro y A;obtain ⟨i,_,rfl⟩:=mem_map.1 A;have:=mod_lt i (Nat.pos_of_ne_zero E);rw [getD_eq_getElem?_getD,getElem?_eq_getElem this];exact h _ (getElem_mem _)
def k_v (l:List Int) (n:Nat):Nat->List Int
 | 0=>replicate n 0
 | i+1=>(k_v l n i).set i (l.getD (i % l.length) 0)
theorem d_2 (l:List Int) (n:Nat):∀ i,(k_v l n i).length=n
 | 0=>by simp [k_v]
 | i+1=>by rw [k_v,length_set,d_2 l n i]
theorem n_u (l:List Int) (n:Nat):∀ i j,j < n->(k_v l n i).getD j 0=if j < i then l.getD (j % l.length) 0 else 0
 | 0,j,hj=>by
  rw [k_v,getD_eq_getElem?_getD,getElem?_replicate,if_pos hj];rfl
 | i+1,j,hj=>by
  rw [k_v];by_cases e:i=j
  ·subst e;rw [getD_eq_getElem?_getD,getElem?_set_self (by rw [d_2];exact hj),if_pos (by omega)];rfl
  ·rw [getD_eq_getElem?_getD,getElem?_set_ne e,<- getD_eq_getElem?_getD,n_u l n i j hj];by_cases h:j < i
   ·rw [if_pos h,if_pos (by omega)]
   ·rw [if_neg h,if_neg (by omega)]
theorem p_z (l:List Int) (n:Nat) (h:0 < l.length):k_v l n n=k_u l n:=by
 unfold k_u;rw [if_neg (by omega)];refine n_s (by rw [d_2];simp) fun i A=>?_;rw [d_2] at A;rw [n_u l n n i A,if_pos A,getD_eq_getElem?_getD (l:=(range n).map _),getElem?_map,getElem?_range A];rfl
theorem g_Y (p:Option Addr) (m c:Nat) (l:List Int) (n:Nat) (hn:n<=1048576) (hm:m<=1073741824) (w:World) (h1:Nums .i64 w (.slice p m c) l):
  Calls Tryz.prog 8 #[.slice p m c,.int .i64 (n:Int)] w fun e w'=>∃ v,e = .returned v/\OwnK .i64 48 w' w.heap.size v (k_u l n)/\Bw w w':=by
 obtain ⟨p',m',c',e',I⟩:=h1.lst;cases e';haveI:Nonempty World:=⟨w⟩
 obtain ⟨L,R⟩:∃ L,k_u l n=L:=⟨_,rfl⟩
 have HL:Hid (k_u l n=L):=R;rw [R];clear R h1;go_enter Tryz.func8,Tryz.ntmps8;go_wp2_with (at_make;refine a_F l_5 (by decide) _ rfl (.tmp 7) (.tmp 7) rfl .i64 .i64 n n n rfl rfl rfl rfl (by omega) w.heap.size w (Nat.le_refl _) (Below.refl _ _) ?_;intro w1 HO B0 B1;clear B0)
 have A:Hid (OwnK .i64 48 w1 w.heap.size (.slice (some ⟨w.heap.size,0,none⟩) n n) (k_v l n 0)):=HO.out;have E:Hid (Bw w w1):=B1;clear HO B1;go_wp2_with fail
 by_cases h0:m=0
 ·subst h0;have el:l.length=0:=I.1;have M:Hid (k_v l n 0=L):=by show _=_;rw [<- HL.out];unfold k_u;rw [if_pos el];rfl
  clear el
  go_loopg [6] 1 (fun gg i wr=>gg=1/\i = .int .i64 0/\Hid (wr=w1))
  case atStart=>exact ⟨rfl,rfl,rfl⟩
  case round=>
   obtain ⟨rfl,rfl,Hw⟩:=hrel;have ew:=Hw.out;subst ew;by_cases hz:0 < n
   ·have aa:0 < (n:Int):=by omega
    go_wp2;go_ret;exact ⟨_,rfl,by rw [<- M.out];exact A.out,E⟩
   ·have aa:(n:Int)<=0:=by omega
    go_wp2;go_ret;exact ⟨_,rfl,by rw [<- M.out];exact A.out,E⟩
 have ae:0 < (m:Int):=by omega
 have af:((m:Int)==0)=false:=by simpa using h0
 have M:Hid (k_v l n n=L):=by show _=_;rw [<- HL.out,p_z _ _ (by rw [I.1];omega)]
 go_loopg [6] n (fun gg i wr=>∃ (k:Nat),k<=n/\gg=n - k/\i = .int .i64 (k:Int)/\Hid (OwnK .i64 48 wr w.heap.size (.slice (some ⟨w.heap.size,0,none⟩) n n) (k_v l n k))/\Hid (Bw w wr))
 case atStart=>exact ⟨0,by omega,by omega,by first|rfl|simp,A,E⟩
 case round=>
  obtain ⟨k,hk,hg,rfl,HR,O⟩:=hrel;by_cases ab:k < n
  ·have ad:(k:Int) < (n:Int):=by omega
   have hj:=mod_lt k (Nat.pos_of_ne_zero h0);obtain ⟨j,J⟩:∃ j,k % m=j:=⟨_,rfl⟩
   rw [J] at hj
   have ah:(k:Int).tmod (m:Int)=(j:Int):=by
    rw [<- Int.ofNat_tmod,J]
   have ag:(j:Int) < (m:Int):=by omega
   obtain ⟨q,o,rfl,H⟩:=I.2 j hj;have V:=a_d H O.out;obtain ⟨ac,ai⟩:=HR.cell (by rw [d_2]) k ab;obtain ⟨x,ex⟩:∃ x,l.getD j 0=x:=⟨_,rfl⟩
   rw [ex] at V
   have H2:Hid (OwnK .i64 48 (wr.setCell ⟨w.heap.size,k,none⟩ (.int .i64 x)) w.heap.size (.slice (some ⟨w.heap.size,0,none⟩) n n) (k_v l n (k+1))):=by
    have:=HR.out.store (by rw [d_2]) k x;show OwnK _ _ _ _ _ _;rw [k_v,I.1,J,ex];exact this
   have Z:Hid (Bw w (wr.setCell ⟨w.heap.size,k,none⟩ (.int .i64 x))):=O.setCell (p:=⟨w.heap.size,k,none⟩) (Nat.le_refl _) _;clear J ex H;go_wp2;go_roundg (n - (k+1))
   case measure=>omega
   case rel=>exact ⟨k+1,by omega,rfl,by first|rfl|simp,H2,Z⟩
  ·obtain rfl:k=n:=by omega
   go_wp2;go_ret;exact ⟨_,rfl,by rw [<- M.out];exact HR.out,O.out⟩
def RowI (W:World) (p:Option Addr) (n c:Nat) (l:List Int):Prop:=Nums .i64 W (.slice p n c) l/\RI l/\n<=c
theorem RowN.rowI {W:World} {p:Option Addr} {n c:Nat} {z:Nat->Int} (h:RowN .i64 W p n c z):RowI W p n c (o_j n z):=⟨h.nums,h.riI,h.1.1⟩
theorem RowI.up {W W':World} {p:Option Addr} {n c:Nat} {l:List Int} (h:RowI W p n c l) (A:Bw W W'):RowI W' p n c l:=⟨h.1.up A,h.2⟩
theorem RowI.len {W:World} {p:Option Addr} {n c:Nat} {l:List Int} (h:RowI W p n c l):l.length=n:=by
 obtain ⟨_,_,_,e,h⟩:=h.1.lst;cases e;exact h.1
theorem s_N {ns:List Nd} (E:NodesG ns) {i:Nat} {nd:Nd} (h:ns[i]?=some nd):Few nd.D/\Few nd.X:=by
 have A:=(E nd (i_v h)).1;have H:=A.1.1;have I:=A.len.2;rw [a_O] at H;unfold Few;omega
theorem n_v {d:List Int} (h:InOk d) (k:Nat) (A:k<=d.length):(1<=a_o (d.take k)/\a_o (d.take k)<=4096)/\(k < d.length->a_o (d.take (k+1))=a_o (d.take k)*d.getD k 0):=by
 have hp:=h.prod;rcases h with ⟨x,rfl,h⟩|⟨x,y,rfl,E,H⟩
 ·rcases (show k=0∨k=1 by simp at A;omega) with rfl|rfl <;> simp [a_o] at hp ⊢ <;> omega
 ·rcases (show k=0∨k=1∨k=2 by simp at A;omega) with rfl|rfl|rfl <;> simp [a_o] at hp ⊢ <;> omega
theorem l_v (v:Value) (d:List Int) (V:InOk d) (w:World) (hv:Nums .i64 w v d):
  Calls Tryz.prog 7 #[v] w fun e w'=>e = .returned (.int .i64 (a_o d))/\w'=w:=by
 obtain ⟨p,n,c,rfl,J⟩:=hv.lst;haveI:Nonempty World:=⟨w⟩
 have ac:n<=2:=by
  rw [<- J.1];rcases V with ⟨x,rfl,h⟩|⟨x,y,rfl,hx,hy⟩ <;> simp
 obtain ⟨R,I⟩:∃ R,a_o d=R:=⟨_,rfl⟩
 have Z:Hid (InOk d/\a_o d=R):=⟨V,I⟩
 rw [I];clear V hv I;go_enter Tryz.func7,Tryz.ntmps7;go_wp2_with fail
 go_loopg [3,4] n (fun gg a i wr=>∃ (k:Nat),k<=n/\gg=n - k/\a = .int .i64 (a_o (d.take k))/\i = .int .i64 (k:Int)/\Hid (wr=w))
 case atStart=>exact ⟨0,by omega,by omega,by simp [a_o],by first|rfl|simp,rfl⟩
 case round=>
  obtain ⟨k,hk,hg,rfl,rfl,Hw⟩:=hrel;have ew:=Hw.out;subst ew;have L:=n_v Z.1 k (by rw [J.1];exact hk);by_cases H:k < n
  ·have aa:(k:Int) < (n:Int):=by omega
   have O:=L.2 (by rw [J.1];exact H);obtain ⟨q,o,rfl,hc⟩:=J.2 k H;obtain ⟨A,M⟩:∃ A,a_o (d.take k)=A:=⟨_,rfl⟩
   obtain ⟨x,ex⟩:∃ x,d.getD k 0=x:=⟨_,rfl⟩
   have h3:=n_v Z.1 (k+1) (by rw [J.1];exact H);obtain ⟨A2,E⟩:∃ A,a_o (d.take (k+1))=A:=⟨_,rfl⟩
   rw [E,M,ex] at O;rw [E] at h3;rw [M] at L;rw [ex] at hc;rw [M];have HA:Hid (a_o (d.take (k+1))=A2):=E;have ad:A < 100000:=by omega
   have ab:IntKind.i64.wrap (A*x)=A2:=by rw [<- O,IntKind.wrap_i64];omega
   have kq:=a_h hc;clear O h3 L M E ex;go_wp2;go_roundg (n - (k+1))
   case measure=>omega
   case rel=>exact ⟨k+1,by omega,rfl,by rw [HA.out],by first|rfl|simp,rfl⟩
  ·obtain rfl:k=n:=by omega
   have I:a_o (d.take k)=R:=by
    rw [<- Z.2,take_of_length_le (by rw [J.1];exact Nat.le_refl _)]
   rw [I];clear L I;go_wp2;go_ret;exact ⟨rfl,rfl⟩
end Go.Proofs.YtkfpainpomobfaaGreatDoor.Wd
