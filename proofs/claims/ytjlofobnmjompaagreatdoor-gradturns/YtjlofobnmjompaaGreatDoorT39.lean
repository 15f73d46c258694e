/- The code's losses: Square, Size, Hinge. · The code's One. · Tensors of one shape: a fold to it, a sum with noughts, a product with ones leave them as they are. · The code's sweep: its object, add. · The block that a told value names (for relN of Flow). -/
import Derived.Test.YtjlofobnmjompaaGreatDoorT37
import Derived.Test.YtjlofobnmjompaaGreatDoorT38
import Derived.Test.YtjlofobnmjompaaGreatDoorT22
import Derived.Test.YtjlofobnmjompaaGreatDoorT19
import Derived.Test.YtjlofobnmjompaaGreatDoorT01
set_option linter.unusedVariables false
set_option linter.unusedSimpArgs false
set_option maxHeartbeats 16000000
set_option maxRecDepth 16000
namespace Go.Proofs.YtjlofobnmjompaaGreatDoor.Wd
open Go.RowKit Fx
theorem j_a (B I:Nat) (ns:List Nd) (hG:NodesG ns) (hl:ns.length<=512) (o:Int) (p:Option Addr) (n c:Nat) (y:List Int) (hy:RI y) (w:World) (hT:TapC w B I ns) (ah:Hid (∀ W,Below B w W->Tz W)) (h:KeptL B w (.slice p n c) y):
  Calls Tryz.prog 42 #[.pointer (some ⟨I,0,none⟩),.int .i64 o,.slice p n c] w fun e w'=>e = .returned (.tuple #[.int .i64 (loR (e_e ns o y) ns (sqS (ns.length:Int) o y)),.int .i64 (loE (e_e ns o y) ns (sqS (ns.length:Int) o y))])/\TapC w' B I (loN (e_e ns o y) ns (sqS (ns.length:Int) o y))/\Below B w w'/\Only SC w w'/\Spar2 I w w':=by
 haveI:Nonempty World:=⟨w⟩
 have HZ:Hid (B<=w.heap.size):=by
  obtain ⟨hb,v,xs,hv,_⟩:=hT;exact Nat.le_trans hb (Nat.le_of_lt (a_i hv))
 have V:=i_d B I ns hG o p n c y w hT h.nums;have HT:Hid (TapC w B I ns/\NodesG ns/\ns.length<=512):=⟨hT,hG,hl⟩
 by_cases he:e_e ns o y=0
 case neg=>
  rw [show loR (e_e ns o y) ns (sqS (ns.length:Int) o y)=0 from if_neg he,show loE (e_e ns o y) ns (sqS (ns.length:Int) o y)=e_e ns o y from if_neg he,show loN (e_e ns o y) ns (sqS (ns.length:Int) o y)=ns from if_neg he];obtain ⟨E,eE⟩:∃ E,e_e ns o y=E:=⟨_,rfl⟩
  rw [eE] at V he ⊢;have am:(E != 0)=true:=by simpa using he
  clear eE he h hT hG ah hy;go_enter Tryz.func42,Tryz.ntmps42;go_wp2_with fail
  refine V.mono ?_;rintro e M ⟨rfl,D⟩;have HF:Hid (TapC M B I ns/\Below B w M/\Only SC w M/\Spar2 I w M):=⟨HT.out.1.up D,D.mono HZ.out,Only.of D,Spar2.of D⟩
  clear D V;go_wp2;go_ret2;exact ⟨rfl,HF.out⟩
 have H:(0<=o/\o < (ns.length:Int))/\y.length=(ndN ns o).X.length:=by
  by_cases h':(0<=o/\o < (ns.length:Int))/\y.length=(ndN ns o).X.length
  ·exact h'
  ·exact absurd ((if_neg h').symm.trans he) (by decide)
 have ag:y.length<=4096:=by
  have:=(hG.at H.1.1 H.1.2).1;rw [H.2,this.2];exact this.1.2.2
 rw [he] at V ⊢;rw [show loR 0 ns (sqS (ns.length:Int) o y)=lyR ns (sqS (ns.length:Int) o y) from rfl,show loE 0 ns (sqS (ns.length:Int) o y)=lyE ns (sqS (ns.length:Int) o y) from rfl,show loN 0 ns (sqS (ns.length:Int) o y)=lyM ns (sqS (ns.length:Int) o y) from rfl];obtain ⟨_,_,_,e4,HX⟩:=h.nums.lst;cases e4;have af:=HX.out.1;have HY:Hid (RI y/\y.length=n/\KeptL B w (.slice p n c) y):=⟨hy,af,h⟩
 obtain ⟨N,eN⟩:∃ N:Int,(ns.length:Int)=N:=⟨_,rfl⟩
 have hN:0<=N/\N<=512:=by omega
 have hO:0<=o/\o < N:=by omega
 have aa:Hid (∀ W,Below w.heap.size w W->Calls Tryz.prog 40 #[.pointer (some ⟨I,0,none⟩)] W fun e w'=>e = .returned (.int .i64 N)/\w'=W):=fun W hW=>by
  rw [<- eN];exact d_B B I ns W (hT.up hW)
 rw [eN];have hn:n<=4096:=by omega
 have HS:Hid (∀ i,i < (sqS N o y).length->StpOk (stA (sqS N o y) i)):=fun i hi=>by
  have h0:InR 0:=by unfold InR;omega
  match i,hi with
  | 0,_=>exact e_4 hy ag
  | 1,_=>exact c_F (by omega) (by unfold InR;omega) (by unfold InR;omega) h0
  | 2,_=>exact c_F (by omega) (by unfold InR;omega) (by unfold InR;omega) (by unfold InR;omega)
  | 3,_=>exact c_F (by omega) (by unfold InR;omega) h0 h0
 have ak:(n:Int)<=4096:=by omega
 obtain ⟨R,eR⟩:∃ R,lyR ns (sqS N o y)=R:=⟨_,rfl⟩
 obtain ⟨E,eE⟩:∃ R,lyE ns (sqS N o y)=R:=⟨_,rfl⟩
 obtain ⟨NS,U⟩:∃ R,lyM ns (sqS N o y)=R:=⟨_,rfl⟩
 have J:Hid (lyR ns (sqS N o y)=R/\lyE ns (sqS N o y)=E/\lyM ns (sqS N o y)=NS):=⟨eR,eE,U⟩
 rw [eR,eE,U];clear he H ag HX af h hy hT hG hl eN eR eE U;go_enter Tryz.func42,Tryz.ntmps42;go_wp2_with fail
 refine V.mono ?_;rintro e M ⟨rfl,D⟩;have ad:Hid (Below w.heap.size w M):=D;clear D V;go_wp2_with fail
 refine (aa.out M ad.out).mono ?_;rintro e w2 ⟨rfl,rfl⟩;clear aa;go_wp2_with fail
 refine (e_F p n c w2 hn).mono ?_;rintro e w3 ⟨g3,rfl,h3,ai⟩;have H3:Hid (OwnK .i64 3 w3 w2.heap.size (.slice (some ⟨g3,0,none⟩) 1 1) [(n:Int)]/\Below w.heap.size w w3):=⟨h3,a_c ad.out ai⟩
 clear h3 ai;go_wp2_with fail
 generalize hK:World.alloc _ _=K;have O:Below w3.heap.size w3 K:=by rw [<- hK];exact a_b w3 _
 have hL:K.heap[w3.heap.size]?=some (.cells [.int .i64 1,.int .i64 0,.int .i64 0,.int .i64 0,.slice (some ⟨g3,0,none⟩) 1 1,.slice p n c,.int .i64 3,.int .i64 o,.int .i64 N,.int .i64 0,.slice none 0 0,.slice none 0 0,.int .i64 4,.int .i64 (N+1),.int .i64 (N+1),.int .i64 0,.slice none 0 0,.slice none 0 0,.int .i64 10,.int .i64 (N+2),.int .i64 0,.int .i64 0,.slice none 0 0,.slice none 0 0].toArray 136 (0,0)):=by rw [<- hK];exact heap_alloc_new _ _
 have hb:Below w.heap.size w K:=a_c H3.out.2 O;have L:Below B w K:=hb.mono HZ.out
 have cl:=h_h B I ns HT.out.2.1 (sqS N o y) HS.out HT.out.2.2 w3.heap.size 4 _ rfl (by omega) K (HT.out.1.up hb) (show Hid _ from fun W hW=>ah.out W (L.trans hW)) hL (fun i hi=>by
  match i,hi with
  | 0,_=>exact ⟨_,_,_,_,_,_,rfl,rfl,rfl,rfl,rfl,rfl,by show KeptL _ _ _ [(y.length:Int)];rw [HY.out.2.1];exact (H3.out.1.up O).keptL (by decide),HY.out.2.2.up L (Only.of hb)⟩
  | 1,_=>exact ⟨_,_,_,_,_,_,rfl,rfl,rfl,rfl,rfl,rfl,KeptL.nil _ _,KeptL.nil _ _⟩
  | 2,_=>exact ⟨_,_,_,_,_,_,rfl,rfl,rfl,rfl,rfl,rfl,KeptL.nil _ _,KeptL.nil _ _⟩
  | 3,_=>exact ⟨_,_,_,_,_,_,rfl,rfl,rfl,rfl,rfl,rfl,KeptL.nil _ _,KeptL.nil _ _⟩)
 have HK:Hid (Below w.heap.size w K):=hb;rw [J.out.1,J.out.2.1,J.out.2.2] at cl;clear hK O hL hb L HS J;refine cl.mono ?_;rintro e w5 ⟨rfl,ab,aj,ae,ac⟩;have HF:Hid (TapC w5 B I NS/\Below B w w5/\Only SC w w5/\Spar2 I w w5):=⟨ab,(HK.out.mono HZ.out).trans aj,(Only.of HK.out).trans ae,Spar2.trans (Spar2.of HK.out) ac HK.out.size⟩
 clear ab aj ae ac cl;go_wp2;go_ret2;exact ⟨rfl,HF.out⟩
theorem n_c (B I:Nat) (ns:List Nd) (hG:NodesG ns) (hl:ns.length<=512) (o:Int) (p:Option Addr) (n c:Nat) (y:List Int) (hy:RI y) (w:World) (hT:TapC w B I ns) (ah:Hid (∀ W,Below B w W->Tz W)) (h:KeptL B w (.slice p n c) y):
  Calls Tryz.prog 43 #[.pointer (some ⟨I,0,none⟩),.int .i64 o,.slice p n c] w fun e w'=>e = .returned (.tuple #[.int .i64 (loR (e_e ns o y) ns (szS (ns.length:Int) o y)),.int .i64 (loE (e_e ns o y) ns (szS (ns.length:Int) o y))])/\TapC w' B I (loN (e_e ns o y) ns (szS (ns.length:Int) o y))/\Below B w w'/\Only SC w w'/\Spar2 I w w':=by
 haveI:Nonempty World:=⟨w⟩
 have HZ:Hid (B<=w.heap.size):=by
  obtain ⟨hb,v,xs,hv,_⟩:=hT;exact Nat.le_trans hb (Nat.le_of_lt (a_i hv))
 have V:=i_d B I ns hG o p n c y w hT h.nums;have HT:Hid (TapC w B I ns/\NodesG ns/\ns.length<=512):=⟨hT,hG,hl⟩
 by_cases he:e_e ns o y=0
 case neg=>
  rw [show loR (e_e ns o y) ns (szS (ns.length:Int) o y)=0 from if_neg he,show loE (e_e ns o y) ns (szS (ns.length:Int) o y)=e_e ns o y from if_neg he,show loN (e_e ns o y) ns (szS (ns.length:Int) o y)=ns from if_neg he];obtain ⟨E,eE⟩:∃ E,e_e ns o y=E:=⟨_,rfl⟩
  rw [eE] at V he ⊢;have am:(E != 0)=true:=by simpa using he
  clear eE he h hT hG ah hy;go_enter Tryz.func43,Tryz.ntmps43;go_wp2_with fail
  refine V.mono ?_;rintro e M ⟨rfl,D⟩;have HF:Hid (TapC M B I ns/\Below B w M/\Only SC w M/\Spar2 I w M):=⟨HT.out.1.up D,D.mono HZ.out,Only.of D,Spar2.of D⟩
  clear D V;go_wp2;go_ret2;exact ⟨rfl,HF.out⟩
 have H:(0<=o/\o < (ns.length:Int))/\y.length=(ndN ns o).X.length:=by
  by_cases h':(0<=o/\o < (ns.length:Int))/\y.length=(ndN ns o).X.length
  ·exact h'
  ·exact absurd ((if_neg h').symm.trans he) (by decide)
 have ag:y.length<=4096:=by
  have:=(hG.at H.1.1 H.1.2).1;rw [H.2,this.2];exact this.1.2.2
 rw [he] at V ⊢;rw [show loR 0 ns (szS (ns.length:Int) o y)=lyR ns (szS (ns.length:Int) o y) from rfl,show loE 0 ns (szS (ns.length:Int) o y)=lyE ns (szS (ns.length:Int) o y) from rfl,show loN 0 ns (szS (ns.length:Int) o y)=lyM ns (szS (ns.length:Int) o y) from rfl];obtain ⟨_,_,_,e4,HX⟩:=h.nums.lst;cases e4;have af:=HX.out.1;have HY:Hid (RI y/\y.length=n/\KeptL B w (.slice p n c) y):=⟨hy,af,h⟩
 obtain ⟨N,eN⟩:∃ N:Int,(ns.length:Int)=N:=⟨_,rfl⟩
 have hN:0<=N/\N<=512:=by omega
 have hO:0<=o/\o < N:=by omega
 have aa:Hid (∀ W,Below w.heap.size w W->Calls Tryz.prog 40 #[.pointer (some ⟨I,0,none⟩)] W fun e w'=>e = .returned (.int .i64 N)/\w'=W):=fun W hW=>by
  rw [<- eN];exact d_B B I ns W (hT.up hW)
 rw [eN];have hn:n<=4096:=by omega
 have HS:Hid (∀ i,i < (szS N o y).length->StpOk (stA (szS N o y) i)):=fun i hi=>by
  have h0:InR 0:=by unfold InR;omega
  match i,hi with
  | 0,_=>exact e_4 hy ag
  | 1,_=>exact c_F (by omega) (by unfold InR;omega) (by unfold InR;omega) h0
  | 2,_=>exact c_F (by omega) (by unfold InR;omega) (by unfold InR;omega) (by unfold InR;omega)
  | 3,_=>exact c_F (by omega) (by unfold InR;omega) h0 h0
 have ak:(n:Int)<=4096:=by omega
 obtain ⟨R,eR⟩:∃ R,lyR ns (szS N o y)=R:=⟨_,rfl⟩
 obtain ⟨E,eE⟩:∃ R,lyE ns (szS N o y)=R:=⟨_,rfl⟩
 obtain ⟨NS,U⟩:∃ R,lyM ns (szS N o y)=R:=⟨_,rfl⟩
 have J:Hid (lyR ns (szS N o y)=R/\lyE ns (szS N o y)=E/\lyM ns (szS N o y)=NS):=⟨eR,eE,U⟩
 rw [eR,eE,U];clear he H ag HX af h hy hT hG hl eN eR eE U;go_enter Tryz.func43,Tryz.ntmps43;go_wp2_with fail
 refine V.mono ?_;rintro e M ⟨rfl,D⟩;have ad:Hid (Below w.heap.size w M):=D;clear D V;go_wp2_with fail
 refine (aa.out M ad.out).mono ?_;rintro e w2 ⟨rfl,rfl⟩;clear aa;go_wp2_with fail
 refine (e_F p n c w2 hn).mono ?_;rintro e w3 ⟨g3,rfl,h3,ai⟩;have H3:Hid (OwnK .i64 3 w3 w2.heap.size (.slice (some ⟨g3,0,none⟩) 1 1) [(n:Int)]/\Below w.heap.size w w3):=⟨h3,a_c ad.out ai⟩
 clear h3 ai;go_wp2_with fail
 generalize hK:World.alloc _ _=K;have O:Below w3.heap.size w3 K:=by rw [<- hK];exact a_b w3 _
 have hL:K.heap[w3.heap.size]?=some (.cells [.int .i64 1,.int .i64 0,.int .i64 0,.int .i64 0,.slice (some ⟨g3,0,none⟩) 1 1,.slice p n c,.int .i64 3,.int .i64 o,.int .i64 N,.int .i64 0,.slice none 0 0,.slice none 0 0,.int .i64 11,.int .i64 (N+1),.int .i64 0,.int .i64 4,.slice none 0 0,.slice none 0 0,.int .i64 10,.int .i64 (N+2),.int .i64 0,.int .i64 0,.slice none 0 0,.slice none 0 0].toArray 136 (0,0)):=by rw [<- hK];exact heap_alloc_new _ _
 have hb:Below w.heap.size w K:=a_c H3.out.2 O;have L:Below B w K:=hb.mono HZ.out
 have cl:=h_h B I ns HT.out.2.1 (szS N o y) HS.out HT.out.2.2 w3.heap.size 4 _ rfl (by omega) K (HT.out.1.up hb) (show Hid _ from fun W hW=>ah.out W (L.trans hW)) hL (fun i hi=>by
  match i,hi with
  | 0,_=>exact ⟨_,_,_,_,_,_,rfl,rfl,rfl,rfl,rfl,rfl,by show KeptL _ _ _ [(y.length:Int)];rw [HY.out.2.1];exact (H3.out.1.up O).keptL (by decide),HY.out.2.2.up L (Only.of hb)⟩
  | 1,_=>exact ⟨_,_,_,_,_,_,rfl,rfl,rfl,rfl,rfl,rfl,KeptL.nil _ _,KeptL.nil _ _⟩
  | 2,_=>exact ⟨_,_,_,_,_,_,rfl,rfl,rfl,rfl,rfl,rfl,KeptL.nil _ _,KeptL.nil _ _⟩
  | 3,_=>exact ⟨_,_,_,_,_,_,rfl,rfl,rfl,rfl,rfl,rfl,KeptL.nil _ _,KeptL.nil _ _⟩)
 have HK:Hid (Below w.heap.size w K):=hb;rw [J.out.1,J.out.2.1,J.out.2.2] at cl;clear hK O hL hb L HS J;refine cl.mono ?_;rintro e w5 ⟨rfl,ab,aj,ae,ac⟩;have HF:Hid (TapC w5 B I NS/\Below B w w5/\Only SC w w5/\Spar2 I w w5):=⟨ab,(HK.out.mono HZ.out).trans aj,(Only.of HK.out).trans ae,Spar2.trans (Spar2.of HK.out) ac HK.out.size⟩
 clear ab aj ae ac cl;go_wp2;go_ret2;exact ⟨rfl,HF.out⟩
theorem p_u {m:Nat} {a c t:Int} (H:InR a) (D:InR t):RI (j_X m a c t):=fun y I=>by
 rcases List.mem_or_eq_of_mem_set I with h|h
 ·rw [(List.mem_replicate.1 h).2];exact H
 ·rw [h];exact D
theorem d_E (m:Nat) (a c t:Int):(j_X m a c t).length=m:=by simp [j_X]
theorem k_Z (B L:Nat) (ns:List Nd) (hG:NodesG ns) (hl:ns.length<=512) (o cl:Int) (w:World) (hT:TapC w B L ns) (am:Hid (∀ W,Below B w W->Tz W)):
  Calls Tryz.prog 44 #[.pointer (some ⟨L,0,none⟩),.int .i64 o,.int .i64 cl] w fun e w'=>e = .returned (.tuple #[.int .i64 (loR (i_I ns o cl) ns (hgS (ns.length:Int) o (m_q ns o cl) cl)),.int .i64 (loE (i_I ns o cl) ns (hgS (ns.length:Int) o (m_q ns o cl) cl))])/\TapC w' B L (loN (i_I ns o cl) ns (hgS (ns.length:Int) o (m_q ns o cl) cl))/\Below B w w'/\Only SC w w'/\Spar2 L w w':=by
 haveI:Nonempty World:=⟨w⟩
 have HZ:Hid (B<=w.heap.size):=by
  obtain ⟨hb,v,xs,hv,_⟩:=hT;exact Nat.le_trans hb (Nat.le_of_lt (a_i hv))
 have U:=o_R B L ns hG o cl w hT;have HT:Hid (TapC w B L ns/\NodesG ns/\ns.length<=512):=⟨hT,hG,hl⟩
 by_cases he:i_I ns o cl=0
 case neg=>
  have e0:∀ n,loR (i_I ns o cl) ns (hgS (ns.length:Int) o n cl)=0:=fun n=>if_neg he;have e1:∀ n,loE (i_I ns o cl) ns (hgS (ns.length:Int) o n cl)=i_I ns o cl:=fun n=>if_neg he;have e2:∀ n,loN (i_I ns o cl) ns (hgS (ns.length:Int) o n cl)=ns:=fun n=>if_neg he;rw [e0,e1,e2];have e3:m_q ns o cl=0:=if_neg he;rw [e3] at U;obtain ⟨E,eE⟩:∃ E,i_I ns o cl=E:=⟨_,rfl⟩
  rw [eE] at U he ⊢;have au:(E != 0)=true:=by simpa using he
  clear eE he hT hG am e0 e1 e2 e3;go_enter Tryz.func44,Tryz.ntmps44;go_wp2_with fail
  refine U.mono ?_;rintro e w1 ⟨rfl,I⟩;have HF:Hid (TapC w1 B L ns/\Below B w w1/\Only SC w w1/\Spar2 L w w1):=⟨HT.out.1.up I,I.mono HZ.out,Only.of I,Spar2.of I⟩
  clear I U;go_wp2;go_ret2;exact ⟨rfl,HF.out⟩
 have ho:0<=o/\o < (ns.length:Int):=by
  by_cases h':0<=o/\o < (ns.length:Int)
  ·exact h'
  ·exact absurd ((if_neg h').symm.trans he) (by decide)
 have ao:0<=cl/\cl < ((ndN ns o).X.length:Int):=by
  by_cases h':(ndN ns o).D.length=1/\0<=cl/\cl < ((ndN ns o).X.length:Int)
  ·exact h'.2
  ·exact absurd (((if_pos ho).trans (if_neg h')).symm.trans he) (by decide)
 have ap:(ndN ns o).X.length<=4096:=by
  have:=(hG.at ho.1 ho.2).1;rw [this.2];exact this.1.2.2
 have en:m_q ns o cl=(ndN ns o).X.length:=if_pos he;rw [he] at U ⊢;obtain ⟨n,aa⟩:∃ n,m_q ns o cl=n:=⟨_,rfl⟩
 rw [aa] at U ⊢;rw [aa] at en;have hn:1<=n/\n<=4096:=by omega
 obtain ⟨H,rfl⟩:∃ H:Nat,cl=(H:Int):=⟨cl.toNat,by omega⟩
 have af:H < n:=by omega
 rw [show loR 0 ns (hgS (ns.length:Int) o n (H:Int))=lyR ns (hgS (ns.length:Int) o n (H:Int)) from rfl,show loE 0 ns (hgS (ns.length:Int) o n (H:Int))=lyE ns (hgS (ns.length:Int) o n (H:Int)) from rfl,show loN 0 ns (hgS (ns.length:Int) o n (H:Int))=lyM ns (hgS (ns.length:Int) o n (H:Int)) from rfl];obtain ⟨N,eN⟩:∃ N:Int,(ns.length:Int)=N:=⟨_,rfl⟩
 have hN:0<=N/\N<=512:=by omega
 have hO:0<=o/\o < N:=by omega
 have ab:Hid (∀ W,Below w.heap.size w W->Calls Tryz.prog 40 #[.pointer (some ⟨L,0,none⟩)] W fun e w'=>e = .returned (.int .i64 N)/\w'=W):=fun W hW=>by
  rw [<- eN];exact d_B B L ns W (hT.up hW)
 rw [eN]
 have HS:Hid (∀ i,i < (hgS N o n (H:Int)).length->StpOk (stA (hgS N o n (H:Int)) i)):=fun i hi=>by
  match i,hi with
  | 0,_=>exact e_4 (p_u (by unfold InR;omega) (by unfold InR;omega)) (by rw [d_E];exact hn.2)
  | 1,_=>exact e_4 (p_u (by unfold InR;omega) (by unfold InR;omega)) (by rw [d_E];exact hn.2)
  | 2,_=>exact c_F (by omega) (by unfold InR;omega) (by unfold InR;omega) (by unfold InR;omega)
  | 3,_=>exact c_F (by omega) (by unfold InR;omega) (by unfold InR;omega) (by unfold InR;omega)
  | 4,_=>exact c_F (by omega) (by unfold InR;omega) (by unfold InR;omega) (by unfold InR;omega)
  | 5,_=>exact c_F (by omega) (by unfold InR;omega) (by unfold InR;omega) (by unfold InR;omega)
  | 6,_=>exact c_F (by omega) (by unfold InR;omega) (by unfold InR;omega) (by unfold InR;omega)
  | 7,_=>exact c_F (by omega) (by unfold InR;omega) (by unfold InR;omega) (by unfold InR;omega)
  | 8,_=>exact c_F (by omega) (by unfold InR;omega) (by unfold InR;omega) (by unfold InR;omega)
 have ar:(n:Int)<=4096/\1<=(n:Int):=by omega
 have aq:(H:Int) < (n:Int):=by omega
 obtain ⟨R,eR⟩:∃ R,lyR ns (hgS N o n (H:Int))=R:=⟨_,rfl⟩
 obtain ⟨E,eE⟩:∃ R,lyE ns (hgS N o n (H:Int))=R:=⟨_,rfl⟩
 obtain ⟨NS,ad⟩:∃ R,lyM ns (hgS N o n (H:Int))=R:=⟨_,rfl⟩
 have O:Hid (lyR ns (hgS N o n (H:Int))=R/\lyE ns (hgS N o n (H:Int))=E/\lyM ns (hgS N o n (H:Int))=NS):=⟨eR,eE,ad⟩
 rw [eR,eE,ad];clear he ho ao ap en aa hT hG hl eN eR eE ad;go_enter Tryz.func44,Tryz.ntmps44;go_wp2_with fail
 refine U.mono ?_;rintro e w1 ⟨rfl,I⟩;have ac:Hid (Below w.heap.size w w1):=I;clear I U;go_wp2_with fail
 refine (ab.out w1 ac.out).mono ?_;rintro e w2 ⟨rfl,rfl⟩;go_wp2_with fail
 refine (ab.out w2 ac.out).mono ?_;rintro e ae ⟨rfl,rfl⟩;clear ab;go_wp2_with fail
 refine (f_Q n hn 0 (-4294967296) H af ae).mono ?_;rintro e w3 ⟨g3,f3,c3,rfl,h3,k3,an⟩;have H3:Hid (OwnK .i64 3 w3 ae.heap.size (.slice (some ⟨g3,0,none⟩) 1 1) [(n:Int)]/\OwnK .i64 23 w3 ae.heap.size (.slice (some ⟨f3,0,none⟩) n c3) (j_X n 0 (H:Int) (-4294967296))/\Below w.heap.size w w3):=⟨h3,k3,a_c ac.out an⟩
 clear h3 k3 an;go_wp2_with fail
 refine (f_Q n hn 4294967296 0 H af w3).mono ?_;rintro e V ⟨g4,f4,c4,rfl,h4,k4,ai⟩;have H4:Hid (OwnK .i64 3 V w3.heap.size (.slice (some ⟨g4,0,none⟩) 1 1) [(n:Int)]/\OwnK .i64 23 V w3.heap.size (.slice (some ⟨f4,0,none⟩) n c4) (j_X n 4294967296 (H:Int) 0)/\Below w3.heap.size w3 V):=⟨h4,k4,ai⟩
 clear h4 k4 ai;go_wp2_with fail
 generalize hK:World.alloc _ _=K;have J:Below V.heap.size V K:=by rw [<- hK];exact a_b V _
 have hL:K.heap[V.heap.size]?=some (.cells [.int .i64 1,.int .i64 0,.int .i64 0,.int .i64 0,.slice (some ⟨g3,0,none⟩) 1 1,.slice (some ⟨f3,0,none⟩) n c3,.int .i64 1,.int .i64 0,.int .i64 0,.int .i64 0,.slice (some ⟨g4,0,none⟩) 1 1,.slice (some ⟨f4,0,none⟩) n c4,.int .i64 4,.int .i64 o,.int .i64 N,.int .i64 0,.slice none 0 0,.slice none 0 0,.int .i64 9,.int .i64 (N+2),.int .i64 0,.int .i64 0,.slice none 0 0,.slice none 0 0,.int .i64 2,.int .i64 o,.int .i64 (N+3),.int .i64 0,.slice none 0 0,.slice none 0 0,.int .i64 2,.int .i64 (N+4),.int .i64 (N+1),.int .i64 0,.slice none 0 0,.slice none 0 0,.int .i64 11,.int .i64 (N+5),.int .i64 0,.int .i64 1,.slice none 0 0,.slice none 0 0,.int .i64 4,.int .i64 (N+6),.int .i64 (N+1),.int .i64 0,.slice none 0 0,.slice none 0 0,.int .i64 9,.int .i64 (N+7),.int .i64 0,.int .i64 0,.slice none 0 0,.slice none 0 0].toArray 136 (0,0)):=by rw [<- hK];exact heap_alloc_new _ _
 have M:Below w3.heap.size w3 K:=a_c H4.out.2.2 J;have hb:Below w.heap.size w K:=a_c H3.out.2.2 M;have ag:Below B w K:=hb.mono HZ.out
 have cl:=h_h B L ns HT.out.2.1 (hgS N o n (H:Int)) HS.out HT.out.2.2 V.heap.size 9 _ rfl (by omega) K (HT.out.1.up hb) (show Hid _ from fun W hW=>am.out W (ag.trans hW)) hL (fun i hi=>by
  match i,hi with
  | 0,_=>exact ⟨_,_,_,_,_,_,rfl,rfl,rfl,rfl,rfl,rfl,by show KeptL _ _ _ [((j_X n 0 (H:Int) (-4294967296)).length:Int)];rw [d_E];exact (H3.out.1.up M).keptL (by decide),(H3.out.2.1.up M).keptL (by decide)⟩
  | 1,_=>exact ⟨_,_,_,_,_,_,rfl,rfl,rfl,rfl,rfl,rfl,by show KeptL _ _ _ [((j_X n 4294967296 (H:Int) 0).length:Int)];rw [d_E];exact (H4.out.1.up J).keptL (by decide),(H4.out.2.1.up J).keptL (by decide)⟩
  | 2,_=>exact ⟨_,_,_,_,_,_,rfl,rfl,rfl,rfl,rfl,rfl,KeptL.nil _ _,KeptL.nil _ _⟩
  | 3,_=>exact ⟨_,_,_,_,_,_,rfl,rfl,rfl,rfl,rfl,rfl,KeptL.nil _ _,KeptL.nil _ _⟩
  | 4,_=>exact ⟨_,_,_,_,_,_,rfl,rfl,rfl,rfl,rfl,rfl,KeptL.nil _ _,KeptL.nil _ _⟩
  | 5,_=>exact ⟨_,_,_,_,_,_,rfl,rfl,rfl,rfl,rfl,rfl,KeptL.nil _ _,KeptL.nil _ _⟩
  | 6,_=>exact ⟨_,_,_,_,_,_,rfl,rfl,rfl,rfl,rfl,rfl,KeptL.nil _ _,KeptL.nil _ _⟩
  | 7,_=>exact ⟨_,_,_,_,_,_,rfl,rfl,rfl,rfl,rfl,rfl,KeptL.nil _ _,KeptL.nil _ _⟩
  | 8,_=>exact ⟨_,_,_,_,_,_,rfl,rfl,rfl,rfl,rfl,rfl,KeptL.nil _ _,KeptL.nil _ _⟩)
 have HK:Hid (Below w.heap.size w K):=hb;rw [O.out.1,O.out.2.1,O.out.2.2] at cl;clear hK J hL hb ag M HS O;refine cl.mono ?_;rintro e w5 ⟨rfl,ah,J,ak,aj⟩;have HF:Hid (TapC w5 B L NS/\Below B w w5/\Only SC w w5/\Spar2 L w w5):=⟨ah,(HK.out.mono HZ.out).trans J,(Only.of HK.out).trans ak,Spar2.trans (Spar2.of HK.out) aj HK.out.size⟩
 clear ah J ak aj cl;go_wp2;go_ret2;exact ⟨rfl,HF.out⟩
/-- A row of tensors in a block, cell by cell. -/
def TsK (W:World) (B:Nat) (l:List Ten) (xs:List Value):Prop:=xs.length=l.length*2/\∀ i t,l[i]?=some t->∃ s u,xs[i*2]?=some s/\xs[i*2+1]?=some u/\OwnK .i64 3 W B s t.1/\OwnK .i64 23 W B u t.2
theorem TsK.only {S:List TypeId} {W W':World} {B:Nat} {l:List Ten} {xs:List Value} (h:TsK W B l xs) (D:Only S W W') (H:3∉S) (J:23∉S):TsK W' B l xs:=⟨h.1,fun i t R=>by
 obtain ⟨s,u,L,M,O,I⟩:=h.2 i t R;exact ⟨s,u,L,M,O.only D H,I.only D J⟩⟩
theorem TsK.set {W:World} {B:Nat} {l:List Ten} {xs:List Value} (h:TsK W B l xs) {j:Nat} (H:j < l.length) {s u:Value} {t:Ten} (V:OwnK .i64 3 W B s t.1) (hu:OwnK .i64 23 W B u t.2):TsK W B (l.set j t) ((xs.set (j*2) s).set (j*2+1) u):=by
 have hl:=h.1;refine ⟨by simp [h.1],fun i M D=>?_⟩;rw [List.getElem?_set] at D;by_cases e:j=i
 ·subst e;rw [if_pos rfl,if_pos H] at D;cases D;refine ⟨s,u,?_,?_,V,hu⟩
  ·rw [List.getElem?_set,if_neg (by omega),List.getElem?_set,if_pos rfl,if_pos (by omega)]
  ·rw [List.getElem?_set,if_pos rfl,if_pos (by rw [List.length_set];omega)]
 ·rw [if_neg e] at D;obtain ⟨U,I,L,O,R,J⟩:=h.2 i M D;refine ⟨U,I,?_,?_,R,J⟩
  ·rw [List.getElem?_set,if_neg (by omega),List.getElem?_set,if_neg (by omega)];exact L
  ·rw [List.getElem?_set,if_neg (by omega),List.getElem?_set,if_neg (by omega)];exact O
/-- A sweep on its way: the tape, the gradients so far, which nodes were given anything. -/
structure SwC (W:World) (B sb tb gb vb N:Nat) (l:List Ten) (gv:List Bool):Prop where
 hs:W.heap[sb]?=some (.cells #[.pointer (some ⟨tb,0,none⟩),.slice (some ⟨gb,0,none⟩) N N,.slice (some ⟨vb,0,none⟩) N N] 107 (0,0))
 hg:∃ xs,W.heap[gb]?=some (.cells xs.toArray 64 (0,0))/\TsK W B l xs
 hv:W.heap[vb]?=some (.cells (gv.map Value.bool).toArray 4 (0,0))
 bs:B<=sb/\B<=gb/\B<=vb
 ll:l.length=N
 lv:gv.length=N
theorem SwC.up {W W':World} {B I M L J N:Nat} {l:List Ten} {H:List Bool} (h:SwC W B I M L J N l H) (D:Below W.heap.size W W'):SwC W' B I M L J N l H:=by
 obtain ⟨xs,O,R⟩:=h.hg;exact ⟨(D.block _ (a_i h.hs)).trans h.hs,⟨xs,(D.block _ (a_i O)).trans O,R.only (S:=[]) (Only.of D) (by simp) (by simp)⟩,(D.block _ (a_i h.hv)).trans h.hv,h.bs,h.ll,h.lv⟩
theorem a_4 {W:World} {b i:Nat} {D:Array Value} {e:TypeId} {v:Value} (h:W.heap[b]?=some (.cells D e (0,0))) (H:D[i]?=some v):W.cell? ⟨b,i,none⟩=some v/\W.frozen? ⟨b,i,none⟩=false:=by
 constructor
 ·unfold World.cell?;simpa [h] using H
 ·unfold World.frozen?;simp [h]
theorem d_m {W:World} {b J:Nat} {O H:Array Value} {e L:TypeId} (h:W.heap[b]?=some (.cells O e (0,0))) (I:W.heap[J]?=some (.cells H L (0,0))) (D:e≠L):b≠J:=fun M=>by
 subst M;rw [h] at I;cases I;exact D rfl
theorem SwC.tape {W:World} {B D J I H N:Nat} {l:List Ten} {L:List Bool} (h:SwC W B D J I H N l L):W.cell? ⟨D,0,none⟩=some (.pointer (some ⟨J,0,none⟩))/\W.cell? ⟨D,1,none⟩=some (.slice (some ⟨I,0,none⟩) N N)/\W.cell? ⟨D,2,none⟩=some (.slice (some ⟨H,0,none⟩) N N):=
 ⟨(a_4 h.hs rfl).1,(a_4 h.hs rfl).1,(a_4 h.hs rfl).1⟩
theorem SwC.read {W:World} {B sb tb D L N:Nat} {l:List Ten} {V:List Bool} (h:SwC W B sb tb D L N l V) {i:Nat} {t:Ten} (R:l[i]?=some t):
  ∃ s u,(W.cell? ⟨D,i*2,none⟩=some s/\W.frozen? ⟨D,i*2,none⟩=false)/\(W.cell? ⟨D,i*2+1,none⟩=some u/\W.frozen? ⟨D,i*2+1,none⟩=false)/\OwnK .i64 3 W B s t.1/\OwnK .i64 23 W B u t.2:=by
 obtain ⟨xs,H,U⟩:=h.hg;obtain ⟨s,u,J,M,O,I⟩:=U.2 i t R;exact ⟨s,u,a_4 H (by simpa using J),a_4 H (by simpa using M),O,I⟩
theorem SwC.flag {W:World} {B I L J D N:Nat} {l:List Ten} {H:List Bool} (h:SwC W B I L J D N l H) {i:Nat} (M:i < N):W.cell? ⟨D,i,none⟩=some (.bool (H.getD i false))/\W.frozen? ⟨D,i,none⟩=false:=by
 refine a_4 h.hv ?_;have:=h.lv;rw [List.getElem?_toArray,List.getElem?_map,List.getD_eq_getElem?_getD,List.getElem?_eq_getElem (by omega)];rfl
theorem SwC.set {W:World} {B J U D I N:Nat} {l:List Ten} {L:List Bool} (h:SwC W B J U D I N l L) {j:Nat} (V:j < N) {s u:Value} {t:Ten} (hs:OwnK .i64 3 W B s t.1) (hu:OwnK .i64 23 W B u t.2):SwC ((W.setCell ⟨D,j*2,none⟩ s).setCell ⟨D,j*2+1,none⟩ u) B J U D I N (l.set j t) L:=by
 obtain ⟨xs,H,hk⟩:=h.hg;have O:J≠D:=d_m h.hs H (by decide);have M:I≠D:=d_m h.hv H (by decide);have o1:=Only.set (S:=[64]) (o:=j*2) (x:=s) H (by simp);have R:=a_m (o:=j*2) (x:=s) H;have o2:=Only.set (S:=[64]) (o:=j*2+1) (x:=u) R (by simp);have x2:=a_m (o:=j*2+1) (x:=u) R;refine ⟨?_,⟨(xs.set (j*2) s).set (j*2+1) u,?_,(hk.set (by rw [h.ll];exact V) hs hu).only (o1.trans o2) (by decide) (by decide)⟩,?_,h.bs,by rw [List.length_set];exact h.ll,h.lv⟩
 ·rw [a_T _ _ _ _ _ O,a_T _ _ _ _ _ O];exact h.hs
 ·rw [x2];simp
 ·rw [a_T _ _ _ _ _ M,a_T _ _ _ _ _ M];exact h.hv
theorem SwC.mark {W:World} {B I M H D N:Nat} {l:List Ten} {L:List Bool} (h:SwC W B I M H D N l L) (j:Nat):SwC (W.setCell ⟨D,j,none⟩ (.bool true)) B I M H D N l (L.set j true):=by
 obtain ⟨xs,J,O⟩:=h.hg;have V:I≠D:=d_m h.hs h.hv (by decide);have U:H≠D:=d_m J h.hv (by decide);have R:=Only.set (S:=[4]) (o:=j) (x:=.bool true) h.hv (by simp);refine ⟨?_,⟨xs,?_,O.only R (by decide) (by decide)⟩,?_,h.bs,h.ll,by rw [List.length_set];exact h.lv⟩
 ·rw [a_T _ _ _ _ _ V];exact h.hs
 ·rw [a_T _ _ _ _ _ U];exact J
 ·rw [a_m h.hv];simp [List.map_set]
/-- All that stood stands but two blocks. -/
def But2 (x y:Nat) (W W':World):Prop:=W.heap.size<=W'.heap.size/\∀ k,k < W.heap.size->k≠x->k≠y->W'.heap[k]?=W.heap[k]?
theorem But2.of {x y:Nat} {W W':World} (h:Below W.heap.size W W'):But2 x y W W':=⟨h.size,fun k D _ _=>h.block k D⟩
theorem But2.set {x y:Nat} {W W':World} (h:But2 x y W W') {b o:Nat} {v:Value} (hb:b=x∨b=y):But2 x y W (W'.setCell ⟨b,o,none⟩ v):=⟨by simpa using h.1,fun k D H I=>by
 rw [a_T _ _ _ _ _ (by rcases hb with rfl|rfl <;> assumption)];exact h.2 k D H I⟩
theorem But2.up {x y:Nat} {W W' D:World} (h:But2 x y W W') (I:Below W'.heap.size W' D):But2 x y W D:=⟨Nat.le_trans h.1 I.size,fun k H J L=>(I.block k (Nat.lt_of_lt_of_le H h.1)).trans (h.2 k H J L)⟩
theorem But2.only {x y:Nat} {W W':World} (h:But2 x y W W') {O H:Array Value} {e J:TypeId} (M:W.heap[x]?=some (.cells O e (0,0))) (R:W.heap[y]?=some (.cells H J (0,0))):Only [e,J] W W':=⟨h.1,fun k L I=>h.2 k L (fun D=>by subst D;exact I _ _ _ M (by simp)) (fun D=>by subst D;exact I _ _ _ R (by simp))⟩
theorem q_4 (n:Int) (D:n < 0) (L:Nat) (U R:Option Addr) (J M I H:Nat) (w:World):
  Calls Tryz.prog 69 #[.pointer (some ⟨L,0,none⟩),.int .i64 n,.agg #[.slice U J M,.slice R I H]] w fun e O=>e = .returned (.int .i64 0)/\Below w.heap.size w O:=by
 have V:decide (n < 0)=true:=decide_eq_true D;clear D;go_enter Tryz.func69,Tryz.ntmps69;go_wp2;exact bodyPost_ret (v:=.int .i64 0) (by simp [results,Tryz.results69,go_sem]) rfl ⟨rfl,a_b _ _⟩
theorem o_S (B sb tb D vb N:Nat) (l:List Ten) (gv:List Bool) (j:Nat) (hj:j < N) (t p:Ten) (ht:l[j]?=some t) (gt:b_b t) (gp:b_b p) (ep:p.1=t.1) (p1 q1:Option Addr) (n1 c1 m1 e1:Nat) (w:World) (hS:SwC w B sb tb D vb N l gv) (hB:B<=w.heap.size) (h1:Nums .i64 w (.slice p1 n1 c1) p.1) (h2:Nums .i64 w (.slice q1 m1 e1) p.2):
  Calls Tryz.prog 69 #[.pointer (some ⟨sb,0,none⟩),.int .i64 (j:Int),.agg #[.slice p1 n1 c1,.slice q1 m1 e1]] w fun e w'=>e = .returned (.int .i64 0)/\SwC w' B sb tb D vb N (l.set j (q_y t p)) (gv.set j true)/\Below B w w'/\But2 D vb w w':=by
 obtain ⟨A,eA⟩:∃ A,q_y t p=A:=⟨_,rfl⟩
 have hE:b_u t.1 t.2 p.1 p.2=0:=by
  obtain ⟨a,ga,ea⟩:=b_k gt.1.1;obtain ⟨f,jj⟩:=f_k a;obtain ⟨k1,k2⟩:=b_o ga ga f (by rw [jj];exact ga);exact (if_pos ⟨gt.1,gp.1⟩).trans (by rw [ep,ea];exact k2)
 obtain ⟨s,u,⟨c0,f0⟩,⟨d0,g0⟩,hs,hu⟩:=hS.read ht;obtain ⟨p3,n3,c3,rfl⟩:=hs.form_;obtain ⟨q3,m3,e3,rfl⟩:=hu.form_
 have cA:Hid (∀ W,Below w.heap.size w W->Calls Tryz.prog 90 #[.agg #[.slice p3 n3 c3,.slice q3 m3 e3],.agg #[.slice p1 n1 c1,.slice q1 m1 e1]] W fun e w'=>∃ v',e = .returned (.tuple #[v',.int .i64 0])/\TRes w' W.heap.size v' A.1 A.2/\Below W.heap.size W w'):=fun W hW=>by
  have:=g_P p3 q3 p1 q1 n3 c3 m3 e3 n1 c1 m1 e1 t.1 t.2 p.1 p.2 gt.2.1 gt.2.2 gp.2.1 gp.2.2 W (hs.nums.up hW) (hu.nums.up hW) (h1.up hW) (h2.up hW);rw [hE] at this;rw [<- eA];exact this
 rw [eA];obtain ⟨b0,b1,b2⟩:=hS.tape;have HS:Hid (SwC w B sb tb D vb N l gv/\B<=w.heap.size):=⟨hS,hB⟩
 have HC:Hid ((w.cell? ⟨sb,1,none⟩=some (.slice (some ⟨D,0,none⟩) N N))/\w.cell? ⟨D,j*2,none⟩=some (.slice p3 n3 c3)/\w.cell? ⟨D,j*2+1,none⟩=some (.slice q3 m3 e3)):=⟨b1,c0,d0⟩
 have aw:(j:Int) < (N:Int):=by omega
 have d1:decide ((j:Int) < 0)=false:=decide_eq_false (by omega);haveI:Nonempty World:=⟨w⟩
 clear eA hE hs hu h1 h2 gt gp ep ht hS hB b0 b1 b2 c0 d0 f0 g0;go_enter Tryz.func69,Tryz.ntmps69;go_wp2_with fail
 generalize ad:World.alloc _ _=W0;have R:=b_C (w:=w) ad (by go_grown);have XP:Hid (Cel W0 w.heap.size (.slice p1 n1 c1) (.slice q1 m1 e1)):=a_y ad (by simp [go_sem]);clear ad;have b1:=a_d HC.out.1 R.out;have c0:=a_d HC.out.2.1 R.out;have aq:=a_d HC.out.2.2 R.out;obtain ⟨x0,x1,_,_⟩:=XP.out;have kb:=a_a b1;have kc:=a_a c0;have kx:=a_a x0;refine l_v [⟨8,20,TupP W0.heap.size A.1 A.2 0⟩,⟨9,11,TupP W0.heap.size A.1 A.2 0⟩,⟨10,21,OwnT W0.heap.size A.1 A.2⟩,⟨12,7,NewC W0.heap.size⟩] 13 39 (by kernel_rfl) rfl rfl 11 _ rfl (by decide) rfl (by kernel_rfl) (by kernel_rfl) (fun _ _ _ _ h=>h) (by rfl) ?_ ?_
 ·intro e he v W W' h hb;simp only [List.mem_cons,List.not_mem_nil,or_false] at he;rcases he with rfl|rfl|rfl|rfl
  ·exact TupP.up h hb
  ·exact TupP.up h hb
  ·exact OwnT.up h hb
  ·exact NewC.up h hb
 apply Exists.intro;refine ⟨?yl1,?wk1,?pk1,?rest1⟩
 case wk1=>
  intro x;simp only [List.take_succ_cons,List.take_zero]
  iterate 8
   refine a_n rfl rfl ?_;apply Exists.intro;refine ⟨fun F hF hf K hK=>?_,?_⟩
   ·have hFc:=hF.cell;have hFf:=hF.frozen
    go_big_quiet_op
    first|exact hK|(apply Exists.intro;refine ⟨fun _=>?_,?_⟩;(· fail);exact hK)
   (try simp only [Act.put,sA_,sB_,sC_])
  refine a_p rfl rfl ?_ ?_
  ·intro F hF hf d;have hFc:=hF.cell;have hFf:=hF.frozen;simp [a_k,a_g,go_sem];refine (cA.out (F d) (a_c R.out (hF.below d))).mono ?_;rintro e' w8 ⟨v8,rfl,h8,am⟩;exact ⟨_,rfl,⟨v8,rfl,(h8.low (hF.below d).size).own⟩,am⟩
  (try simp only [Act.put,sA_,sB_,sC_])
  refine a_p rfl rfl ?_ ?_
  ·intro F hF hf d;have hFc:=hF.cell;have hFf:=hF.frozen;have h9:=hf _ List.mem_cons_self (by rfl) d;simp [a_k,a_g,go_sem];exact ⟨h9,Below.refl _ _⟩
  (try simp only [Act.put,sA_,sB_,sC_])
  refine a_p rfl rfl ?_ ?_
  ·intro F hF hf d;have hFc:=hF.cell;have hFf:=hF.frozen;have h9:=hf _ (List.mem_cons_of_mem _ List.mem_cons_self) (by rfl) d;obtain ⟨u9,e9,o9⟩:=h9;simp only [] at e9;simp [a_k,a_g,go_sem,e9];exact ⟨o9,Below.refl _ _⟩
  (try simp only [Act.put,sA_,sB_,sC_])
  refine a_n rfl rfl ?_;apply Exists.intro;refine ⟨fun F hF hf K hK=>?_,?_⟩
  ·have hFc:=hF.cell;have hFf:=hF.frozen;have h9:=hf _ (List.mem_cons_of_mem _ List.mem_cons_self) (by rfl);obtain ⟨u9,e9,_⟩:=h9 W0;simp only [] at e9
   go_big_quiet_op
   first|exact hK|(apply Exists.intro;refine ⟨fun _=>?_,?_⟩;(· fail);exact hK)
  (try simp only [Act.put,sA_,sB_,sC_])
  refine a_p rfl rfl ?_ ?_
  ·intro F hF hf d;have hFc:=hF.cell;have hFf:=hF.frozen;simp [a_k,a_g,go_sem];exact ⟨⟨(F d).heap.size,rfl,by show ((F d).heap.push _)[(F d).heap.size]?=_;simp,(hF.below d).size⟩,a_b _ _⟩
  (try simp only [Act.put,sA_,sB_,sC_])
  refine b_f ?_;exact rfl
 case pk1=>
  intro x;simp only [b_n,List.foldl_cons,List.foldl_nil,Act.put,sA_,sB_,sC_]
 case yl1=>
  intro x hx;obtain ⟨W9,u9,e9,_⟩:=hx _ (List.mem_cons_of_mem _ List.mem_cons_self) (by rfl);simp only [] at e9;refine ⟨.int .i64 0,fun t ht=>?_,.inl ⟨by rfl,fun w=>?_⟩⟩
  ·cases ht;rfl
  ·simp [execOp,Act.eval,e9,go_sem]
 intro z1 xs ac hf;simp only [List.drop_succ_cons,List.drop_zero];obtain ⟨L,M,O,I,H,J,ev,o1,o2⟩:=hf _ (List.mem_cons_of_mem _ (List.mem_cons_of_mem _ List.mem_cons_self));obtain ⟨g6,eb,ab,ai⟩:=hf _ (List.mem_cons_of_mem _ (List.mem_cons_of_mem _ (List.mem_cons_of_mem _ List.mem_cons_self)));simp only [] at ev eb;obtain ⟨x8,e8⟩:∃ q,xs 8=q:=⟨_,rfl⟩
 obtain ⟨x9,e9⟩:∃ q,xs 9=q:=⟨_,rfl⟩
 simp only [ev,eb,e8,e9];have f1:=o1.off_type ab (by decide);have f2:=o2.off_type ab (by decide);have ae:Below W0.heap.size W0 (set2 z1 g6 (.slice L M O) (.slice I H J)):=a_7 ac g6 ai _ _;have ah:SwC (set2 z1 g6 (.slice L M O) (.slice I H J)) B sb tb D vb N l gv:=(HS.out.1.up R.out).up ae;have q1:OwnK .i64 3 (set2 z1 g6 (.slice L M O) (.slice I H J)) B (.slice L M O) A.1:=(o1.stay (Stay.set2 _ _ _) f1).low (by have:=R.out.size;have:=HS.out.2;omega);have q2:OwnK .i64 23 (set2 z1 g6 (.slice L M O) (.slice I H J)) B (.slice I H J) A.2:=(o2.stay (Stay.set2 _ _ _) f2).low (by have:=R.out.size;have:=HS.out.2;omega);have aj:Below w.heap.size w (set2 z1 g6 (.slice L M O) (.slice I H J)):=a_c R.out ae;have ag:Cel (set2 z1 g6 (.slice L M O) (.slice I H J)) g6 (.slice L M O) (.slice I H J):=(c_o ab).set _ _;have V:Hid ((SwC (set2 z1 g6 (.slice L M O) (.slice I H J)) B sb tb D vb N l gv/\OwnK .i64 3 (set2 z1 g6 (.slice L M O) (.slice I H J)) B (.slice L M O) A.1/\OwnK .i64 23 (set2 z1 g6 (.slice L M O) (.slice I H J)) B (.slice I H J) A.2)/\Below w.heap.size w (set2 z1 g6 (.slice L M O) (.slice I H J))/\Cel (set2 z1 g6 (.slice L M O) (.slice I H J)) g6 (.slice L M O) (.slice I H J)):=⟨⟨ah,q1,q2⟩,aj,ag⟩
 obtain ⟨y0,y1,y2,y3⟩:=c_o ab;have cz:=a_a y0;clear hf ev eb e8 e9 f1 f2 o1 o2 cA b1 c0 aq x0 x1 kb kc kx ae ah q1 q2 aj ag ac ab ai HC XP R;go_wp2_with fail
 obtain ⟨W1,af⟩:∃ W1,(set2 z1 g6 (.slice L M O) (.slice I H J))=W1:=⟨_,rfl⟩
 rw [show ((z1.setCell ⟨g6,0,none⟩ (.slice L M O)).setCell ⟨g6,1,none⟩ (.slice I H J))=W1 from af];rw [af] at V;clear af y0 y1 y2 y3 cz;obtain ⟨y0,y1,_,_⟩:=V.out.2.2;have cz:=a_a y0;obtain ⟨b0,b1,b2⟩:=V.out.1.1.tape;have kb:=a_a b1;obtain ⟨av,aa,ak⟩:=V.out.1.1.hg;have ao:=ak.1;have an:=V.out.1.1.ll;obtain ⟨va,i0,i1⟩:∃ va,W1.cell? ⟨D,j*2,none⟩=some va/\W1.frozen? ⟨D,j*2,none⟩=false:=⟨_,a_4 aa (by rw [List.getElem?_toArray];exact List.getElem?_eq_getElem (by omega))⟩
 obtain ⟨vc,i2,i3⟩:∃ va,W1.cell? ⟨D,j*2+1,none⟩=some va/\W1.frozen? ⟨D,j*2+1,none⟩=false:=⟨_,a_4 aa (by rw [List.getElem?_toArray];exact List.getElem?_eq_getElem (by omega))⟩
 obtain ⟨v0,v1⟩:=V.out.1.1.flag hj;have kg:=a_a i0;have kv:=a_a v0;have ax:D≠vb:=d_m aa V.out.1.1.hv (by decide);have ar:sb≠D:=d_m V.out.1.1.hs aa (by decide);have au:sb≠vb:=d_m V.out.1.1.hs V.out.1.1.hv (by decide)
 have HZ:Hid (SwC (((W1.setCell ⟨D,j*2,none⟩ (.slice L M O)).setCell ⟨D,j*2+1,none⟩ (.slice I H J)).setCell ⟨vb,j,none⟩ (.bool true)) B sb tb D vb N (l.set j A) (gv.set j true)/\Below B w (((W1.setCell ⟨D,j*2,none⟩ (.slice L M O)).setCell ⟨D,j*2+1,none⟩ (.slice I H J)).setCell ⟨vb,j,none⟩ (.bool true))/\But2 D vb w (((W1.setCell ⟨D,j*2,none⟩ (.slice L M O)).setCell ⟨D,j*2+1,none⟩ (.slice I H J)).setCell ⟨vb,j,none⟩ (.bool true))):=by
  have h:=(V.out.1.1.set hj V.out.1.2.1 V.out.1.2.2).mark j;have bs:=V.out.1.1.bs;exact ⟨h,(((V.out.2.1.mono HS.out.2).setCell (p:=⟨D,j*2,none⟩) bs.2.1 _).setCell (p:=⟨D,j*2+1,none⟩) bs.2.1 _).setCell (p:=⟨vb,j,none⟩) bs.2.2 _,((((But2.of V.out.2.1).set (.inl rfl)).set (.inl rfl)).set (.inr rfl))⟩
 clear aa ak ao an;go_region;generalize hZ:World.drew _=Z
 have ap:Hid (SwC Z B sb tb D vb N (l.set j A) (gv.set j true)/\Below B w Z/\But2 D vb w Z):=by
  have d:∀ {U:World},U.drew=Z->Below U.heap.size U Z:=fun h=>by rw [<- h];exact c_T (Below.refl _ _)
  exact ⟨HZ.out.1.up (d hZ),HZ.out.2.1.trans ((d hZ).mono (Nat.le_trans HS.out.2 (by have:=V.out.2.1.size;simpa using this))),HZ.out.2.2.up (d hZ)⟩
 clear hZ HZ V;go_wp2;exact bodyPost_ret (v:=.int .i64 0) (by simp [results,Tryz.results69,go_sem]) rfl ⟨rfl,ap.out⟩
end Go.Proofs.YtjlofobnmjompaaGreatDoor.Wd
namespace Go.Proofs.YtjlofobnmjompaaGreatDoor.Wd
open Go.RowKit
/-- The block that a told value names: a pointer's; a row's; of several values the first's. -/
def t_Y (v:Value):Option Nat:=match v with
 | .pointer (some a)=>some a.block
 | .slice (some a) _ _=>some a.block
 | .tuple xs=>match (xs[0]?:Option Value) with
  | some (Value.slice (some a) _ _)=>some a.block
  | _=>none
 | _=>none
end Go.Proofs.YtjlofobnmjompaaGreatDoor.Wd
