/- The code's tape: its small functions, a copy of a tensor, a node more, Leaf. · The code's At and Value. · Tensors: what matm.Sum hands back. -/
import Derived.Test.YtpdkkcnmgiihcaaGreatDoorP13
import Derived.Test.YtpdkkcnmgiihcaaGreatDoorP09
import Derived.Test.YtpdkkcnmgiihcaaGreatDoorP11
import Derived.Test.YtpdkkcnmgiihcaaGreatDoorP10
set_option linter.unusedVariables false
set_option linter.unusedSimpArgs false
set_option maxHeartbeats 16000000
set_option maxRecDepth 16000
namespace Go.Proofs.YtpdkkcnmgiihcaaGreatDoor.Wd
open Go.RowKit Fx
def TapC (W:World) (B b:Nat) (ns:List Nd):Prop:=Tap 63 44 W B b ns
abbrev SC:List TypeId:=[63,44]
theorem TapC.up {W W':World} {B b:Nat} {ns:List Nd} (h:TapC W B b ns) (hB:Below W.heap.size W W'):TapC W' B b ns:=Tap.up h hB
theorem TapC.ref {W W':World} {B b:Nat} {ns:List Nd} (h:TapC W B b ns) (ho:Only [41,47] W W'):TapC W' B b ns:=Tap.only h ho (by decide) (by decide) (by decide) (by decide)
theorem ne_ct:44≠63:=by decide
def Spare (tb:Nat) (w w':World):Prop:=∀ x v,w.heap[tb]?=some (.cells #[v] 63 (0,0))→x≠tb→x < w.heap.size→v.ownBlock≠some x→w'.heap[x]?=w.heap[x]?∧∃ v',w'.heap[tb]?=some (.cells #[v'] 63 (0,0))∧v'.ownBlock≠some x
theorem Spare.of {tb:Nat} {w w':World} (h:Below w.heap.size w w'):Spare tb w w':=fun x v hv _ hx ho=>⟨h.block x hx,v,(h.block tb (heap_lt hv)).trans hv,ho⟩
theorem Spare.trans {tb:Nat} {a b c:World} (h:Spare tb a b) (h2:Spare tb b c):Spare tb a c:=fun x v hv hn hx ho=>by
 obtain ⟨e1,v',hv',ho'⟩:=h x v hv hn hx ho
 have hb:x < b.heap.size:=by
  rw [Array.getElem?_eq_getElem hx] at e1
  exact heap_lt e1
 obtain ⟨e2,r⟩:=h2 x v' hv' hn hb ho'
 exact ⟨e2.trans e1,r⟩
/-- No node's dims lie in block x. -/
def AvT (x:Nat) (W:World) (tb:Nat):Prop:=∃ v,W.heap[tb]?=some (.cells #[v] 63 (0,0))∧∀ g m c,v = .slice (some ⟨g,0,none⟩) m c→g < W.heap.size∧∀ i,i < m→∀ ad m' c',W.cell? ⟨g,i*6+4,none⟩=some (.slice (some ad) m' c')→ad.block≠x
def SpA (H tb:Nat) (w w':World):Prop:=∀ x,x < H→AvT x w tb→AvT x w' tb
theorem AvT.up {x tb:Nat} {W W':World} (h:AvT x W tb) (hB:Below W.heap.size W W'):AvT x W' tb:=by
 obtain ⟨v,hv,h⟩:=h
 refine ⟨v,(hB.block tb (heap_lt hv)).trans hv,fun g m c e=>?_⟩
 obtain ⟨hg,h2⟩:=h g m c e
 refine ⟨Nat.lt_of_lt_of_le hg hB.size,fun i hi ad m' c' hc=>h2 i hi ad m' c' ?_⟩
 unfold World.cell? at hc ⊢
 rw [← hB.block g hg]
 exact hc
theorem av_push {w6 w8:World} {B tb N cL c8 g8 x:Nat} {pL:Option Addr} {xs0 u:List Value} {s:Value} (hv6:w6.heap[tb]?=some (.cells #[.slice pL N cL] 63 (0,0))) (ho6:w6.ownsRow B 44 6 (.slice pL N cL) N xs0) (hl:xs0.length=N*6) (hv8:w8.heap[tb]?=some (.cells #[.slice pL N cL] 63 (0,0)))
  (ho8:w8.ownsRow B 44 6 (.slice (some ⟨g8,0,none⟩) (N+1) c8) (N+1) (xs0++u)) (hu:u[4]?=some s) (hs:∀ ad m c,s = .slice (some ad) m c→ad.block≠x) (hav:AvT x w6 tb):AvT x (w8.setCell ⟨tb,0,none⟩ (.slice (some ⟨g8,0,none⟩) (N+1) c8)) tb:=by
 obtain ⟨v,hv,hav⟩:=hav
 rw [hv6] at hv
 cases hv
 have hne:g8≠tb:=fun e=>owned_off ne_ct hv8 ho8 (by rw [← e];rfl)
 refine ⟨_,(heap_setat hv8).trans rfl,fun g m c e=>?_⟩
 cases e
 refine ⟨by have:=(World.ownsRow.lt ho8 g8 rfl).2;simpa using this,fun i hi ad m' c' hc=>?_⟩
 have hc2:w8.cell? ⟨g8,i*6+4,none⟩=some (.slice (some ad) m' c'):=by
  unfold World.cell? at hc ⊢
  rw [heap_set _ _ _ _ _ hne] at hc
  exact hc
 by_cases hi2:i < N
 ·have hj:i*6+4 < xs0.length:=by omega
  obtain ⟨z,hz⟩:∃ z,xs0[i*6+4]?=some z:=⟨_,List.getElem?_eq_getElem hj⟩
  have h8:=ho8.cells (g:=g8) rfl (i*6+4) z (by rw [List.getElem?_append_left hj];exact hz)
  rw [addr_plus,Nat.zero_add,hc2] at h8
  cases h8
  rcases ho6.2 with ⟨h0,h1⟩|⟨g,cap,cur,hv,hb,hg,rest⟩
  ·omega
  ·cases hv
   have h6:=ho6.cells (g:=g) rfl (i*6+4) _ hz
   rw [addr_plus,Nat.zero_add] at h6
   exact (hav g N cL rfl).2 i hi2 ad m' c' h6
 ·have hiN:i=N:=by omega
  subst hiN
  have h8:=ho8.cells (g:=g8) rfl (i*6+4) s (by rw [List.getElem?_append_right (by omega),hl,Nat.add_sub_cancel_left];exact hu)
  rw [addr_plus,Nat.zero_add,hc2] at h8
  cases h8
  exact hs ad m' c' rfl
theorem own_above {W:World} {H na ca:Nat} {pa:Option Addr} {D:List Int} (h:OwnK .i64 3 W H (.slice pa na ca) D):∀ ad m c,Value.slice pa na ca = .slice (some ad) m c→H≤ad.block:=fun ad m c e=>by
 rcases h.2 with ⟨hn,_⟩|⟨g,cap,cur,hv,hb,_⟩
 ·rw [e] at hn
  cases hn
 ·rw [e] at hv
  cases hv
  exact hb
theorem own_avoid {W:World} {H na ca x:Nat} {pa:Option Addr} {D:List Int} (h:OwnK .i64 3 W H (.slice pa na ca) D) (hx:x < H):∀ ad m c,Value.slice pa na ca = .slice (some ad) m c→ad.block≠x:=fun ad m c e=>by
 have:=own_above h ad m c e
 omega
/-- What a tape's change leaves to others. -/
def Spar2 (tb:Nat) (w w':World):Prop:=Spare tb w w'∧SpA w.heap.size tb w w'
theorem Spar2.of {tb:Nat} {w w':World} (h:Below w.heap.size w w'):Spar2 tb w w':=⟨Spare.of h,fun x _ ha=>ha.up h⟩
theorem Spar2.trans {tb:Nat} {a b c:World} (h:Spar2 tb a b) (h2:Spar2 tb b c) (hs:a.heap.size≤b.heap.size):Spar2 tb a c:=⟨h.1.trans h2.1,fun x hx ha=>h2.2 x (Nat.lt_of_lt_of_le hx hs) (h.2 x hx ha)⟩
theorem Spar2.kept {tb pn cn:Nat} {pa:Option Addr} {D:List Int} {w w6 w7:World} (h:Below w.heap.size w w6) (h2:Spare tb w6 w7∧∀ H,OwnK .i64 3 w6 H (.slice pa pn cn) D→SpA H tb w6 w7) (hD:OwnK .i64 3 w6 w.heap.size (.slice pa pn cn) D):Spar2 tb w w7:=
 ⟨(Spare.of h).trans h2.1,fun x hx ha=>h2.2 _ hD x hx (ha.up h)⟩
/-- A row of nodes of one's own, and where it lies. -/
def OwnL (e:TypeId) (B n:Nat) (xs:List Value) (r:Option Nat) (H:Nat) (v:Value) (W:World):Prop:=OwnN e B n xs v W∧∃ g c,v = .slice (some ⟨g,0,none⟩) n c∧(r=some g∨H≤g)
theorem OwnL.up {e:TypeId} {B n:Nat} {xs:List Value} {r:Option Nat} {H:Nat} {v:Value} {W W':World} (h:OwnL e B n xs r H v W) (hB:Below W.heap.size W W'):OwnL e B n xs r H v W':=⟨OwnN.up h.1 hB,h.2⟩
theorem nodeC:StT Tryz.prog 61 44 80:=⟨Tryz.underlying61,by kernel_rfl⟩
/-- append of one node that a literal holds, and where the row lies then. -/
theorem appL {P:Program} {t e:TypeId} {b:Nat} (T:StT P t e b) (hb:b≤128) (ty:TypeId) (W:World) (B:Nat) (v:Value) (n:Nat) (xs:List Value) (ho:W.ownsRow B e 6 v n xs) (g:Nat) (u:List Value) (hg:W.heap[g]?=some (.cells u.toArray e (0,0))) (hu:u.length=6) (h1:∀ x∈u,x.oneCell'=true) (hn:n+1≤1073741824) (hB:B≤W.heap.size):
  ∃ g' cap w',(Builtin.append_ #[t,t] ty #[v,.slice (some ⟨g,0,none⟩) 1 1]).run P W = .ok (.slice (some ⟨g',0,none⟩) (n+1) cap) w'∧w'.ownsRow B e 6 (.slice (some ⟨g',0,none⟩) (n+1) cap) (n+1) (xs++u)∧W.grownBy w' v.ownBlock∧(v.ownBlock=some g'∨g'=W.heap.size):=by
 have hi:=T.hi
 cases h:P.info? e with
 | none=>rw [h] at hi;cases hi
 | some i=>
  rw [h] at hi
  simp only [Option.map_some,Option.some.injEq,Prod.mk.injEq] at hi
  obtain ⟨hz,hs,hby⟩:=hi
  cases hz0:i.zero with
  | none=>rw [hz0] at hz;cases hz
  | some z=>
   rw [hz0] at hz
   simp only [Option.map_some,Option.some.injEq] at hz
   have hm:(n+1)*b≤1073741824*128:=Nat.mul_le_mul hn hb
   obtain ⟨g',cap,w',hr,h2,h3,h4,_⟩:=run_append_lies (P:=P) W t ty B e i z 6 b T.ht h hz0 hs hby hz (by decide) v n xs ho ⟨g,0,none⟩ 1 1 u (by omega) (fun j x hj=>by
    rw [addr_plus,Nat.zero_add]
    unfold World.cell?
    simpa [hg] using hj) h1 (by omega) (by unfold maxLen;omega) (by omega) hB _ rfl
   exact ⟨g',cap,w',hr,h2,h3,h4⟩
theorem cnew_any (w:World):Calls Tryz.prog 9 #[] w fun e w'=>∃ b,e = .returned (.pointer (some ⟨b,0,none⟩))∧TapC w' w.heap.size b []∧Below w.heap.size w w':=by
 go_enter Tryz.func9,Tryz.ntmps9
 go_wp2
 exact bodyPost_ret (v:=.pointer (some ⟨w.heap.size,0,none⟩)) (by simp [results,Tryz.results9,go_sem]) rfl ⟨_,rfl,Tap.new (Nat.le_refl _),up_alloc _ _⟩
theorem cfull_any (B tb:Nat) (ns:List Nd) (q:Bool) (hq:decide (512≤ns.length)=q) (w:World) (hT:TapC w B tb ns):Calls Tryz.prog 24 #[.pointer (some ⟨tb,0,none⟩)] w fun e w'=>e = .returned (.bool q)∧w'=w:=by
 have hTT:Hid (TapC w B tb ns):=hT
 obtain ⟨pL,cL,xs0,hv,ho,hn0,hnc⟩:=Tap.head hT
 obtain ⟨N,eN⟩:∃ N,ns.length=N:=⟨_,rfl⟩
 rw [eN] at hv ho hnc
 have hcell:=(head_cell hv).1
 have hz:=heap_lt hv
 rw [eN] at hq
 have hq2:decide ((512:Int)≤(N:Int))=q:=by rw [← hq];exact decide_eq_decide.2 (by omega)
 clear hT hTT hv ho hn0 hnc eN
 go_enter Tryz.func24,Tryz.ntmps24
 go_wp2
 go_ret
 exact ⟨rfl,rfl⟩
theorem chas_any (B tb:Nat) (ns:List Nd) (i:Int) (q:Bool) (hq:decide (0≤i∧i < (ns.length:Int))=q) (w:World) (hT:TapC w B tb ns):Calls Tryz.prog 35 #[.pointer (some ⟨tb,0,none⟩),.int .i64 i] w fun e w'=>e = .returned (.bool q)∧w'=w:=by
 have hTT:Hid (TapC w B tb ns):=hT
 obtain ⟨pL,cL,xs0,hv,ho,hn0,hnc⟩:=Tap.head hT
 obtain ⟨N,eN⟩:∃ N,ns.length=N:=⟨_,rfl⟩
 rw [eN] at hv ho hnc
 have hcell:=(head_cell hv).1
 have hz:=heap_lt hv
 rw [eN] at hq
 clear hT hTT hv ho hn0 hnc eN
 by_cases h0:i < 0
 ·have hq':q=false:=by rw [← hq];exact decide_eq_false (by omega)
  subst hq'
  have d1:decide (0≤i)=false:=decide_eq_false (by omega)
  clear hq h0
  go_enter Tryz.func35,Tryz.ntmps35
  go_wp2
  go_ret
  exact ⟨rfl,rfl⟩
 ·have d1:decide (0≤i)=true:=decide_eq_true (by omega)
  have d2:decide (i < (N:Int))=q:=by rw [← hq];exact decide_eq_decide.2 (by omega)
  clear hq h0
  go_enter Tryz.func35,Tryz.ntmps35
  go_wp2
  go_ret
  exact ⟨rfl,rfl⟩
theorem chasb_any (op:Int) (q:Bool) (hq:decide (twoP op)=q) (w:World):
  Calls Tryz.prog 95 #[.int .i64 op] w fun e w'=>e = .returned (.bool q)∧w'=w:=by
 by_cases h2:op=2
 ·subst h2
  have hq':q=true:=by rw [← hq];decide
  subst hq'
  clear hq
  go_enter Tryz.func95,Tryz.ntmps95
  go_wp2
  go_ret
  exact ⟨rfl,rfl⟩
 by_cases h3:op=3
 ·subst h3
  have hq':q=true:=by rw [← hq];decide
  subst hq'
  clear hq
  go_enter Tryz.func95,Tryz.ntmps95
  go_wp2
  go_ret
  exact ⟨rfl,rfl⟩
 by_cases h4:op=4
 ·subst h4
  have hq':q=true:=by rw [← hq];decide
  subst hq'
  clear hq
  go_enter Tryz.func95,Tryz.ntmps95
  go_wp2
  go_ret
  exact ⟨rfl,rfl⟩
 by_cases h6:op=6
 ·subst h6
  have hq':q=true:=by rw [← hq];decide
  subst hq'
  clear hq
  go_enter Tryz.func95,Tryz.ntmps95
  go_wp2
  go_ret
  exact ⟨rfl,rfl⟩
 by_cases h12:op=12
 ·subst h12
  have hq':q=true:=by rw [← hq];decide
  subst hq'
  clear hq
  go_enter Tryz.func95,Tryz.ntmps95
  go_wp2
  go_ret
  exact ⟨rfl,rfl⟩
 have g2:(op==2)=false:=by simpa using h2
 have g3:(op==3)=false:=by simpa using h3
 have g4:(op==4)=false:=by simpa using h4
 have g6:(op==6)=false:=by simpa using h6
 have g12:(op==12)=false:=by simpa using h12
 have hq':q=false:=by rw [← hq];exact decide_eq_false (by omega)
 subst hq'
 clear hq h2 h3 h4 h6 h12
 go_enter Tryz.func95,Tryz.ntmps95
 go_wp2
 go_ret
 exact ⟨rfl,rfl⟩
theorem chask_any (op:Int) (q:Bool) (hq:decide (byP op)=q) (w:World):
  Calls Tryz.prog 96 #[.int .i64 op] w fun e w'=>e = .returned (.bool q)∧w'=w:=by
 by_cases h5:op=5
 ·subst h5
  have hq':q=true:=by rw [← hq];decide
  subst hq'
  clear hq
  go_enter Tryz.func96,Tryz.ntmps96
  go_wp2
  go_ret
  exact ⟨rfl,rfl⟩
 by_cases h8:op=8
 ·subst h8
  have hq':q=true:=by rw [← hq];decide
  subst hq'
  clear hq
  go_enter Tryz.func96,Tryz.ntmps96
  go_wp2
  go_ret
  exact ⟨rfl,rfl⟩
 by_cases h11:op=11
 ·subst h11
  have hq':q=true:=by rw [← hq];decide
  subst hq'
  clear hq
  go_enter Tryz.func96,Tryz.ntmps96
  go_wp2
  go_ret
  exact ⟨rfl,rfl⟩
 by_cases h12:op=12
 ·subst h12
  have hq':q=true:=by rw [← hq];decide
  subst hq'
  clear hq
  go_enter Tryz.func96,Tryz.ntmps96
  go_wp2
  go_ret
  exact ⟨rfl,rfl⟩
 by_cases h13:op=13
 ·subst h13
  have hq':q=true:=by rw [← hq];decide
  subst hq'
  clear hq
  go_enter Tryz.func96,Tryz.ntmps96
  go_wp2
  go_ret
  exact ⟨rfl,rfl⟩
 have g5:(op==5)=false:=by simpa using h5
 have g8:(op==8)=false:=by simpa using h8
 have g11:(op==11)=false:=by simpa using h11
 have g12:(op==12)=false:=by simpa using h12
 have g13:(op==13)=false:=by simpa using h13
 have hq':q=false:=by rw [← hq];exact decide_eq_false (by omega)
 subst hq'
 clear hq h5 h8 h11 h12 h13
 go_enter Tryz.func96,Tryz.ntmps96
 go_wp2
 go_ret
 exact ⟨rfl,rfl⟩
theorem below_two {B:Nat} {a b c:World} (h:Below B a b) (h2:Below B b c):Below B a c:=h.trans h2
theorem ccopied_any (p p2:Option Addr) (n c n2 c2:Nat) (dd yy:List Int) (hg:isP dd yy) (w:World) (h1:Nums .i64 w (.slice p n c) dd) (h2:Nums .i64 w (.slice p2 n2 c2) yy):
  Calls Tryz.prog 27 #[.agg #[.slice p n c,.slice p2 n2 c2]] w fun e w'=>∃ v,e = .returned v∧TRes w' w.heap.size v dd yy∧Below w.heap.size w w':=by
 have hl1:dd.length≤1073741824:=by have:=hg.1.1;rw [ntl_len] at this;omega
 have hl2:yy.length≤1073741824:=by have h3:=hg.1.2.2;have h4:=hg.2;omega
 have CI:Hid (∀ W,Below w.heap.size w W→Calls Tryz.prog 44 #[.slice p n c] W fun e w'=>∃ v',e = .returned v'∧OwnK .i64 3 w' W.heap.size v' dd∧Below W.heap.size W w'):=fun W hW=>cloneI_any _ dd (by omega) W (h1.up hW)
 have CF:Hid (∀ W,Below w.heap.size w W→Calls Tryz.prog 45 #[.slice p2 n2 c2] W fun e w'=>∃ v',e = .returned v'∧OwnK .i64 33 w' W.heap.size v' yy∧Below W.heap.size W w'):=fun W hW=>cloneF_any _ yy (by omega) W (h2.up hW)
 haveI:Nonempty World:=⟨w⟩
 clear h1 h2 hl1 hl2 hg
 go_enter Tryz.func27,Tryz.ntmps27
 go_wp2_with fail
 generalize hW0:World.alloc _ _=W0
 have HB0:=hidB (w:=w) hW0 (by go_grown)
 have XA:Hid (Cel W0 w.heap.size (.slice p n c) (.slice p2 n2 c2)):=celW hW0 (by simp [go_sem])
 have XR:Hid (Cel W0 (w.heap.size+1) (.slice none 0 0) (.slice none 0 0)):=celW hW0 (by simp [go_sem])
 clear hW0
 obtain ⟨a0,a1,_,_⟩:=XA.out
 have k0:=cell_lt a0
 refine rel [⟨2,5,fun v W=>OwnK .i64 3 W W0.heap.size v dd⟩,⟨5,8,fun v W=>OwnK .i64 33 W W0.heap.size v yy⟩,⟨6,9,OwnT W0.heap.size dd yy⟩] 7 10 (by kernel_rfl) rfl rfl (by kernel_rfl) (by rfl) ?_ ?_
 ·intro e he v W W' h hb
  simp only [List.mem_cons,List.not_mem_nil,or_false] at he
  rcases he with rfl|rfl|rfl
  ·exact OwnK.up h hb
  ·exact OwnK.up h hb
  ·exact OwnT.up h hb
 apply Exists.intro
 refine ⟨fun x=>?_,?_,?_⟩
 ·simp only [List.take_succ_cons,List.take_zero]
  iterate 2
   refine relQuiet rfl rfl ?_
   apply Exists.intro
   refine ⟨fun F hF hf K hK=>?_,?_⟩
   ·have hFc:=hF.cell
    have hFf:=hF.frozen
    go_big_quiet_op
    exact hK
   (try simp only [putL])
  refine relTold rfl rfl ?_ ?_
  ·intro F hF hf d
   have hFc:=hF.cell
   have hFf:=hF.frozen
   simp [yieldsR,yieldsUpon,go_sem]
   refine (CI.out (F d) (bstep HB0.out (hF.below d))).mono ?_
   rintro e' w8 ⟨v8,rfl,h8,hb8⟩
   exact ⟨_,rfl,h8.low (hF.below d).size,hb8⟩
  iterate 2
   (try simp only [putL])
   refine relQuiet rfl rfl ?_
   apply Exists.intro
   refine ⟨fun F hF hf K hK=>?_,?_⟩
   ·have hFc:=hF.cell
    have hFf:=hF.frozen
    go_big_quiet_op
    exact hK
  (try simp only [putL])
  refine relTold rfl rfl ?_ ?_
  ·intro F hF hf d
   have hFc:=hF.cell
   have hFf:=hF.frozen
   simp [yieldsR,yieldsUpon,go_sem]
   refine (CF.out (F d) (bstep HB0.out (hF.below d))).mono ?_
   rintro e' w8 ⟨v8,rfl,h8,hb8⟩
   exact ⟨_,rfl,h8.low (hF.below d).size,hb8⟩
  (try simp only [putL])
  refine relTold rfl rfl ?_ ?_
  ·intro F hF hf d
   have hFc:=hF.cell
   have hFf:=hF.frozen
   have h9:OwnK .i64 3 (F d) W0.heap.size (x 2) dd:=hf _ List.mem_cons_self (by rfl) d
   have h8:OwnK .i64 33 (F d) W0.heap.size (x 5) yy:=hf _ (List.mem_cons_of_mem _ List.mem_cons_self) (by rfl) d
   obtain ⟨p9,n9,c9,e9⟩:=h9.form_
   obtain ⟨p8,n8,c8,e8⟩:=h8.form_
   rw [e9] at h9
   rw [e8] at h8
   simp [yieldsR,yieldsUpon,go_sem,e9,e8]
   exact ⟨⟨_,_,_,_,_,_,rfl,h9,h8⟩,Below.refl _ _⟩
  (try simp only [putL])
  refine relEnd ?_
  exact rfl
 ·exact fun x=>rfl
 ·intro w1 xs hB1 hf
  simp only [List.drop_succ_cons,List.drop_zero]
  have hT1:=hf _ (List.mem_cons_of_mem _ (List.mem_cons_of_mem _ List.mem_cons_self))
  obtain ⟨x2,e2⟩:∃ q,xs 2=q:=⟨_,rfl⟩
  obtain ⟨x5,e5⟩:∃ q,xs 5=q:=⟨_,rfl⟩
  obtain ⟨x6,e6⟩:∃ q,xs 6=q:=⟨_,rfl⟩
  simp only [e6] at hT1
  simp only [e2,e5,e6]
  obtain ⟨pa,na,ca,pb,nb,cb,rfl,hs,ht⟩:=hT1
  clear e2 e5 e6 hf CI CF a0 a1 k0
  obtain ⟨HF,r0,r1,r2,r3,z0,z1⟩:=fin2 XR HB0 hB1 hs ht (by omega)
  clear hs ht
  go_wp2
  exact bodyPost_ret (v:=.agg #[.slice pa na ca,.slice pb nb cb]) (by simp [results,Tryz.results27,go_sem,z0,z1]) rfl ⟨_,rfl,HF.out⟩
theorem ckeep_sp (B tb:Nat) (ns:List Nd) (nd:Nd) (pa pb:Option Addr) (na ca nb cb:Nat) (hroom:ns.length < 512) (w:World) (hT:TapC w B tb ns) (hs:OwnK .i64 3 w B (.slice pa na ca) nd.D) (ht:OwnK .i64 33 w B (.slice pb nb cb) nd.X):
  Calls Tryz.prog 26 #[.pointer (some ⟨tb,0,none⟩),.agg #[.int .i64 nd.op,.int .i64 nd.a,.int .i64 nd.b,.int .i64 nd.k,.slice pa na ca,.slice pb nb cb]] w fun e w'=>e = .returned (.int .i64 (ns.length:Int))∧TapC w' B tb (ns++[nd])∧Below B w w'∧Only SC w w'∧Spare tb w w'∧∀ H,OwnK .i64 3 w H (.slice pa na ca) nd.D→SpA H tb w w':=by
 obtain ⟨op,a,bb,k,D,X⟩:=nd
 have hTT:Hid (TapC w B tb ns):=hT
 obtain ⟨pL,cL,xs0,hv,ho,hn0,hnc⟩:=Tap.head hT
 obtain ⟨N,eN⟩:∃ N,ns.length=N:=⟨_,rfl⟩
 rw [eN] at hv ho hnc
 have hcell:=(head_cell hv).1
 have hz:=heap_lt hv
 rw [eN]
 have hl:Hid (N < 512):=by show _ < _;rw [← eN];exact hroom
 have HBB:Hid (B≤w.heap.size):=Nat.le_trans hTT.out.1 (Nat.le_of_lt hz)
 have HS:Hid (OwnK .i64 3 w B (.slice pa na ca) D∧OwnK .i64 33 w B (.slice pb nb cb) X):=⟨hs,ht⟩
 clear hT hv ho hn0 hnc hs ht hroom hcell hz cL xs0 pL
 go_enter Tryz.func26,Tryz.ntmps26
 go_wp2_with fail
 refine name_world (fun w6 hw6=>?_)
 have HN6:w6.heap[w.heap.size]?=some (.cells #[.int .i64 op,.int .i64 a,.int .i64 bb,.int .i64 k,.slice pa na ca,.slice pb nb cb] 44 (0,0)):=by rw [hw6];exact heap_alloc_new _ _
 have HB6a:Below w.heap.size w w6:=by rw [hw6];exact up_alloc _ _
 have HB6:Hid (Below B w w6∧B≤w6.heap.size∧Only SC w w6∧Spare tb w w6∧Below w.heap.size w w6):=⟨HB6a.mono HBB.out,Nat.le_trans HBB.out HB6a.size,Only.of HB6a,Spare.of HB6a,HB6a⟩
 have HND6:Hid (NdC w6 B ⟨op,a,bb,k,D,X⟩ [.int .i64 op,.int .i64 a,.int .i64 bb,.int .i64 k,.slice pa na ca,.slice pb nb cb]):=⟨_,_,rfl,HS.out.1.up HB6a,HS.out.2.up HB6a⟩
 have HT6:=hTT.out.up HB6a
 obtain ⟨pL,cL,xs0,hv,ho,hn0,hnc⟩:=Tap.head HT6
 rw [eN] at hv ho
 have HTP:Hid (B≤tb∧w6.heap[tb]?=some (.cells #[.slice pL N cL] 63 (0,0))∧ns.length=N∧w6.ownsRow B 44 6 (.slice pL N cL) N xs0∧NdsC w6 B ns xs0):=⟨hTT.out.1,hv,eN,ho,hn0⟩
 have hrow:∀ z,Value.ownBlock (.slice pL N cL)=some z→z < w.heap.size:=fun z hz'=>by
  have h3:=hTT.out
  obtain ⟨pL',cL',xs',hv',ho',_,_⟩:=Tap.head h3
  rw [eN] at hv' ho'
  have h4:=HB6a.block tb (heap_lt hv')
  rw [hv,hv'] at h4
  cases h4
  exact (World.ownsRow.lt ho' z hz').2
 have HX6:Hid (w6.heap[w.heap.size]?=some (.cells #[.int .i64 op,.int .i64 a,.int .i64 bb,.int .i64 k,.slice pa na ca,.slice pb nb cb] 44 (0,0))∧some w.heap.size≠Value.ownBlock (.slice pL N cL)):=⟨HN6,fun h=>by have:=hrow _ h.symm;omega⟩
 have HRW:Hid (∀ z,Value.ownBlock (.slice pL N cL)=some z→z < w6.heap.size):=fun z hz'=>Nat.lt_of_lt_of_le (hrow z hz') HB6a.size
 have HU1:Hid (∀ z∈([.int .i64 op,.int .i64 a,.int .i64 bb,.int .i64 k,.slice pa na ca,.slice pb nb cb]:List Value),z.oneCell'=true):=HND6.out.one
 clear hv ho hn0 hnc hrow hw6 HT6 HB6a HN6 HS
 refine from_region (by kernel_rfl) ?_
 refine seg (fun q W=>match q with|false=>Below w6.heap.size w6 W|true=>w6.grownBy W (Value.ownBlock (.slice pL N cL))) (fun W W'=>W.grownBy W' (Value.ownBlock (.slice pL N cL))) 7 [⟨6,11,LitS 44 w6.heap.size [.int .i64 op,.int .i64 a,.int .i64 bb,.int .i64 k,.slice pa na ca,.slice pb nb cb]⟩,⟨7,12,OwnL 44 B (N+1) (xs0++[.int .i64 op,.int .i64 a,.int .i64 bb,.int .i64 k,.slice pa na ca,.slice pb nb cb]) (Value.ownBlock (.slice pL N cL)) w6.heap.size⟩] 0 10 21 rfl rfl (by kernel_rfl) (by rfl) ?_ ?_ ?_ ?_ ?_ ?_
 ·intro q W W' h hb
  cases q
  ·exact bstep h hb
  ·exact grown_up h hb
 ·exact ⟨rfl,rfl,rfl,Nat.le_refl _,fun _ _=>rfl⟩
 ·exact .inl ⟨_,List.mem_cons_of_mem _ List.mem_cons_self,rfl⟩
 ·intro e he v W W' h hb
  simp only [List.mem_cons,List.not_mem_nil,or_false] at he
  rcases he with rfl|rfl
  ·exact LitS.up h hb
  ·exact OwnL.up h hb
 ·intro e he hne v W W' h hc ht
  simp only [List.mem_cons,List.not_mem_nil,or_false] at he
  rcases he with rfl|rfl
  ·exact LitS.grown h ht HRW.out
  ·exact absurd rfl hne
 apply Exists.intro
 refine ⟨fun x=>?_,?_,?_⟩
 ·simp only [List.drop_succ_cons,List.drop_zero,List.take_succ_cons,List.take_zero]
  iterate 4
   refine segQuiet rfl rfl ?_
   apply Exists.intro
   refine ⟨fun b F hF hf K hK=>?_,?_⟩
   ·have hFc:=hF.cls
    go_big_quiet_op
    exact hK
   (try simp only [putL])
  refine segQuiet rfl rfl ?_
  apply Exists.intro
  refine ⟨fun b F hF hf K hK=>?_,?_⟩
  ·have hFc:=hF.cls
   have q0:∀ d,(F d).cell? ⟨tb,0,none⟩=some (.slice pL N cL):=fun d=>by
    have hK:w6.grownBy (F d) (Value.ownBlock (.slice pL N cL)):=by
     cases b
     ·exact below_grown _ (hFc d)
     ·exact hFc d
    exact hK.cell (head_cell HTP.out.2.1).1 (Ne.symm (owned_off ne_ct HTP.out.2.1 HTP.out.2.2.2.1))
   clear hFc
   go_big_quiet_op
   exact hK
  (try simp only [putL])
  refine segQuiet rfl rfl ?_
  apply Exists.intro
  refine ⟨fun b F hF hf K hK=>?_,?_⟩
  ·have hFc:=hF.cls
   have q0:∀ d,(F d).heap[w.heap.size]?=some (.cells #[.int .i64 op,.int .i64 a,.int .i64 bb,.int .i64 k,.slice pa na ca,.slice pb nb cb] 44 (0,0)):=fun d=>by
    have hK:w6.grownBy (F d) (Value.ownBlock (.slice pL N cL)):=by
     cases b
     ·exact below_grown _ (hFc d)
     ·exact hFc d
    rw [hK.block _ (heap_lt HX6.out.1) HX6.out.2]
    exact HX6.out.1
   have q1:=fun d=>(box6 (q0 d)).1.1
   have q2:=fun d=>(box6 (q0 d)).1.2.1
   have q3:=fun d=>(box6 (q0 d)).1.2.2.1
   have q4:=fun d=>(box6 (q0 d)).1.2.2.2.1
   have q5:=fun d=>(box6 (q0 d)).1.2.2.2.2.1
   have q6:=fun d=>(box6 (q0 d)).1.2.2.2.2.2
   clear hFc q0
   go_big_quiet_op
   exact hK
  (try simp only [putL])
  refine segTold rfl (by decide) rfl ?_ ?_
  ·intro b F hF hf d
   have hFc:=hF.cls
   have hcls:w6.heap.size≤(F d).heap.size:=by
    cases b
    ·exact (hFc d).size
    ·exact (hFc d).size
   simp [yieldsR,yieldsUpon,go_sem]
   exact ⟨⟨(F d).heap.size,rfl,heap_alloc_new (F d) _,hcls⟩,up_alloc _ _⟩
  (try simp only [putL])
  refine segBusy rfl rfl rfl ?_ ?_
  ·intro W hW hf
   have h7:=hf _ List.mem_cons_self (by rfl) W
   obtain ⟨g7,e7,hg7,_⟩:=h7
   simp only [] at e7
   obtain ⟨g8,c8,w8,hr8,ho8,hgr8,hat8⟩:=appL nodeC (by decide) 61 W B (.slice pL N cL) N xs0 (owns_only (S:=[]) HTP.out.2.2.2.1 (Only.of hW) (by simp)) g7 [.int .i64 op,.int .i64 a,.int .i64 bb,.int .i64 k,.slice pa na ca,.slice pb nb cb] hg7 rfl HU1.out (by have:=hl.out;omega) (Nat.le_trans HTP.out.1 (Nat.le_trans (Nat.le_of_lt (heap_lt HTP.out.2.1)) (Below.size hW)))
   simp [leavesR,leavesUpon,execOp,resolve,invoke,builtin,Act.eval,e7,hr8,Result.andThen]
   exact ⟨⟨ho8,g8,c8,rfl,hat8.imp id fun e=>by rw [e];exact Below.size hW⟩,grown_trans (below_grown _ hW) hgr8,hgr8⟩
  iterate 2
   (try simp only [putL])
   refine segQuiet rfl rfl ?_
   apply Exists.intro
   refine ⟨fun b F hF hf K hK=>?_,?_⟩
   ·have hFc:=hF.cls
    go_big_quiet_op
    exact hK
  (try simp only [putL])
  refine segEnd ?_
  exact rfl
 ·exact fun x=>rfl
 ·intro w8 xs8 hC8 hf8
  have hC8':w6.grownBy w8 (Value.ownBlock (.slice pL N cL)):=hC8
  refine from_list 10 (by kernel_rfl) ?_
  simp only [List.drop_succ_cons,List.drop_zero]
  have h8:=hf8 _ (List.mem_cons_of_mem _ List.mem_cons_self)
  obtain ⟨x6,e6⟩:∃ z,xs8 6=z:=⟨_,rfl⟩
  obtain ⟨x7,e7⟩:∃ z,xs8 7=z:=⟨_,rfl⟩
  simp only [e7] at h8
  simp only [e6,e7]
  obtain ⟨h8,g8,c8,rfl,hat8⟩:=h8
  obtain ⟨hTp,hOn⟩:=Tap.push (TT:=63) (NT:=44) ne_ct (by decide) (by decide) (nd:=⟨op,a,bb,k,D,X⟩) HTP.out.1 HTP.out.2.1 (by rw [HTP.out.2.2.1];exact HTP.out.2.2.2.1) HTP.out.2.2.2.2 HND6.out hC8' (by rw [HTP.out.2.2.1];exact h8)
  have hv8:w8.heap[tb]?=some (.cells #[.slice pL N cL] 63 (0,0)):=by
   rw [hC8'.block tb (heap_lt HTP.out.2.1) (Ne.symm (owned_off ne_ct HTP.out.2.1 HTP.out.2.2.2.1))]
   exact HTP.out.2.1
  obtain ⟨r0,r1⟩:=head_cell hv8
  have z0:=(head_cell (v:=.slice (some ⟨g8,0,none⟩) (N+1) c8) (e:=63) (W:=w8.setCell ⟨tb,0,none⟩ (.slice (some ⟨g8,0,none⟩) (N+1) c8)) (by rw [heap_setat hv8];rfl)).1
  have HF:Hid (TapC (w8.setCell ⟨tb,0,none⟩ (.slice (some ⟨g8,0,none⟩) (N+1) c8)) B tb (ns++[⟨op,a,bb,k,D,X⟩])∧Below B w (w8.setCell ⟨tb,0,none⟩ (.slice (some ⟨g8,0,none⟩) (N+1) c8))∧Only SC w (w8.setCell ⟨tb,0,none⟩ (.slice (some ⟨g8,0,none⟩) (N+1) c8))∧Spare tb w (w8.setCell ⟨tb,0,none⟩ (.slice (some ⟨g8,0,none⟩) (N+1) c8))∧∀ H,OwnK .i64 3 w H (.slice pa na ca) D→SpA H tb w (w8.setCell ⟨tb,0,none⟩ (.slice (some ⟨g8,0,none⟩) (N+1) c8))):=by
   refine ⟨hTp,(Below.grown HB6.out.1 hC8' HB6.out.2.1 (OwnN_block HTP.out.2.2.2.1)).setCell (p:=⟨tb,0,none⟩) HTP.out.1 _,HB6.out.2.2.1.trans hOn,HB6.out.2.2.2.1.trans ?_,fun H hH x hx ha=>av_push HTP.out.2.1 HTP.out.2.2.2.1 (by rw [HTP.out.2.2.2.2.1,HTP.out.2.2.1]) hv8 h8 rfl (own_avoid hH hx) (ha.up HB6.out.2.2.2.2)⟩
   intro x v hv hn hx ho
   rw [HTP.out.2.1] at hv
   cases hv
   refine ⟨?_,_,(heap_setat hv8).trans rfl,?_⟩
   ·rw [heap_set _ _ _ _ _ hn]
    exact hC8'.block x hx (Ne.symm ho)
   ·intro e
    have e':g8=x:=by simpa [Value.ownBlock] using e
    rcases hat8 with h|h
    ·exact ho (by rw [h,e'])
    ·omega
  clear hTp hOn hC8 hC8' h8 hf8 hv8 hat8
  have hN1:((N+1:Nat):Int) - 1=(N:Int):=by omega
  have hN2:wrap64 (N:Int)=(N:Int):=by have:=hl.out;unfold wrap64;omega
  go_wp2
  exact bodyPost_ret (v:=.int .i64 (N:Int)) (by simp [results,Tryz.results26,go_sem,hN1,hN2]) rfl ⟨rfl,HF.out⟩
theorem cleaf_full (B tb:Nat) (ns:List Nd) (p p2:Option Addr) (n c n2 c2:Nat) (dd yy:List Int) (hd:RI dd) (w:World) (hT:TapC w B tb ns) (h1:Nums .i64 w (.slice p n c) dd) (h2:Nums .i64 w (.slice p2 n2 c2) yy) (hfull:512≤ns.length):
  Calls Tryz.prog 10 #[.pointer (some ⟨tb,0,none⟩),.agg #[.slice p n c,.slice p2 n2 c2]] w fun e w'=>e = .returned (.tuple #[.int .i64 (leafR ns dd yy),.int .i64 (leafE ns dd yy)])∧TapC w' B tb (leafN ns dd yy)∧Below B w w'∧Only SC w w'∧Spar2 tb w w':=by
 have HBB:Hid (B≤w.heap.size):=Nat.le_trans hT.1 (Nat.le_of_lt (by obtain ⟨_,_,_,hv,_⟩:=Tap.head hT;exact heap_lt hv))
 have hTT:Hid (TapC w B tb ns):=hT
 have HN:Hid (Nums .i64 w (.slice p n c) dd∧Nums .i64 w (.slice p2 n2 c2) yy∧RI dd):=⟨h1,h2,hd⟩
 have hf:decide (512≤ns.length)=true:=decide_eq_true hfull
 have e1:leafE ns dd yy=2:=if_pos hfull
 have e2:leafR ns dd yy=0:=if_neg fun h=>by omega
 have e3:leafN ns dd yy=ns:=if_neg fun h=>by omega
 rw [e1,e2,e3]
 clear hT e1 e2 e3 h1 h2 hd hfull
 go_enter Tryz.func10,Tryz.ntmps10
 go_wp2_with fail
 generalize hW0:World.alloc _ _=W0
 have HB0:=hidB (w:=w) hW0 (by go_grown)
 have XA:Hid (Cel W0 w.heap.size (.slice p n c) (.slice p2 n2 c2)):=celW hW0 (by simp [go_sem])
 clear hW0
 refine (cfull_any B tb ns true hf W0 (hTT.out.up HB0.out)).mono ?_
 rintro e w1 ⟨rfl,ew1⟩
 subst ew1
 clear hf
 go_wp2
 exact bodyPost_ret (v:=.tuple #[.int .i64 0,.int .i64 2]) (by simp [results,Tryz.results10,go_sem]) rfl ⟨rfl,hTT.out.up HB0.out,HB0.out.mono HBB.out,Only.of HB0.out,Spar2.of HB0.out⟩
theorem cleaf_bad (B tb:Nat) (ns:List Nd) (p p2:Option Addr) (n c n2 c2:Nat) (dd yy:List Int) (hd:RI dd) (w:World) (hT:TapC w B tb ns) (h1:Nums .i64 w (.slice p n c) dd) (h2:Nums .i64 w (.slice p2 n2 c2) yy) (hroom:ns.length < 512) (hp:¬ isP dd yy):
  Calls Tryz.prog 10 #[.pointer (some ⟨tb,0,none⟩),.agg #[.slice p n c,.slice p2 n2 c2]] w fun e w'=>e = .returned (.tuple #[.int .i64 (leafR ns dd yy),.int .i64 (leafE ns dd yy)])∧TapC w' B tb (leafN ns dd yy)∧Below B w w'∧Only SC w w'∧Spar2 tb w w':=by
 have HBB:Hid (B≤w.heap.size):=Nat.le_trans hT.1 (Nat.le_of_lt (by obtain ⟨_,_,_,hv,_⟩:=Tap.head hT;exact heap_lt hv))
 have hTT:Hid (TapC w B tb ns):=hT
 have HN:Hid (Nums .i64 w (.slice p n c) dd∧Nums .i64 w (.slice p2 n2 c2) yy∧RI dd):=⟨h1,h2,hd⟩
 have hf:decide (512≤ns.length)=false:=decide_eq_false (by omega)
 have hq:decide (isP dd yy)=false:=decide_eq_false hp
 have e1:leafE ns dd yy=1:=(if_neg (by omega)).trans (if_neg hp)
 have e2:leafR ns dd yy=0:=if_neg fun h=>hp h.2
 have e3:leafN ns dd yy=ns:=if_neg fun h=>hp h.2
 rw [e1,e2,e3]
 clear hT e1 e2 e3 h1 h2 hd hroom hp
 go_enter Tryz.func10,Tryz.ntmps10
 go_wp2_with fail
 generalize hW0:World.alloc _ _=W0
 have HB0:=hidB (w:=w) hW0 (by go_grown)
 have XA:Hid (Cel W0 w.heap.size (.slice p n c) (.slice p2 n2 c2)):=celW hW0 (by simp [go_sem])
 clear hW0
 refine (cfull_any B tb ns false hf W0 (hTT.out.up HB0.out)).mono ?_
 rintro e w1 ⟨rfl,ew1⟩
 subst ew1
 clear hf
 obtain ⟨a0,a1,_,_⟩:=XA.out
 have k0:=cell_lt a0
 go_wp2_with fail
 refine (tgood_any (.slice p n c) (.slice p2 n2 c2) dd yy HN.out.2.2 w1 (HN.out.1.up HB0.out) (HN.out.2.1.up HB0.out)).mono ?_
 rintro e w2 ⟨rfl,hB2⟩
 rw [hq]
 have HB2:=hid2 (bstep HB0.out hB2) hB2
 clear hB2
 clear hq
 go_wp2
 exact bodyPost_ret (v:=.tuple #[.int .i64 0,.int .i64 1]) (by simp [results,Tryz.results10,go_sem]) rfl ⟨rfl,hTT.out.up HB2.out.1,HB2.out.1.mono HBB.out,Only.of HB2.out.1,Spar2.of HB2.out.1⟩
theorem cleaf_good (B tb:Nat) (ns:List Nd) (p p2:Option Addr) (n c n2 c2:Nat) (dd yy:List Int) (hd:RI dd) (w:World) (hT:TapC w B tb ns) (h1:Nums .i64 w (.slice p n c) dd) (h2:Nums .i64 w (.slice p2 n2 c2) yy) (hroom:ns.length < 512) (hp:isP dd yy):
  Calls Tryz.prog 10 #[.pointer (some ⟨tb,0,none⟩),.agg #[.slice p n c,.slice p2 n2 c2]] w fun e w'=>e = .returned (.tuple #[.int .i64 (leafR ns dd yy),.int .i64 (leafE ns dd yy)])∧TapC w' B tb (leafN ns dd yy)∧Below B w w'∧Only SC w w'∧Spar2 tb w w':=by
 have HBB:Hid (B≤w.heap.size):=Nat.le_trans hT.1 (Nat.le_of_lt (by obtain ⟨_,_,_,hv,_⟩:=Tap.head hT;exact heap_lt hv))
 have hTT:Hid (TapC w B tb ns):=hT
 have HN:Hid (Nums .i64 w (.slice p n c) dd∧Nums .i64 w (.slice p2 n2 c2) yy∧RI dd):=⟨h1,h2,hd⟩
 have hf:decide (512≤ns.length)=false:=decide_eq_false (by omega)
 have hq:decide (isP dd yy)=true:=decide_eq_true hp
 have HP:Hid (isP dd yy∧ns.length < 512):=⟨hp,hroom⟩
 have e1:leafE ns dd yy=0:=(if_neg (by omega)).trans (if_pos hp)
 have e2:leafR ns dd yy=(ns.length:Int):=if_pos ⟨hroom,hp⟩
 have e3:leafN ns dd yy=ns++[⟨1,-1,-1,0,dd,yy⟩]:=if_pos ⟨hroom,hp⟩
 rw [e1,e2,e3]
 clear hT e1 e2 e3 h1 h2 hd hroom hp
 go_enter Tryz.func10,Tryz.ntmps10
 go_wp2_with fail
 generalize hW0:World.alloc _ _=W0
 have HB0:=hidB (w:=w) hW0 (by go_grown)
 have XA:Hid (Cel W0 w.heap.size (.slice p n c) (.slice p2 n2 c2)):=celW hW0 (by simp [go_sem])
 clear hW0
 refine (cfull_any B tb ns false hf W0 (hTT.out.up HB0.out)).mono ?_
 rintro e w1 ⟨rfl,ew1⟩
 subst ew1
 clear hf
 obtain ⟨a0,a1,_,_⟩:=XA.out
 have k0:=cell_lt a0
 go_wp2_with fail
 refine (tgood_any (.slice p n c) (.slice p2 n2 c2) dd yy HN.out.2.2 w1 (HN.out.1.up HB0.out) (HN.out.2.1.up HB0.out)).mono ?_
 rintro e w2 ⟨rfl,hB2⟩
 rw [hq]
 have HB2:=hid2 (bstep HB0.out hB2) hB2
 clear hB2
 clear hq
 replace a0:=cell_low a0 HB2.out.2
 replace a1:=cell_low a1 HB2.out.2
 replace k0:=cell_lt a0
 go_wp2_with fail
 refine (ccopied_any p p2 n c n2 c2 dd yy HP.out.1 w2 (HN.out.1.up HB2.out.1) (HN.out.2.1.up HB2.out.1)).mono ?_
 rintro e w3 ⟨v3,rfl,⟨s3,t3,rfl,hs,ht⟩,hB3⟩
 obtain ⟨pa,na,ca,rfl⟩:=hs.form_
 obtain ⟨pb,nb,cb,rfl⟩:=ht.form_
 have HB3:Hid (Below w.heap.size w w3):=bstep HB2.out.1 hB3
 have HO:Hid (OwnK .i64 3 w3 B (.slice pa na ca) dd∧OwnK .i64 33 w3 B (.slice pb nb cb) yy∧OwnK .i64 3 w3 w.heap.size (.slice pa na ca) dd):=⟨hs.low (Nat.le_trans HBB.out HB2.out.1.size),ht.low (Nat.le_trans HBB.out HB2.out.1.size),hs.low HB2.out.1.size⟩
 clear hs ht hB3 a0 a1 k0
 go_wp2_with fail
 refine (ckeep_sp B tb ns ⟨1,-1,-1,0,dd,yy⟩ pa pb na ca nb cb HP.out.2 w3 (hTT.out.up HB3.out) HO.out.1 HO.out.2.1).mono ?_
 rintro e w4 ⟨rfl,hT4,hB4,hO4,hS4⟩
 have HF:Hid (TapC w4 B tb (ns++[⟨1,-1,-1,0,dd,yy⟩])∧Below B w w4∧Only SC w w4∧Spar2 tb w w4):=⟨hT4,below_two (HB3.out.mono HBB.out) hB4,(Only.of HB3.out).trans hO4,Spar2.kept HB3.out hS4 HO.out.2.2⟩
 clear hT4 hB4 hO4 hS4 HO
 go_wp2
 exact bodyPost_ret (v:=.tuple #[.int .i64 (ns.length:Int),.int .i64 0]) (by simp [results,Tryz.results10,go_sem]) rfl ⟨rfl,HF.out⟩
theorem cleaf_sp (B tb:Nat) (ns:List Nd) (hG:NodesG ns) (p p2:Option Addr) (n c n2 c2:Nat) (dd yy:List Int) (hd:RI dd) (hy:RI yy) (w:World) (hT:TapC w B tb ns) (h1:Nums .i64 w (.slice p n c) dd) (h2:Nums .i64 w (.slice p2 n2 c2) yy):
  Calls Tryz.prog 10 #[.pointer (some ⟨tb,0,none⟩),.agg #[.slice p n c,.slice p2 n2 c2]] w fun e w'=>e = .returned (.tuple #[.int .i64 (leafR ns dd yy),.int .i64 (leafE ns dd yy)])∧TapC w' B tb (leafN ns dd yy)∧Below B w w'∧Only SC w w'∧Spar2 tb w w':=by
 by_cases hf:512≤ns.length
 ·exact cleaf_full B tb ns p p2 n c n2 c2 dd yy hd w hT h1 h2 hf
 ·by_cases hp:isP dd yy
  ·exact cleaf_good B tb ns p p2 n c n2 c2 dd yy hd w hT h1 h2 (by omega) hp
  ·exact cleaf_bad B tb ns p p2 n c n2 c2 dd yy hd w hT h1 h2 (by omega) hp
theorem cleaf_any (B tb:Nat) (ns:List Nd) (hG:NodesG ns) (p p2:Option Addr) (n c n2 c2:Nat) (dd yy:List Int) (hd:RI dd) (hy:RI yy) (w:World) (hT:TapC w B tb ns) (h1:Nums .i64 w (.slice p n c) dd) (h2:Nums .i64 w (.slice p2 n2 c2) yy):
  Calls Tryz.prog 10 #[.pointer (some ⟨tb,0,none⟩),.agg #[.slice p n c,.slice p2 n2 c2]] w fun e w'=>e = .returned (.tuple #[.int .i64 (leafR ns dd yy),.int .i64 (leafE ns dd yy)])∧TapC w' B tb (leafN ns dd yy)∧Below B w w'∧Only SC w w':=by
 refine (cleaf_sp B tb ns hG p p2 n c n2 c2 dd yy hd hy w hT h1 h2).mono ?_
 rintro e w' ⟨h1,h2,h3,h4,_⟩
 exact ⟨h1,h2,h3,h4⟩
theorem fall6 {W:World} {b:Nat} {v0 v1 v2 v3 v4 v5 x4 x5:Value} {e:TypeId} (h:W.heap[b]?=some (.cells #[v0,v1,v2,v3,v4,v5] e (0,0))):((W.setCell ⟨b,4,none⟩ x4).setCell ⟨b,5,none⟩ x5).heap[b]?=some (.cells #[v0,v1,v2,v3,x4,x5] e (0,0)):=by
 rw [heap_setat (heap_setat h)]
 rfl
theorem cat_any (B tb:Nat) (ns:List Nd) (hG:NodesG ns) (i:Nat) (nd:Nd) (hi:ns[i]?=some nd) (w:World) (hT:TapC w B tb ns):
  Calls Tryz.prog 18 #[.pointer (some ⟨tb,0,none⟩),.int .i64 (i:Int)] w fun e w'=>∃ s t,e = .returned (.tuple #[.agg #[.int .i64 nd.op,.int .i64 nd.a,.int .i64 nd.b,.int .i64 nd.k,s,t],.bool true])∧OwnK .i64 3 w' w.heap.size s nd.D∧OwnK .i64 33 w' w.heap.size t nd.X∧Below w.heap.size w w':=by
 have hTT:Hid (TapC w B tb ns):=hT
 obtain ⟨pL,cL,xs0,hv,ho,hn0,hnc⟩:=Tap.head hT
 obtain ⟨N,eN⟩:∃ N,ns.length=N:=⟨_,rfl⟩
 rw [eN] at hv ho hnc
 have hcell:=(head_cell hv).1
 have hiN:i < N:=by rw [← eN];exact (List.getElem?_eq_some_iff.1 hi).1
 obtain ⟨q,nd',s_,t_,eq,hnd,c0,c1,c2,c3,c4,c5,hs,ht⟩:=node_cells ho hn0 eN i hiN
 rw [hi] at hnd
 cases hnd
 obtain ⟨pA,nA,cA,rfl⟩:=hs.form_
 obtain ⟨qA,mA,eA,rfl⟩:=ht.form_
 subst eq
 have hq:decide (0≤(i:Int)∧(i:Int) < (ns.length:Int))=true:=decide_eq_true (by omega)
 have HN:Hid (Nums .i64 w (.slice pA nA cA) nd.D∧Nums .i64 w (.slice qA mA eA) nd.X∧isP nd.D nd.X):=⟨hs.nums,ht.nums,(hG nd (nd_mem hi)).1⟩
 have HC:Hid (w.cell? ⟨tb,0,none⟩=some (.slice (some ⟨q,0,none⟩) N cL)∧w.cell? ⟨q,i*6,none⟩=some (.int .i64 nd.op)∧w.cell? ⟨q,i*6+1,none⟩=some (.int .i64 nd.a)∧w.cell? ⟨q,i*6+2,none⟩=some (.int .i64 nd.b)∧w.cell? ⟨q,i*6+3,none⟩=some (.int .i64 nd.k)∧w.cell? ⟨q,i*6+4,none⟩=some (.slice pA nA cA)∧w.cell? ⟨q,i*6+5,none⟩=some (.slice qA mA eA)):=⟨hcell,c0,c1,c2,c3,c4,c5⟩
 have d2:(i:Int) < (N:Int):=by omega
 obtain ⟨op,a,b,k,D,X⟩:=nd
 simp only [] at HC HN ⊢
 clear hT hv ho hn0 hnc hs ht c0 c1 c2 c3 c4 c5 hcell hG hi
 go_enter Tryz.func18,Tryz.ntmps18
 go_wp2_with fail
 generalize hW0:World.alloc _ _=W0
 have HR0:W0.heap[w.heap.size]?=some (.cells #[.int .i64 0,.int .i64 0,.int .i64 0,.int .i64 0,.slice none 0 0,.slice none 0 0] 44 (0,0)):=by rw [← hW0];exact heap_alloc_new _ _
 have HB0:Hid (Below w.heap.size w W0):=by show Below _ _ _;rw [← hW0];exact up_alloc _ _
 clear hW0
 refine (chas_any B tb ns (i:Int) true hq W0 (hTT.out.up HB0.out)).mono ?_
 rintro e w1 ⟨rfl,ew1⟩
 subst ew1
 clear hq
 have c:=cell_low HC.out.1 HB0.out
 have c0:=cell_low HC.out.2.1 HB0.out
 have c1:=cell_low HC.out.2.2.1 HB0.out
 have c2:=cell_low HC.out.2.2.2.1 HB0.out
 have c3:=cell_low HC.out.2.2.2.2.1 HB0.out
 have c4:=cell_low HC.out.2.2.2.2.2.1 HB0.out
 have c5:=cell_low HC.out.2.2.2.2.2.2 HB0.out
 have k0:=cell_lt c
 have k1:=cell_lt c0
 go_wp2_with fail
 generalize hW2:World.alloc _ _=W2
 have HX2:W2.heap[w1.heap.size]?=some (.cells #[.int .i64 op,.int .i64 a,.int .i64 b,.int .i64 k,.slice pA nA cA,.slice qA mA eA] 44 (0,0)):=by rw [← hW2];exact heap_alloc_new _ _
 have HB2:Hid (Below w1.heap.size w1 W2∧Below w.heap.size w W2):=by
  have h:=up_alloc w1 (.cells #[.int .i64 op,.int .i64 a,.int .i64 b,.int .i64 k,.slice pA nA cA,.slice qA mA eA] 44)
  rw [hW2] at h
  exact ⟨h,bstep HB0.out h⟩
 have HR2:W2.heap[w.heap.size]?=some (.cells #[.int .i64 0,.int .i64 0,.int .i64 0,.int .i64 0,.slice none 0 0,.slice none 0 0] 44 (0,0)):=by rw [HB2.out.1.block _ (heap_lt HR0)];exact HR0
 clear hW2 c c0 c1 c2 c3 c4 c5 k0 k1
 refine (ccopied_any pA qA nA cA mA eA D X HN.out.2.2 W2 (HN.out.1.up HB2.out.2) (HN.out.2.1.up HB2.out.2)).mono ?_
 rintro e w3 ⟨v3,rfl,⟨s3,t3,rfl,hs,ht⟩,hB3⟩
 obtain ⟨pa,na,ca,rfl⟩:=hs.form_
 obtain ⟨pb,nb,cb,rfl⟩:=ht.form_
 have HX3:w3.heap[w1.heap.size]?=some (.cells #[.int .i64 op,.int .i64 a,.int .i64 b,.int .i64 k,.slice pA nA cA,.slice qA mA eA] 44 (0,0)):=by rw [hB3.block _ (heap_lt HX2)];exact HX2
 have HR3:w3.heap[w.heap.size]?=some (.cells #[.int .i64 0,.int .i64 0,.int .i64 0,.int .i64 0,.slice none 0 0,.slice none 0 0] 44 (0,0)):=by rw [hB3.block _ (heap_lt HR2)];exact HR2
 have HO:Hid (OwnK .i64 3 w3 w.heap.size (.slice pa na ca) D∧OwnK .i64 33 w3 w.heap.size (.slice pb nb cb) X):=⟨hs.low HB2.out.2.size,ht.low HB2.out.2.size⟩
 have HB3:Hid (Below w.heap.size w w3):=bstep HB2.out.2 hB3
 have hlt:w.heap.size < w1.heap.size:=heap_lt HR0
 clear hs ht hB3 HX2 HR2 HR0 HN HC d2 hTT
 have n1:w1.heap.size≠w.heap.size:=by omega
 have n2:w.heap.size≠w1.heap.size:=by omega
 obtain ⟨⟨x0,x1,x2,x3,x4,x5⟩,xf⟩:=box6 HX3
 obtain ⟨⟨r0,r1,r2,r3,r4,r5⟩,rf⟩:=box6 HR3
 have k1:=heap_lt HX3
 have k2:=heap_lt HR3
 have HX4:Hid ((((w3.setCell ⟨w1.heap.size,4,none⟩ (.slice pa na ca)).setCell ⟨w1.heap.size,5,none⟩ (.slice pb nb cb)).heap[w1.heap.size]?=some (.cells #[.int .i64 op,.int .i64 a,.int .i64 b,.int .i64 k,.slice pa na ca,.slice pb nb cb] 44 (0,0))∧((w3.setCell ⟨w1.heap.size,4,none⟩ (.slice pa na ca)).setCell ⟨w1.heap.size,5,none⟩ (.slice pb nb cb)).heap[w.heap.size]?=some (.cells #[.int .i64 0,.int .i64 0,.int .i64 0,.int .i64 0,.slice none 0 0,.slice none 0 0] 44 (0,0)))∧Below w.heap.size w ((w3.setCell ⟨w1.heap.size,4,none⟩ (.slice pa na ca)).setCell ⟨w1.heap.size,5,none⟩ (.slice pb nb cb))∧Only [44] w3 ((w3.setCell ⟨w1.heap.size,4,none⟩ (.slice pa na ca)).setCell ⟨w1.heap.size,5,none⟩ (.slice pb nb cb))):=by
  refine ⟨⟨fall6 HX3,?_⟩,?_,?_⟩
  ·rw [heap_set _ _ _ _ _ (by omega),heap_set _ _ _ _ _ (by omega)]
   exact HR3
  ·exact (HB3.out.setCell (p:=⟨w1.heap.size,4,none⟩) (Nat.le_of_lt hlt) _).setCell (p:=⟨w1.heap.size,5,none⟩) (Nat.le_of_lt hlt) _
  ·exact (Only.set HX3 (by simp)).trans (Only.set (heap_setat HX3) (by simp))
 go_wp2
 generalize hW9:World.setCell _ _ _=W9
 have h0:=HX4.out.1.2
 have h1:=heap_setat (o:=0) (x:=(.int .i64 op)) h0
 have h2:=heap_setat (o:=1) (x:=(.int .i64 a)) h1
 have h3:=heap_setat (o:=2) (x:=(.int .i64 b)) h2
 have h4:=heap_setat (o:=3) (x:=(.int .i64 k)) h3
 have h5:=heap_setat (o:=4) (x:=(.slice pa na ca)) h4
 have H9:W9.heap[w.heap.size]?=some (.cells #[.int .i64 op,.int .i64 a,.int .i64 b,.int .i64 k,.slice pa na ca,.slice pb nb cb] 44 (0,0)):=by
  rw [← hW9]
  exact (heap_setat h5).trans rfl
 have B9:Below w.heap.size w W9:=by
  rw [← hW9]
  exact ((((((HX4.out.2.1.setCell (p:=⟨w.heap.size,0,none⟩) (Nat.le_refl _) _).setCell (p:=⟨w.heap.size,1,none⟩) (Nat.le_refl _) _).setCell (p:=⟨w.heap.size,2,none⟩) (Nat.le_refl _) _).setCell (p:=⟨w.heap.size,3,none⟩) (Nat.le_refl _) _).setCell (p:=⟨w.heap.size,4,none⟩) (Nat.le_refl _) _).setCell (p:=⟨w.heap.size,5,none⟩) (Nat.le_refl _) _)
 have O9:Only [44] w3 W9:=by
  rw [← hW9]
  exact ((((((HX4.out.2.2.trans (Only.set h0 (by simp))).trans (Only.set h1 (by simp))).trans (Only.set h2 (by simp))).trans (Only.set h3 (by simp))).trans (Only.set h4 (by simp))).trans (Only.set h5 (by simp)))
 obtain ⟨⟨z0,z1,z2,z3,z4,z5⟩,_⟩:=box6 H9
 exact bodyPost_ret (v:=.tuple #[.agg #[.int .i64 op,.int .i64 a,.int .i64 b,.int .i64 k,.slice pa na ca,.slice pb nb cb],.bool true]) (by simp [results,Tryz.results18,go_sem,z0,z1,z2,z3,z4,z5]) rfl ⟨_,_,rfl,HO.out.1.only O9 (by decide),HO.out.2.only O9 (by decide),B9⟩
theorem catno_any (B tb:Nat) (ns:List Nd) (i:Int) (hi:i < 0∨(ns.length:Int)≤i) (w:World) (hT:TapC w B tb ns):
  Calls Tryz.prog 18 #[.pointer (some ⟨tb,0,none⟩),.int .i64 i] w fun e w'=>e = .returned (.tuple #[.agg #[.int .i64 0,.int .i64 0,.int .i64 0,.int .i64 0,.slice none 0 0,.slice none 0 0],.bool false])∧Below w.heap.size w w':=by
 have hTT:Hid (TapC w B tb ns):=hT
 have hq:decide (0≤i∧i < (ns.length:Int))=false:=decide_eq_false (by omega)
 clear hT hi
 go_enter Tryz.func18,Tryz.ntmps18
 go_wp2_with fail
 generalize hW0:World.alloc _ _=W0
 have h0:W0.heap[w.heap.size]?=some (.cells #[.int .i64 0,.int .i64 0,.int .i64 0,.int .i64 0,.slice none 0 0,.slice none 0 0] 44 (0,0)):=by rw [← hW0];exact heap_alloc_new _ _
 have HB0:Hid (Below w.heap.size w W0):=by show Below _ _ _;rw [← hW0];exact up_alloc _ _
 clear hW0
 refine (chas_any B tb ns i false hq W0 (hTT.out.up HB0.out)).mono ?_
 rintro e w1 ⟨rfl,ew1⟩
 subst ew1
 clear hq
 obtain ⟨⟨r0,r1,r2,r3,r4,r5⟩,rf⟩:=box6 h0
 have k2:=heap_lt h0
 go_wp2
 generalize hW9:World.setCell _ _ _=W9
 have h1:=heap_setat (o:=0) (x:=(.int .i64 0)) h0
 have h2:=heap_setat (o:=1) (x:=(.int .i64 0)) h1
 have h3:=heap_setat (o:=2) (x:=(.int .i64 0)) h2
 have h4:=heap_setat (o:=3) (x:=(.int .i64 0)) h3
 have h5:=heap_setat (o:=4) (x:=(.slice none 0 0)) h4
 have H9:W9.heap[w.heap.size]?=some (.cells #[.int .i64 0,.int .i64 0,.int .i64 0,.int .i64 0,.slice none 0 0,.slice none 0 0] 44 (0,0)):=by
  rw [← hW9]
  exact (heap_setat h5).trans rfl
 have B9:Below w.heap.size w W9:=by
  rw [← hW9]
  exact ((((((HB0.out.setCell (p:=⟨w.heap.size,0,none⟩) (Nat.le_refl _) _).setCell (p:=⟨w.heap.size,1,none⟩) (Nat.le_refl _) _).setCell (p:=⟨w.heap.size,2,none⟩) (Nat.le_refl _) _).setCell (p:=⟨w.heap.size,3,none⟩) (Nat.le_refl _) _).setCell (p:=⟨w.heap.size,4,none⟩) (Nat.le_refl _) _).setCell (p:=⟨w.heap.size,5,none⟩) (Nat.le_refl _) _)
 obtain ⟨⟨z0,z1,z2,z3,z4,z5⟩,_⟩:=box6 H9
 exact bodyPost_ret (v:=.tuple #[.agg #[.int .i64 0,.int .i64 0,.int .i64 0,.int .i64 0,.slice none 0 0,.slice none 0 0],.bool false]) (by simp [results,Tryz.results18,go_sem,z0,z1,z2,z3,z4,z5]) rfl ⟨rfl,B9⟩
theorem cvalue_any (B tb:Nat) (ns:List Nd) (hG:NodesG ns) (i:Nat) (nd:Nd) (hi:ns[i]?=some nd) (w:World) (hT:TapC w B tb ns):
  Calls Tryz.prog 15 #[.pointer (some ⟨tb,0,none⟩),.int .i64 (i:Int)] w fun e w'=>∃ v,e = .returned (.tuple #[v,.bool true])∧TRes w' w.heap.size v nd.D nd.X∧Below w.heap.size w w':=by
 have HAT:Hid (∀ W,Below w.heap.size w W→Calls Tryz.prog 18 #[.pointer (some ⟨tb,0,none⟩),.int .i64 (i:Int)] W fun e w'=>∃ s t,e = .returned (.tuple #[.agg #[.int .i64 nd.op,.int .i64 nd.a,.int .i64 nd.b,.int .i64 nd.k,s,t],.bool true])∧OwnK .i64 3 w' W.heap.size s nd.D∧OwnK .i64 33 w' W.heap.size t nd.X∧Below W.heap.size W w'):=fun W hW=>cat_any B tb ns hG i nd hi W (hT.up hW)
 obtain ⟨op,a,b,k,D,X⟩:=nd
 simp only [] at HAT ⊢
 clear hT hi hG
 go_enter Tryz.func15,Tryz.ntmps15
 go_wp2_with fail
 generalize hW0:World.alloc _ _=W0
 have HB0:Hid (Below w.heap.size w W0):=by show Below _ _ _;rw [← hW0];exact up_alloc _ _
 have XR:Hid (Cel W0 w.heap.size (.slice none 0 0) (.slice none 0 0)):=celW hW0 (by simp [go_sem])
 clear hW0
 refine (HAT.out W0 HB0.out).mono ?_
 rintro e w1 ⟨s,t,rfl,hs,ht,hB1⟩
 obtain ⟨pa,na,ca,rfl⟩:=hs.form_
 obtain ⟨pb,nb,cb,rfl⟩:=ht.form_
 have HF:Hid (TRes (set2 w1 w.heap.size (.slice pa na ca) (.slice pb nb cb)) w.heap.size (.agg #[.slice pa na ca,.slice pb nb cb]) D X∧Below w.heap.size w (set2 w1 w.heap.size (.slice pa na ca) (.slice pb nb cb))):=⟨(TRes.set hs ht (cell_lt XR.out.1)).low HB0.out.size,below_cell (bstep HB0.out hB1) _ (Nat.le_refl _) _ _⟩
 clear hs ht HAT
 have xr:=XR.out.up hB1
 have cf:=xr.set (.slice pa na ca) (.slice pb nb cb)
 obtain ⟨r0,r1,r2,r3⟩:=xr
 have kq:=cell_lt r0
 have z0:=cell_low cf.1 (up_alloc _ (.cells #[.int .i64 op,.int .i64 a,.int .i64 b,.int .i64 k,.slice pa na ca,.slice pb nb cb] 44))
 have z1:=cell_low cf.2.1 (up_alloc _ (.cells #[.int .i64 op,.int .i64 a,.int .i64 b,.int .i64 k,.slice pa na ca,.slice pb nb cb] 44))
 clear cf
 go_wp2
 exact bodyPost_ret (v:=.tuple #[.agg #[.slice pa na ca,.slice pb nb cb],.bool true]) (by simp [results,Tryz.results15,go_sem,z0,z1]) rfl ⟨_,rfl,HF.out.1.up (up_alloc _ _),bstep HF.out.2 (up_alloc _ _)⟩
theorem cvno_any (B tb:Nat) (ns:List Nd) (i:Int) (hi:i < 0∨(ns.length:Int)≤i) (w:World) (hT:TapC w B tb ns):
  Calls Tryz.prog 15 #[.pointer (some ⟨tb,0,none⟩),.int .i64 i] w fun e w'=>e = .returned (.tuple #[.agg #[.slice none 0 0,.slice none 0 0],.bool false])∧Below w.heap.size w w':=by
 have HAT:Hid (∀ W,Below w.heap.size w W→Calls Tryz.prog 18 #[.pointer (some ⟨tb,0,none⟩),.int .i64 i] W fun e w'=>e = .returned (.tuple #[.agg #[.int .i64 0,.int .i64 0,.int .i64 0,.int .i64 0,.slice none 0 0,.slice none 0 0],.bool false])∧Below W.heap.size W w'):=fun W hW=>catno_any B tb ns i hi W (hT.up hW)
 clear hT hi
 go_enter Tryz.func15,Tryz.ntmps15
 go_wp2_with fail
 generalize hW0:World.alloc _ _=W0
 have HB0:Hid (Below w.heap.size w W0):=by show Below _ _ _;rw [← hW0];exact up_alloc _ _
 have XR:Hid (Cel W0 w.heap.size (.slice none 0 0) (.slice none 0 0)):=celW hW0 (by simp [go_sem])
 clear hW0
 refine (HAT.out W0 HB0.out).mono ?_
 rintro e w1 ⟨rfl,hB1⟩
 have HF:Hid (Below w.heap.size w (set2 w1 w.heap.size (.slice none 0 0) (.slice none 0 0))):=below_cell (bstep HB0.out hB1) _ (Nat.le_refl _) _ _
 clear HAT
 have xr:=XR.out.up hB1
 have cf:=xr.set (.slice none 0 0) (.slice none 0 0)
 obtain ⟨r0,r1,r2,r3⟩:=xr
 have kq:=cell_lt r0
 have z0:=cell_low cf.1 (up_alloc _ (.cells #[.int .i64 0,.int .i64 0,.int .i64 0,.int .i64 0,.slice none 0 0,.slice none 0 0] 44))
 have z1:=cell_low cf.2.1 (up_alloc _ (.cells #[.int .i64 0,.int .i64 0,.int .i64 0,.int .i64 0,.slice none 0 0,.slice none 0 0] 44))
 clear cf
 go_wp2
 exact bodyPost_ret (v:=.tuple #[.agg #[.slice none 0 0,.slice none 0 0],.bool false]) (by simp [results,Tryz.results15,go_sem,z0,z1]) rfl ⟨rfl,bstep HF.out (up_alloc _ _)⟩
end Go.Proofs.YtpdkkcnmgiihcaaGreatDoor.Wd
