/- The code's tape: its small functions, a copy of a tensor, a node more, Leaf. · The code's reading of texts: wordsOf, netOf. -/
import Derived.Test.YtiampagapgjedabGreatDoorC16
import Derived.Test.YtiampagapgjedabGreatDoorC12
import Derived.Test.YtiampagapgjedabGreatDoorC04
set_option linter.unusedVariables false
set_option linter.unusedSimpArgs false
set_option maxHeartbeats 16000000
set_option maxRecDepth 16000
namespace Go.Proofs.YtiampagapgjedabGreatDoor.Wd
open Go.RowKit Fx
def TapC (W:World) (B b:Nat) (ns:List Nd):Prop:=Tap 56 63 W B b ns
abbrev SC:List TypeId:=[56,63]
theorem TapC.up {W W':World} {B b:Nat} {ns:List Nd} (h:TapC W B b ns) (hB:Below W.heap.size W W'):TapC W' B b ns:=Tap.up h hB
theorem ne_ct:63≠56:=by decide
def Spare (tb:Nat) (w w':World):Prop:=∀ x v,w.heap[tb]?=some (.cells #[v] 56 (0,0))→x≠tb→x < w.heap.size→v.ownBlock≠some x→w'.heap[x]?=w.heap[x]?∧∃ v',w'.heap[tb]?=some (.cells #[v'] 56 (0,0))∧v'.ownBlock≠some x
theorem Spare.of {tb:Nat} {w w':World} (h:Below w.heap.size w w'):Spare tb w w':=fun x v hv _ hx ho=>⟨h.block x hx,v,(h.block tb (heap_lt hv)).trans hv,ho⟩
theorem Spare.trans {tb:Nat} {a b c:World} (h:Spare tb a b) (h2:Spare tb b c):Spare tb a c:=fun x v hv hn hx ho=>by
 obtain ⟨e1,v',hv',ho'⟩:=h x v hv hn hx ho
 have hb:x < b.heap.size:=by
  rw [Array.getElem?_eq_getElem hx] at e1
  exact heap_lt e1
 obtain ⟨e2,r⟩:=h2 x v' hv' hn hb ho'
 exact ⟨e2.trans e1,r⟩
/-- No node's dims lie in block x. -/
def AvT (x:Nat) (W:World) (tb:Nat):Prop:=∃ v,W.heap[tb]?=some (.cells #[v] 56 (0,0))∧∀ g m c,v = .slice (some ⟨g,0,none⟩) m c→g < W.heap.size∧∀ i,i < m→∀ ad m' c',W.cell? ⟨g,i*6+4,none⟩=some (.slice (some ad) m' c')→ad.block≠x
def SpA (H tb:Nat) (w w':World):Prop:=∀ x,x < H→AvT x w tb→AvT x w' tb
theorem AvT.up {x tb:Nat} {W W':World} (h:AvT x W tb) (hB:Below W.heap.size W W'):AvT x W' tb:=by
 obtain ⟨v,hv,h⟩:=h
 refine ⟨v,(hB.block tb (heap_lt hv)).trans hv,fun g m c e=>?_⟩
 obtain ⟨hg,h2⟩:=h g m c e
 refine ⟨Nat.lt_of_lt_of_le hg hB.size,fun i hi ad m' c' hc=>h2 i hi ad m' c' ?_⟩
 unfold World.cell? at hc ⊢
 rw [← hB.block g hg]
 exact hc
theorem av_push {w6 w8:World} {B tb N cL c8 g8 x:Nat} {pL:Option Addr} {xs0 u:List Value} {s:Value} (hv6:w6.heap[tb]?=some (.cells #[.slice pL N cL] 56 (0,0))) (ho6:w6.ownsRow B 63 6 (.slice pL N cL) N xs0) (hl:xs0.length=N*6) (hv8:w8.heap[tb]?=some (.cells #[.slice pL N cL] 56 (0,0)))
  (ho8:w8.ownsRow B 63 6 (.slice (some ⟨g8,0,none⟩) (N+1) c8) (N+1) (xs0++u)) (hu:u[4]?=some s) (hs:∀ ad m c,s = .slice (some ad) m c→ad.block≠x) (hav:AvT x w6 tb):AvT x (w8.setCell ⟨tb,0,none⟩ (.slice (some ⟨g8,0,none⟩) (N+1) c8)) tb:=by
 obtain ⟨v,hv,hav⟩:=hav
 rw [hv6] at hv
 cases hv
 have hne:g8≠tb:=fun e=>owned_off ne_ct hv8 ho8 (by rw [← e];rfl)
 refine ⟨_,(heap_setat hv8).trans rfl,fun g m c e=>?_⟩
 cases e
 refine ⟨by have:=(World.ownsRow.lt ho8 g8 rfl).2;simpa using this,fun i hi ad m' c' hc=>?_⟩
 have hc2:w8.cell? ⟨g8,i*6+4,none⟩=some (.slice (some ad) m' c'):=by
  unfold World.cell? at hc ⊢
  rw [heap_set _ _ _ _ _ hne] at hc
  exact hc
 by_cases hi2:i < N
 ·have hj:i*6+4 < xs0.length:=by omega
  obtain ⟨z,hz⟩:∃ z,xs0[i*6+4]?=some z:=⟨_,List.getElem?_eq_getElem hj⟩
  have h8:=ho8.cells (g:=g8) rfl (i*6+4) z (by rw [List.getElem?_append_left hj];exact hz)
  rw [addr_plus,Nat.zero_add,hc2] at h8
  cases h8
  rcases ho6.2 with ⟨h0,h1⟩|⟨g,cap,cur,hv,hb,hg,rest⟩
  ·omega
  ·cases hv
   have h6:=ho6.cells (g:=g) rfl (i*6+4) _ hz
   rw [addr_plus,Nat.zero_add] at h6
   exact (hav g N cL rfl).2 i hi2 ad m' c' h6
 ·have hiN:i=N:=by omega
  subst hiN
  have h8:=ho8.cells (g:=g8) rfl (i*6+4) s (by rw [List.getElem?_append_right (by omega),hl,Nat.add_sub_cancel_left];exact hu)
  rw [addr_plus,Nat.zero_add,hc2] at h8
  cases h8
  exact hs ad m' c' rfl
theorem own_above {W:World} {H na ca:Nat} {pa:Option Addr} {D:List Int} (h:OwnK .i64 3 W H (.slice pa na ca) D):∀ ad m c,Value.slice pa na ca = .slice (some ad) m c→H≤ad.block:=fun ad m c e=>by
 rcases h.2 with ⟨hn,_⟩|⟨g,cap,cur,hv,hb,_⟩
 ·rw [e] at hn
  cases hn
 ·rw [e] at hv
  cases hv
  exact hb
theorem own_avoid {W:World} {H na ca x:Nat} {pa:Option Addr} {D:List Int} (h:OwnK .i64 3 W H (.slice pa na ca) D) (hx:x < H):∀ ad m c,Value.slice pa na ca = .slice (some ad) m c→ad.block≠x:=fun ad m c e=>by
 have:=own_above h ad m c e
 omega
/-- What a tape's change leaves to others. -/
def Spar2 (tb:Nat) (w w':World):Prop:=Spare tb w w'∧SpA w.heap.size tb w w'
theorem Spar2.of {tb:Nat} {w w':World} (h:Below w.heap.size w w'):Spar2 tb w w':=⟨Spare.of h,fun x _ ha=>ha.up h⟩
theorem Spar2.trans {tb:Nat} {a b c:World} (h:Spar2 tb a b) (h2:Spar2 tb b c) (hs:a.heap.size≤b.heap.size):Spar2 tb a c:=⟨h.1.trans h2.1,fun x hx ha=>h2.2 x (Nat.lt_of_lt_of_le hx hs) (h.2 x hx ha)⟩
theorem Spar2.kept {tb pn cn:Nat} {pa:Option Addr} {D:List Int} {w w6 w7:World} (h:Below w.heap.size w w6) (h2:Spare tb w6 w7∧∀ H,OwnK .i64 3 w6 H (.slice pa pn cn) D→SpA H tb w6 w7) (hD:OwnK .i64 3 w6 w.heap.size (.slice pa pn cn) D):Spar2 tb w w7:=
 ⟨(Spare.of h).trans h2.1,fun x hx ha=>h2.2 _ hD x hx (ha.up h)⟩
/-- A node's dims lie below the heap's end. -/
theorem TapC.av {W:World} {B tb x:Nat} {ns:List Nd} (h:TapC W B tb ns) (hx:W.heap.size≤x):AvT x W tb:=by
 obtain ⟨p,c,xs,hv,ho,hn,_⟩:=Tap.head h
 refine ⟨_,hv,fun g m c' e=>?_⟩
 cases e
 refine ⟨(World.ownsRow.lt ho g rfl).2,fun i hi ad m' c'' hc=>?_⟩
 obtain ⟨q,nd,s,t,e,_,_,_,_,_,h4,_,hs,_⟩:=node_cells ho hn rfl i hi
 cases e
 rw [hc] at h4
 cases h4
 rcases hs.2 with ⟨h0,_⟩|⟨g2,cap,cur,hv2,_,hg2,_⟩
 ·cases h0
 ·cases hv2
  have:=heap_lt hg2
  intro e
  have e':g2=x:=e
  omega
/-- A row of ints of another's may grow. -/
theorem TapC.beside {W W':World} {B tb r:Nat} {ns:List Nd} {cs:Array Value} {fz:Nat×Nat} (h:TapC W B tb ns) (hg:W.grownBy W' (some r)) (hr:W.heap[r]?=some (.cells cs 3 fz)) (ha:AvT r W tb):TapC W' B tb ns:=by
 have hk:∀ (k:Nat) (cs':Array Value) (e:TypeId) (fz':Nat×Nat),W.heap[k]?=some (.cells cs' e fz')→e≠3→W'.heap[k]?=some (.cells cs' e fz'):=fun k cs' e fz' h1 h2=>by
  rw [hg.block k (heap_lt h1) (fun e'=>by cases e';rw [hr] at h1;cases h1;exact h2 rfl)]
  exact h1
 obtain ⟨hb,v,xs,hv,ho,hn⟩:=h
 have hrow:W'.ownsRow B 63 6 v ns.length xs:=by
  refine ⟨ho.1,?_⟩
  rcases ho.2 with hn|⟨g,cap,cur,hv,hb,hg,rest⟩
  ·exact .inl hn
  ·exact .inr ⟨g,cap,cur,hv,hb,hk _ _ _ _ hg (by decide),rest⟩
 refine ⟨hb,v,xs,hk _ _ _ _ hv (by decide),hrow,hn.1,fun i nd hi=>?_⟩
 obtain ⟨s,t,e,hs,ht⟩:=hn.2 i nd hi
 refine ⟨s,t,e,⟨hs.1,?_⟩,⟨ht.1,?_⟩⟩
 ·rcases hs.2 with hn'|⟨g,cap,cur,hvs,hbs,hgs,rest⟩
  ·exact .inl hn'
  ·refine .inr ⟨g,cap,cur,hvs,hbs,?_,rest⟩
   rw [hg.block g (heap_lt hgs) (fun e'=>?_)]
   ·exact hgs
   ·cases e'
    obtain ⟨v',hv',hav⟩:=ha
    rw [hv] at hv'
    cases hv'
    have hi':i < ns.length:=by
     rcases Nat.lt_or_ge i ns.length with h|h
     ·exact h
     ·rw [List.getElem?_eq_none h] at hi;cases hi
    have hx:xs[i*6+4]?=some s:=by
     have h4:((xs.drop (i*6)).take 6)[4]?=some s:=by rw [e];rfl
     rw [List.getElem?_take] at h4
     split at h4
     ·rw [List.getElem?_drop] at h4
      exact h4
     ·cases h4
    rcases ho.2 with ⟨_,h1⟩|⟨g2,cap2,cur2,hv2,_,_,_⟩
    ·omega
    ·subst hv2
     have h6:=ho.cells (g:=g2) rfl (i*6+4) _ hx
     rw [addr_plus,Nat.zero_add,hvs] at h6
     exact (hav g2 _ _ rfl).2 i hi' _ _ _ h6 rfl
 ·rcases ht.2 with hn'|⟨g,cap,cur,hvs,hbs,hgs,rest⟩
  ·exact .inl hn'
  ·exact .inr ⟨g,cap,cur,hvs,hbs,hk _ _ _ _ hgs (by decide),rest⟩
theorem AvT.beside {W W':World} {tb r x B:Nat} {ns:List Nd} {cs:Array Value} {fz:Nat×Nat} (h:AvT x W tb) (hT:TapC W B tb ns) (hg:W.grownBy W' (some r)) (hr:W.heap[r]?=some (.cells cs 3 fz)):AvT x W' tb:=by
 obtain ⟨v,hv,h⟩:=h
 have hne:∀ (k:Nat) (cs':Array Value) (e:TypeId) (fz':Nat×Nat),W.heap[k]?=some (.cells cs' e fz')→e≠3→W'.heap[k]?=W.heap[k]?:=fun k cs' e fz' h1 h2=>hg.block k (heap_lt h1) (fun e'=>by cases e';rw [hr] at h1;cases h1;exact h2 rfl)
 refine ⟨v,(hne _ _ _ _ hv (by decide)).trans hv,fun g m c e=>?_⟩
 obtain ⟨hgl,h2⟩:=h g m c e
 refine ⟨Nat.lt_of_lt_of_le hgl hg.size,fun i hi ad m' c' hc=>h2 i hi ad m' c' ?_⟩
 obtain ⟨p,c2,xs,hv2,ho,_,_⟩:=Tap.head hT
 rw [hv] at hv2
 cases hv2
 cases e
 rcases ho.2 with ⟨h0,_⟩|⟨g2,cap2,cur2,hv2,_,hg2,_⟩
 ·cases h0
 ·cases hv2
  unfold World.cell? at hc ⊢
  rw [← hne _ _ _ _ hg2 (by decide)]
  exact hc
/-- A row of nodes of one's own, and where it lies. -/
def OwnL (e:TypeId) (B n:Nat) (xs:List Value) (r:Option Nat) (H:Nat) (v:Value) (W:World):Prop:=OwnN e B n xs v W∧∃ g c,v = .slice (some ⟨g,0,none⟩) n c∧(r=some g∨H≤g)
theorem OwnL.up {e:TypeId} {B n:Nat} {xs:List Value} {r:Option Nat} {H:Nat} {v:Value} {W W':World} (h:OwnL e B n xs r H v W) (hB:Below W.heap.size W W'):OwnL e B n xs r H v W':=⟨OwnN.up h.1 hB,h.2⟩
theorem nodeC:StT Tryz.prog 54 63 80:=⟨Tryz.underlying54,by kernel_rfl⟩
/-- append of one node that a literal holds, and where the row lies then. -/
theorem appL {P:Program} {t e:TypeId} {b:Nat} (T:StT P t e b) (hb:b≤128) (ty:TypeId) (W:World) (B:Nat) (v:Value) (n:Nat) (xs:List Value) (ho:W.ownsRow B e 6 v n xs) (g:Nat) (u:List Value) (hg:W.heap[g]?=some (.cells u.toArray e (0,0))) (hu:u.length=6) (h1:∀ x∈u,x.oneCell'=true) (hn:n+1≤1073741824) (hB:B≤W.heap.size):
  ∃ g' cap w',(Builtin.append_ #[t,t] ty #[v,.slice (some ⟨g,0,none⟩) 1 1]).run P W = .ok (.slice (some ⟨g',0,none⟩) (n+1) cap) w'∧w'.ownsRow B e 6 (.slice (some ⟨g',0,none⟩) (n+1) cap) (n+1) (xs++u)∧W.grownBy w' v.ownBlock∧(v.ownBlock=some g'∨g'=W.heap.size):=by
 have hi:=T.hi
 cases h:P.info? e with
 | none=>rw [h] at hi;cases hi
 | some i=>
  rw [h] at hi
  simp only [Option.map_some,Option.some.injEq,Prod.mk.injEq] at hi
  obtain ⟨hz,hs,hby⟩:=hi
  cases hz0:i.zero with
  | none=>rw [hz0] at hz;cases hz
  | some z=>
   rw [hz0] at hz
   simp only [Option.map_some,Option.some.injEq] at hz
   have hm:(n+1)*b≤1073741824*128:=Nat.mul_le_mul hn hb
   obtain ⟨g',cap,w',hr,h2,h3,h4,_⟩:=run_append_lies (P:=P) W t ty B e i z 6 b T.ht h hz0 hs hby hz (by decide) v n xs ho ⟨g,0,none⟩ 1 1 u (by omega) (fun j x hj=>by
    rw [addr_plus,Nat.zero_add]
    unfold World.cell?
    simpa [hg] using hj) h1 (by omega) (by unfold maxLen;omega) (by omega) hB _ rfl
   exact ⟨g',cap,w',hr,h2,h3,h4⟩
theorem cnew_any (w:World):Calls Tryz.prog 7 #[] w fun e w'=>∃ b,e = .returned (.pointer (some ⟨b,0,none⟩))∧TapC w' w.heap.size b []∧Below w.heap.size w w':=by
 go_enter Tryz.func7,Tryz.ntmps7
 go_wp2
 exact bodyPost_ret (v:=.pointer (some ⟨w.heap.size,0,none⟩)) (by simp [results,Tryz.results7,go_sem]) rfl ⟨_,rfl,Tap.new (Nat.le_refl _),up_alloc _ _⟩
theorem cfull_any (B tb:Nat) (ns:List Nd) (q:Bool) (hq:decide (512≤ns.length)=q) (w:World) (hT:TapC w B tb ns):Calls Tryz.prog 57 #[.pointer (some ⟨tb,0,none⟩)] w fun e w'=>e = .returned (.bool q)∧w'=w:=by
 have hTT:Hid (TapC w B tb ns):=hT
 obtain ⟨pL,cL,xs0,hv,ho,hn0,hnc⟩:=Tap.head hT
 obtain ⟨N,eN⟩:∃ N,ns.length=N:=⟨_,rfl⟩
 rw [eN] at hv ho hnc
 have hcell:=(head_cell hv).1
 have hz:=heap_lt hv
 rw [eN] at hq
 have hq2:decide ((512:Int)≤(N:Int))=q:=by rw [← hq];exact decide_eq_decide.2 (by omega)
 clear hT hTT hv ho hn0 hnc eN
 go_enter Tryz.func57,Tryz.ntmps57
 go_wp2
 go_ret
 exact ⟨rfl,rfl⟩
theorem chas_any (B tb:Nat) (ns:List Nd) (i:Int) (q:Bool) (hq:decide (0≤i∧i < (ns.length:Int))=q) (w:World) (hT:TapC w B tb ns):Calls Tryz.prog 33 #[.pointer (some ⟨tb,0,none⟩),.int .i64 i] w fun e w'=>e = .returned (.bool q)∧w'=w:=by
 have hTT:Hid (TapC w B tb ns):=hT
 obtain ⟨pL,cL,xs0,hv,ho,hn0,hnc⟩:=Tap.head hT
 obtain ⟨N,eN⟩:∃ N,ns.length=N:=⟨_,rfl⟩
 rw [eN] at hv ho hnc
 have hcell:=(head_cell hv).1
 have hz:=heap_lt hv
 rw [eN] at hq
 clear hT hTT hv ho hn0 hnc eN
 by_cases h0:i < 0
 ·have hq':q=false:=by rw [← hq];exact decide_eq_false (by omega)
  subst hq'
  have d1:decide (0≤i)=false:=decide_eq_false (by omega)
  clear hq h0
  go_enter Tryz.func33,Tryz.ntmps33
  go_wp2
  go_ret
  exact ⟨rfl,rfl⟩
 ·have d1:decide (0≤i)=true:=decide_eq_true (by omega)
  have d2:decide (i < (N:Int))=q:=by rw [← hq];exact decide_eq_decide.2 (by omega)
  clear hq h0
  go_enter Tryz.func33,Tryz.ntmps33
  go_wp2
  go_ret
  exact ⟨rfl,rfl⟩
theorem chasb_any (op:Int) (q:Bool) (hq:decide (twoP op)=q) (w:World):
  Calls Tryz.prog 60 #[.int .i64 op] w fun e w'=>e = .returned (.bool q)∧w'=w:=by
 by_cases h2:op=2
 ·subst h2
  have hq':q=true:=by rw [← hq];decide
  subst hq'
  clear hq
  go_enter Tryz.func60,Tryz.ntmps60
  go_wp2
  go_ret
  exact ⟨rfl,rfl⟩
 by_cases h3:op=3
 ·subst h3
  have hq':q=true:=by rw [← hq];decide
  subst hq'
  clear hq
  go_enter Tryz.func60,Tryz.ntmps60
  go_wp2
  go_ret
  exact ⟨rfl,rfl⟩
 by_cases h4:op=4
 ·subst h4
  have hq':q=true:=by rw [← hq];decide
  subst hq'
  clear hq
  go_enter Tryz.func60,Tryz.ntmps60
  go_wp2
  go_ret
  exact ⟨rfl,rfl⟩
 by_cases h6:op=6
 ·subst h6
  have hq':q=true:=by rw [← hq];decide
  subst hq'
  clear hq
  go_enter Tryz.func60,Tryz.ntmps60
  go_wp2
  go_ret
  exact ⟨rfl,rfl⟩
 by_cases h12:op=12
 ·subst h12
  have hq':q=true:=by rw [← hq];decide
  subst hq'
  clear hq
  go_enter Tryz.func60,Tryz.ntmps60
  go_wp2
  go_ret
  exact ⟨rfl,rfl⟩
 have g2:(op==2)=false:=by simpa using h2
 have g3:(op==3)=false:=by simpa using h3
 have g4:(op==4)=false:=by simpa using h4
 have g6:(op==6)=false:=by simpa using h6
 have g12:(op==12)=false:=by simpa using h12
 have hq':q=false:=by rw [← hq];exact decide_eq_false (by omega)
 subst hq'
 clear hq h2 h3 h4 h6 h12
 go_enter Tryz.func60,Tryz.ntmps60
 go_wp2
 go_ret
 exact ⟨rfl,rfl⟩
theorem chask_any (op:Int) (q:Bool) (hq:decide (byP op)=q) (w:World):
  Calls Tryz.prog 61 #[.int .i64 op] w fun e w'=>e = .returned (.bool q)∧w'=w:=by
 by_cases h5:op=5
 ·subst h5
  have hq':q=true:=by rw [← hq];decide
  subst hq'
  clear hq
  go_enter Tryz.func61,Tryz.ntmps61
  go_wp2
  go_ret
  exact ⟨rfl,rfl⟩
 by_cases h8:op=8
 ·subst h8
  have hq':q=true:=by rw [← hq];decide
  subst hq'
  clear hq
  go_enter Tryz.func61,Tryz.ntmps61
  go_wp2
  go_ret
  exact ⟨rfl,rfl⟩
 by_cases h11:op=11
 ·subst h11
  have hq':q=true:=by rw [← hq];decide
  subst hq'
  clear hq
  go_enter Tryz.func61,Tryz.ntmps61
  go_wp2
  go_ret
  exact ⟨rfl,rfl⟩
 by_cases h12:op=12
 ·subst h12
  have hq':q=true:=by rw [← hq];decide
  subst hq'
  clear hq
  go_enter Tryz.func61,Tryz.ntmps61
  go_wp2
  go_ret
  exact ⟨rfl,rfl⟩
 by_cases h13:op=13
 ·subst h13
  have hq':q=true:=by rw [← hq];decide
  subst hq'
  clear hq
  go_enter Tryz.func61,Tryz.ntmps61
  go_wp2
  go_ret
  exact ⟨rfl,rfl⟩
 have g5:(op==5)=false:=by simpa using h5
 have g8:(op==8)=false:=by simpa using h8
 have g11:(op==11)=false:=by simpa using h11
 have g12:(op==12)=false:=by simpa using h12
 have g13:(op==13)=false:=by simpa using h13
 have hq':q=false:=by rw [← hq];exact decide_eq_false (by omega)
 subst hq'
 clear hq h5 h8 h11 h12 h13
 go_enter Tryz.func61,Tryz.ntmps61
 go_wp2
 go_ret
 exact ⟨rfl,rfl⟩
theorem below_two {B:Nat} {a b c:World} (h:Below B a b) (h2:Below B b c):Below B a c:=h.trans h2
theorem ccopied_any (p p2:Option Addr) (n c n2 c2:Nat) (dd yy:List Int) (hg:isP dd yy) (w:World) (h1:Nums .i64 w (.slice p n c) dd) (h2:Nums .i64 w (.slice p2 n2 c2) yy):
  Calls Tryz.prog 34 #[.agg #[.slice p n c,.slice p2 n2 c2]] w fun e w'=>∃ v,e = .returned v∧TRes w' w.heap.size v dd yy∧Below w.heap.size w w':=by
 have hl1:dd.length≤1073741824:=by have:=hg.1.1;rw [ntl_len] at this;omega
 have hl2:yy.length≤1073741824:=by have h3:=hg.1.2.2;have h4:=hg.2;omega
 have CI:Hid (∀ W,Below w.heap.size w W→Calls Tryz.prog 39 #[.slice p n c] W fun e w'=>∃ v',e = .returned v'∧OwnK .i64 3 w' W.heap.size v' dd∧Below W.heap.size W w'):=fun W hW=>cloneI_any _ dd (by omega) W (h1.up hW)
 have CF:Hid (∀ W,Below w.heap.size w W→Calls Tryz.prog 49 #[.slice p2 n2 c2] W fun e w'=>∃ v',e = .returned v'∧OwnK .i64 39 w' W.heap.size v' yy∧Below W.heap.size W w'):=fun W hW=>cloneF_any _ yy (by omega) W (h2.up hW)
 haveI:Nonempty World:=⟨w⟩
 clear h1 h2 hl1 hl2 hg
 go_enter Tryz.func34,Tryz.ntmps34
 go_wp2_with fail
 generalize hW0:World.alloc _ _=W0
 have HB0:=hidB (w:=w) hW0 (by go_grown)
 have XA:Hid (Cel W0 w.heap.size (.slice p n c) (.slice p2 n2 c2)):=celW hW0 (by simp [go_sem])
 have XR:Hid (Cel W0 (w.heap.size+1) (.slice none 0 0) (.slice none 0 0)):=celW hW0 (by simp [go_sem])
 clear hW0
 obtain ⟨a0,a1,_,_⟩:=XA.out
 have k0:=cell_lt a0
 refine rel [⟨2,5,fun v W=>OwnK .i64 3 W W0.heap.size v dd⟩,⟨5,8,fun v W=>OwnK .i64 39 W W0.heap.size v yy⟩,⟨6,9,OwnT W0.heap.size dd yy⟩] 7 10 (by kernel_rfl) rfl rfl (by kernel_rfl) (by rfl) ?_ ?_
 ·intro e he v W W' h hb
  simp only [List.mem_cons,List.not_mem_nil,or_false] at he
  rcases he with rfl|rfl|rfl
  ·exact OwnK.up h hb
  ·exact OwnK.up h hb
  ·exact OwnT.up h hb
 apply Exists.intro
 refine ⟨fun x=>?_,?_,?_⟩
 ·simp only [List.take_succ_cons,List.take_zero]
  iterate 2
   refine relQuiet rfl rfl ?_
   apply Exists.intro
   refine ⟨fun F hF hf K hK=>?_,?_⟩
   ·have hFc:=hF.cell
    have hFf:=hF.frozen
    go_big_quiet_op
    exact hK
   (try simp only [putL])
  refine relTold rfl rfl ?_ ?_
  ·intro F hF hf d
   have hFc:=hF.cell
   have hFf:=hF.frozen
   simp [yieldsR,yieldsUpon,go_sem]
   refine (CI.out (F d) (bstep HB0.out (hF.below d))).mono ?_
   rintro e' w8 ⟨v8,rfl,h8,hb8⟩
   exact ⟨_,rfl,h8.low (hF.below d).size,hb8⟩
  iterate 2
   (try simp only [putL])
   refine relQuiet rfl rfl ?_
   apply Exists.intro
   refine ⟨fun F hF hf K hK=>?_,?_⟩
   ·have hFc:=hF.cell
    have hFf:=hF.frozen
    go_big_quiet_op
    exact hK
  (try simp only [putL])
  refine relTold rfl rfl ?_ ?_
  ·intro F hF hf d
   have hFc:=hF.cell
   have hFf:=hF.frozen
   simp [yieldsR,yieldsUpon,go_sem]
   refine (CF.out (F d) (bstep HB0.out (hF.below d))).mono ?_
   rintro e' w8 ⟨v8,rfl,h8,hb8⟩
   exact ⟨_,rfl,h8.low (hF.below d).size,hb8⟩
  (try simp only [putL])
  refine relTold rfl rfl ?_ ?_
  ·intro F hF hf d
   have hFc:=hF.cell
   have hFf:=hF.frozen
   have h9:OwnK .i64 3 (F d) W0.heap.size (x 2) dd:=hf _ List.mem_cons_self (by rfl) d
   have h8:OwnK .i64 39 (F d) W0.heap.size (x 5) yy:=hf _ (List.mem_cons_of_mem _ List.mem_cons_self) (by rfl) d
   obtain ⟨p9,n9,c9,e9⟩:=h9.form_
   obtain ⟨p8,n8,c8,e8⟩:=h8.form_
   rw [e9] at h9
   rw [e8] at h8
   simp [yieldsR,yieldsUpon,go_sem,e9,e8]
   exact ⟨⟨_,_,_,_,_,_,rfl,h9,h8⟩,Below.refl _ _⟩
  (try simp only [putL])
  refine relEnd ?_
  exact rfl
 ·exact fun x=>rfl
 ·intro w1 xs hB1 hf
  simp only [List.drop_succ_cons,List.drop_zero]
  have hT1:=hf _ (List.mem_cons_of_mem _ (List.mem_cons_of_mem _ List.mem_cons_self))
  obtain ⟨x2,e2⟩:∃ q,xs 2=q:=⟨_,rfl⟩
  obtain ⟨x5,e5⟩:∃ q,xs 5=q:=⟨_,rfl⟩
  obtain ⟨x6,e6⟩:∃ q,xs 6=q:=⟨_,rfl⟩
  simp only [e6] at hT1
  simp only [e2,e5,e6]
  obtain ⟨pa,na,ca,pb,nb,cb,rfl,hs,ht⟩:=hT1
  clear e2 e5 e6 hf CI CF a0 a1 k0
  obtain ⟨HF,r0,r1,r2,r3,z0,z1⟩:=fin2 XR HB0 hB1 hs ht (by omega)
  clear hs ht
  go_wp2
  exact bodyPost_ret (v:=.agg #[.slice pa na ca,.slice pb nb cb]) (by simp [results,Tryz.results34,go_sem,z0,z1]) rfl ⟨_,rfl,HF.out⟩
theorem ckeep_sp (B tb:Nat) (ns:List Nd) (nd:Nd) (pa pb:Option Addr) (na ca nb cb:Nat) (hroom:ns.length < 512) (w:World) (hT:TapC w B tb ns) (hs:OwnK .i64 3 w B (.slice pa na ca) nd.D) (ht:OwnK .i64 39 w B (.slice pb nb cb) nd.X):
  Calls Tryz.prog 59 #[.pointer (some ⟨tb,0,none⟩),.agg #[.int .i64 nd.op,.int .i64 nd.a,.int .i64 nd.b,.int .i64 nd.k,.slice pa na ca,.slice pb nb cb]] w fun e w'=>e = .returned (.int .i64 (ns.length:Int))∧TapC w' B tb (ns++[nd])∧Below B w w'∧Only SC w w'∧Spare tb w w'∧∀ H,OwnK .i64 3 w H (.slice pa na ca) nd.D→SpA H tb w w':=by
 obtain ⟨op,a,bb,k,D,X⟩:=nd
 have hTT:Hid (TapC w B tb ns):=hT
 obtain ⟨pL,cL,xs0,hv,ho,hn0,hnc⟩:=Tap.head hT
 obtain ⟨N,eN⟩:∃ N,ns.length=N:=⟨_,rfl⟩
 rw [eN] at hv ho hnc
 have hcell:=(head_cell hv).1
 have hz:=heap_lt hv
 rw [eN]
 have hl:Hid (N < 512):=by show _ < _;rw [← eN];exact hroom
 have HBB:Hid (B≤w.heap.size):=Nat.le_trans hTT.out.1 (Nat.le_of_lt hz)
 have HS:Hid (OwnK .i64 3 w B (.slice pa na ca) D∧OwnK .i64 39 w B (.slice pb nb cb) X):=⟨hs,ht⟩
 clear hT hv ho hn0 hnc hs ht hroom hcell hz cL xs0 pL
 go_enter Tryz.func59,Tryz.ntmps59
 go_wp2_with fail
 refine name_world (fun w6 hw6=>?_)
 have HN6:w6.heap[w.heap.size]?=some (.cells #[.int .i64 op,.int .i64 a,.int .i64 bb,.int .i64 k,.slice pa na ca,.slice pb nb cb] 63 (0,0)):=by rw [hw6];exact heap_alloc_new _ _
 have HB6a:Below w.heap.size w w6:=by rw [hw6];exact up_alloc _ _
 have HB6:Hid (Below B w w6∧B≤w6.heap.size∧Only SC w w6∧Spare tb w w6∧Below w.heap.size w w6):=⟨HB6a.mono HBB.out,Nat.le_trans HBB.out HB6a.size,Only.of HB6a,Spare.of HB6a,HB6a⟩
 have HND6:Hid (NdC w6 B ⟨op,a,bb,k,D,X⟩ [.int .i64 op,.int .i64 a,.int .i64 bb,.int .i64 k,.slice pa na ca,.slice pb nb cb]):=⟨_,_,rfl,HS.out.1.up HB6a,HS.out.2.up HB6a⟩
 have HT6:=hTT.out.up HB6a
 obtain ⟨pL,cL,xs0,hv,ho,hn0,hnc⟩:=Tap.head HT6
 rw [eN] at hv ho
 have HTP:Hid (B≤tb∧w6.heap[tb]?=some (.cells #[.slice pL N cL] 56 (0,0))∧ns.length=N∧w6.ownsRow B 63 6 (.slice pL N cL) N xs0∧NdsC w6 B ns xs0):=⟨hTT.out.1,hv,eN,ho,hn0⟩
 have hrow:∀ z,Value.ownBlock (.slice pL N cL)=some z→z < w.heap.size:=fun z hz'=>by
  have h3:=hTT.out
  obtain ⟨pL',cL',xs',hv',ho',_,_⟩:=Tap.head h3
  rw [eN] at hv' ho'
  have h4:=HB6a.block tb (heap_lt hv')
  rw [hv,hv'] at h4
  cases h4
  exact (World.ownsRow.lt ho' z hz').2
 have HX6:Hid (w6.heap[w.heap.size]?=some (.cells #[.int .i64 op,.int .i64 a,.int .i64 bb,.int .i64 k,.slice pa na ca,.slice pb nb cb] 63 (0,0))∧some w.heap.size≠Value.ownBlock (.slice pL N cL)):=⟨HN6,fun h=>by have:=hrow _ h.symm;omega⟩
 have HRW:Hid (∀ z,Value.ownBlock (.slice pL N cL)=some z→z < w6.heap.size):=fun z hz'=>Nat.lt_of_lt_of_le (hrow z hz') HB6a.size
 have HU1:Hid (∀ z∈([.int .i64 op,.int .i64 a,.int .i64 bb,.int .i64 k,.slice pa na ca,.slice pb nb cb]:List Value),z.oneCell'=true):=HND6.out.one
 clear hv ho hn0 hnc hrow hw6 HT6 HB6a HN6 HS
 refine from_region (by kernel_rfl) ?_
 refine seg (fun q W=>match q with|false=>Below w6.heap.size w6 W|true=>w6.grownBy W (Value.ownBlock (.slice pL N cL))) (fun W W'=>W.grownBy W' (Value.ownBlock (.slice pL N cL))) 7 [⟨6,11,LitS 63 w6.heap.size [.int .i64 op,.int .i64 a,.int .i64 bb,.int .i64 k,.slice pa na ca,.slice pb nb cb]⟩,⟨7,12,OwnL 63 B (N+1) (xs0++[.int .i64 op,.int .i64 a,.int .i64 bb,.int .i64 k,.slice pa na ca,.slice pb nb cb]) (Value.ownBlock (.slice pL N cL)) w6.heap.size⟩] 0 10 21 rfl rfl (by kernel_rfl) (by rfl) ?_ ?_ ?_ ?_ ?_ ?_
 ·intro q W W' h hb
  cases q
  ·exact bstep h hb
  ·exact grown_up h hb
 ·exact ⟨rfl,rfl,rfl,Nat.le_refl _,fun _ _=>rfl⟩
 ·exact .inl ⟨_,List.mem_cons_of_mem _ List.mem_cons_self,rfl⟩
 ·intro e he v W W' h hb
  simp only [List.mem_cons,List.not_mem_nil,or_false] at he
  rcases he with rfl|rfl
  ·exact LitS.up h hb
  ·exact OwnL.up h hb
 ·intro e he hne v W W' h hc ht
  simp only [List.mem_cons,List.not_mem_nil,or_false] at he
  rcases he with rfl|rfl
  ·exact LitS.grown h ht HRW.out
  ·exact absurd rfl hne
 apply Exists.intro
 refine ⟨fun x=>?_,?_,?_⟩
 ·simp only [List.drop_succ_cons,List.drop_zero,List.take_succ_cons,List.take_zero]
  iterate 4
   refine segQuiet rfl rfl ?_
   apply Exists.intro
   refine ⟨fun b F hF hf K hK=>?_,?_⟩
   ·have hFc:=hF.cls
    go_big_quiet_op
    exact hK
   (try simp only [putL])
  refine segQuiet rfl rfl ?_
  apply Exists.intro
  refine ⟨fun b F hF hf K hK=>?_,?_⟩
  ·have hFc:=hF.cls
   have q0:∀ d,(F d).cell? ⟨tb,0,none⟩=some (.slice pL N cL):=fun d=>by
    have hK:w6.grownBy (F d) (Value.ownBlock (.slice pL N cL)):=by
     cases b
     ·exact below_grown _ (hFc d)
     ·exact hFc d
    exact hK.cell (head_cell HTP.out.2.1).1 (Ne.symm (owned_off ne_ct HTP.out.2.1 HTP.out.2.2.2.1))
   clear hFc
   go_big_quiet_op
   exact hK
  (try simp only [putL])
  refine segQuiet rfl rfl ?_
  apply Exists.intro
  refine ⟨fun b F hF hf K hK=>?_,?_⟩
  ·have hFc:=hF.cls
   have q0:∀ d,(F d).heap[w.heap.size]?=some (.cells #[.int .i64 op,.int .i64 a,.int .i64 bb,.int .i64 k,.slice pa na ca,.slice pb nb cb] 63 (0,0)):=fun d=>by
    have hK:w6.grownBy (F d) (Value.ownBlock (.slice pL N cL)):=by
     cases b
     ·exact below_grown _ (hFc d)
     ·exact hFc d
    rw [hK.block _ (heap_lt HX6.out.1) HX6.out.2]
    exact HX6.out.1
   have q1:=fun d=>(box6 (q0 d)).1.1
   have q2:=fun d=>(box6 (q0 d)).1.2.1
   have q3:=fun d=>(box6 (q0 d)).1.2.2.1
   have q4:=fun d=>(box6 (q0 d)).1.2.2.2.1
   have q5:=fun d=>(box6 (q0 d)).1.2.2.2.2.1
   have q6:=fun d=>(box6 (q0 d)).1.2.2.2.2.2
   clear hFc q0
   go_big_quiet_op
   exact hK
  (try simp only [putL])
  refine segTold rfl (by decide) rfl ?_ ?_
  ·intro b F hF hf d
   have hFc:=hF.cls
   have hcls:w6.heap.size≤(F d).heap.size:=by
    cases b
    ·exact (hFc d).size
    ·exact (hFc d).size
   simp [yieldsR,yieldsUpon,go_sem]
   exact ⟨⟨(F d).heap.size,rfl,heap_alloc_new (F d) _,hcls⟩,up_alloc _ _⟩
  (try simp only [putL])
  refine segBusy rfl rfl rfl ?_ ?_
  ·intro W hW hf
   have h7:=hf _ List.mem_cons_self (by rfl) W
   obtain ⟨g7,e7,hg7,_⟩:=h7
   simp only [] at e7
   obtain ⟨g8,c8,w8,hr8,ho8,hgr8,hat8⟩:=appL nodeC (by decide) 54 W B (.slice pL N cL) N xs0 (owns_only (S:=[]) HTP.out.2.2.2.1 (Only.of hW) (by simp)) g7 [.int .i64 op,.int .i64 a,.int .i64 bb,.int .i64 k,.slice pa na ca,.slice pb nb cb] hg7 rfl HU1.out (by have:=hl.out;omega) (Nat.le_trans HTP.out.1 (Nat.le_trans (Nat.le_of_lt (heap_lt HTP.out.2.1)) (Below.size hW)))
   simp [leavesR,leavesUpon,execOp,resolve,invoke,builtin,Act.eval,e7,hr8,Result.andThen]
   exact ⟨⟨ho8,g8,c8,rfl,hat8.imp id fun e=>by rw [e];exact Below.size hW⟩,grown_trans (below_grown _ hW) hgr8,hgr8⟩
  iterate 2
   (try simp only [putL])
   refine segQuiet rfl rfl ?_
   apply Exists.intro
   refine ⟨fun b F hF hf K hK=>?_,?_⟩
   ·have hFc:=hF.cls
    go_big_quiet_op
    exact hK
  (try simp only [putL])
  refine segEnd ?_
  exact rfl
 ·exact fun x=>rfl
 ·intro w8 xs8 hC8 hf8
  have hC8':w6.grownBy w8 (Value.ownBlock (.slice pL N cL)):=hC8
  refine from_list 10 (by kernel_rfl) ?_
  simp only [List.drop_succ_cons,List.drop_zero]
  have h8:=hf8 _ (List.mem_cons_of_mem _ List.mem_cons_self)
  obtain ⟨x6,e6⟩:∃ z,xs8 6=z:=⟨_,rfl⟩
  obtain ⟨x7,e7⟩:∃ z,xs8 7=z:=⟨_,rfl⟩
  simp only [e7] at h8
  simp only [e6,e7]
  obtain ⟨h8,g8,c8,rfl,hat8⟩:=h8
  obtain ⟨hTp,hOn⟩:=Tap.push (TT:=56) (NT:=63) ne_ct (by decide) (by decide) (nd:=⟨op,a,bb,k,D,X⟩) HTP.out.1 HTP.out.2.1 (by rw [HTP.out.2.2.1];exact HTP.out.2.2.2.1) HTP.out.2.2.2.2 HND6.out hC8' (by rw [HTP.out.2.2.1];exact h8)
  have hv8:w8.heap[tb]?=some (.cells #[.slice pL N cL] 56 (0,0)):=by
   rw [hC8'.block tb (heap_lt HTP.out.2.1) (Ne.symm (owned_off ne_ct HTP.out.2.1 HTP.out.2.2.2.1))]
   exact HTP.out.2.1
  obtain ⟨r0,r1⟩:=head_cell hv8
  have z0:=(head_cell (v:=.slice (some ⟨g8,0,none⟩) (N+1) c8) (e:=56) (W:=w8.setCell ⟨tb,0,none⟩ (.slice (some ⟨g8,0,none⟩) (N+1) c8)) (by rw [heap_setat hv8];rfl)).1
  have HF:Hid (TapC (w8.setCell ⟨tb,0,none⟩ (.slice (some ⟨g8,0,none⟩) (N+1) c8)) B tb (ns++[⟨op,a,bb,k,D,X⟩])∧Below B w (w8.setCell ⟨tb,0,none⟩ (.slice (some ⟨g8,0,none⟩) (N+1) c8))∧Only SC w (w8.setCell ⟨tb,0,none⟩ (.slice (some ⟨g8,0,none⟩) (N+1) c8))∧Spare tb w (w8.setCell ⟨tb,0,none⟩ (.slice (some ⟨g8,0,none⟩) (N+1) c8))∧∀ H,OwnK .i64 3 w H (.slice pa na ca) D→SpA H tb w (w8.setCell ⟨tb,0,none⟩ (.slice (some ⟨g8,0,none⟩) (N+1) c8))):=by
   refine ⟨hTp,(Below.grown HB6.out.1 hC8' HB6.out.2.1 (OwnN_block HTP.out.2.2.2.1)).setCell (p:=⟨tb,0,none⟩) HTP.out.1 _,HB6.out.2.2.1.trans hOn,HB6.out.2.2.2.1.trans ?_,fun H hH x hx ha=>av_push HTP.out.2.1 HTP.out.2.2.2.1 (by rw [HTP.out.2.2.2.2.1,HTP.out.2.2.1]) hv8 h8 rfl (own_avoid hH hx) (ha.up HB6.out.2.2.2.2)⟩
   intro x v hv hn hx ho
   rw [HTP.out.2.1] at hv
   cases hv
   refine ⟨?_,_,(heap_setat hv8).trans rfl,?_⟩
   ·rw [heap_set _ _ _ _ _ hn]
    exact hC8'.block x hx (Ne.symm ho)
   ·intro e
    have e':g8=x:=by simpa [Value.ownBlock] using e
    rcases hat8 with h|h
    ·exact ho (by rw [h,e'])
    ·omega
  clear hTp hOn hC8 hC8' h8 hf8 hv8 hat8
  have hN1:((N+1:Nat):Int) - 1=(N:Int):=by omega
  have hN2:wrap64 (N:Int)=(N:Int):=by have:=hl.out;unfold wrap64;omega
  go_wp2
  exact bodyPost_ret (v:=.int .i64 (N:Int)) (by simp [results,Tryz.results59,go_sem,hN1,hN2]) rfl ⟨rfl,HF.out⟩
theorem cleaf_full (B tb:Nat) (ns:List Nd) (p p2:Option Addr) (n c n2 c2:Nat) (dd yy:List Int) (hd:RI dd) (w:World) (hT:TapC w B tb ns) (h1:Nums .i64 w (.slice p n c) dd) (h2:Nums .i64 w (.slice p2 n2 c2) yy) (hfull:512≤ns.length):
  Calls Tryz.prog 47 #[.pointer (some ⟨tb,0,none⟩),.agg #[.slice p n c,.slice p2 n2 c2]] w fun e w'=>e = .returned (.tuple #[.int .i64 (leafR ns dd yy),.int .i64 (leafE ns dd yy)])∧TapC w' B tb (leafN ns dd yy)∧Below B w w'∧Only SC w w'∧Spar2 tb w w':=by
 have HBB:Hid (B≤w.heap.size):=Nat.le_trans hT.1 (Nat.le_of_lt (by obtain ⟨_,_,_,hv,_⟩:=Tap.head hT;exact heap_lt hv))
 have hTT:Hid (TapC w B tb ns):=hT
 have HN:Hid (Nums .i64 w (.slice p n c) dd∧Nums .i64 w (.slice p2 n2 c2) yy∧RI dd):=⟨h1,h2,hd⟩
 have hf:decide (512≤ns.length)=true:=decide_eq_true hfull
 have e1:leafE ns dd yy=2:=if_pos hfull
 have e2:leafR ns dd yy=0:=if_neg fun h=>by omega
 have e3:leafN ns dd yy=ns:=if_neg fun h=>by omega
 rw [e1,e2,e3]
 clear hT e1 e2 e3 h1 h2 hd hfull
 go_enter Tryz.func47,Tryz.ntmps47
 go_wp2_with fail
 generalize hW0:World.alloc _ _=W0
 have HB0:=hidB (w:=w) hW0 (by go_grown)
 have XA:Hid (Cel W0 w.heap.size (.slice p n c) (.slice p2 n2 c2)):=celW hW0 (by simp [go_sem])
 clear hW0
 refine (cfull_any B tb ns true hf W0 (hTT.out.up HB0.out)).mono ?_
 rintro e w1 ⟨rfl,ew1⟩
 subst ew1
 clear hf
 go_wp2
 exact bodyPost_ret (v:=.tuple #[.int .i64 0,.int .i64 2]) (by simp [results,Tryz.results47,go_sem]) rfl ⟨rfl,hTT.out.up HB0.out,HB0.out.mono HBB.out,Only.of HB0.out,Spar2.of HB0.out⟩
theorem cleaf_bad (B tb:Nat) (ns:List Nd) (p p2:Option Addr) (n c n2 c2:Nat) (dd yy:List Int) (hd:RI dd) (w:World) (hT:TapC w B tb ns) (h1:Nums .i64 w (.slice p n c) dd) (h2:Nums .i64 w (.slice p2 n2 c2) yy) (hroom:ns.length < 512) (hp:¬ isP dd yy):
  Calls Tryz.prog 47 #[.pointer (some ⟨tb,0,none⟩),.agg #[.slice p n c,.slice p2 n2 c2]] w fun e w'=>e = .returned (.tuple #[.int .i64 (leafR ns dd yy),.int .i64 (leafE ns dd yy)])∧TapC w' B tb (leafN ns dd yy)∧Below B w w'∧Only SC w w'∧Spar2 tb w w':=by
 have HBB:Hid (B≤w.heap.size):=Nat.le_trans hT.1 (Nat.le_of_lt (by obtain ⟨_,_,_,hv,_⟩:=Tap.head hT;exact heap_lt hv))
 have hTT:Hid (TapC w B tb ns):=hT
 have HN:Hid (Nums .i64 w (.slice p n c) dd∧Nums .i64 w (.slice p2 n2 c2) yy∧RI dd):=⟨h1,h2,hd⟩
 have hf:decide (512≤ns.length)=false:=decide_eq_false (by omega)
 have hq:decide (isP dd yy)=false:=decide_eq_false hp
 have e1:leafE ns dd yy=1:=(if_neg (by omega)).trans (if_neg hp)
 have e2:leafR ns dd yy=0:=if_neg fun h=>hp h.2
 have e3:leafN ns dd yy=ns:=if_neg fun h=>hp h.2
 rw [e1,e2,e3]
 clear hT e1 e2 e3 h1 h2 hd hroom hp
 go_enter Tryz.func47,Tryz.ntmps47
 go_wp2_with fail
 generalize hW0:World.alloc _ _=W0
 have HB0:=hidB (w:=w) hW0 (by go_grown)
 have XA:Hid (Cel W0 w.heap.size (.slice p n c) (.slice p2 n2 c2)):=celW hW0 (by simp [go_sem])
 clear hW0
 refine (cfull_any B tb ns false hf W0 (hTT.out.up HB0.out)).mono ?_
 rintro e w1 ⟨rfl,ew1⟩
 subst ew1
 clear hf
 obtain ⟨a0,a1,_,_⟩:=XA.out
 have k0:=cell_lt a0
 go_wp2_with fail
 refine (tgood_any (.slice p n c) (.slice p2 n2 c2) dd yy HN.out.2.2 w1 (HN.out.1.up HB0.out) (HN.out.2.1.up HB0.out)).mono ?_
 rintro e w2 ⟨rfl,hB2⟩
 rw [hq]
 have HB2:=hid2 (bstep HB0.out hB2) hB2
 clear hB2
 clear hq
 go_wp2
 exact bodyPost_ret (v:=.tuple #[.int .i64 0,.int .i64 1]) (by simp [results,Tryz.results47,go_sem]) rfl ⟨rfl,hTT.out.up HB2.out.1,HB2.out.1.mono HBB.out,Only.of HB2.out.1,Spar2.of HB2.out.1⟩
theorem cleaf_good (B tb:Nat) (ns:List Nd) (p p2:Option Addr) (n c n2 c2:Nat) (dd yy:List Int) (hd:RI dd) (w:World) (hT:TapC w B tb ns) (h1:Nums .i64 w (.slice p n c) dd) (h2:Nums .i64 w (.slice p2 n2 c2) yy) (hroom:ns.length < 512) (hp:isP dd yy):
  Calls Tryz.prog 47 #[.pointer (some ⟨tb,0,none⟩),.agg #[.slice p n c,.slice p2 n2 c2]] w fun e w'=>e = .returned (.tuple #[.int .i64 (leafR ns dd yy),.int .i64 (leafE ns dd yy)])∧TapC w' B tb (leafN ns dd yy)∧Below B w w'∧Only SC w w'∧Spar2 tb w w':=by
 have HBB:Hid (B≤w.heap.size):=Nat.le_trans hT.1 (Nat.le_of_lt (by obtain ⟨_,_,_,hv,_⟩:=Tap.head hT;exact heap_lt hv))
 have hTT:Hid (TapC w B tb ns):=hT
 have HN:Hid (Nums .i64 w (.slice p n c) dd∧Nums .i64 w (.slice p2 n2 c2) yy∧RI dd):=⟨h1,h2,hd⟩
 have hf:decide (512≤ns.length)=false:=decide_eq_false (by omega)
 have hq:decide (isP dd yy)=true:=decide_eq_true hp
 have HP:Hid (isP dd yy∧ns.length < 512):=⟨hp,hroom⟩
 have e1:leafE ns dd yy=0:=(if_neg (by omega)).trans (if_pos hp)
 have e2:leafR ns dd yy=(ns.length:Int):=if_pos ⟨hroom,hp⟩
 have e3:leafN ns dd yy=ns++[⟨1,-1,-1,0,dd,yy⟩]:=if_pos ⟨hroom,hp⟩
 rw [e1,e2,e3]
 clear hT e1 e2 e3 h1 h2 hd hroom hp
 go_enter Tryz.func47,Tryz.ntmps47
 go_wp2_with fail
 generalize hW0:World.alloc _ _=W0
 have HB0:=hidB (w:=w) hW0 (by go_grown)
 have XA:Hid (Cel W0 w.heap.size (.slice p n c) (.slice p2 n2 c2)):=celW hW0 (by simp [go_sem])
 clear hW0
 refine (cfull_any B tb ns false hf W0 (hTT.out.up HB0.out)).mono ?_
 rintro e w1 ⟨rfl,ew1⟩
 subst ew1
 clear hf
 obtain ⟨a0,a1,_,_⟩:=XA.out
 have k0:=cell_lt a0
 go_wp2_with fail
 refine (tgood_any (.slice p n c) (.slice p2 n2 c2) dd yy HN.out.2.2 w1 (HN.out.1.up HB0.out) (HN.out.2.1.up HB0.out)).mono ?_
 rintro e w2 ⟨rfl,hB2⟩
 rw [hq]
 have HB2:=hid2 (bstep HB0.out hB2) hB2
 clear hB2
 clear hq
 replace a0:=cell_low a0 HB2.out.2
 replace a1:=cell_low a1 HB2.out.2
 replace k0:=cell_lt a0
 go_wp2_with fail
 refine (ccopied_any p p2 n c n2 c2 dd yy HP.out.1 w2 (HN.out.1.up HB2.out.1) (HN.out.2.1.up HB2.out.1)).mono ?_
 rintro e w3 ⟨v3,rfl,⟨s3,t3,rfl,hs,ht⟩,hB3⟩
 obtain ⟨pa,na,ca,rfl⟩:=hs.form_
 obtain ⟨pb,nb,cb,rfl⟩:=ht.form_
 have HB3:Hid (Below w.heap.size w w3):=bstep HB2.out.1 hB3
 have HO:Hid (OwnK .i64 3 w3 B (.slice pa na ca) dd∧OwnK .i64 39 w3 B (.slice pb nb cb) yy∧OwnK .i64 3 w3 w.heap.size (.slice pa na ca) dd):=⟨hs.low (Nat.le_trans HBB.out HB2.out.1.size),ht.low (Nat.le_trans HBB.out HB2.out.1.size),hs.low HB2.out.1.size⟩
 clear hs ht hB3 a0 a1 k0
 go_wp2_with fail
 refine (ckeep_sp B tb ns ⟨1,-1,-1,0,dd,yy⟩ pa pb na ca nb cb HP.out.2 w3 (hTT.out.up HB3.out) HO.out.1 HO.out.2.1).mono ?_
 rintro e w4 ⟨rfl,hT4,hB4,hO4,hS4⟩
 have HF:Hid (TapC w4 B tb (ns++[⟨1,-1,-1,0,dd,yy⟩])∧Below B w w4∧Only SC w w4∧Spar2 tb w w4):=⟨hT4,below_two (HB3.out.mono HBB.out) hB4,(Only.of HB3.out).trans hO4,Spar2.kept HB3.out hS4 HO.out.2.2⟩
 clear hT4 hB4 hO4 hS4 HO
 go_wp2
 exact bodyPost_ret (v:=.tuple #[.int .i64 (ns.length:Int),.int .i64 0]) (by simp [results,Tryz.results47,go_sem]) rfl ⟨rfl,HF.out⟩
theorem cleaf_sp (B tb:Nat) (ns:List Nd) (hG:NodesG ns) (p p2:Option Addr) (n c n2 c2:Nat) (dd yy:List Int) (hd:RI dd) (hy:RI yy) (w:World) (hT:TapC w B tb ns) (h1:Nums .i64 w (.slice p n c) dd) (h2:Nums .i64 w (.slice p2 n2 c2) yy):
  Calls Tryz.prog 47 #[.pointer (some ⟨tb,0,none⟩),.agg #[.slice p n c,.slice p2 n2 c2]] w fun e w'=>e = .returned (.tuple #[.int .i64 (leafR ns dd yy),.int .i64 (leafE ns dd yy)])∧TapC w' B tb (leafN ns dd yy)∧Below B w w'∧Only SC w w'∧Spar2 tb w w':=by
 by_cases hf:512≤ns.length
 ·exact cleaf_full B tb ns p p2 n c n2 c2 dd yy hd w hT h1 h2 hf
 ·by_cases hp:isP dd yy
  ·exact cleaf_good B tb ns p p2 n c n2 c2 dd yy hd w hT h1 h2 (by omega) hp
  ·exact cleaf_bad B tb ns p p2 n c n2 c2 dd yy hd w hT h1 h2 (by omega) hp
end Go.Proofs.YtiampagapgjedabGreatDoor.Wd
namespace Go.Proofs.YtiampagapgjedabGreatDoor.Wd
open Go.RowKit
theorem wordsOf_any (s:ByteArray) (hs:s.size≤16384) (w:World):Calls Tryz.prog 14 #[.string s] w fun e w'=>∃ v,e = .returned v∧StrV w' v (wordsB s)∧Below w.heap.size w w':=by
 have hp:PredAt Tryz.prog 29 #[] encR blankR w:=fun W x hb=>by
  unfold FnGives
  refine (isBlank_any (x:Int) W).mono ?_
  rintro e w1 ⟨rfl,rfl⟩
  refine ⟨?_,0,rfl⟩
  have k:∀ j:Nat,((x:Int)==(j:Int))=(x==j):=fun j=>by
   by_cases h:x=j
   ·subst h;simp
   ·rw [beq_false_of_ne h,beq_false_of_ne fun e=>h (by omega)]
  have k0:=k 32
  have k1:=k 9
  have k2:=k 10
  show Ending.returned (Value.bool ((x:Int)==32 || (x:Int)==9 || (x:Int)==10)) = .returned (.bool (x==32 || x==9 || x==10))
  rw [← k0,← k1,← k2]
  rfl
 have cF:=Tryz.strings_FieldsFunc 29 #[] (by intro args W;kernel_rfl) blankR s w (by omega) hp
 rw [words_same] at cF
 clear hp
 obtain ⟨ws,ew⟩:∃ ws,wordsB s=ws:=⟨_,rfl⟩
 rw [ew] at cF ⊢
 clear ew
 go_enter Tryz.func14,Tryz.ntmps14
 go_wp2_with fail
 refine cF.mono ?_
 rintro e w1 ⟨A,rfl,hA,ho,hB⟩
 have HO:Hid (StrV w1 (.slice (some ⟨A,0,none⟩) ws.length ws.length) ws∧Below w.heap.size w w1):=by
  refine ⟨⟨_,_,rfl,Nat.le_refl _,fun i hi=>⟨A,0,rfl,?_⟩⟩,hB⟩
  have:=World.ownsRow.cells ho rfl i (.string (wdA ws i)) (by
   rw [List.getElem?_map,List.getElem?_eq_getElem hi]
   unfold wdA
   rw [List.getD_eq_getElem?_getD,List.getElem?_eq_getElem hi]
   rfl)
  rw [addr_plus] at this
  exact this
 clear cF ho hB hA
 go_wp2
 go_ret
 exact ⟨_,rfl,HO.out⟩
def lyC (l:Ly):List Value:=[.string l.1,.int .i64 l.2.1,.int .i64 l.2.2]
theorem lyC_at (ls:List Ly) (i k:Nat) (hi:i < ls.length) (hk:k < 3):(ls.flatMap lyC)[i*3+k]?=(lyC (lyA ls i))[k]?:=by
 induction ls generalizing i with
 | nil=>simp at hi
 | cons l ls ih=>
  rw [List.flatMap_cons]
  cases i with
  | zero=>
   rw [Nat.zero_mul,Nat.zero_add,List.getElem?_append_left (by show k < 3;exact hk)]
   rfl
  | succ i=>
   rw [List.getElem?_append_right (by show 3≤_;omega),show (i+1)*3+k - (lyC l).length=i*3+k by show (i+1)*3+k - 3=_;omega,ih i (by simpa using hi)]
   rfl
/-- A slice of layers of the call's own. -/
def LyO (W:World) (B:Nat) (v:Value) (ls:List Ly):Prop:=W.ownsRow B 28 3 v ls.length (ls.flatMap lyC)
theorem LyO.rd {W:World} {B:Nat} {v:Value} {ls:List Ly} (h:LyO W B v ls):∃ p c,v = .slice p ls.length c∧LyR 0 W p ls.length ls:=by
 have h':=h
 rcases h.2 with ⟨rfl,h0⟩|⟨g,cap,cur,rfl,hB,h5,h6⟩
 ·exact ⟨none,0,by rw [h0],rfl,fun i hi=>by omega⟩
 ·refine ⟨_,cap,rfl,rfl,fun i hi=>?_⟩
  have hc:∀ k,k < 3→∀ v,(lyC (lyA ls i))[k]?=some v→W.cell? ⟨g,0+i*3+k,none⟩=some v:=fun k hk v hv=>by
   have:=World.ownsRow.cells h' rfl (i*3+k) v ((lyC_at ls i k hi hk).trans hv)
   rw [addr_plus,← Nat.add_assoc] at this
   exact this
  exact ⟨g,0,rfl,hc 0 (by omega) _ rfl,hc 1 (by omega) _ rfl,hc 2 (by omega) _ rfl⟩
theorem LyO.only {Q:List TypeId} {W W':World} {B:Nat} {v:Value} {ls:List Ly} (h:LyO W B v ls) (ho:Only Q W W') (h1:28∉Q):LyO W' B v ls:=owns_only h ho h1
theorem LyO.up {W W':World} {B:Nat} {v:Value} {ls:List Ly} (h:LyO W B v ls) (hB:Below W.heap.size W W'):LyO W' B v ls:=h.only (Q:=[]) (Only.of hB) (by simp)
theorem LyO.nil (W:World) (B:Nat):LyO W B (.slice none 0 0) []:=⟨rfl,.inl ⟨rfl,rfl⟩⟩
theorem layT:GT Tryz.prog 24 28 3 32:=⟨Tryz.underlying24,by kernel_rfl⟩
/-- append of one element that a literal holds, as a run. -/
theorem appGr {P:Program} {t e:TypeId} {s b:Nat} (T:GT P t e s b) (hb:b≤256) (hs0:0 < s) (ty:TypeId) (W:World) (B:Nat) (v:Value) (n:Nat) (xs:List Value) (ho:W.ownsRow B e s v n xs) (g:Nat) (u:List Value) (hg:W.heap[g]?=some (.cells u.toArray e (0,0))) (hu:u.length=s) (h1:∀ x∈u,x.oneCell'=true) (hn:n+1≤1073741825) (hB:B≤W.heap.size):
  ∃ g' cap w',(Builtin.append_ #[t,t] ty #[v,.slice (some ⟨g,0,none⟩) 1 1]).run P W = .ok (.slice (some ⟨g',0,none⟩) (n+1) cap) w'∧w'.ownsRow B e s (.slice (some ⟨g',0,none⟩) (n+1) cap) (n+1) (xs++u)∧W.grownBy w' v.ownBlock:=by
 have hi:=T.hi
 cases h:P.info? e with
 | none=>rw [h] at hi;cases hi
 | some i=>
  rw [h] at hi
  simp only [Option.map_some,Option.some.injEq,Prod.mk.injEq] at hi
  obtain ⟨hz,hs,hby⟩:=hi
  cases hz0:i.zero with
  | none=>rw [hz0] at hz;cases hz
  | some z=>
   rw [hz0] at hz
   simp only [Option.map_some,Option.some.injEq] at hz
   have hm:(n+1)*b≤1073741825*256:=Nat.mul_le_mul hn hb
   obtain ⟨g',cap,w',hr,h2,h3,_,_⟩:=run_append_lies (P:=P) W t ty B e i z s b T.ht h hz0 hs hby hz hs0 v n xs ho ⟨g,0,none⟩ 1 1 u (by omega) (fun j x hj=>by
    rw [addr_plus,Nat.zero_add]
    unfold World.cell?
    simpa [hg] using hj) h1 (by omega) (by unfold maxLen;omega) (by omega) hB _ rfl
   exact ⟨g',cap,w',hr,h2,h3⟩
/-- A row of the call's own, told as a value. -/
def OwnG (e:TypeId) (s B n:Nat) (xs:List Value) (v:Value) (W:World):Prop:=∃ g c,v = .slice (some ⟨g,0,none⟩) n c∧W.ownsRow B e s v n xs
theorem OwnG.up {e:TypeId} {s B n:Nat} {xs:List Value} {v:Value} {W W':World} (h:OwnG e s B n xs v W) (hB:Below W.heap.size W W'):OwnG e s B n xs v W':=by
 obtain ⟨g,c,e,h⟩:=h
 exact ⟨g,c,e,owns_only (S:=[]) h (Only.of hB) (by simp)⟩
theorem grown_only {e:TypeId} {s B n:Nat} {xs:List Value} {v:Value} {W W':World} (h:W.ownsRow B e s v n xs) (hg:W.grownBy W' v.ownBlock):Only [e] W W':=Only.grown hg fun k hk=>by
 rcases h.2 with ⟨rfl,_⟩|⟨g',cap,cur,rfl,_,hc,_⟩
 ·cases hk
 ·cases hk
  exact ⟨_,_,_,hc,by simp⟩
theorem box_2 {W:World} {b:Nat} {v0 v1:Value} {e:TypeId} (h:W.heap[b]?=some (.cells #[v0,v1] e (0,0))):(W.cell? ⟨b,0,none⟩=some v0∧W.frozen? ⟨b,0,none⟩=false)∧(W.cell? ⟨b,1,none⟩=some v1∧W.frozen? ⟨b,1,none⟩=false):=by
 simp [World.cell?,World.frozen?,h]
theorem box_4 {W:World} {b:Nat} {v0 v1 v2 v3:Value} {e:TypeId} (h:W.heap[b]?=some (.cells #[v0,v1,v2,v3] e (0,0))):W.cell? ⟨b,0,none⟩=some v0∧W.cell? ⟨b,1,none⟩=some v1∧W.cell? ⟨b,2,none⟩=some v2∧W.cell? ⟨b,3,none⟩=some v3:=by
 simp [World.cell?,h]
theorem two_set {W U:World} {b:Nat} {t:TypeId} {a0 a1 x0 x1:Value} (h:W.heap[b]?=some (.cells #[a0,a1] t (0,0))) (e:(W.setCell ⟨b,0,none⟩ x0).setCell ⟨b,1,none⟩ x1=U):
  U.cell? ⟨b,0,none⟩=some x0∧U.cell? ⟨b,1,none⟩=some x1∧(∀ w B,B≤b→Below B w W→Below B w U)∧Only [t] W U:=by
 have h4:U.heap[b]?=some (.cells #[x0,x1] t (0,0)):=by
  rw [← e,heap_setat (heap_setat h)]
  rfl
 refine ⟨by simp [World.cell?,h4],by simp [World.cell?,h4],fun w B hb hB=>?_,?_⟩
 ·rw [← e]
  exact (hB.setCell (p:=⟨b,0,none⟩) hb _).setCell (p:=⟨b,1,none⟩) hb _
 ·rw [← e]
  exact (Only.set h (by simp)).trans (Only.set (heap_setat h) (by simp))
theorem parL_succ (f:Nat) (u:ByteArray) (us:List ByteArray):parL (f+1) (u :: us)=if kindI u=5∨(numsA us (kCnt (kindI u))).1.length≠kCnt (kindI u) then none else (parL f (numsA us (kCnt (kindI u))).2).map fun ls=>(u,(numsA us (kCnt (kindI u))).1.getD 0 0,(numsA us (kCnt (kindI u))).1.getD 1 0) :: ls:=rfl
theorem parW_cons (u:ByteArray) (us:List ByteArray):parW (u :: us)=if u=kIn∧(numsA us 2).1≠[] then (parL (numsA us 2).2.length (numsA us 2).2).map fun ls=>((numsA us 2).1,ls) else none:=rfl
theorem parL_map {f:Nat} {u:ByteArray} {us:List ByteArray} {l:List Int×List ByteArray} (hf:us.length+1≤f) (h:kindI u < 5) (hl:numsA us (kCnt (kindI u))=l) (hc:l.1.length=kCnt (kindI u)):parL f (u :: us)=(parL l.2.length l.2).map fun ls=>(u,l.1.getD 0 0,l.1.getD 1 0) :: ls:=by
 obtain ⟨f,rfl⟩:∃ g,f=g+1:=⟨f - 1,by omega⟩
 rw [parL_succ,hl,if_neg fun h'=>h'.elim (fun e=>by omega) (fun e=>e hc)]
 have:=(numsA_len us (kCnt (kindI u))).2
 rw [hl] at this
 rw [parL_fuel f l.2.length l.2 (by omega) (Nat.le_refl _)]
theorem parL_bad {f:Nat} {u:ByteArray} {us:List ByteArray} (hf:us.length+1≤f) (h:kindI u=5∨(numsA us (kCnt (kindI u))).1.length≠kCnt (kindI u)):parL f (u :: us)=none:=by
 obtain ⟨f,rfl⟩:∃ g,f=g+1:=⟨f - 1,by omega⟩
 rw [parL_succ,if_pos h]
/-- What netOf hands back. -/
def NetO (x:Option (List Int×List Ly)) (B:Nat) (v:Value) (W:World):Prop:=match x with
 | none=>v = .tuple #[.agg #[.slice none 0 0,.slice none 0 0],.bool false]
 | some y=>∃ p n c p2 n2 c2,v = .tuple #[.agg #[.slice p n c,.slice p2 n2 c2],.bool true]∧OwnK .i64 3 W B (.slice p n c) y.1∧LyO W B (.slice p2 n2 c2) y.2
/-- What numbersAhead hands back. -/
def NumP (W0:World) (B:Nat) (X:List Int×List ByteArray) (v:Value) (W:World):Prop:=∃ v1 v2,v = .tuple #[v1,v2]∧OwnK .i64 3 W B v1 X.1∧StrV W0 v2 X.2
theorem NumP.up {W0:World} {B:Nat} {X:List Int×List ByteArray} {v:Value} {W W':World} (h:NumP W0 B X v W) (hB:Below W.heap.size W W'):NumP W0 B X v W':=by
 obtain ⟨v1,v2,e,h1,h2⟩:=h
 exact ⟨v1,v2,e,h1.up hB,h2⟩
def StrP (W0:World) (ws:List ByteArray) (v:Value) (W:World):Prop:=StrV W0 v ws
theorem in_ne {x:ByteArray} (h:x≠kIn):(x.toList == [105,110])=false:=by
 have e:kIn.toList = [105,110]:=by first|decide +kernel|simp [kIn]
 rw [← e]
 exact str_ne h
theorem in_eq:(kIn.toList == [105,110])=true:=by
 have e:kIn.toList = [105,110]:=by first|decide +kernel|simp [kIn]
 rw [e]
 rfl
theorem netOf_any (v:Value) (ws:List ByteArray) (hbig:ws.length≤1073741823) (w:World) (hK:Hid (Kz w)) (hv:StrV w v ws):
  Calls Tryz.prog 13 #[v] w fun e w'=>∃ v',e = .returned v'∧NetO (parW ws) w.heap.size v' w'∧Below w.heap.size w w':=by
 haveI:Nonempty World:=⟨w⟩
 obtain ⟨p0,n0,c0,rfl,hn0⟩:=hv.form
 have HV:Hid (StrV w (.slice p0 n0 c0) ws):=hv
 obtain ⟨R,eR⟩:∃ R,parW ws=R:=⟨_,rfl⟩
 rw [eR]
 clear hv
 go_enter Tryz.func13,Tryz.ntmps13
 cases ws with
 | nil=>
  obtain rfl:n0=0:=by simpa using hn0.symm
  have eR':R=none:=by rw [← eR];rfl
  subst eR'
  clear eR
  go_wp2
  exact bodyPost_ret (v:=.tuple #[.agg #[.slice none 0 0,.slice none 0 0],.bool false]) (by simp [results,Tryz.results13,go_sem]) rfl ⟨_,rfl,rfl,by go_grown⟩
 | cons u us=>
  obtain rfl:n0=us.length+1:=by simpa using hn0.symm
  have hn1:(((us.length+1:Nat):Int)==0)=false:=by simpa using (show ((us.length+1:Nat):Int)≠0 by omega)
  obtain ⟨pp,cc,e,hcc,hcell⟩:=HV.out
  cases e
  obtain ⟨q,o,rfl,h0⟩:=hcell 0 (by simp)
  rw [Nat.add_zero] at h0
  have h00:w.cell? ⟨q,o,none⟩=some (.string u):=h0
  have hz:=cell_size h00
  clear h0 hcell
  by_cases hu:u=kIn
  case neg=>
   have eR':R=none:=by rw [← eR,parW_cons,if_neg fun h=>hu h.1]
   subst eR'
   have hu':=in_ne hu
   clear eR
   go_wp2
   exact bodyPost_ret (v:=.tuple #[.agg #[.slice none 0 0,.slice none 0 0],.bool false]) (by simp [results,Tryz.results13,go_sem]) rfl ⟨_,rfl,rfl,by go_grown⟩
  subst hu
  have hu':=in_eq
  obtain ⟨p',n',c',es,hcut⟩:=cutS HV.out
  have hrun:=cutS_run (some ⟨q,o,none⟩) (us.length+1) c0 (by omega)
  rw [es] at hrun
  have HCut:Hid (StrV w (.slice p' n' c') us):=hcut
  clear hcut es
  go_wp2_with fail
  generalize hW0:World.alloc _ _=W0
  have HB0:Hid (Below w.heap.size w W0):=by rw [← hW0];exact up_alloc w _
  have HX0:Hid (W0.heap[w.heap.size]?=some (.cells #[.slice none 0 0,.slice none 0 0] 26 (0,0))):=by
   show _=_
   rw [← hW0]
   exact Array.getElem?_push_size
  clear hW0
  have cn:=numbersAhead_any _ us 2 (by omega) W0 W0 (Below.refl _ _) (HCut.out.up HB0.out)
  refine cn.mono ?_
  rintro e w1 ⟨v1,v2,rfl,ho1,hs2,hB1⟩
  obtain ⟨D,eD⟩:∃ D,(numsA us 2).1=D:=⟨_,rfl⟩
  obtain ⟨rs,ers⟩:∃ D,(numsA us 2).2=D:=⟨_,rfl⟩
  have hrl:=(numsA_len us 2).2
  have HR:Hid (R=if D≠[] then (parL rs.length rs).map fun ls=>(D,ls) else none):=by
   show _=_
   rw [← eR,parW_cons,eD,ers]
   by_cases h:D≠[]
   ·rw [if_pos ⟨rfl,h⟩,if_pos h]
   ·rw [if_neg fun h'=>h h'.2,if_neg h]
  rw [eD] at ho1
  rw [ers] at hs2 hrl
  have hrb:rs.length≤1073741823:=by simp only [List.length_cons] at hbig;omega
  obtain ⟨pa,na,ca,rfl,HCa⟩:=ho1.nums.lst
  have hna:=HCa.out.1
  obtain ⟨pr,nr,cr,rfl,hnr⟩:=hs2.form
  have HO1:Hid (OwnK .i64 3 w1 W0.heap.size (.slice pa na ca) D∧StrV W0 (.slice pr nr cr) rs∧Below W0.heap.size W0 w1):=⟨ho1,hs2,hB1⟩
  have hz2:w.heap.size < W0.heap.size:=heap_lt HX0.out
  have HX1:=(hB1.block _ hz2).trans HX0.out
  obtain ⟨⟨x0,y0⟩,⟨x1,y1⟩⟩:=box_2 HX1
  have hzw1:=cell_size x0
  clear cn ho1 hs2 hB1 eD ers HCa eR hrun h00 hu' hn1 HCut HV hrl hcc
  by_cases hD:D = []
  ·subst hD
   obtain rfl:na=0:=by simpa using hna.symm
   have eR':R=none:=by rw [HR.out];rfl
   subst eR'
   go_wp2
   generalize hU:World.setCell _ _ _=U
   obtain ⟨u0,u1,hBU,_⟩:=two_set HX1 hU
   exact bodyPost_ret (v:=.tuple #[.agg #[.slice none 0 0,.slice none 0 0],.bool false]) (by simp [results,Tryz.results13,go_sem,u0,u1]) rfl ⟨_,rfl,rfl,hBU w _ (Nat.le_refl _) (bstep HB0.out HO1.out.2.2)⟩
  rw [if_pos hD] at HR
  have hna0:((na:Int)==0)=false:=by
   have:D.length≠0:=fun h=>hD (List.eq_nil_of_length_eq_zero h)
   simpa using (show (na:Int)≠0 by omega)
  clear hD x0 x1 y0 y1
  go_wp2_with fail
  generalize hW2:World.alloc _ _=W2
  have HI2:Hid (Below W0.heap.size W0 W2∧W2.heap[w1.heap.size]?=some (.cells #[.slice pa na ca,.slice none 0 0] 26 (0,0))∧OwnK .i64 3 W2 W0.heap.size (.slice pa na ca) D):=by
   have hb:Below w1.heap.size w1 W2:=by rw [← hW2];exact up_alloc w1 _
   refine ⟨bstep HO1.out.2.2 hb,?_,HO1.out.1.up hb⟩
   rw [← hW2]
   exact Array.getElem?_push_size
  have HS0:Hid (StrV W0 (.slice pr nr cr) rs):=HO1.out.2.1
  obtain ⟨b6,e6⟩:∃ b,w1.heap.size=b:=⟨_,rfl⟩
  have HB6:Hid (W0.heap.size≤b6):=by show _≤_;rw [← e6];exact HO1.out.2.2.size
  rw [e6] at HI2 ⊢
  clear hW2 HO1 HX1 hzw1 e6 hna hna0
  go_loopg [5] nr (fun gg u wr=>∃ (us:List ByteArray) (acc:List Ly) (vL:Value),gg=us.length∧us.length+acc.length≤1073741823∧Hid (StrV W0 u us∧Below W0.heap.size W0 wr∧OwnK .i64 3 wr W0.heap.size (.slice pa na ca) D)∧Hid (wr.heap[b6]?=some (.cells #[.slice pa na ca,vL] 26 (0,0))∧LyO wr W0.heap.size vL acc)∧Hid (R=(parL us.length us).map fun ls=>(D,acc++ls)))
  case atStart=>exact ⟨rs,[],_,hnr.symm,by simpa using hrb,⟨HS0.out,HI2.out.1,HI2.out.2.2⟩,⟨HI2.out.2.1,LyO.nil _ _⟩,by show _=_;rw [HR.out];simp⟩
  case round=>
   obtain ⟨us,acc,vL,hg,hub,HI,HL,HR2⟩:=hrel
   obtain ⟨pu,nu,cu,rfl,hnu⟩:=HI.out.1.form
   obtain ⟨pL,cL,evL,_⟩:=HL.out.2.rd
   obtain ⟨nL,enL⟩:∃ n,acc.length=n:=⟨_,rfl⟩
   rw [enL] at evL
   subst evL
   have HX:=(HI.out.2.1.block _ hz2).trans HX0.out
   cases us with
   | nil=>
    obtain rfl:nu=0:=by simpa using hnu.symm
    have eR':R=some (D,acc):=by rw [HR2.out];simp [parL]
    subst eR'
    obtain ⟨⟨x0,y0⟩,⟨x1,y1⟩⟩:=box_2 HX
    obtain ⟨⟨b0,_⟩,⟨b1,_⟩⟩:=box_2 HL.out.1
    have HXX:Hid (wr.heap[w.heap.size]?=some (.cells #[.slice none 0 0,.slice none 0 0] 26 (0,0))):=HX
    clear HX HR2 HR
    go_wp2
    generalize hU:World.setCell _ _ _=U
    obtain ⟨u0,u1,hBU,hOU⟩:=two_set HXX.out hU
    have hL2:LyO U w.heap.size (.slice pL nL cL) acc:=by
     have:=(HL.out.2.only hOU (by decide))
     exact ⟨this.1,this.2.imp id fun ⟨g,cap,cur,e1,e2,e3⟩=>⟨g,cap,cur,e1,Nat.le_trans (Nat.le_of_lt hz2) e2,e3⟩⟩
    exact bodyPost_ret (v:=.tuple #[.agg #[.slice pa na ca,.slice pL nL cL],.bool true]) (by simp [results,Tryz.results13,go_sem,u0,u1]) rfl ⟨_,rfl,⟨_,_,_,_,_,_,rfl,(HI.out.2.2.only hOU (by decide)).low (Nat.le_of_lt hz2),hL2⟩,hBU w _ (Nat.le_refl _) (bstep HB0.out HI.out.2.1)⟩
   | cons u us=>
    obtain rfl:nu=us.length+1:=by simpa using hnu.symm
    have hnu0:(0:Int) < ((us.length+1:Nat):Int):=by omega
    obtain ⟨pp,cc,e,hcc,hcell⟩:=HI.out.1
    cases e
    obtain ⟨q,o,rfl,h0⟩:=hcell 0 (by simp)
    rw [Nat.add_zero] at h0
    have h00:wr.cell? ⟨q,o,none⟩=some (.string u):=still_cell HI.out.2.1 h0
    have hz:=cell_size h00
    clear h0 hcell
    obtain ⟨p',n',c',es,hcut⟩:=cutS HI.out.1
    have hrun:=cutS_run (some ⟨q,o,none⟩) (us.length+1) cu (by omega)
    rw [es] at hrun
    have HCut:Hid (StrV W0 (.slice p' n' c') us):=hcut
    clear hcut es
    have ck:=kindOf_any u wr (Hid.up_kz (Hid.up_kz hK HB0.out) HI.out.2.1)
    obtain ⟨kd,ekd⟩:∃ k,kindI u=k:=⟨_,rfl⟩
    have hk2:kCnt kd≤2:=by unfold kCnt;split <;> (try split) <;> omega
    have HKD:Hid (kindI u=kd∧kCnt kd≤2):=⟨ekd,hk2⟩
    rw [ekd] at ck
    clear hk2
    go_wp2_with fail
    refine ck.mono ?_
    rintro e w3 ⟨rfl,hB3⟩
    have hb2:Below W0.heap.size W0 w3:=bstep HI.out.2.1 hB3
    have HX3:Hid (w3.heap[w.heap.size]?=some (.cells #[.slice none 0 0,.slice none 0 0] 26 (0,0))):=(hb2.block _ hz2).trans HX0.out
    have HW3:Hid (Below W0.heap.size W0 w3∧Below wr.heap.size wr w3):=⟨hb2,hB3⟩
    clear hb2 hB3 ck h00
    by_cases h5:kd < 5
    case neg=>
     rw [decide_eq_false h5]
     have eR':R=none:=by
      rw [HR2.out,parL_bad (f:=(u :: us).length) (by simp) (.inl (by rw [ekd];have:=kind_le u;omega))]
      rfl
     subst eR'
     obtain ⟨⟨x0,y0⟩,⟨x1,y1⟩⟩:=box_2 HX3.out
     have hzw3:=cell_size x0
     clear HR2 HR ekd
     go_wp2
     generalize hU:World.setCell _ _ _=U
     obtain ⟨u0,u1,hBU,_⟩:=two_set HX3.out hU
     have hzU:=cell_size u0
     exact bodyPost_ret (v:=.tuple #[.agg #[.slice none 0 0,.slice none 0 0],.bool false]) (by simp [results,Tryz.results13,go_sem,u0,u1,hzU]) rfl ⟨_,rfl,rfl,(hBU w _ (Nat.le_refl _) (bstep HB0.out HW3.out.1)).alloc (Nat.le_of_lt hzU) _⟩
    rw [decide_eq_true h5]
    obtain ⟨X,eX⟩:∃ X,numsA us (kCnt kd)=X:=⟨_,rfl⟩
    obtain ⟨cn,ecn⟩:∃ c,kCnt kd=c:=⟨_,rfl⟩
    have HKN:Hid (kName kd=u):=by show _=_;rw [← ekd];exact kind_name u (by omega)
    have HXX:Hid (numsA us (kCnt (kindI u))=X∧kCnt (kindI u)=cn∧X.1.length≤2∧X.2.length+X.1.length=us.length∧kindI u < 5):=by
     have h1:=numsA_len us (kCnt kd)
     rw [eX] at h1
     exact ⟨by rw [ekd];exact eX,by rw [ekd];exact ecn,by have:=HKD.out.2;omega,h1.2,by omega⟩
    rw [ecn]
    generalize kTopA kd=tA
    generalize kTopB kd=tB
    generalize kName kd=nm at HKN ⊢
    have cN:Hid (∀ W,Below W0.heap.size W0 W→Calls Tryz.prog 25 #[.slice p' n' c',.int .i64 (cn:Int)] W fun e w'=>∃ v1 v2,e = .returned (.tuple #[v1,v2])∧OwnK .i64 3 w' W.heap.size v1 X.1∧StrV W0 v2 X.2∧Below W.heap.size W w'):=fun W hW=>by
     have:=numbersAhead_any (.slice p' n' c') us (kCnt kd) HKD.out.2 W0 W hW HCut.out
     rw [eX,ecn] at this
     exact this
    clear eX ecn HKD h5 ekd HR
    go_wp2
    generalize hW4:World.alloc _ _=W4
    have HB4:Hid (Below w3.heap.size w3 W4∧Below W0.heap.size W0 W4):=by
     have hb:Below w3.heap.size w3 W4:=by rw [← hW4];exact up_alloc w3 _
     exact ⟨hb,bstep HW3.out.1 hb⟩
    have HK4:Hid (W4.heap[w3.heap.size]?=some (.cells #[.string nm,.int .i64 (cn:Int),.int .i64 tA,.int .i64 tB] 75 (0,0))):=by
     show _=_
     rw [← hW4]
     exact Array.getElem?_push_size
    obtain ⟨_,k1,_,_⟩:=box_4 HK4.out
    have hz4:=cell_size k1
    clear hW4
    refine relM [⟨4,50,NumP W0 W4.heap.size X⟩,⟨5,45,NumP W0 W4.heap.size X⟩,⟨6,51,OutV (some X.1) W4.heap.size⟩,⟨7,52,StrP W0 X.2⟩] 8 68 (by kernel_rfl) rfl rfl [7] (by kernel_rfl) (by kernel_rfl) (fun i0 hi o0 ho c a w v h=>?_) (by rfl) ?_ ?_
    ·simp only [List.mem_cons,List.not_mem_nil,or_false] at hi
     subst hi
     cases ho
     exact h
    ·intro e he v W W' h hb
     simp only [List.mem_cons,List.not_mem_nil,or_false] at he
     rcases he with rfl|rfl|rfl|rfl
     ·exact NumP.up h hb
     ·exact NumP.up h hb
     ·exact OutV.up (x:=some X.1) h hb
     ·exact h
    apply Exists.intro
    refine ⟨?yt1,?yl1,?wk1,?pk1,?rest1⟩
    case wk1=>
     intro x
     simp only [List.take_succ_cons,List.take_zero]
     iterate 4
      refine relQuiet rfl rfl ?_
      apply Exists.intro
      refine ⟨fun F hF hf K hK=>?_,?_⟩
      ·have hFc:=hF.cell
       have hFf:=hF.frozen
       go_big_quiet_op
       first|exact hK|(apply Exists.intro;refine ⟨fun _=>?_,?_⟩;(· fail);exact hK)
      (try simp only [Act.put,List.setIfInBounds_toArray,List.set_cons_zero,List.set_cons_succ])
     refine relTold rfl rfl ?_ ?_
     ·intro F hF hf d
      have hFc:=hF.cell
      have hFf:=hF.frozen
      simp [yieldsR,yieldsUpon,go_sem]
      have hb9:=hF.below d
      refine (cN.out (F d) (bstep HB4.out.2 hb9)).mono ?_
      rintro e' w8 ⟨v8,u8,rfl,h8,h8',hB8⟩
      exact ⟨_,rfl,⟨v8,u8,rfl,h8.low hb9.size,h8'⟩,hB8⟩
     (try simp only [Act.put,List.setIfInBounds_toArray,List.set_cons_zero,List.set_cons_succ])
     refine relTold rfl rfl ?_ ?_
     ·intro F hF hf d
      have hFc:=hF.cell
      have hFf:=hF.frozen
      simp [yieldsR,yieldsUpon,go_sem]
      exact ⟨hf _ List.mem_cons_self (by rfl) d,Below.refl _ _⟩
     (try simp only [Act.put,List.setIfInBounds_toArray,List.set_cons_zero,List.set_cons_succ])
     refine relTold rfl rfl ?_ ?_
     ·intro F hF hf d
      have hFc:=hF.cell
      have hFf:=hF.frozen
      obtain ⟨v9,u9,e9,h9,-⟩:=hf _ (List.mem_cons_of_mem _ List.mem_cons_self) (by rfl) d
      simp only [] at e9
      simp [yieldsR,yieldsUpon,go_sem,e9]
      obtain ⟨pp9,nn9,cc9,ee9,_⟩:=h9.nums.lst
      subst ee9
      exact ⟨⟨_,_,_,rfl,h9⟩,Below.refl _ _⟩
     (try simp only [Act.put,List.setIfInBounds_toArray,List.set_cons_zero,List.set_cons_succ])
     refine relTold rfl rfl ?_ ?_
     ·intro F hF hf d
      have hFc:=hF.cell
      have hFf:=hF.frozen
      obtain ⟨v9,u9,e9,-,h9⟩:=hf _ (List.mem_cons_of_mem _ List.mem_cons_self) (by rfl) d
      simp only [] at e9
      simp [yieldsR,yieldsUpon,go_sem,e9]
      exact ⟨h9,Below.refl _ _⟩
     (try simp only [Act.put,List.setIfInBounds_toArray,List.set_cons_zero,List.set_cons_succ])
     refine relEnd ?_
     exact rfl
    case pk1=>
     intro x
     simp only [putsK,List.foldl_cons,List.foldl_nil,Act.put,List.setIfInBounds_toArray,List.set_cons_zero,List.set_cons_succ]
    case yt1=>
     intro i0 hi o0 ho e he W x hx
     simp only [List.mem_cons,List.not_mem_nil,or_false] at hi
     subst hi
     cases ho
     have he':(⟨7,52,StrP W0 X.2⟩:Told)=e:=Option.some.inj he
     subst he'
     obtain ⟨v9,u9,e9,-,o9⟩:=hx _ (List.mem_cons_of_mem _ List.mem_cons_self) (by rfl)
     simp only [] at e9
     refine ⟨u9,o9,.inl ⟨by rfl,fun w=>?_⟩⟩
     simp [execOp,Act.eval,e9,go_sem]
    case yl1=>
     intro i0 hi o0 ho hn x hx
     simp only [List.mem_cons,List.not_mem_nil,or_false] at hi
     subst hi
     cases hn
    intro w9 xs hB9 hf
    simp only [List.drop_succ_cons,List.drop_zero]
    obtain ⟨p9,n9,c9,e9,hn9⟩:=hf _ (List.mem_cons_of_mem _ (List.mem_cons_of_mem _ List.mem_cons_self))
    have hs8:=hf _ (List.mem_cons_of_mem _ (List.mem_cons_of_mem _ (List.mem_cons_of_mem _ List.mem_cons_self)))
    simp only [] at e9 hn9 hs8
    unfold StrP at hs8
    obtain ⟨x4,e4⟩:∃ q,xs 4=q:=⟨_,rfl⟩
    obtain ⟨x5,e5⟩:∃ q,xs 5=q:=⟨_,rfl⟩
    obtain ⟨u8,e8⟩:∃ q,xs 7=q:=⟨_,rfl⟩
    rw [e8] at hs8
    obtain ⟨p8,n8,c8,eu8,hl8⟩:=hs8.form
    subst eu8
    simp only [e9,e8,e4,e5]
    have hB9w:Below wr.heap.size wr w9:=bstep HW3.out.2 (bstep HB4.out.1 hB9)
    have HN9:Hid (OwnK .i64 3 w9 W4.heap.size (.slice p9 n9 c9) X.1∧StrV W0 (.slice p8 n8 c8) X.2):=⟨hn9,hs8⟩
    have HI9:Hid (Below W0.heap.size W0 w9∧OwnK .i64 3 w9 W0.heap.size (.slice pa na ca) D):=⟨bstep HB4.out.2 hB9,HI.out.2.2.up hB9w⟩
    have HL9:Hid (w9.heap[b6]?=some (.cells #[.slice pa na ca,.slice pL nL cL] 26 (0,0))∧w9.ownsRow W0.heap.size 28 3 (.slice pL nL cL) nL (acc.flatMap lyC)):=⟨(hB9w.block _ (heap_lt HL.out.1)).trans HL.out.1,by have:=HL.out.2.up hB9w;unfold LyO at this;rw [enL] at this;exact this⟩
    have HK9:Hid (w9.heap[w3.heap.size]?=some (.cells #[.string nm,.int .i64 (cn:Int),.int .i64 tA,.int .i64 tB] 75 (0,0))):=(hB9.block _ hz4).trans HK4.out
    have HX9:Hid (w9.heap[w.heap.size]?=some (.cells #[.slice none 0 0,.slice none 0 0] 26 (0,0))):=(HI9.out.1.block _ hz2).trans HX0.out
    obtain ⟨_,k1,_,_⟩:=box_4 HK9.out
    have hn9l:Hid (X.1.length=n9):=by
     show _=_
     obtain ⟨_,_,_,e,h⟩:=hn9.nums.lst
     cases e
     exact h.out.1
    clear hf hB9 hB9w hn9 hs8 e9 e8 e4 e5 cN hrun HB4 HK4 HX3 HI HL HW3
    by_cases hnc:n9=cn
    case neg=>
     have hnc':((n9:Int) != (cn:Int))=true:=by simpa using (show (n9:Int)≠(cn:Int) by omega)
     have hnc2:¬ ((n9:Int)=(cn:Int)):=by omega
     have eR':R=none:=by
      rw [HR2.out,parL_bad (f:=(u :: us).length) (by simp) (.inr (by rw [HXX.out.1,HXX.out.2.1,hn9l.out];exact hnc))]
      rfl
     subst eR'
     obtain ⟨⟨x0,y0⟩,⟨x1,y1⟩⟩:=box_2 HX9.out
     clear HR2
     go_wp2
     generalize hU:World.setCell _ _ _=U
     obtain ⟨u0,u1,hBU,_⟩:=two_set HX9.out hU
     exact bodyPost_ret (v:=.tuple #[.agg #[.slice none 0 0,.slice none 0 0],.bool false]) (by simp [results,Tryz.results13,go_sem,u0,u1]) rfl ⟨_,rfl,rfl,hBU w _ (Nat.le_refl _) (bstep HB0.out HI9.out.1)⟩
    subst hnc
    obtain ⟨a,ea⟩:∃ a,X.1.getD 0 0=a:=⟨_,rfl⟩
    obtain ⟨b,eb⟩:∃ a,X.1.getD 1 0=a:=⟨_,rfl⟩
    have HR3:Hid (R=(parL X.2.length X.2).map fun ls=>(D,(acc++[(u,a,b)])++ls)):=by
     show _=_
     rw [HR2.out,parL_map (f:=(u :: us).length) (by simp) HXX.out.2.2.2.2 HXX.out.1 (by rw [HXX.out.2.1];exact hn9l.out),ea,eb,Option.map_map]
     simp [Function.comp_def]
    have cLy:Hid (∀ W,Only [28] w9 W→Calls Tryz.prog 27 #[.agg #[.string nm,.int .i64 (n9:Int),.int .i64 tA,.int .i64 tB],.slice p9 n9 c9] W fun e w'=>e = .returned (.agg #[.string u,.int .i64 a,.int .i64 b])∧Below W.heap.size W w'):=fun W hW=>by
     have:=layerOf_any nm n9 tA tB X.1 HXX.out.2.2.1 p9 n9 c9 W (HN9.out.1.only hW (by decide)).nums
     rw [ea,eb] at this
     rw [← HKN.out]
     exact this
    have hxl:Hid (X.2.length+X.1.length=us.length):=HXX.out.2.2.2.1
    simp only [List.length_cons] at hub hg
    have HGO:Hid (∀ W,w9.grownBy W (Value.ownBlock (.slice pL nL cL))→Only [28] w9 W):=fun W hW=>grown_only HL9.out.2 hW
    have HRW:Hid (∀ z,Value.ownBlock (.slice pL nL cL)=some z→z < w9.heap.size):=fun z hz'=>(World.ownsRow.lt HL9.out.2 z hz').2
    have hB0w9:=HI9.out.1.size
    clear ea eb HR2 HKN
    go_wp2
    refine from_region (by kernel_rfl) ?_
    refine seg (fun q W=>match q with|false=>Below w9.heap.size w9 W|true=>w9.grownBy W (Value.ownBlock (.slice pL nL cL))) (fun W W'=>W.grownBy W' (Value.ownBlock (.slice pL nL cL))) 6 [⟨5,64,LitS 28 w9.heap.size [.string u,.int .i64 a,.int .i64 b]⟩,⟨6,65,OwnG 28 3 W0.heap.size (nL+1) (acc.flatMap lyC++[.string u,.int .i64 a,.int .i64 b])⟩] 0 8 68 rfl rfl (by kernel_rfl) (by rfl) ?_ ?_ ?_ ?_ ?_ ?_
    ·intro q W W' h hb
     cases q
     ·exact bstep h hb
     ·exact grown_up h hb
    ·exact ⟨rfl,rfl,rfl,Nat.le_refl _,fun _ _=>rfl⟩
    ·exact .inl ⟨_,List.mem_cons_of_mem _ List.mem_cons_self,rfl⟩
    ·intro e he v W W' h hb
     simp only [List.mem_cons,List.not_mem_nil,or_false] at he
     rcases he with rfl|rfl
     ·exact LitS.up h hb
     ·exact OwnG.up h hb
    ·intro e he hne v W W' h hc ht
     simp only [List.mem_cons,List.not_mem_nil,or_false] at he
     rcases he with rfl|rfl
     ·exact LitS.grown h ht HRW.out
     ·exact absurd rfl hne
    apply Exists.intro
    refine ⟨fun x=>?_,?_,?_⟩
    ·simp only [List.drop_succ_cons,List.drop_zero,List.take_succ_cons,List.take_zero]
     refine segQuiet rfl rfl ?_
     apply Exists.intro
     refine ⟨fun b' F hF hf K hK=>?_,?_⟩
     ·have hFc:=hF.cls
      go_big_quiet_op
      first|exact hK|(apply Exists.intro;refine ⟨fun _=>?_,?_⟩;(· fail);exact hK)
     (try simp only [Act.put,List.setIfInBounds_toArray,List.set_cons_zero,List.set_cons_succ])
     refine segQuiet rfl rfl ?_
     apply Exists.intro
     refine ⟨fun b' F hF hf K hK=>?_,?_⟩
     ·have hFc:=hF.cls
      have q0:∀ d,Only [28] w9 (F d):=fun d=>HGO.out _ (by
       cases b'
       ·exact below_grown _ (hFc d)
       ·exact hFc d)
      have q1:=fun d=>(box_2 ((q0 d).keep HL9.out.1 (by decide))).2.1
      clear hFc q0
      go_big_quiet_op
      first|exact hK|(apply Exists.intro;refine ⟨fun _=>?_,?_⟩;(· fail);exact hK)
     (try simp only [Act.put,List.setIfInBounds_toArray,List.set_cons_zero,List.set_cons_succ])
     refine segQuiet rfl rfl ?_
     apply Exists.intro
     refine ⟨fun b' F hF hf K hK=>?_,?_⟩
     ·have hFc:=hF.cls
      have q0:∀ d,Only [28] w9 (F d):=fun d=>HGO.out _ (by
       cases b'
       ·exact below_grown _ (hFc d)
       ·exact hFc d)
      have q1:=fun d=>(box_4 ((q0 d).keep HK9.out (by decide))).1
      have q2:=fun d=>(box_4 ((q0 d).keep HK9.out (by decide))).2.1
      have q3:=fun d=>(box_4 ((q0 d).keep HK9.out (by decide))).2.2.1
      have q4:=fun d=>(box_4 ((q0 d).keep HK9.out (by decide))).2.2.2
      clear hFc q0
      go_big_quiet_op
      first|exact hK|(apply Exists.intro;refine ⟨fun _=>?_,?_⟩;(· fail);exact hK)
     (try simp only [Act.put,List.setIfInBounds_toArray,List.set_cons_zero,List.set_cons_succ])
     refine segQuiet rfl rfl ?_
     apply Exists.intro
     refine ⟨fun b' F hF hf K hK=>?_,?_⟩
     ·have hFc:=hF.cls
      go_big_quiet_op
      first|exact hK|(apply Exists.intro;refine ⟨fun _=>?_,?_⟩;(· fail);exact hK)
     (try simp only [Act.put,List.setIfInBounds_toArray,List.set_cons_zero,List.set_cons_succ])
     refine segQuiet rfl rfl ?_
     apply Exists.intro
     refine ⟨fun b' F hF hf K hK=>?_,?_⟩
     ·have hFc:=hF.cls
      have q0:∀ d,Only [28] w9 (F d):=fun d=>HGO.out _ (by
       cases b'
       ·exact below_grown _ (hFc d)
       ·exact hFc d)
      go_big_quiet_op
      first|exact hK|(apply Exists.intro;refine ⟨fun _=>?_,?_⟩;(· exact hF.call (cLy.out _ (q0 _)));exact hK)
     (try simp only [Act.put,List.setIfInBounds_toArray,List.set_cons_zero,List.set_cons_succ])
     refine segTold rfl (by decide) rfl ?_ ?_
     ·intro b' F hF hf d
      have hFc:=hF.cls
      have hcls:w9.heap.size≤(F d).heap.size:=by
       cases b'
       ·exact (hFc d).size
       ·exact (hFc d).size
      simp [yieldsR,yieldsUpon,go_sem]
      exact ⟨⟨(F d).heap.size,rfl,heap_alloc_new (F d) _,hcls⟩,up_alloc _ _⟩
     (try simp only [Act.put,List.setIfInBounds_toArray,List.set_cons_zero,List.set_cons_succ])
     refine segBusy rfl rfl rfl ?_ ?_
     ·intro W hW hf
      have h7:=hf _ List.mem_cons_self (by rfl) W
      obtain ⟨g7,e7,hg7,_⟩:=h7
      simp only [] at e7
      obtain ⟨g8,c8,w8,hr8,ho8,hgr8⟩:=appGr layT (by decide) (by decide) 24 W W0.heap.size (.slice pL nL cL) nL (acc.flatMap lyC) (owns_only (S:=[]) HL9.out.2 (Only.of hW) (by simp)) g7 [.string u,.int .i64 a,.int .i64 b] hg7 rfl (fun x hx=>by simp at hx;rcases hx with rfl|rfl|rfl <;> rfl) (by omega) (Nat.le_trans hB0w9 (Below.size hW))
      simp [leavesR,leavesUpon,execOp,resolve,invoke,builtin,Act.eval,e7,hr8,Result.andThen]
      exact ⟨⟨g8,c8,rfl,ho8⟩,grown_trans (below_grown _ hW) hgr8,hgr8⟩
     (try simp only [Act.put,List.setIfInBounds_toArray,List.set_cons_zero,List.set_cons_succ])
     refine segQuiet rfl rfl ?_
     apply Exists.intro
     refine ⟨fun b' F hF hf K hK=>?_,?_⟩
     ·have hFc:=hF.cls
      go_big_quiet_op
      first|exact hK|(apply Exists.intro;refine ⟨fun _=>?_,?_⟩;(· fail);exact hK)
     (try simp only [Act.put,List.setIfInBounds_toArray,List.set_cons_zero,List.set_cons_succ])
     refine segEnd ?_
     exact rfl
    ·exact fun x=>rfl
    ·intro w8 xs8 hC8 hf8
     refine from_list 8 (by kernel_rfl) ?_
     simp only [List.drop_succ_cons,List.drop_zero]
     have h8:=hf8 _ (List.mem_cons_of_mem _ List.mem_cons_self)
     obtain ⟨x5,e5⟩:∃ z,xs8 5=z:=⟨_,rfl⟩
     obtain ⟨x6,e6⟩:∃ z,xs8 6=z:=⟨_,rfl⟩
     simp only [e6] at h8
     simp only [e5,e6]
     obtain ⟨g8,c88,rfl,h8⟩:=h8
     have hO8:=HGO.out w8 hC8
     have hv8:=hO8.keep HL9.out.1 (by decide)
     obtain ⟨_,⟨r0,r1⟩⟩:=box_2 hv8
     have HF:Hid (StrV W0 (.slice p8 n8 c8) X.2∧Below W0.heap.size W0 (w8.setCell ⟨b6,1,none⟩ (.slice (some ⟨g8,0,none⟩) (nL+1) c88))∧OwnK .i64 3 (w8.setCell ⟨b6,1,none⟩ (.slice (some ⟨g8,0,none⟩) (nL+1) c88)) W0.heap.size (.slice pa na ca) D):=by
      refine ⟨HN9.out.2,(Below.grown HI9.out.1 hC8 hB0w9 fun k hk=>(World.ownsRow.lt HL9.out.2 k hk).1).setCell (p:=⟨b6,1,none⟩) HB6.out _,(HI9.out.2.only hO8 (by decide)).only (Only.set (S:=[26]) hv8 (by simp)) (by decide)⟩
     have HF2:Hid ((w8.setCell ⟨b6,1,none⟩ (.slice (some ⟨g8,0,none⟩) (nL+1) c88)).heap[b6]?=some (.cells #[.slice pa na ca,.slice (some ⟨g8,0,none⟩) (nL+1) c88] 26 (0,0))∧LyO (w8.setCell ⟨b6,1,none⟩ (.slice (some ⟨g8,0,none⟩) (nL+1) c88)) W0.heap.size (.slice (some ⟨g8,0,none⟩) (nL+1) c88) (acc++[(u,a,b)])):=by
      refine ⟨by rw [heap_setat hv8];rfl,?_⟩
      unfold LyO
      rw [List.length_append,enL,List.flatMap_append]
      exact owns_only (S:=[26]) h8 (Only.set hv8 (by simp)) (by decide)
     have hxl':=hxl.out
     have hub2:X.2.length+(acc++[(u,a,b)]).length≤1073741823:=by simp;omega
     have HUB2:Hid (X.2.length+(acc++[(u,a,b)]).length≤1073741823∧X.2.length < us.length+1):=⟨hub2,by omega⟩
     clear hxl' hO8 hv8 h8 hf8 hC8 hub2 e5 e6
     go_wp2
     go_roundg X.2.length
     case measure=>have:=HUB2.out.2;omega
     case rel=>exact ⟨X.2,acc++[(u,a,b)],_,rfl,HUB2.out.1,HF,HF2,HR3⟩
end Go.Proofs.YtiampagapgjedabGreatDoor.Wd
