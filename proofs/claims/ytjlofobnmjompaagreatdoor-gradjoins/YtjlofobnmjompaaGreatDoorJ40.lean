/- What the calls of grad tell, as contracts; the net of one number; awake. · What Sum tells, and where the row lies. · The Ops of a net's plan; how many numbers a gradient has. · Examples' gradients, summed. · The code's losses: a step laid, all of them, rows that are made, what is asked first. -/
import Derived.Test.YtjlofobnmjompaaGreatDoorJ39
import Derived.Test.YtjlofobnmjompaaGreatDoorJ25
import Derived.Test.YtjlofobnmjompaaGreatDoorJ18
import Derived.Test.YtjlofobnmjompaaGreatDoorJ33
set_option linter.unusedVariables false
set_option linter.unusedSimpArgs false
set_option maxHeartbeats 16000000
set_option maxRecDepth 16000
namespace Go.Proofs.YtjlofobnmjompaaGreatDoor.Wd
open Go.RowKit Fx
/-- A row of Wides that was handed back. -/
def WRd (W:World) (v:Value) (l:List Int):Prop:=∃ p n c,v = .slice p n c∧WdR W p n l
theorem WRd.up {W W':World} {v:Value} {l:List Int} (h:WRd W v l) (hB:Below W.heap.size W W'):WRd W' v l:=by
 obtain ⟨p,n,c,e,r⟩:=h
 exact ⟨p,n,c,e,r.up hB⟩
theorem WdR.nil (W:World) (p:Option Addr):WdR W p 0 []:=⟨rfl,fun y hy=>by simp at hy,fun i hi=>by omega⟩
theorem WRow.wrd {W:World} {g n:Nat} {l:List Int} (h:WRow W g n l):WRd W (.slice (some ⟨g,0,none⟩) n n) l:=⟨_,_,_,rfl,h.rd⟩
/-- What Sum tells. -/
def sumT (d:List Int) (ls:List Ly) (k:Int) (P:List Int) (l:List Exm):Int×List Int×Int:=sumG (gofE d ls k P) (nP d ls).toNat l
/-- The Ops of a plan are known. -/
def PlC (d:List Int) (ls:List Ly) (P:List Int):Prop:=nE d ls=0→∀ X st,st∈(plF d ls (nS d ls) P X ls.length).1→st.op≠1→RkC st.op∧GvC st.op
def OfC (d:List Int) (ls:List Ly) (P:List Int):Prop:=∀ (k:Int) (X y:List Int) (cl:Int) (p p2 pp px py:Option Addr) (n c n2 c2 np cp nx cx ny cy:Nat) (hbig:n2≤1048576) (hPb:np≤1048576) (w:World) (hT:Hid (Tz w)) (hK:Hid (Kz w)) (hIn:Nums .i64 w (.slice p n c) d) (hLy:LyR 0 w p2 n2 ls) (hp:RowI w pp np cp P) (hx:RowI w px nx cx X) (hy:RowI w py ny cy y),
  Calls Tryz.prog 9 #[.agg #[.slice p n c,.slice p2 n2 c2],.int .i64 k,.slice pp np cp,.agg #[.slice px nx cx,.slice py ny cy,.int .i64 cl]] w fun e w'=>∃ v,e = .returned (.tuple #[v,.int .i64 (gof d ls k P X y cl).2.2,.int .i64 (gof d ls k P X y cl).1])∧OwnK .i64 23 w' w.heap.size v (gof d ls k P X y cl).2.1∧Below w.heap.size w w'
def SumC (d:List Int) (ls:List Ly) (P:List Int):Prop:=nE d ls=0→∀ (k:Int) (l:List Exm) (p p2 pp pl:Option Addr) (n c n2 c2 np cp nl cl:Nat) (hbig:n2≤1048576) (hPb:np≤1048576) (hl:nl≤1048576) (hnP:nP d ls≤1048576) (w:World) (hT:Hid (Tz w)) (hK:Hid (Kz w)) (hIn:Nums .i64 w (.slice p n c) d) (hLy:LyR 0 w p2 n2 ls) (hp:RowI w pp np cp P) (he:ExR w pl nl l),
  Calls Tryz.prog 15 #[.agg #[.slice p n c,.slice p2 n2 c2],.int .i64 k,.slice pp np cp,.slice pl nl cl] w fun e w'=>∃ v,e = .returned (.tuple #[v,wd (sumT d ls k P l).2.2,.int .i64 (sumT d ls k P l).1])∧WRd w' v (sumT d ls k P l).2.1∧Below w.heap.size w w'
def JoinC:Prop:=∀ (p p2:Option Addr) (n c n2 c2:Nat) (a b:List Int) (hn:n≤1048576) (w:World) (h1:WdR w p n a) (h2:WdR w p2 n2 b),
  Calls Tryz.prog 11 #[.slice p n c,.slice p2 n2 c2] w fun e w'=>∃ v,e = .returned (.tuple #[v,.int .i64 (if n=n2 then 0 else 4)])∧WRd w' v (if n=n2 then addW a b else [])∧Below w.heap.size w w'
theorem line_any (w:World):Calls Tryz.prog 10 #[] w fun e w'=>∃ q r,e = .returned (.agg #[.slice (some ⟨q,0,none⟩) 1 1,.slice (some ⟨r,0,none⟩) 1 1])∧Nums .i64 w' (.slice (some ⟨q,0,none⟩) 1 1) [1]∧LyR 0 w' (some ⟨r,0,none⟩) 1 liL∧Below w.heap.size w w':=by
 go_enter Tryz.func10,Tryz.ntmps10
 go_wp2
 refine bodyPost_ret (v:=.agg #[.slice (some ⟨w.heap.size+1,0,none⟩) 1 1,.slice (some ⟨w.heap.size+1+1,0,none⟩) 1 1]) (by simp [results,Tryz.results10,go_sem]) rfl ⟨_,_,rfl,?_,?_,blit (blit (up_alloc w _) _) _⟩
 ·exact (nums_lit2 (k:=.i64) w _ [1] 1 (0,0) rfl).up (up_alloc _ _)
 ·refine ⟨rfl,fun i hi=>⟨w.heap.size+1+1,0,rfl,?_⟩⟩
  obtain rfl:i=0:=by omega
  simp [go_sem,lyA,kDense]
theorem li_sum:sumT [1] liL 1 [0,0] []=(0,[0,0],0):=by decide +kernel
theorem wd_zero:wd 0 = .agg #[.int .i64 0,.int .u64 0]:=(wd_eq (by decide) (by decide)).symm
theorem rowI_lit {W K:World} {e:TypeId} {g n:Nat} {l:List Int} (hK:W.alloc (.cells (vals .i64 l).toArray e)=K) (hg:W.heap.size=g) (hl:l.length=n) (hr:RI l) (hn:n≤1000):RowI K (some ⟨g,0,none⟩) n n l:=⟨by rw [← hK,← hg];exact nums_lit (k:=.i64) W l n (0,0) hl,hr,Nat.le_refl _⟩
theorem awake14_any (hS:SumC [1] liL [0,0]) (hO:OfC [1] liL [0,0]) (w:World) (hT:Hid (Tz w)) (hK:Hid (Kz w)):Calls Tryz.prog 8 #[] w fun e w'=>e = .returned (.bool true)∧Below w.heap.size w w':=by
 haveI:Nonempty World:=⟨w⟩
 have CS:Hid (SumC [1] liL [0,0]):=hS
 have CO:Hid (OfC [1] liL [0,0]):=hO
 clear hS hO
 go_enter Tryz.func8,Tryz.ntmps8
 go_wp2_with fail
 refine (line_any w).mono ?_
 rintro e w1 ⟨q1,r1,rfl,n1,l1,hB1⟩
 have H1:Hid (Nums .i64 w1 (.slice (some ⟨q1,0,none⟩) 1 1) [1]∧LyR 0 w1 (some ⟨r1,0,none⟩) 1 liL∧Below w.heap.size w w1):=⟨n1,l1,hB1⟩
 clear n1 l1 hB1
 obtain ⟨g1,eg1⟩:∃ g,w1.heap.size=g:=⟨_,rfl⟩
 go_wp2_with fail
 generalize hK1:World.alloc _ _=K1
 have hB1:Below w1.heap.size w1 K1:=by rw [← hK1];exact up_alloc w1 _
 have HP1:Hid (RowI K1 (some ⟨g1,0,none⟩) 2 2 [0,0]∧Below w.heap.size w K1):=⟨rowI_lit (l:=[0,0]) hK1 eg1 rfl (fun y hy=>by simp at hy;subst hy;omega) (by omega),bstep H1.out.2.2 hB1⟩
 have cc:=CS.out li_nE 1 [] (some ⟨q1,0,none⟩) (some ⟨r1,0,none⟩) (some ⟨g1,0,none⟩) none 1 1 1 1 2 2 0 0 (by omega) (by omega) (by omega) (by rw [li_nP];omega) K1 (Hid.up_tz hT HP1.out.2) (Hid.up_kz hK HP1.out.2) (H1.out.1.up hB1) (H1.out.2.1.up hB1) HP1.out.1 ⟨rfl,fun i hi=>by omega⟩
 rw [li_sum,wd_zero] at cc
 (try rw [eg1])
 clear hK1 hB1 H1
 refine cc.mono ?_
 rintro e w2 ⟨v2,rfl,⟨p2,n2,c2,rfl,hr2⟩,hB2⟩
 obtain rfl:n2=2:=hr2.1.symm
 have H2:Hid (WdR w2 p2 2 [0,0]∧Below w.heap.size w w2):=⟨hr2,bstep HP1.out.2 hB2⟩
 clear cc hr2 hB2 HP1
 go_wp2_with fail
 generalize hK2:World.alloc _ _=K2
 have hB2:Below w2.heap.size w2 K2:=by rw [← hK2];exact up_alloc w2 _
 have H3:Hid (WdR K2 p2 2 [0,0]∧Below w.heap.size w K2):=⟨H2.out.1.up hB2,bstep H2.out.2 hB2⟩
 clear hK2 hB2 H2
 refine (line_any K2).mono ?_
 rintro e w3 ⟨q3,r3,rfl,n3,l3,hB3⟩
 have H4:Hid (WdR w3 p2 2 [0,0]∧Below w.heap.size w w3∧Nums .i64 w3 (.slice (some ⟨q3,0,none⟩) 1 1) [1]∧LyR 0 w3 (some ⟨r3,0,none⟩) 1 liL):=⟨H3.out.1.up hB3,bstep H3.out.2 hB3,n3,l3⟩
 clear n3 l3 hB3 H3
 go_wp2_with fail
 generalize hK3:World.alloc _ _=K3
 have HP3:Hid (RowI K3 (some ⟨w3.heap.size,0,none⟩) 2 2 [0,0]∧RowI K3 (some ⟨w3.heap.size+1,0,none⟩) 1 1 [8589934592]∧RowI K3 (some ⟨w3.heap.size+1+1,0,none⟩) 1 1 [4294967296]∧Below w3.heap.size w3 K3):=by
  rw [← hK3]
  refine ⟨⟨((nums_lit (k:=.i64) w3 [0,0] 2 (0,0) rfl).up (up_alloc _ _)).up (up_alloc _ _),fun y hy=>by simp at hy;subst hy;omega,by omega⟩,⟨(nums_lit2 (k:=.i64) w3 _ [8589934592] 1 (0,0) rfl).up (up_alloc _ _),fun y hy=>by simp at hy;subst hy;omega,by omega⟩,⟨?_,fun y hy=>by simp at hy;subst hy;omega,by omega⟩,blit (blit (up_alloc w3 _) _) _⟩
  have:=nums_lit2 (k:=.i64) (e:=23) (w3.alloc (.cells #[.int .i64 0,.int .i64 0] 23)) (.cells #[.int .i64 8589934592] 23) [4294967296] 1 (0,0) rfl
  rw [show (w3.alloc (.cells #[.int .i64 0,.int .i64 0] 23)).heap.size=w3.heap.size+1 by unfold World.alloc;simp] at this
  exact this
 have cc:=CO.out 1 [8589934592] [4294967296] 0 (some ⟨q3,0,none⟩) (some ⟨r3,0,none⟩) (some ⟨w3.heap.size,0,none⟩) (some ⟨w3.heap.size+1,0,none⟩) (some ⟨w3.heap.size+1+1,0,none⟩) 1 1 1 1 2 2 1 1 1 1 (by omega) (by omega) K3 (Hid.up_tz hT (bstep H4.out.2.1 HP3.out.2.2.2)) (Hid.up_kz hK (bstep H4.out.2.1 HP3.out.2.2.2)) (H4.out.2.2.1.up HP3.out.2.2.2) (H4.out.2.2.2.up HP3.out.2.2.2) HP3.out.1 HP3.out.2.1 HP3.out.2.2.1
 rw [li_of] at cc
 have H5:Hid (WdR K3 p2 2 [0,0]∧Below w.heap.size w K3):=⟨H4.out.1.up HP3.out.2.2.2,bstep H4.out.2.1 HP3.out.2.2.2⟩
 clear hK3 HP3 H4
 refine cc.mono ?_
 rintro e w4 ⟨v4,rfl,hO4,hB4⟩
 obtain ⟨p4,n4,c4,rfl⟩:=hO4.form_
 have H6:Hid (Below w.heap.size w w4∧Nums .i64 w4 (.slice p4 n4 c4) [-17179869184,-8589934592]):=⟨bstep H5.out.2 hB4,hO4.nums⟩
 have hn4:n4=2:=by
  obtain ⟨_,_,_,e,h⟩:=hO4.nums.lst
  cases e
  exact h.out.1.symm
 subst hn4
 obtain ⟨qw,ow,ew,y0,y1⟩:=(H5.out.1.up hB4).2.2 0 (by omega)
 subst ew
 have z0:w4.cell? ⟨qw,ow,none⟩=some (.int .i64 0):=by simpa using y0
 have z1:w4.cell? ⟨qw,ow+1,none⟩=some (.int .u64 0):=by simpa using y1
 have kz:=cell_lt z0
 have hq:=fun W=>wide_eq 0 0 0 0 W
 simp only [decide_true] at hq
 clear cc hO4 hB4 H5 y0 y1
 go_wp2_with fail
 generalize hK5:World.alloc _ _=K5
 have hB5:Below w4.heap.size w4 K5:=by rw [← hK5];exact up_alloc w4 _
 have HP5:Hid (Nums .i64 K5 (.slice (some ⟨w4.heap.size,0,none⟩) 2 2) [-17179869184,-8589934592]∧Nums .i64 K5 (.slice p4 2 c4) [-17179869184,-8589934592]∧Below w.heap.size w K5):=⟨by rw [← hK5];exact nums_lit (k:=.i64) w4 [-17179869184,-8589934592] 2 (0,0) rfl,H6.out.2.up hB5,bstep H6.out.1 hB5⟩
 clear hK5 hB5 H6 z0 z1
 have cc:=alike10_any p4 (some ⟨w4.heap.size,0,none⟩) 2 c4 2 2 _ _ (by omega) K5 HP5.out.2.1 HP5.out.1
 rw [decide_eq_true rfl] at cc
 refine cc.mono ?_
 rintro e w6 ⟨rfl,hB6⟩
 have H7:Hid (Below w.heap.size w w6):=bstep HP5.out.2.2 hB6
 clear cc hB6 HP5
 go_wp2
 go_ret
 exact ⟨rfl,H7.out⟩
def SumD (d:List Int) (ls:List Ly) (P:List Int):Prop:=nE d ls=0→∀ (k:Int) (l:List Exm) (p p2 pp pl:Option Addr) (n c n2 c2 np cp nl cl:Nat) (hbig:n2≤1048576) (hPb:np≤1048576) (hl:nl≤1048576) (hnP:nP d ls≤1048576) (w:World) (hT:Hid (Tz w)) (hK:Hid (Kz w)) (hIn:Nums .i64 w (.slice p n c) d) (hLy:LyR 0 w p2 n2 ls) (hp:RowI w pp np cp P) (he:ExR w pl nl l),
  Calls Tryz.prog 15 #[.agg #[.slice p n c,.slice p2 n2 c2],.int .i64 k,.slice pp np cp,.slice pl nl cl] w fun e w'=>∃ v,e = .returned (.tuple #[v,wd (sumT d ls k P l).2.2,.int .i64 (sumT d ls k P l).1])∧WRd w' v (sumT d ls k P l).2.1∧Below w.heap.size w w'∧∀ ad m c',v = .slice (some ad) m c'→w.heap.size≤ad.block∧ad.block < w'.heap.size
theorem SumD.c {d:List Int} {ls:List Ly} {P:List Int} (h:SumD d ls P):SumC d ls P:=fun h0 k l p p2 pp pl n c n2 c2 np cp nl cl hbig hPb hl hnP w hT hK hIn hLy hp he=>(h h0 k l p p2 pp pl n c n2 c2 np cp nl cl hbig hPb hl hnP w hT hK hIn hLy hp he).mono fun e w' ⟨v,a,b,c,_⟩=>⟨v,a,b,c⟩
theorem nP_cnt {d:List Int} {ls:List Ly} (h:nE d ls=0):nP d ls=cntP ls (nS d ls) ls.length:=by
 unfold nP nS
 rw [if_pos h,if_pos h]
theorem gof_len {d:List Int} {ls:List Ly} {k cl:Int} {P X y:List Int} (h:nE d ls=0) (h1:(gof d ls k P X y cl).1=0):P.length=(nP d ls).toNat:=by
 unfold gof at h1
 by_cases hk:1≤k∧k≤3
 ·rw [if_pos hk] at h1
  unfold gfR at h1
  by_cases h0:(rnF d ls [] P X).1=0
  ·unfold rnF at h0
   rw [if_pos h] at h0
   by_cases h2:(P.length:Int)=cntP ls (nS d ls) ls.length∧(X.length:Int)=prodI d
   ·rw [nP_cnt h]
    omega
   ·rw [if_neg h2] at h0
    cases h0
  ·rw [if_neg h0] at h1
   exact absurd h1 h0
 ·rw [if_neg hk] at h1
  cases h1
theorem gof_row {d:List Int} {ls:List Ly} {P:List Int} (h:PlC d ls P) (hP:RI P) {k cl:Int} {X y:List Int} (hX:RI X) (hy:RI y):GfO P.length (gof d ls k P X y cl):=gof_O (rnF_O hP hX fun h0 st hs ho=>(h h0 X st hs ho).2) hy
theorem li_op {P X:List Int}:∀ st,st∈(plF [1] liL (nS [1] liL) P X liL.length).1→st.op=1∨st.op=4∨st.op=8∨st.op=2:=by
 intro st h
 rcases List.mem_append.1 (show st∈(plF [1] liL (nS [1] liL) P X 0).1++layS (lyA liL 0) (shA (nS [1] liL) 0) (plF [1] liL (nS [1] liL) P X 0).1.length (plF [1] liL (nS [1] liL) P X 0).2.1 (plF [1] liL (nS [1] liL) P X 0).2.2.1 (plF [1] liL (nS [1] liL) P X 0).2.2.2 from h) with h|h
 ·simp [plF] at h
  subst h
  exact .inl rfl
 ·unfold layS at h
  rcases List.mem_append.1 h with h|h
  ·exact .inl (prS_op _ _ _ st h)
  ·rw [if_pos (by decide +kernel)] at h
   unfold denS at h
   split at h
   ·simp only [List.mem_cons,List.not_mem_nil,or_false] at h
    rename_i he
    exact absurd he (by decide +kernel)
   ·simp only [List.mem_cons,List.not_mem_nil,or_false] at h
    rcases h with h|h|h <;> subst h <;> simp [spD]
theorem plc_line (P:List Int):PlC [1] liL P:=fun _ X st hs ho=>by
 rcases li_op st hs with h|h|h|h
 ·exact absurd h ho
 ·rw [h];exact ⟨RkC.of (by decide) ck4,fun _=>ga4,fun _=>gb4⟩
 ·rw [h];exact ⟨RkC.of (by decide) ck8,fun _=>ga8,fun h=>absurd h (by decide)⟩
 ·rw [h];exact ⟨RkC.of (by decide) ck2,fun _=>ga2,fun _=>gb2⟩
theorem made_lt {W:World} {B g n:Nat} {e:TypeId} {xs:List Value} (h:W.ownsRow B e 2 (.slice (some ⟨g,0,none⟩) n n) n xs):g < W.heap.size:=by
 rcases h.2 with ⟨h1,_⟩|⟨q,cap,cur,h1,h2,h3,_⟩
 ·cases h1
 ·cases h1
  exact heap_lt h3
theorem lieA_new (W:World) (e:TypeId):LieA (W.alloc (.cells #[.int .i64 0,.int .u64 0] e)) W.heap.size 0 0:=by
 refine ⟨by unfold World.alloc;simp,by simp [go_sem],by simp [go_sem],?_,?_⟩ <;> unfold World.frozen? World.alloc <;> simp
/-- What Sum holds between two examples. -/
structure SumI (w:World) (b0 b1 b2:Nat) (va vb:Value) (F:Int) (W:World):Prop where
 c0:W.cell? ⟨b0,0,none⟩=some va
 c1:W.cell? ⟨b0,1,none⟩=some vb
 l1:LieA W b1 0 0
 l2:LieA W b2 0 F
 iw:InW F
 bel:Below w.heap.size w W
theorem SumI.up {w:World} {b0 b1 b2:Nat} {va vb:Value} {F:Int} {W W':World} (h:SumI w b0 b1 b2 va vb F W) (hB:Below W.heap.size W W'):SumI w b0 b1 b2 va vb F W':=⟨keep hB h.c0,keep hB h.c1,h.l1.up hB,h.l2.up hB,h.iw,bstep h.bel hB⟩
theorem SumI.stay {w:World} {b0 b1 b2 g:Nat} {va vb:Value} {F:Int} {W W':World} (h:SumI w b0 b1 b2 va vb F W) (hs:Stay g W W') (hB:Below g W W') (h0:b0 < g) (h1:b1 < g) (h2:b2 < g) (hw:w.heap.size≤g):SumI w b0 b1 b2 va vb F W':=⟨hs.cell h.c0 (Nat.ne_of_lt h0),hs.cell h.c1 (Nat.ne_of_lt h0),h.l1.stay hs (Nat.ne_of_lt h1),h.l2.stay hs (Nat.ne_of_lt h2),h.iw,h.bel.trans (hB.mono hw)⟩
theorem SumI.put {w:World} {b0 b1 b2:Nat} {va vb:Value} {F y yh yl:Int} {W:World} (h:SumI w b0 b1 b2 va vb F W) (h0:b0 < b2) (h1:b1 < b2) (hw:w.heap.size≤b2) (hy:InW y) (e:wd y = .agg #[.int .i64 yh,.int .u64 yl]):SumI w b0 b1 b2 va vb y ((W.setCell ⟨b2,0,none⟩ (.int .i64 yh)).setCell ⟨b2,0+1,none⟩ (.int .u64 yl)):=by
 have s:Stay b2 W ((W.setCell ⟨b2,0,none⟩ (.int .i64 yh)).setCell ⟨b2,0+1,none⟩ (.int .u64 yl)):=((Stay.refl _ _).set _ _).set _ _
 unfold wd at e
 simp only [Value.agg.injEq,Array.mk.injEq,List.cons.injEq,Value.int.injEq,true_and,and_true] at e
 exact ⟨s.cell h.c0 (Nat.ne_of_lt h0),s.cell h.c1 (Nat.ne_of_lt h0),h.l1.stay s (Nat.ne_of_lt h1),h.l2.set e.1.symm e.2.symm,hy,(h.bel.setCell (p:=⟨b2,0,none⟩) hw _).setCell (p:=⟨b2,0+1,none⟩) hw _⟩
/-- The sums so far: none yet, or a row in a block of its own. -/
def SumV (B n j:Nat) (S:List Int) (v:Value) (W:World):Prop:=if j=0 then v = .slice none 0 0 else ∃ g,v = .slice (some ⟨g,0,none⟩) n n∧B < g∧g < W.heap.size∧WRow W g n S
theorem SumV.zero (B n:Nat) (S:List Int) (W:World):SumV B n 0 S (.slice none 0 0) W:=by
 unfold SumV
 rw [if_pos rfl]
theorem SumV.up {B n j:Nat} {S:List Int} {v:Value} {W W':World} (h:SumV B n j S v W) (hB:Below W.heap.size W W'):SumV B n j S v W':=by
 unfold SumV at h ⊢
 split
 ·rename_i e
  rwa [if_pos e] at h
 ·rename_i e
  rw [if_neg e] at h
  obtain ⟨g,a,b,c,d⟩:=h
  exact ⟨g,a,b,Nat.lt_of_lt_of_le c hB.size,d.up hB⟩
theorem sumI_new (w:World) (va vb:Value) (e1 e2 e3:TypeId):SumI w w.heap.size (w.heap.size+1) (w.heap.size+1+1) va vb 0 (((w.alloc (.cells #[va,vb] e1)).alloc (.cells #[.int .i64 0,.int .u64 0] e2)).alloc (.cells #[.int .i64 0,.int .u64 0] e3)):=by
 have s1:(w.alloc (.cells #[va,vb] e1)).heap.size=w.heap.size+1:=by unfold World.alloc;simp
 have s2:((w.alloc (.cells #[va,vb] e1)).alloc (.cells #[.int .i64 0,.int .u64 0] e2)).heap.size=w.heap.size+1+1:=by unfold World.alloc;simp
 refine ⟨by simp [go_sem],by simp [go_sem],?_,?_,by unfold InW;omega,blit (blit (up_alloc w _) _) _⟩
 ·have:=lieA_new (w.alloc (.cells #[va,vb] e1)) e2
  rw [s1] at this
  exact this.up (up_alloc _ _)
 ·have:=lieA_new ((w.alloc (.cells #[va,vb] e1)).alloc (.cells #[.int .i64 0,.int .u64 0] e2)) e3
  rw [s2] at this
  exact this
theorem sumnone_any (d:List Int) (ls:List Ly) (h0:nE d ls=0) (hnP:nP d ls≤1048576) (p p2:Option Addr) (n c n2 c2:Nat) (hbig:n2≤1048576) (w:World) (hK:Hid (Kz w)) (hIn:Nums .i64 w (.slice p n c) d) (hLy:LyR 0 w p2 n2 ls):
  Calls Tryz.prog 29 #[.agg #[.slice p n c,.slice p2 n2 c2]] w fun e w'=>∃ g m,e = .returned (.tuple #[.slice (some ⟨g,0,none⟩) m m,.agg #[.int .i64 0,.int .u64 0],.int .i64 0])∧WRow w' g m (List.replicate (nP d ls).toNat 0)∧Below w.heap.size w w'∧w.heap.size≤g∧g < w'.heap.size:=by
 haveI:Nonempty World:=⟨w⟩
 have HN:Hid (Nums .i64 w (.slice p n c) d∧LyR 0 w p2 n2 ls∧nE d ls=0∧0≤nP d ls∧nP d ls≤1048576∧n2≤1048576):=⟨hIn,hLy,h0,nP_pos h0,hnP,hbig⟩
 clear hIn hLy h0 hnP hbig
 obtain ⟨m,em⟩:=Int.eq_ofNat_of_zero_le HN.out.2.2.2.1
 have hm:m≤1048576:=by have:=HN.out.2.2.2.2.1;omega
 rw [em,Int.toNat_natCast]
 obtain ⟨i0,hi,hz0,hz1,hz2⟩:=wide_info
 go_enter Tryz.func29,Tryz.ntmps29
 go_wp2_with fail
 generalize hW0:World.alloc _ _=W0
 have HB0:Hid (Below w.heap.size w W0∧LieA W0 (w.heap.size+1) 0 0):=by
  rw [← hW0]
  refine ⟨blit (up_alloc w _) _,?_⟩
  have:=lieA_new (w.alloc (.cells #[.slice p n c,.slice p2 n2 c2] 33)) 45
  rw [show (w.alloc (.cells #[.slice p n c,.slice p2 n2 c2] 33)).heap.size=w.heap.size+1 by unfold World.alloc;simp] at this
  exact this
 obtain ⟨g0,g1⟩:W0.cell? ⟨w.heap.size,0,none⟩=some (.slice p n c)∧W0.cell? ⟨w.heap.size,1,none⟩=some (.slice p2 n2 c2):=by rw [← hW0];simp [go_sem]
 clear hW0
 have cc:=Params_any p p2 n c n2 c2 d ls (by have:=HN.out.2.2.2.2.2;omega) W0 (Hid.up_kz hK HB0.out.1) (HN.out.1.up HB0.out.1) (HN.out.2.1.up HB0.out.1)
 rw [HN.out.2.2.1,em] at cc
 refine cc.mono ?_
 rintro e w1 ⟨rfl,hB1⟩
 have H1:Hid (Below w.heap.size w w1∧LieA w1 (w.heap.size+1) 0 0):=⟨bstep HB0.out.1 hB1,HB0.out.2.up hB1⟩
 clear cc hB1 HB0 g0 g1 HN em
 go_wp2_with (at_make;refine wpList_make_full w1 rfl (.tmp 16) (.tmp 16) 35 rfl w1.heap.size 45 i0 _ 2 Tryz.underlying35 hi hz0 hz1 .i64 .i64 m m m rfl rfl rfl rfl (by rw [hz2];omega) (by unfold maxLen;omega) (Nat.le_refl _) ?_;intro w3 hown hgrow;have B3:Below w1.heap.size w1 w3:=Below.grown (Below.refl _ _) hgrow (Nat.le_refl _) (fun j hj=>by cases hj);have H3:Hid (WRow w3 w1.heap.size m (List.replicate m 0)):=made_wides hown;have hmade:w1.heap.size < w3.heap.size:=made_lt hown;clear hown hgrow;have L3:=H1.out.2.up B3;have H4:Hid (WRow w3 w1.heap.size m (List.replicate m 0)∧Below w.heap.size w w3∧LieA w3 (w.heap.size+1) 0 0∧w.heap.size+1 < w1.heap.size∧w1.heap.size < w3.heap.size):=⟨H3.out,bstep H1.out.1 B3,L3,H1.out.2.1,hmade⟩;obtain ⟨a0,a1,a2,a3,a4⟩:=L3;simp only [Nat.zero_add,show (0:Int) / 18446744073709551616=0 from rfl,show (0:Int) % 18446744073709551616=0 from rfl] at a1 a2 a4;clear B3 H3 hmade H1)
 have L5:=H4.out.2.2.1.set (y:=0) (yh:=0) (yl:=0) rfl rfl
 obtain ⟨_,y0,y1,_,_⟩:=L5
 have hs:Stay (w.heap.size+1) w3 ((w3.setCell ⟨w.heap.size+1,0,none⟩ (.int .i64 0)).setCell ⟨w.heap.size+1,0+1,none⟩ (.int .u64 0)):=((Stay.refl _ _).set _ _).set _ _
 have H6:Hid (WRow ((w3.setCell ⟨w.heap.size+1,0,none⟩ (.int .i64 0)).setCell ⟨w.heap.size+1,0+1,none⟩ (.int .u64 0)) w1.heap.size m (List.replicate m 0)∧Below w.heap.size w ((w3.setCell ⟨w.heap.size+1,0,none⟩ (.int .i64 0)).setCell ⟨w.heap.size+1,0+1,none⟩ (.int .u64 0))∧w.heap.size≤w1.heap.size∧w1.heap.size < ((w3.setCell ⟨w.heap.size+1,0,none⟩ (.int .i64 0)).setCell ⟨w.heap.size+1,0+1,none⟩ (.int .u64 0)).heap.size):=⟨H4.out.1.stay hs (by have:=H4.out.2.2.2.1;omega),(H4.out.2.1.setCell (p:=⟨w.heap.size+1,0,none⟩) (by show _≤w.heap.size+1;omega) _).setCell (p:=⟨w.heap.size+1,0+1,none⟩) (by show _≤w.heap.size+1;omega) _,by have:=H4.out.2.2.2.1;omega,Nat.lt_of_lt_of_le H4.out.2.2.2.2 hs.size⟩
 simp only [Nat.zero_add,show (0:Int) / 18446744073709551616=0 from rfl,show (0:Int) % 18446744073709551616=0 from rfl] at y0 y1 H6
 clear hs H4
 exact bodyPost_ret (v:=.tuple #[.slice (some ⟨w1.heap.size,0,none⟩) m m,.agg #[.int .i64 0,.int .u64 0],.int .i64 0]) (by simp [results,Tryz.results29,go_sem,y0,y1]) rfl ⟨_,_,rfl,H6.out.1,H6.out.2.1,H6.out.2.2.1,H6.out.2.2.2⟩
theorem sum_d {d:List Int} {ls:List Ly} {P:List Int} (hO:OfC d ls P) (hC:PlC d ls P):SumD d ls P:=by
 intro h0 k l p p2 pp pl n c n2 c2 np cp nl cl hbig hPb hl hnP w hT hK hIn hLy hp he
 haveI:Nonempty World:=⟨w⟩
 have hPl:P.length=np:=by
  obtain ⟨_,_,_,e,h⟩:=hp.1.lst
  cases e
  exact h.out.1
 have HN:Hid (Nums .i64 w (.slice p n c) d∧LyR 0 w p2 n2 ls∧RowI w pp np cp P∧ExR w pl nl l∧nE d ls=0∧nP d ls≤1048576):=⟨hIn,hLy,hp,he,h0,hnP⟩
 have HG:Hid (∀ j,j < nl→GfO np (gofE d ls k P (exA l j))∧((gofE d ls k P (exA l j)).1=0→np=(nP d ls).toNat)):=fun j hj=>by
  obtain ⟨q,o,e,px,nx,cx,py,ny,cy,_,_,_,_,rx,ry⟩:=he.2 j hj
  refine ⟨?_,fun h=>?_⟩
  ·rw [← hPl]
   exact gof_row hC hp.2.1 rx.2.1 ry.2.1
  ·rw [← hPl]
   exact gof_len h0 h
 have CO:Hid (OfC d ls P):=hO
 obtain ⟨T,eT⟩:∃ T,sumT d ls k P l=T:=⟨_,rfl⟩
 obtain ⟨NP,eNP⟩:∃ N,(nP d ls).toNat=N:=⟨_,rfl⟩
 have HT:Hid (smK (gofE d ls k P) NP l nl=T∧(nP d ls).toNat=NP∧l.length=nl):=⟨by rw [← eT,← he.1,← eNP];rfl,eNP,he.1⟩
 rw [eT]
 clear eT eNP hIn hLy hp he hO hC h0 hnP hPl
 obtain ⟨i0,hi,hz0,hz1,hz2⟩:=wide_info
 go_enter Tryz.func15,Tryz.ntmps15
 by_cases hz:nl=0
 ·subst hz
  have et:T=(0,List.replicate NP 0,0):=HT.out.1.symm
  subst et
  go_wp2_with fail
  generalize hW0:World.alloc _ _=W0
  have HB0:Hid (Below w.heap.size w W0∧LieA W0 (w.heap.size+1) 0 0):=by
   rw [← hW0]
   refine ⟨blit (up_alloc w _) _,?_⟩
   have:=lieA_new (w.alloc (.cells #[.slice p n c,.slice p2 n2 c2] 33)) 45
   rw [show (w.alloc (.cells #[.slice p n c,.slice p2 n2 c2] 33)).heap.size=w.heap.size+1 by unfold World.alloc;simp] at this
   exact this
  obtain ⟨g0,g1⟩:W0.cell? ⟨w.heap.size,0,none⟩=some (.slice p n c)∧W0.cell? ⟨w.heap.size,1,none⟩=some (.slice p2 n2 c2):=by rw [← hW0];simp [go_sem]
  have kg:=cell_size g0
  clear hW0
  refine (sumnone_any d ls HN.out.2.2.2.2.1 HN.out.2.2.2.2.2 p p2 n c n2 c2 hbig W0 (Hid.up_kz hK HB0.out.1) (HN.out.1.up HB0.out.1) (HN.out.2.1.up HB0.out.1)).mono ?_
  rintro e w1 ⟨gs,m,rfl,hR1,hB1,hg1,hg2⟩
  rw [HT.out.2.1] at hR1
  obtain ⟨a0,a1,a2,a3,a4⟩:=HB0.out.2.up hB1
  obtain ⟨_,y0,y1,_,_⟩:=(HB0.out.2.up hB1).set (y:=0) (yh:=0) (yl:=0) rfl rfl
  have hs:Stay (w.heap.size+1) w1 ((w1.setCell ⟨w.heap.size+1,0,none⟩ (.int .i64 0)).setCell ⟨w.heap.size+1,0+1,none⟩ (.int .u64 0)):=((Stay.refl _ _).set _ _).set _ _
  have hlt:=HB0.out.2.1
  have H6:Hid (WRow ((w1.setCell ⟨w.heap.size+1,0,none⟩ (.int .i64 0)).setCell ⟨w.heap.size+1,0+1,none⟩ (.int .u64 0)) gs m (List.replicate NP 0)∧(w.heap.size≤gs∧gs < ((w1.setCell ⟨w.heap.size+1,0,none⟩ (.int .i64 0)).setCell ⟨w.heap.size+1,0+1,none⟩ (.int .u64 0)).heap.size)∧Below w.heap.size w ((w1.setCell ⟨w.heap.size+1,0,none⟩ (.int .i64 0)).setCell ⟨w.heap.size+1,0+1,none⟩ (.int .u64 0))):=⟨hR1.stay hs (by omega),⟨by omega,Nat.lt_of_lt_of_le hg2 hs.size⟩,((bstep HB0.out.1 hB1).setCell (p:=⟨w.heap.size+1,0,none⟩) (by show _≤w.heap.size+1;omega) _).setCell (p:=⟨w.heap.size+1,0+1,none⟩) (by show _≤w.heap.size+1;omega) _⟩
  simp only [Nat.zero_add,show (0:Int) / 18446744073709551616=0 from rfl,show (0:Int) % 18446744073709551616=0 from rfl] at a1 a2 a4 y0 y1 H6
  clear hs hR1 hB1 g0 g1 HB0 kg
  go_wp2
  exact bodyPost_ret (v:=.tuple #[.slice (some ⟨gs,0,none⟩) m m,.agg #[.int .i64 0,.int .u64 0],.int .i64 0]) (by simp [results,Tryz.results15,go_sem,y0,y1]) rfl ⟨_,by rw [wd_zero],H6.out.1.wrd,H6.out.2.2,fun ad m' c' e=>by cases e;exact H6.out.2.1⟩
 have hz':¬ ((nl:Int)=0):=by omega
 have hz3:((nl:Int)==0)=false:=by simpa using hz'
 go_wp2_with fail
 generalize hW1:World.alloc _ _=W1
 have HI0:Hid (SumI w w.heap.size (w.heap.size+1) (w.heap.size+1+1) (.slice p n c) (.slice p2 n2 c2) 0 W1):=by
  rw [← hW1]
  exact sumI_new w _ _ _ _ _
 clear hW1
 go_loopg [11,28] nl (fun gg sv i wr=>∃ (j:Nat) (S:List Int) (F:Int),j≤nl∧gg=nl - j∧i = .int .i64 (j:Int)∧Hid (smK (gofE d ls k P) NP l j=(0,S,F))∧Hid (SumV (w.heap.size+1+1) np j S sv wr)∧Hid (SumI w w.heap.size (w.heap.size+1) (w.heap.size+1+1) (.slice p n c) (.slice p2 n2 c2) F wr))
 case atStart=>exact ⟨0,_,_,by omega,by omega,by first|rfl|simp,show Hid _ from rfl,SumV.zero _ _ _ _,HI0⟩
 case round=>
  obtain ⟨j,S,F,hj,hg,rfl,HS,HV,HI⟩:=hrel
  obtain ⟨R1,eR1⟩:∃ R1:World,R1=wr:=⟨_,rfl⟩
  subst eR1
  by_cases hjn:j < nl
  ·have hj':(j:Int) < (nl:Int):=by omega
   obtain ⟨⟨X,y,cl0⟩,eX⟩:∃ e,exA l j=e:=⟨_,rfl⟩
   have hGj:=HG.out j hjn
   obtain ⟨q,o,rfl,px,nx,cx,py,ny,cy,c0,c1,c2',icl,rx,ry⟩:=(HN.out.2.2.2.1.up HI.out.bel).2 j hjn
   rw [eX] at c2' icl rx ry hGj
   obtain ⟨⟨E,row,off⟩,eT1⟩:∃ T1,gof d ls k P X y cl0=T1:=⟨_,rfl⟩
   have eT2:gofE d ls k P (exA l j)=(E,row,off):=by rw [eX];exact eT1
   rw [show gofE d ls k P (X,y,cl0)=(E,row,off) from eT1] at hGj
   have HGj:Hid (GfO np (E,row,off)∧(E=0→np=NP)):=⟨hGj.1,fun h=>by rw [← HT.out.2.1];exact hGj.2 h⟩
   have HS1:Hid (smK (gofE d ls k P) NP l (j+1)=if E=0 then (0,addW S row,wr (F+off)) else (E,[],0)):=by
    show _=_
    rw [smK,HS.out,if_pos rfl,eT2]
   have HX:Hid (RowI R1 px nx cx X∧RowI R1 py ny cy y):=⟨rx,ry⟩
   have kq:=cell_lt c0
   have g0:=HI.out.c0
   have g1:=HI.out.c1
   have kg:=cell_size g0
   dsimp only at c2'
   clear rx ry eX eT2 hGj icl
   go_wp2_with fail
   generalize hK1:World.alloc _ _=K1
   have hL1:Below R1.heap.size R1 K1:=by rw [← hK1];exact up_alloc R1 _
   have hB1:=bstep HI.out.bel hL1
   have cc:=CO.out k X y cl0 p p2 pp px py n c n2 c2 np cp nx cx ny cy hbig hPb K1 (Hid.up_tz hT hB1) (Hid.up_kz hK hB1) (HN.out.1.up hB1) (HN.out.2.1.up hB1) (HN.out.2.2.1.up hB1) (HX.out.1.up hL1) (HX.out.2.up hL1)
   rw [eT1] at cc
   have H1:Hid (SumI w w.heap.size (w.heap.size+1) (w.heap.size+1+1) (.slice p n c) (.slice p2 n2 c2) F K1∧SumV (w.heap.size+1+1) np j S u11 K1):=⟨HI.out.up hL1,HV.out.up hL1⟩
   clear hK1 hL1 hB1 eT1 c0 c1 c2' kq g0 g1 kg HX HI HV
   refine cc.mono ?_
   rintro e w4 ⟨v4,rfl,hO4,hB4⟩
   obtain ⟨p4,n4,c4,rfl⟩:=hO4.form_
   have H4:Hid (SumI w w.heap.size (w.heap.size+1) (w.heap.size+1+1) (.slice p n c) (.slice p2 n2 c2) F w4∧SumV (w.heap.size+1+1) np j S u11 w4∧OwnK .i64 23 w4 K1.heap.size (.slice p4 n4 c4) row∧SumV (w.heap.size+1+1) np j S u11 K1∧w.heap.size+1+1 < K1.heap.size):=⟨H1.out.1.up hB4,H1.out.2.up hB4,hO4,H1.out.2,H1.out.1.l2.1⟩
   have hn4:row.length=n4:=by
    obtain ⟨_,_,_,e,h⟩:=hO4.nums.lst
    cases e
    exact h.out.1
   clear cc hO4 hB4 H1
   dsimp only
   by_cases hE:E=0
   case neg=>
    have et:T=(E,[],0):=by
     have h1:=HS1.out
     rw [if_neg hE] at h1
     rw [← HT.out.1]
     have h2:=smK_stop (gofE d ls k P) NP l (j+1) (by rw [h1];exact hE) (nl - (j+1))
     rw [show j+1+(nl - (j+1))=nl by omega] at h2
     rw [h2,h1]
    subst et
    have hE':(E != 0)=true:=by simpa using hE
    obtain ⟨a0,a1,a2,a3,a4⟩:=H4.out.1.l1
    obtain ⟨_,y0,y1,_,_⟩:=H4.out.1.l1.set (y:=0) (yh:=0) (yl:=0) rfl rfl
    have H6:Hid (Below w.heap.size w ((w4.setCell ⟨w.heap.size+1,0,none⟩ (.int .i64 0)).setCell ⟨w.heap.size+1,0+1,none⟩ (.int .u64 0))):=(H4.out.1.bel.setCell (p:=⟨w.heap.size+1,0,none⟩) (by show _≤w.heap.size+1;omega) _).setCell (p:=⟨w.heap.size+1,0+1,none⟩) (by show _≤w.heap.size+1;omega) _
    simp only [Nat.zero_add,show (0:Int) / 18446744073709551616=0 from rfl,show (0:Int) % 18446744073709551616=0 from rfl] at a1 a2 a4 y0 y1 H6
    clear H4 hn4
    go_wp2
    exact bodyPost_ret (v:=.tuple #[.slice none 0 0,.agg #[.int .i64 0,.int .u64 0],.int .i64 E]) (by simp [results,Tryz.results15,go_sem,y0,y1]) rfl ⟨_,by rw [wd_zero],⟨none,0,0,rfl,WdR.nil _ _⟩,H6.out,fun ad m' c' e=>by cases e⟩
   subst hE
   have hnn:n4=np:=by rw [← hn4];exact HGj.out.1.1 rfl
   subst hnn
   have HS2:Hid (smK (gofE d ls k P) NP l (j+1)=(0,addW S row,wr (F+off))):=HS1.out.trans (if_pos rfl)
   have HR4:Hid (RI row∧InR off∧n4=NP):=⟨HGj.out.1.2.1,HGj.out.1.2.2,HGj.out.2 rfl⟩
   clear HS1 HGj hn4
   by_cases hj0:j=0
   ·subst hj0
    have eS:S=List.replicate n4 0:=by
     have:=HS.out
     rw [smK] at this
     cases this
     rw [HR4.out.2.2]
    subst eS
    clear HS
    go_wp2_with (at_make;refine wpList_make_full w4 rfl (.tmp 49) (.tmp 49) 35 rfl w4.heap.size 45 i0 _ 2 Tryz.underlying35 hi hz0 hz1 .i64 .i64 n4 n4 n4 rfl rfl rfl rfl (by rw [hz2];omega) (by unfold maxLen;omega) (Nat.le_refl _) ?_;intro w5 hown hgrow;have B5:Below w4.heap.size w4 w5:=Below.grown (Below.refl _ _) hgrow (Nat.le_refl _) (fun j hj=>by cases hj);have H5:Hid (WRow w5 w4.heap.size n4 (List.replicate n4 0)):=made_wides hown;have hmade:w4.heap.size < w5.heap.size:=made_lt hown;clear hown hgrow)
    have HA:Hid (WRow w5 w4.heap.size n4 (List.replicate n4 0)∧(∀ W',Stay w4.heap.size w5 W'→Nums .i64 W' (.slice p4 n4 c4) row)∧SumI w w.heap.size (w.heap.size+1) (w.heap.size+1+1) (.slice p n c) (.slice p2 n2 c2) F w5∧w.heap.size+1+1 < w4.heap.size∧w4.heap.size < w5.heap.size):=⟨H5.out,fun W' hs=>((H4.out.2.2.1.up B5).stay hs (H4.out.2.2.1.off_new (Nat.le_refl _))).nums,H4.out.1.up B5,H4.out.1.l2.1,hmade⟩
    clear H4 H5 B5 hmade
    go_wp2_with fail
    refine (addrow_any w4.heap.size n4 (List.replicate n4 0) row (by omega) p4 c4 HR4.out.1 w5 HA.out.1 HA.out.2.1).mono ?_
    rintro e w6 ⟨rfl,hR6,hs6,hB6⟩
    have hGb:=HA.out.2.2.2.1
    have H6:Hid (SumI w w.heap.size (w.heap.size+1) (w.heap.size+1+1) (.slice p n c) (.slice p2 n2 c2) F w6∧WRow w6 w4.heap.size n4 (addW (List.replicate n4 0) row)∧w.heap.size+1+1 < w4.heap.size):=⟨HA.out.2.2.1.stay hs6 hB6 (by omega) (by omega) (by omega) (by omega),hR6,hGb⟩
    have HGw:Hid (w4.heap.size < w6.heap.size):=Nat.lt_of_lt_of_le HA.out.2.2.2.2 hs6.size
    clear hR6 hs6 hB6 HA hGb
    have wF:=H6.out.1.iw
    obtain ⟨f1,e1⟩:∃ x,F / 18446744073709551616=x:=⟨_,rfl⟩
    obtain ⟨f2,e2⟩:∃ x,F % 18446744073709551616=x:=⟨_,rfl⟩
    obtain ⟨v1,e3⟩:∃ x,off / 18446744073709551616=x:=⟨_,rfl⟩
    obtain ⟨v2,e4⟩:∃ x,off % 18446744073709551616=x:=⟨_,rfl⟩
    obtain ⟨s_,es⟩:∃ s,Wd.wr (F+off)=s:=⟨_,rfl⟩
    obtain ⟨s1,e5⟩:∃ x,s_ / 18446744073709551616=x:=⟨_,rfl⟩
    obtain ⟨s2,e6⟩:∃ x,s_ % 18446744073709551616=x:=⟨_,rfl⟩
    have es2:wd s_ = .agg #[.int .i64 s1,.int .u64 s2]:=by unfold wd;rw [e5,e6]
    have cO:Hid (∀ W,Below w6.heap.size w6 W→Calls Tryz.prog 31 #[.int .i64 off] W fun e w'=>e = .returned (.agg #[.int .i64 v1,.int .u64 v2])∧Below W.heap.size W w'):=fun W _=>by
     have:=of_any off HR4.out.2.1 W
     unfold wd at this
     rw [e3,e4] at this
     exact this
    have cA:Hid (∀ W,Below w6.heap.size w6 W→Calls Tryz.prog 17 #[.agg #[.int .i64 f1,.int .u64 f2],.agg #[.int .i64 v1,.int .u64 v2]] W fun e w'=>e = .returned (.agg #[.int .i64 s1,.int .u64 s2])∧Below W.heap.size W w'):=fun W _=>by
     have:=Wd.add_any F off wF (InR.w HR4.out.2.1) W
     rw [es,es2] at this
     unfold wd at this
     rw [e1,e2,e3,e4] at this
     exact this
    have HS3:Hid (smK (gofE d ls k P) NP l (0+1)=(0,addW (List.replicate n4 0) row,s_)∧InW s_∧wd s_ = .agg #[.int .i64 s1,.int .u64 s2]):=⟨by rw [HS2.out,es],by rw [← es];exact wr_rng _,es2⟩
    obtain ⟨kb,l0,l1,_,_⟩:=H6.out.1.l2
    rw [e1] at l0
    rw [e2] at l1
    simp only [Nat.zero_add] at l1
    clear e1 e2 e3 e4 e5 e6 es es2 wF HS2
    go_wp2_with fail
    refine rel [] 4 61 (by kernel_rfl) rfl rfl (by kernel_rfl) (by rfl) ?_ ?_
    ·intro e he
     simp at he
    apply Exists.intro
    refine ⟨fun x=>?_,?_,?_⟩
    ·simp only [List.take_succ_cons,List.take_zero]
     iterate 2
      refine relQuiet rfl rfl ?_
      apply Exists.intro
      refine ⟨fun F hF hf K hK=>?_,?_⟩
      ·have hFc:=hF.cell
       have hFf:=hF.frozen
       go_big_quiet_op
       first|exact hK|(apply Exists.intro;refine ⟨fun _=>?_,?_⟩;(· fail);exact hK)
      (try simp only [Act.put,List.setIfInBounds_toArray,List.set_cons_zero,List.set_cons_succ])
     refine relQuiet rfl rfl ?_
     apply Exists.intro
     refine ⟨fun F hF hf K hK=>?_,?_⟩
     ·have hFc:=hF.cell
      have hFf:=hF.frozen
      go_big_quiet_op
      first|exact hK|(apply Exists.intro;refine ⟨fun _=>?_,?_⟩;(· exact hF.call (cO.out _ (hF.below _)));exact hK)
     (try simp only [Act.put,List.setIfInBounds_toArray,List.set_cons_zero,List.set_cons_succ])
     refine relQuiet rfl rfl ?_
     apply Exists.intro
     refine ⟨fun F hF hf K hK=>?_,?_⟩
     ·have hFc:=hF.cell
      have hFf:=hF.frozen
      go_big_quiet_op
      first|exact hK|(apply Exists.intro;refine ⟨fun _=>?_,?_⟩;(· exact hF.call (cA.out _ (hF.below _)));exact hK)
     (try simp only [Act.put,List.setIfInBounds_toArray,List.set_cons_zero,List.set_cons_succ])
     refine relEnd ?_
     exact rfl
    ·intro x
     simp only [putsK,List.foldl_nil]
    ·intro w9 xs hB9 hf
     simp only [List.drop_succ_cons,List.drop_zero]
     have H9:Hid (SumI w w.heap.size (w.heap.size+1) (w.heap.size+1+1) (.slice p n c) (.slice p2 n2 c2) F w9∧WRow w9 w4.heap.size n4 (addW (List.replicate n4 0) row)):=⟨H6.out.1.up hB9,H6.out.2.1.up hB9⟩
     have hsb:Stay (w.heap.size+1+1) w9 ((w9.setCell ⟨w.heap.size+1+1,0,none⟩ (.int .i64 s1)).setCell ⟨w.heap.size+1+1,0+1,none⟩ (.int .u64 s2)):=((Stay.refl _ _).set _ _).set _ _
     have HN9:Hid (SumV (w.heap.size+1+1) n4 (0+1) (addW (List.replicate n4 0) row) (.slice (some ⟨w4.heap.size,0,none⟩) n4 n4) ((w9.setCell ⟨w.heap.size+1+1,0,none⟩ (.int .i64 s1)).setCell ⟨w.heap.size+1+1,0+1,none⟩ (.int .u64 s2))∧SumI w w.heap.size (w.heap.size+1) (w.heap.size+1+1) (.slice p n c) (.slice p2 n2 c2) s_ ((w9.setCell ⟨w.heap.size+1+1,0,none⟩ (.int .i64 s1)).setCell ⟨w.heap.size+1+1,0+1,none⟩ (.int .u64 s2))):=⟨by
      unfold SumV
      rw [if_neg (by omega)]
      exact ⟨_,rfl,H6.out.2.2,Nat.lt_of_lt_of_le HGw.out (Nat.le_trans hB9.size hsb.size),H9.out.2.stay hsb (by have:=H6.out.2.2;omega)⟩,H9.out.1.put (by omega) (by omega) (by omega) HS3.out.2.1 HS3.out.2.2⟩
     obtain ⟨kb',l0',l1',l2',l3'⟩:=H9.out.1.l2
     simp only [Nat.zero_add] at HN9 l1' l3'
     clear hf hB9 hsb l0 l1 kb H9 H6 cO cA
     go_wp2
     go_roundg (nl - (0+1))
     case measure=>omega
     case rel=>exact ⟨0+1,_,_,by omega,rfl,by first|rfl|simp,HS3.out.1,HN9.out.1,HN9.out.2⟩
   ·have hj0':¬ ((j:Int)=0):=by omega
    have hV:=H4.out.2.1
    have hV1:=H4.out.2.2.2.1
    unfold SumV at hV hV1
    rw [if_neg hj0] at hV hV1
    obtain ⟨G,eG,hG,hGl,hW⟩:=hV
    obtain ⟨G',eG',_,hGl',_⟩:=hV1
    subst eG
    cases eG'
    have HA:Hid (WRow w4 G n4 S∧(∀ W',Stay G w4 W'→Nums .i64 W' (.slice p4 n4 c4) row)∧SumI w w.heap.size (w.heap.size+1) (w.heap.size+1+1) (.slice p n c) (.slice p2 n2 c2) F w4∧w.heap.size+1+1 < G∧G < w4.heap.size):=⟨hW,fun W' hs=>(H4.out.2.2.1.stay hs (H4.out.2.2.1.off hGl')).nums,H4.out.1,hG,hGl⟩
    clear H4 hW hG hGl hGl' HS
    go_wp2_with fail
    refine (addrow_any G n4 S row (by omega) p4 c4 HR4.out.1 w4 HA.out.1 HA.out.2.1).mono ?_
    rintro e w6 ⟨rfl,hR6,hs6,hB6⟩
    have hGb:=HA.out.2.2.2.1
    have H6:Hid (SumI w w.heap.size (w.heap.size+1) (w.heap.size+1+1) (.slice p n c) (.slice p2 n2 c2) F w6∧WRow w6 G n4 (addW S row)∧w.heap.size+1+1 < G):=⟨HA.out.2.2.1.stay hs6 hB6 (by omega) (by omega) (by omega) (by omega),hR6,hGb⟩
    have HGw:Hid (G < w6.heap.size):=Nat.lt_of_lt_of_le HA.out.2.2.2.2 hs6.size
    clear hR6 hs6 hB6 HA hGb
    have wF:=H6.out.1.iw
    obtain ⟨f1,e1⟩:∃ x,F / 18446744073709551616=x:=⟨_,rfl⟩
    obtain ⟨f2,e2⟩:∃ x,F % 18446744073709551616=x:=⟨_,rfl⟩
    obtain ⟨v1,e3⟩:∃ x,off / 18446744073709551616=x:=⟨_,rfl⟩
    obtain ⟨v2,e4⟩:∃ x,off % 18446744073709551616=x:=⟨_,rfl⟩
    obtain ⟨s_,es⟩:∃ s,Wd.wr (F+off)=s:=⟨_,rfl⟩
    obtain ⟨s1,e5⟩:∃ x,s_ / 18446744073709551616=x:=⟨_,rfl⟩
    obtain ⟨s2,e6⟩:∃ x,s_ % 18446744073709551616=x:=⟨_,rfl⟩
    have es2:wd s_ = .agg #[.int .i64 s1,.int .u64 s2]:=by unfold wd;rw [e5,e6]
    have cO:Hid (∀ W,Below w6.heap.size w6 W→Calls Tryz.prog 31 #[.int .i64 off] W fun e w'=>e = .returned (.agg #[.int .i64 v1,.int .u64 v2])∧Below W.heap.size W w'):=fun W _=>by
     have:=of_any off HR4.out.2.1 W
     unfold wd at this
     rw [e3,e4] at this
     exact this
    have cA:Hid (∀ W,Below w6.heap.size w6 W→Calls Tryz.prog 17 #[.agg #[.int .i64 f1,.int .u64 f2],.agg #[.int .i64 v1,.int .u64 v2]] W fun e w'=>e = .returned (.agg #[.int .i64 s1,.int .u64 s2])∧Below W.heap.size W w'):=fun W _=>by
     have:=Wd.add_any F off wF (InR.w HR4.out.2.1) W
     rw [es,es2] at this
     unfold wd at this
     rw [e1,e2,e3,e4] at this
     exact this
    have HS3:Hid (smK (gofE d ls k P) NP l (j+1)=(0,addW S row,s_)∧InW s_∧wd s_ = .agg #[.int .i64 s1,.int .u64 s2]):=⟨by rw [HS2.out,es],by rw [← es];exact wr_rng _,es2⟩
    obtain ⟨kb,l0,l1,_,_⟩:=H6.out.1.l2
    rw [e1] at l0
    rw [e2] at l1
    simp only [Nat.zero_add] at l1
    clear e1 e2 e3 e4 e5 e6 es es2 wF HS2
    go_wp2_with fail
    refine rel [] 4 61 (by kernel_rfl) rfl rfl (by kernel_rfl) (by rfl) ?_ ?_
    ·intro e he
     simp at he
    apply Exists.intro
    refine ⟨fun x=>?_,?_,?_⟩
    ·simp only [List.take_succ_cons,List.take_zero]
     iterate 2
      refine relQuiet rfl rfl ?_
      apply Exists.intro
      refine ⟨fun F hF hf K hK=>?_,?_⟩
      ·have hFc:=hF.cell
       have hFf:=hF.frozen
       go_big_quiet_op
       first|exact hK|(apply Exists.intro;refine ⟨fun _=>?_,?_⟩;(· fail);exact hK)
      (try simp only [Act.put,List.setIfInBounds_toArray,List.set_cons_zero,List.set_cons_succ])
     refine relQuiet rfl rfl ?_
     apply Exists.intro
     refine ⟨fun F hF hf K hK=>?_,?_⟩
     ·have hFc:=hF.cell
      have hFf:=hF.frozen
      go_big_quiet_op
      first|exact hK|(apply Exists.intro;refine ⟨fun _=>?_,?_⟩;(· exact hF.call (cO.out _ (hF.below _)));exact hK)
     (try simp only [Act.put,List.setIfInBounds_toArray,List.set_cons_zero,List.set_cons_succ])
     refine relQuiet rfl rfl ?_
     apply Exists.intro
     refine ⟨fun F hF hf K hK=>?_,?_⟩
     ·have hFc:=hF.cell
      have hFf:=hF.frozen
      go_big_quiet_op
      first|exact hK|(apply Exists.intro;refine ⟨fun _=>?_,?_⟩;(· exact hF.call (cA.out _ (hF.below _)));exact hK)
     (try simp only [Act.put,List.setIfInBounds_toArray,List.set_cons_zero,List.set_cons_succ])
     refine relEnd ?_
     exact rfl
    ·intro x
     simp only [putsK,List.foldl_nil]
    ·intro w9 xs hB9 hf
     simp only [List.drop_succ_cons,List.drop_zero]
     have H9:Hid (SumI w w.heap.size (w.heap.size+1) (w.heap.size+1+1) (.slice p n c) (.slice p2 n2 c2) F w9∧WRow w9 G n4 (addW S row)):=⟨H6.out.1.up hB9,H6.out.2.1.up hB9⟩
     have hsb:Stay (w.heap.size+1+1) w9 ((w9.setCell ⟨w.heap.size+1+1,0,none⟩ (.int .i64 s1)).setCell ⟨w.heap.size+1+1,0+1,none⟩ (.int .u64 s2)):=((Stay.refl _ _).set _ _).set _ _
     have HN9:Hid (SumV (w.heap.size+1+1) n4 (j+1) (addW S row) (.slice (some ⟨G,0,none⟩) n4 n4) ((w9.setCell ⟨w.heap.size+1+1,0,none⟩ (.int .i64 s1)).setCell ⟨w.heap.size+1+1,0+1,none⟩ (.int .u64 s2))∧SumI w w.heap.size (w.heap.size+1) (w.heap.size+1+1) (.slice p n c) (.slice p2 n2 c2) s_ ((w9.setCell ⟨w.heap.size+1+1,0,none⟩ (.int .i64 s1)).setCell ⟨w.heap.size+1+1,0+1,none⟩ (.int .u64 s2))):=⟨by
      unfold SumV
      rw [if_neg (by omega)]
      exact ⟨_,rfl,H6.out.2.2,Nat.lt_of_lt_of_le HGw.out (Nat.le_trans hB9.size hsb.size),H9.out.2.stay hsb (by have:=H6.out.2.2;omega)⟩,H9.out.1.put (by omega) (by omega) (by omega) HS3.out.2.1 HS3.out.2.2⟩
     obtain ⟨kb',l0',l1',l2',l3'⟩:=H9.out.1.l2
     simp only [Nat.zero_add] at HN9 l1' l3'
     clear hf hB9 hsb l0 l1 kb H9 H6 cO cA
     go_wp2
     go_roundg (nl - (j+1))
     case measure=>omega
     case rel=>exact ⟨j+1,_,_,by omega,rfl,by first|rfl|simp,HS3.out.1,HN9.out.1,HN9.out.2⟩
  ·obtain rfl:j=nl:=by omega
   have et:T=(0,S,F):=HT.out.1.symm.trans HS.out
   subst et
   have hV:=HV.out
   unfold SumV at hV
   rw [if_neg hz] at hV
   obtain ⟨G,eG,hG,hGl,hW⟩:=hV
   subst eG
   obtain ⟨fh,ef1⟩:∃ x,F / 18446744073709551616=x:=⟨_,rfl⟩
   obtain ⟨fl,ef2⟩:∃ x,F % 18446744073709551616=x:=⟨_,rfl⟩
   have ewd:wd F = .agg #[.int .i64 fh,.int .u64 fl]:=by unfold wd;rw [ef1,ef2]
   obtain ⟨b0,b1,b2,_,_⟩:=HI.out.l2
   rw [ef1] at b1
   rw [ef2] at b2
   obtain ⟨a0,a1,a2,a3,a4⟩:=HI.out.l1
   obtain ⟨_,y0,y1,_,_⟩:=HI.out.l1.set (y:=F) (yh:=fh) (yl:=fl) ef1.symm ef2.symm
   rw [ef1] at y0
   rw [ef2] at y1
   have hs:Stay (w.heap.size+1) R1 ((R1.setCell ⟨w.heap.size+1,0,none⟩ (.int .i64 fh)).setCell ⟨w.heap.size+1,0+1,none⟩ (.int .u64 fl)):=((Stay.refl _ _).set _ _).set _ _
   have H6:Hid (WRow ((R1.setCell ⟨w.heap.size+1,0,none⟩ (.int .i64 fh)).setCell ⟨w.heap.size+1,0+1,none⟩ (.int .u64 fl)) G np S∧(w.heap.size≤G∧G < ((R1.setCell ⟨w.heap.size+1,0,none⟩ (.int .i64 fh)).setCell ⟨w.heap.size+1,0+1,none⟩ (.int .u64 fl)).heap.size)∧Below w.heap.size w ((R1.setCell ⟨w.heap.size+1,0,none⟩ (.int .i64 fh)).setCell ⟨w.heap.size+1,0+1,none⟩ (.int .u64 fl)))   := ⟨hW.stay hs (by omega),⟨by omega,Nat.lt_of_lt_of_le hGl hs.size⟩,(HI.out.bel.setCell (p:=⟨w.heap.size+1,0,none⟩) (by show _≤w.heap.size+1;omega) _).setCell (p:=⟨w.heap.size+1,0+1,none⟩) (by show _≤w.heap.size+1;omega) _⟩
   simp only [Nat.zero_add,show (0:Int) / 18446744073709551616=0 from rfl,show (0:Int) % 18446744073709551616=0 from rfl] at a1 a2 a4 b1 b2 y0 y1 H6
   have HW:Hid (wd F = .agg #[.int .i64 fh,.int .u64 fl]):=ewd
   clear hs hW HI HV HS ewd ef1 ef2 hG hGl HG
   go_wp2
   go_region
   go_wp2
   exact bodyPost_ret (v:=.tuple #[.slice (some ⟨G,0,none⟩) np np,.agg #[.int .i64 fh,.int .u64 fl],.int .i64 0]) (by simp [results,Tryz.results15,go_sem,y0,y1]) rfl ⟨_,by rw [HW.out],H6.out.1.wrd,H6.out.2.2.trans ⟨rfl,rfl,rfl,Nat.le_refl _,fun _ _=>rfl⟩,fun ad m' c' e=>by cases e;exact H6.out.2.1⟩
/-- Numbers that a tape's change leaves as they are. -/
def KeptL (B:Nat) (W:World) (v:Value) (l:List Int):Prop:=∀ W',Below B W W'→Only SC W W'→Nums .i64 W' v l
theorem KeptL.up {B:Nat} {W W':World} {v:Value} {l:List Int} (h:KeptL B W v l) (hB:Below B W W') (hO:Only SC W W'):KeptL B W' v l:=fun W2 h2 o2=>h W2 (hB.trans h2) (hO.trans o2)
theorem KeptL.nums {B:Nat} {W:World} {v:Value} {l:List Int} (h:KeptL B W v l):Nums .i64 W v l:=h W (Below.refl _ _) (Only.refl _ _)
theorem OwnK.keptL {e:TypeId} {B B':Nat} {W:World} {v:Value} {l:List Int} (h:OwnK .i64 e W B' v l) (he:e∉SC):KeptL B W v l:=fun W' _ hO=>(h.only hO he).nums
theorem KeptL.nil (B:Nat) (W:World):KeptL B W (.slice none 0 0) []:=fun _ _ _=>.inl ⟨rfl,rfl⟩
/-- A step that may be laid. -/
structure StpOk (s:Nd):Prop where
 r:InR s.op∧InR s.a∧InR s.b∧InR s.k
 D:RI s.D
 X:RI s.X
 c:s.op≠1→RkC s.op
theorem rk_loss {op:Int} (h:op=2∨op=3∨op=4∨op=9∨op=10∨op=11):RkC op:=by
 rcases h with rfl|rfl|rfl|rfl|rfl|rfl
 ·exact RkC.of (by omega) ck2
 ·exact RkC.of (by omega) ck3
 ·exact RkC.of (by omega) ck4
 ·exact RkC.of (by omega) ck9
 ·exact RkC.of (by omega) ck10
 ·exact RkC.of (by omega) ck11
theorem stp_op {op a b k:Int} (h:op=2∨op=3∨op=4∨op=9∨op=10∨op=11) (ha:InR a) (hb:InR b) (hk:InR k):StpOk (opS op a b k):=⟨⟨by show InR op;unfold InR;omega,ha,hb,hk⟩,RI_nil,RI_nil,fun _=>rk_loss h⟩
theorem stp_leaf {y:List Int} (hy:RI y) (hl:y.length≤4096):StpOk (lfS y):=by
 refine ⟨⟨by show InR 1;unfold InR;omega,by show InR 0;unfold InR;omega,by show InR 0;unfold InR;omega,by show InR 0;unfold InR;omega⟩,fun z hz=>?_,hy,fun h=>absurd rfl h⟩
 have:z=(y.length:Int):=by simpa [lfS] using hz
 subst this
 omega
theorem clayone_any (B tb:Nat) (ns:List Nd) (hG:NodesG ns) (s:Nd) (hok:StpOk s) (p:Option Addr) (n c:Nat) (p2:Option Addr) (n2 c2:Nat) (w:World) (hT:TapC w B tb ns) (hTz:Hid (Tz w)) (h1:Nums .i64 w (.slice p n c) s.D) (h2:Nums .i64 w (.slice p2 n2 c2) s.X):
  Calls Tryz.prog 84 #[.pointer (some ⟨tb,0,none⟩),.agg #[.int .i64 s.op,.int .i64 s.a,.int .i64 s.b,.int .i64 s.k,.slice p n c,.slice p2 n2 c2]] w fun e w'=>e = .returned (.tuple #[.int .i64 (lsR ns s),.int .i64 (lsE ns s)])∧TapC w' B tb (lsN ns s)∧Below B w w'∧Only SC w w'∧Spar2 tb w w':=by
 obtain ⟨op,a,b,k,D,X⟩:=s
 obtain ⟨hr,rD,rX,hRk⟩:=hok
 simp only [] at hr rD rX h1 h2 hRk ⊢
 obtain ⟨R,eR⟩:∃ R,lsR ns ⟨op,a,b,k,D,X⟩=R:=⟨_,rfl⟩
 obtain ⟨E,eE⟩:∃ R,lsE ns ⟨op,a,b,k,D,X⟩=R:=⟨_,rfl⟩
 obtain ⟨NS,eN⟩:∃ R,lsN ns ⟨op,a,b,k,D,X⟩=R:=⟨_,rfl⟩
 rw [eR,eE,eN]
 have HZ:Hid (B≤w.heap.size):=by
  obtain ⟨hb,v,xs,hv,_⟩:=hT
  exact Nat.le_trans hb (Nat.le_of_lt (heap_lt hv))
 by_cases h0:op=1
 ·subst h0
  have cl:Hid (∀ W,Below w.heap.size w W→Calls Tryz.prog 82 #[.pointer (some ⟨tb,0,none⟩),.agg #[.slice p n c,.slice p2 n2 c2]] W fun e w'=>e = .returned (.tuple #[.int .i64 R,.int .i64 E])∧TapC w' B tb NS∧Below B W w'∧Only SC W w'∧Spar2 tb W w'):=fun W hW=>by
   have:=cleaf_sp B tb ns hG p p2 n c n2 c2 D X rD rX W (hT.up hW) (h1.up hW) (h2.up hW)
   rw [← eR,← eE,← eN]
   exact this
  clear eR eE eN hT h1 h2 hRk rD rX hr
  go_enter Tryz.func84,Tryz.ntmps84
  go_wp2_with fail
  generalize hW0:World.alloc _ _=W0
  have HB0:Hid (Below w.heap.size w W0):=by rw [← hW0];exact up_alloc w _
  clear hW0
  refine (cl.out W0 HB0.out).mono ?_
  rintro e w1 ⟨rfl,hT1,hB1,hO1,hS1⟩
  have HF:Hid (TapC w1 B tb NS∧Below B w w1∧Only SC w w1∧Spar2 tb w w1):=⟨hT1,(HB0.out.mono HZ.out).trans hB1,(Only.of HB0.out).trans hO1,Spar2.trans (Spar2.of HB0.out) hS1 HB0.out.size⟩
  clear hT1 hB1 hO1 hS1 cl
  go_wp2
  go_ret2
  exact ⟨rfl,HF.out⟩
 ·have h0':(op==1)=false:=by simpa using h0
  have cd:Hid (∀ W,Below w.heap.size w W→Calls Tryz.prog 83 #[.pointer (some ⟨tb,0,none⟩),.int .i64 op,.int .i64 a,.int .i64 b,.int .i64 k] W fun e w'=>e = .returned (.tuple #[.int .i64 R,.int .i64 E])∧TapC w' B tb NS∧Below B W w'∧Only SC W w'∧Spar2 tb W w'):=fun W hW=>by
   have:=cdo_sp B tb ns hG op a b k (hRk h0) hr W (hT.up hW) (Hid.up_tz hTz hW)
   rw [← eR,← eE,← eN]
   unfold lsR lsE lsN
   simp only [if_neg h0]
   exact this
  clear eR eE eN hT h1 h2 hRk rD rX hr
  go_enter Tryz.func84,Tryz.ntmps84
  go_wp2_with fail
  generalize hW0:World.alloc _ _=W0
  have HB0:Hid (Below w.heap.size w W0):=by rw [← hW0];exact up_alloc w _
  clear hW0
  refine (cd.out W0 HB0.out).mono ?_
  rintro e w1 ⟨rfl,hT1,hB1,hO1,hS1⟩
  have HF:Hid (TapC w1 B tb NS∧Below B w w1∧Only SC w w1∧Spar2 tb w w1):=⟨hT1,(HB0.out.mono HZ.out).trans hB1,(Only.of HB0.out).trans hO1,Spar2.trans (Spar2.of HB0.out) hS1 HB0.out.size⟩
  clear hT1 hB1 hO1 hS1 cd
  go_wp2
  go_ret2
  exact ⟨rfl,HF.out⟩
/-- How a step lies in a literal's cells. -/
def StL (B:Nat) (w:World) (cs:List Value) (i:Nat) (s:Nd):Prop:=∃ p n c p2 n2 c2,cs[i*6]?=some (.int .i64 s.op)∧cs[i*6+1]?=some (.int .i64 s.a)∧cs[i*6+2]?=some (.int .i64 s.b)∧cs[i*6+3]?=some (.int .i64 s.k)∧cs[i*6+4]?=some (.slice p n c)∧cs[i*6+5]?=some (.slice p2 n2 c2)∧KeptL B w (.slice p n c) s.D∧KeptL B w (.slice p2 n2 c2) s.X
theorem lit_cell {W:World} {g:Nat} {cs:List Value} {e:TypeId} (h:W.heap[g]?=some (.cells cs.toArray e (0,0))) {j:Nat} {v:Value} (hj:cs[j]?=some v):W.cell? ⟨g,j,none⟩=some v:=by
 unfold World.cell?
 simp [h,hj]
theorem clay_any (B tb:Nat) (ns:List Nd) (hG:NodesG ns) (sts:List Nd) (hok:∀ i,i < sts.length→StpOk (stA sts i)) (hns:ns.length≤512) (g m:Nat) (cs:List Value) (hm:sts.length=m) (hm2:m≤20) (w:World) (hT:TapC w B tb ns) (hTz:Hid (∀ W,Below B w W→Tz W)) (hc:w.heap[g]?=some (.cells cs.toArray 136 (0,0))) (hst:∀ i,i < m→StL B w cs i (stA sts i)):
  Calls Tryz.prog 63 #[.pointer (some ⟨tb,0,none⟩),.slice (some ⟨g,0,none⟩) m m] w fun e w'=>e = .returned (.tuple #[.int .i64 (lyR ns sts),.int .i64 (lyE ns sts)])∧TapC w' B tb (lyM ns sts)∧Below B w w'∧Only SC w w'∧Spar2 tb w w':=by
 haveI:Nonempty World:=⟨w⟩
 have cln:=clen_any B tb ns w hT
 have hBz:B≤w.heap.size:=by
  obtain ⟨hb,_,_,hv,_⟩:=hT
  exact Nat.le_trans hb (Nat.le_of_lt (heap_lt hv))
 by_cases hP:lyP ns sts
 case neg=>
  have e1:lyR ns sts=0:=if_neg fun h=>hP h.1
  have e2:lyE ns sts=2:=if_neg hP
  have e3:lyM ns sts=ns:=if_neg hP
  rw [e1,e2,e3]
  have HT:Hid (TapC w B tb ns):=hT
  obtain ⟨N,eN⟩:∃ N:Nat,ns.length=N:=⟨_,rfl⟩
  rw [eN] at cln hns
  have hN:(512:Int) < (N:Int)+(m:Int):=by
   have:¬ ns.length+sts.length≤512:=hP
   omega
  have hN1:(N:Int)≤512:=by omega
  have hN2:(m:Int)≤20:=by omega
  clear e1 e2 e3 hP hst hc hok hT hG hTz eN hm
  go_enter Tryz.func63,Tryz.ntmps63
  go_wp2_with fail
  refine cln.mono ?_
  rintro e w1 ⟨rfl,rfl⟩
  clear cln
  go_wp2
  go_ret2
  exact ⟨rfl,HT.out,Below.refl _ _,Only.refl _ _,Spar2.of (Below.refl _ _)⟩
 have hstop:=lyF_stop sts ns
 have e1:lyR ns sts=if (lyF sts ns m).1=0 then (lyF sts ns m).2.2 else 0:=by
  subst hm
  by_cases h:(lyF sts ns sts.length).1=0
  ·rw [if_pos h]
   exact if_pos ⟨hP,h⟩
  ·rw [if_neg h]
   exact if_neg fun h'=>h h'.2
 have e2:lyE ns sts=(lyF sts ns m).1:=(if_pos hP).trans (by rw [hm])
 have e3:lyM ns sts=(lyF sts ns m).2.1:=(if_pos hP).trans (by rw [hm])
 rw [e1,e2,e3]
 obtain ⟨F,eF⟩:∃ F,lyF sts ns=F:=⟨_,rfl⟩
 have h0:F 0=(0,ns,0):=by rw [← eF];rfl
 have hs:∀ i,(F i).1=0→F (i+1)=(lsE (F i).2.1 (stA sts i),lsN (F i).2.1 (stA sts i),lsR (F i).2.1 (stA sts i)):=fun i h=>by
  rw [← eF] at h ⊢
  conv=>lhs;unfold lyF
  rw [if_pos h]
 rw [eF] at hstop ⊢
 obtain ⟨N,eN⟩:∃ N:Nat,ns.length=N:=⟨_,rfl⟩
 have hN:(N:Int)+(m:Int)≤512:=by
  have:ns.length+sts.length≤512:=hP
  omega
 rw [eN] at cln
 have HF:Hid (F 0=(0,ns,0)∧(∀ i,(F i).1=0→F (i+1)=(lsE (F i).2.1 (stA sts i),lsN (F i).2.1 (stA sts i),lsR (F i).2.1 (stA sts i)))∧(∀ i,(F i).1≠0→∀ k,F (i+k)=F i)):=⟨h0,hs,hstop⟩
 have HK:Hid (B≤w.heap.size∧w.heap[g]?=some (.cells cs.toArray 136 (0,0))∧(∀ i,i < m→StL B w cs i (stA sts i))∧(∀ i,i < m→StpOk (stA sts i))):=⟨hBz,hc,hst,by rw [← hm];exact hok⟩
 have HT:Hid (TapC w B tb ns∧NodesG ns):=⟨hT,hG⟩
 obtain ⟨LR,eLR⟩:∃ z,(if (F m).1=0 then (F m).2.2 else 0)=z:=⟨_,rfl⟩
 rw [eLR]
 have HRR:Hid ((if (F m).1=0 then (F m).2.2 else 0)=LR):=eLR
 have hN0:(m:Int)≤20:=by omega
 clear eLR h0 hs hstop eF hc hm hok hT hG hns hBz hst e1 e2 e3 hP eN
 go_enter Tryz.func63,Tryz.ntmps63
 go_wp2_with fail
 refine cln.mono ?_
 rintro e w1 ⟨rfl,rfl⟩
 clear cln
 go_wp2_with fail
 go_loopg [6,19] m (fun gg u i wr=>∃ (k:Nat),k≤m∧gg=m - k∧u = .int .i64 (F k).2.2∧i = .int .i64 (k:Int)∧Hid ((F k).1=0∧TapC wr B tb (F k).2.1∧NodesG (F k).2.1∧Below B w1 wr∧Only SC w1 wr∧Spar2 tb w1 wr))
 case atStart=>
  refine ⟨0,by omega,by omega,by rw [HF.out.1],rfl,?_⟩
  show _∧_
  rw [HF.out.1]
  exact ⟨rfl,HT.out.1,HT.out.2,Below.refl _ _,Only.refl _ _,Spar2.of (Below.refl _ _)⟩
 case round=>
  obtain ⟨k,hk,hg,rfl,rfl,HI⟩:=hrel
  by_cases hkm:k < m
  ·have hk':(k:Int) < (m:Int):=by omega
   have hok:=HK.out.2.2.2 k hkm
   have hstep:=HF.out.2.1 k HI.out.1
   have hlit:=HI.out.2.2.2.2.1.keep HK.out.2.1 (by decide)
   obtain ⟨s1,n1,c1,s2,n2,c2,z0,z1,z2,z3,z4,z5,k1,k2⟩:=HK.out.2.2.1 k hkm
   obtain ⟨st,est⟩:∃ st,stA sts k=st:=⟨_,rfl⟩
   rw [est] at z0 z1 z2 z3 k1 k2 hstep hok
   have y0:=lit_cell hlit z0
   have y1:=lit_cell hlit z1
   have y2:=lit_cell hlit z2
   have y3:=lit_cell hlit z3
   have y4:=lit_cell hlit z4
   have y5:=lit_cell hlit z5
   have hsz:B≤wr.heap.size:=Nat.le_trans HK.out.1 HI.out.2.2.2.2.1.1
   have cL:Hid (∀ W,Below wr.heap.size wr W→Calls Tryz.prog 84 #[.pointer (some ⟨tb,0,none⟩),.agg #[.int .i64 st.op,.int .i64 st.a,.int .i64 st.b,.int .i64 st.k,.slice s1 n1 c1,.slice s2 n2 c2]] W fun e w'=>e = .returned (.tuple #[.int .i64 (lsR (F k).2.1 st),.int .i64 (lsE (F k).2.1 st)])∧TapC w' B tb (lsN (F k).2.1 st)∧Below B W w'∧Only SC W w'∧Spar2 tb W w'):=fun W hW=>by
    have hb:Below B w1 W:=HI.out.2.2.2.1.trans (hW.mono hsz)
    have ho:Only SC w1 W:=HI.out.2.2.2.2.1.trans (Only.of hW)
    exact clayone_any B tb (F k).2.1 HI.out.2.2.1 st hok s1 n1 c1 s2 n2 c2 W (HI.out.2.1.up hW) (hTz.out W hb) (k1 W hb ho) (k2 W hb ho)
   have HG2:Hid (NodesG (lsN (F k).2.1 st)):=HI.out.2.2.1.ls hok.X
   have HZ:Hid (B≤wr.heap.size):=hsz
   obtain ⟨E,eE⟩:∃ E,lsE (F k).2.1 st=E:=⟨_,rfl⟩
   obtain ⟨R,eR⟩:∃ E,lsR (F k).2.1 st=E:=⟨_,rfl⟩
   obtain ⟨NS,eN⟩:∃ E,lsN (F k).2.1 st=E:=⟨_,rfl⟩
   rw [eE,eR,eN] at cL hstep
   rw [eN] at HG2
   have HST:Hid (F (k+1)=(E,NS,R)):=hstep
   obtain ⟨op,a,b,kk,D,X⟩:=st
   simp only [] at y0 y1 y2 y3 cL
   have hlt:=cell_size y0
   clear hok hstep k1 k2 est eE eR eN z0 z1 z2 z3 z4 z5 hlit hsz
   go_wp2_with fail
   generalize hW2:World.alloc _ _=W2
   have HB2:Hid (Below wr.heap.size wr W2):=by rw [← hW2];exact up_alloc wr _
   clear hW2 y0 y1 y2 y3 y4 y5 hlt
   refine (cL.out W2 HB2.out).mono ?_
   rintro e w3 ⟨rfl,hT3,hB3,hO3,hS3⟩
   have HI3:Hid (TapC w3 B tb NS∧Below B w1 w3∧Only SC w1 w3∧Spar2 tb w1 w3):=⟨hT3,HI.out.2.2.2.1.trans ((HB2.out.mono HZ.out).trans hB3),HI.out.2.2.2.2.1.trans ((Only.of HB2.out).trans hO3),Spar2.trans HI.out.2.2.2.2.2 (Spar2.trans (Spar2.of HB2.out) hS3 HB2.out.size) HI.out.2.2.2.2.1.1⟩
   clear hT3 hB3 hO3 hS3 cL
   by_cases hE:E=0
   case neg=>
    have hE':(E != 0)=true:=by simpa using hE
    have HE:Hid (F m=(E,NS,R)):=by
     have h4:=HF.out.2.2 (k+1) (by rw [HST.out];exact hE) (m - (k+1))
     rw [show k+1+(m - (k+1))=m by omega] at h4
     show _=_
     rw [h4,HST.out]
    have HRS:Hid (Ending.returned (.tuple #[.int .i64 0,.int .i64 E]) = .returned (.tuple #[.int .i64 LR,.int .i64 (F m).1])∧TapC w3 B tb (F m).2.1∧Below B w1 w3∧Only SC w1 w3∧Spar2 tb w1 w3):=by
     show _∧_
     have e1:(F m).1=E:=by rw [HE.out]
     have e2:=HRR.out
     rw [if_neg (by rw [e1];exact hE)] at e2
     rw [← e2,e1]
     refine ⟨rfl,?_,HI3.out.2⟩
     rw [HE.out]
     exact HI3.out.1
    clear HE HI3 HST HI
    go_wp2
    exact bodyPost_ret (v:=.tuple #[.int .i64 0,.int .i64 E]) (by simp [results,Tryz.results63,go_sem]) rfl HRS.out
   subst hE
   have HN:Hid ((F (k+1)).1=0∧TapC w3 B tb (F (k+1)).2.1∧NodesG (F (k+1)).2.1∧Below B w1 w3∧Only SC w1 w3∧Spar2 tb w1 w3):=by
    show _∧_
    rw [HST.out]
    exact ⟨rfl,HI3.out.1,HG2.out,HI3.out.2⟩
   have HL:Hid ((F (k+1)).2.2=R):=by show _=_;rw [HST.out]
   clear HI3 HI HST
   go_wp2
   go_roundg (m - (k+1))
   case measure=>omega
   case rel=>exact ⟨k+1,by omega,rfl,by rw [HL.out],by first|rfl|simp,HN⟩
  ·obtain rfl:k=m:=by omega
   have HRS:Hid (Ending.returned (.tuple #[.int .i64 (F k).2.2,.int .i64 0]) = .returned (.tuple #[.int .i64 LR,.int .i64 (F k).1])∧TapC wr B tb (F k).2.1∧Below B w1 wr∧Only SC w1 wr∧Spar2 tb w1 wr):=by
    show _∧_
    have e2:=HRR.out
    rw [if_pos HI.out.1] at e2
    rw [← e2,HI.out.1]
    exact ⟨rfl,HI.out.2.1,HI.out.2.2.2⟩
   go_wp2
   exact bodyPost_ret (v:=.tuple #[.int .i64 (F k).2.2,.int .i64 0]) (by simp [results,Tryz.results63,go_sem]) rfl HRS.out
end Go.Proofs.YtjlofobnmjompaaGreatDoor.Wd
