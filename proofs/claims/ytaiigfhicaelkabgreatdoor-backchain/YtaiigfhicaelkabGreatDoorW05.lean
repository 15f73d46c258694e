/- Sums of products, exact however great they grow, that lie in four cells of a block: what exact.Sum's Add and Fix do. · Sums of numbers, exact: what matm.total hands back. · Sums of products, rounded once: what matm.Dot hands back. · Cuts of rows of numbers: s[i:j], s[i:], s[:j]. · Long division of two words by one, digit by digit: the plain arithmetic of it. Nothing of the program is named here. -/
import Derived.Test.YtaiigfhicaelkabGreatDoorW04
import Derived.Test.YtaiigfhicaelkabGreatDoorW02
import Derived.RowKit
import Derived.Laws.Bits64b
import Derived.Laws.BitsLemmas
import Derived.Lib.BitFns
import Derived.WalkKit
import Derived.Lib.ItoaNum
set_option linter.unusedVariables false
set_option linter.unusedSimpArgs false
set_option maxHeartbeats 16000000
set_option maxRecDepth 16000
namespace Go.Proofs.YtaiigfhicaelkabGreatDoor.Wd
open Go.RowKit Fx
attribute [local go_sem] fld_hi fld_lo
theorem Hid.up_tz {w w1:World} (h:Hid (Tz w)) (hb:Below w.heap.size w w1):Hid (Tz w1):=h.out.up hb
theorem hold_above (T:Int):hold (rqI (hold (T / 18446744073709551616)*18446744073709551616+T % 18446744073709551616) 4294967296)=rnd T:=by
 unfold rnd
 by_cases h:InR (T / 18446744073709551616)
 ·rw [hold_in h.1 h.2]
  congr 2
  omega
 ·unfold InR at h
  unfold rqI hold
  split <;> split <;> (try split) <;> (try split) <;> (try split) <;> (try split) <;> (try split) <;> (try split) <;> omega
/-- A number of 128 bits that lies in two cells of a block, from o on, which may be written. -/
def LieA (W:World) (b o:Nat) (x:Int):Prop:=
 b < W.heap.size∧W.cell? ⟨b,o,none⟩=some (.int .i64 (x / 18446744073709551616))∧W.cell? ⟨b,o+1,none⟩=some (.int .u64 (x % 18446744073709551616))∧W.frozen? ⟨b,o,none⟩=false∧W.frozen? ⟨b,o+1,none⟩=false
theorem LieA.up {W W':World} {b o:Nat} {x:Int} (h:LieA W b o x) (hb:Below W.heap.size W W'):LieA W' b o x:=
 ⟨Nat.lt_of_lt_of_le h.1 hb.size,keep hb h.2.1,keep hb h.2.2.1,keepf hb h.2.1 h.2.2.2.1,keepf hb h.2.2.1 h.2.2.2.2⟩
theorem LieA.words {W:World} {b o:Nat} {x h l:Int} (H:LieA W b o x) (e:x=h*18446744073709551616+l) (l1:0≤l) (l2:l≤18446744073709551615):W.cell? ⟨b,o,none⟩=some (.int .i64 h)∧W.cell? ⟨b,o+1,none⟩=some (.int .u64 l):=by
 refine ⟨?_,?_⟩
 ·rw [H.2.1,show x / 18446744073709551616=h by omega]
 ·rw [H.2.2.1,show x % 18446744073709551616=l by omega]
theorem two_at (W:World) (b o:Nat) (x0 x1:Value) {y0 y1:Value} (h0:W.cell? ⟨b,o,none⟩=some y0) (h1:W.cell? ⟨b,o+1,none⟩=some y1):
  ((W.setCell ⟨b,o,none⟩ x0).setCell ⟨b,o+1,none⟩ x1).cell? ⟨b,o,none⟩=some x0∧((W.setCell ⟨b,o,none⟩ x0).setCell ⟨b,o+1,none⟩ x1).cell? ⟨b,o+1,none⟩=some x1:=by
 refine ⟨?_,?_⟩
 ·rw [wset_off (by omega)];exact wset_same h0
 ·exact wset_same (by rw [wset_off (by omega)];exact h1)
theorem LieA.set {W:World} {b o:Nat} {x y yh yl:Int} (h:LieA W b o x) (eh:yh=y / 18446744073709551616) (el:yl=y % 18446744073709551616):LieA ((W.setCell ⟨b,o,none⟩ (.int .i64 yh)).setCell ⟨b,o+1,none⟩ (.int .u64 yl)) b o y:=by
 obtain ⟨f0,f1⟩:=two_at W b o (.int .i64 yh) (.int .u64 yl) h.2.1 h.2.2.1
 refine ⟨by simpa using h.1,?_,?_,?_,?_⟩
 ·rw [f0,eh]
 ·rw [f1,el]
 ·rw [frozen_set,frozen_set];exact h.2.2.2.1
 ·rw [frozen_set,frozen_set];exact h.2.2.2.2
theorem LieA.off {W:World} {b o p:Nat} {x:Int} {y0 y1:Value} (h:LieA W b o x) (hne:o+1 < p∨p+1 < o):LieA ((W.setCell ⟨b,p,none⟩ y0).setCell ⟨b,p+1,none⟩ y1) b o x:=by
 refine ⟨by simpa using h.1,?_,?_,?_,?_⟩
 ·rw [wset_off (by omega),wset_off (by omega)];exact h.2.1
 ·rw [wset_off (by omega),wset_off (by omega)];exact h.2.2.1
 ·rw [frozen_set,frozen_set];exact h.2.2.2.1
 ·rw [frozen_set,frozen_set];exact h.2.2.2.2
/-- All stands but the four cells of the block b from o on. -/
structure Near (b o:Nat) (W W':World):Prop where
 below:Below b W W'
 stay:Stay b W W'
 cell:∀ i,(i < o∨o+4≤i)→W'.cell? ⟨b,i,none⟩=W.cell? ⟨b,i,none⟩
 frozen:∀ i,W'.frozen? ⟨b,i,none⟩=W.frozen? ⟨b,i,none⟩
theorem Near.of {b o:Nat} {W W':World} (h:Below W.heap.size W W') (hb:b < W.heap.size):Near b o W W':=
 ⟨h.mono (Nat.le_of_lt hb),Stay.of h,fun i _=>(bcell h).1 _ _ hb,fun i=>(bcell h).2 _ _ hb⟩
theorem Near.trans {b o:Nat} {A B C:World} (h:Near b o A B) (k:Near b o B C):Near b o A C:=
 ⟨h.below.trans k.below,h.stay.trans k.stay,fun i hi=>(k.cell i hi).trans (h.cell i hi),fun i=>(k.frozen i).trans (h.frozen i)⟩
theorem Near.set {b o:Nat} (W:World) (j:Nat) (x:Value) (h1:o≤j) (h2:j < o+4):Near b o W (W.setCell ⟨b,j,none⟩ x):=
 ⟨(Below.refl b W).setCell (p:=⟨b,j,none⟩) (Nat.le_refl _) x,(Stay.refl b W).set j x,fun i hi=>wset_off (by omega),fun i=>frozen_set _ _ _ _⟩
theorem LieA.near {W W':World} {b o p:Nat} {x:Int} (h:LieA W b p x) (hn:Near b o W W') (hp:p+1 < o∨o+4≤p):LieA W' b p x:=
 ⟨Nat.lt_of_lt_of_le h.1 hn.below.size,by rw [hn.cell _ (by omega)];exact h.2.1,by rw [hn.cell _ (by omega)];exact h.2.2.1,by rw [hn.frozen];exact h.2.2.2.1,by rw [hn.frozen];exact h.2.2.2.2⟩
/-- A sum of products, at most m of them, in four cells. -/
def SumAt (W:World) (b o m:Nat) (T:Int):Prop:=
 ∃ A B:Int,A*18446744073709551616+B=T∧-(4611686018427387904*(m:Int))≤A∧A≤4611686018427387904*(m:Int)∧0≤B∧B≤18446744073709551616*(m:Int)∧LieA W b o A∧LieA W b (o+2) B
theorem SumAt.up {W W':World} {b o m:Nat} {T:Int} (h:SumAt W b o m T) (hb:Below W.heap.size W W'):SumAt W' b o m T:=by
 obtain ⟨A,B,e,h1,h2,h3,h4,h5,h6⟩:=h
 exact ⟨A,B,e,h1,h2,h3,h4,h5.up hb,h6.up hb⟩
theorem SumAt.near {W W':World} {b o p m:Nat} {T:Int} (h:SumAt W b p m T) (hn:Near b o W W') (hp:p+4≤o∨o+4≤p):SumAt W' b p m T:=by
 obtain ⟨A,B,e,h1,h2,h3,h4,h5,h6⟩:=h
 exact ⟨A,B,e,h1,h2,h3,h4,h5.near hn (by omega),h6.near hn (by omega)⟩
theorem SumAt.more {W:World} {b o m k:Nat} {T:Int} (h:SumAt W b o m T) (hk:m≤k):SumAt W b o k T:=by
 obtain ⟨A,B,e,h1,h2,h3,h4,h5,h6⟩:=h
 exact ⟨A,B,e,by omega,by omega,h3,by omega,h5,h6⟩
theorem SumAt.lt {W:World} {b o m:Nat} {T:Int} (h:SumAt W b o m T):b < W.heap.size:=by
 obtain ⟨A,B,e,h1,h2,h3,h4,h5,h6⟩:=h
 exact h5.1
theorem sadd_any (b o m:Nat) (T X Y:Int) (hm:m≤1073741824) (hX:InR X) (hY:InR Y) (w:World) (hS:Hid (SumAt w b o m T)):
  Calls Tryz.prog 103 #[.pointer (some ⟨b,o,none⟩),.int .i64 X,.int .i64 Y] w fun e w'=>e = .returned (.tuple #[])∧SumAt w' b o (m+1) (T+X*Y)∧Near b o w w':=by
 obtain ⟨A,B,eT,rA1,rA2,rB1,rB2,LA,LB⟩:=hS.out
 have hP:=prod_rng hX hY
 have cPr0:=fun W=>prod_any X Y hX hY W
 obtain ⟨Pr,eP⟩:∃ P,X*Y=P:=⟨_,rfl⟩
 rw [eP] at hP cPr0 ⊢
 obtain ⟨ph,pl,ep,p1,p2_,p3,p4,Hp⟩:=words (v:=Pr) (by unfold InW;omega)
 have hm':(m:Int)≤1073741824:=by omega
 have wph:InR ph:=⟨by omega,by omega⟩
 have hph:-4611686018427387904≤ph∧ph≤4611686018427387904:=by have:=Hp.out;omega
 obtain ⟨oh,ol,eo,o1,o2_,o3,o4,Ho⟩:=words (InR.w wph)
 obtain ⟨ah,al,ea,a1,a2,a3,a4,Ha⟩:=words (v:=A) (by unfold InW;omega)
 obtain ⟨ah',al',ea',a1',a2',a3',a4',Ha'⟩:=words (v:=A+ph) (by unfold InW;omega)
 obtain ⟨bh,bl,eb,b1,b2,b3,b4,Hb⟩:=words (v:=B) (by unfold InW;omega)
 obtain ⟨bh',bl',eb',b1',b2',b3',b4',Hb'⟩:=words (v:=B+pl) (by unfold InW;omega)
 have el:wd pl = .agg #[.int .i64 0,.int .u64 pl]:=(wd_eq (by omega) (by omega)).symm
 have cPr:∀ W:World,Calls Tryz.prog 150 #[.int .i64 X,.int .i64 Y] W fun e w'=>e = .returned (.agg #[.int .i64 ph,.int .u64 pl])∧Below W.heap.size W w':=by
  intro W;have:=cPr0 W;rw [ep] at this;exact this
 have cOf:∀ W:World,Calls Tryz.prog 132 #[.int .i64 ph] W fun e w'=>e = .returned (.agg #[.int .i64 oh,.int .u64 ol])∧Below W.heap.size W w':=by
  intro W;have:=of_any ph wph W;rw [eo] at this;exact this
 have cA:∀ W:World,Calls Tryz.prog 134 #[.agg #[.int .i64 ah,.int .u64 al],.agg #[.int .i64 oh,.int .u64 ol]] W fun e w'=>e = .returned (.agg #[.int .i64 ah',.int .u64 al'])∧Below W.heap.size W w':=by
  intro W;have:=add_in A ph (by unfold InW;omega) (InR.w wph) (by unfold InW;omega) W;rw [ea,eo,ea'] at this;exact this
 have cB:∀ W:World,Calls Tryz.prog 134 #[.agg #[.int .i64 bh,.int .u64 bl],.agg #[.int .i64 0,.int .u64 pl]] W fun e w'=>e = .returned (.agg #[.int .i64 bh',.int .u64 bl'])∧Below W.heap.size W w':=by
  intro W;have:=add_in B pl (by unfold InW;omega) (by unfold InW;omega) (by unfold InW;omega) W;rw [eb,el,eb'] at this;exact this
 have HL:Hid (LieA w b o A∧LieA w b (o+2) B):=⟨LA,LB⟩
 have HF:Hid (∀ w',LieA w' b o (A+ph)→LieA w' b (o+2) (B+pl)→SumAt w' b o (m+1) (T+Pr)):=fun w' h1 h2=>⟨A+ph,B+pl,by have:=Hp.out;omega,by push_cast;omega,by push_cast;omega,by omega,by push_cast;omega,h1,h2⟩
 clear eP hP cPr0 ep eo ea ea' eb eb' el wph rA1 rA2 rB1 rB2 LA LB eT hS hm hm' hX hY hph
 haveI:Nonempty World:=⟨w⟩
 go_enter Tryz.func103,Tryz.ntmps103
 go_wp2_with fail
 refine (cPr _).mono ?_
 rintro e w1 ⟨rfl,hB1⟩
 clear cPr
 go_wp2_with fail
 generalize hW1:World.alloc _ _=W1
 have hC1:Below w1.heap.size w1 W1:=by rw [← hW1];exact up_alloc w1 _
 have e0:W1.cell? ⟨w1.heap.size,0,none⟩=some (.int .i64 ph):=by rw [← hW1];simp [go_sem]
 have e1:W1.cell? ⟨w1.heap.size,1,none⟩=some (.int .u64 pl):=by rw [← hW1];simp [go_sem]
 have hB:Below w.heap.size w W1:=hB1.trans (hC1.mono hB1.size)
 have HN:Hid (LieA W1 b o A∧LieA W1 b (o+2) B∧Near b o w W1):=⟨HL.out.1.up hB,HL.out.2.up hB,Near.of hB HL.out.1.1⟩
 obtain ⟨G,eG⟩:∃ G,w1.heap.size=G:=⟨_,rfl⟩
 have hbG:b < G:=by rw [← eG];exact Nat.lt_of_lt_of_le HL.out.1.1 hB1.size
 rw [eG] at e0 e1 ⊢
 have HG:Hid (b < G∧W1.cell? ⟨G,0,none⟩=some (.int .i64 ph)∧W1.cell? ⟨G,1,none⟩=some (.int .u64 pl)):=⟨hbG,e0,e1⟩
 clear hW1 hC1 hB hB1 eG HL
 obtain ⟨c0,c1⟩:=HN.out.1.words Ha.out a3 a4
 have u0:=wcell_lt c0
 have u1:=wcell_lt e0
 refine flow 11 32 (by kernel_rfl) rfl rfl (by kernel_rfl) ?_
 apply Exists.intro
 refine ⟨?_,?_⟩
 ·intro F hF
  have hFc:=hF.cell
  have hFf:=hF.frozen
  simp only [List.take_succ_cons,List.take_zero,List.eraseIdx_cons_succ,List.eraseIdx_cons_zero]
  repeat (go_big_quiet_step (first|(go_at_call 132;with_reducible exact hF.call (cOf _))|(go_at_call 134;with_reducible exact hF.call (cA _))))
  refine wpQuiet_nil ?_
  exact rfl
 intro W2 hW2
 simp only [List.drop_succ_cons,List.drop_zero]
 have M:=HN.out.1.up hW2
 have N1:=M.set (y:=A+ph) (yh:=ah') (yl:=al') (by have:=Ha'.out;omega) (by have:=Ha'.out;omega)
 have N2:=(HN.out.2.1.up hW2).off (p:=o) (y0:=.int .i64 ah') (y1:=.int .u64 al') (by omega)
 have N3:=((HN.out.2.2.trans (Near.of hW2 HN.out.1.1)).trans (Near.set W2 o (.int .i64 ah') (by omega) (by omega))).trans (Near.set _ (o+1) (.int .u64 al') (by omega) (by omega))
 have N4:((W2.setCell ⟨b,o,none⟩ (.int .i64 ah')).setCell ⟨b,o+1,none⟩ (.int .u64 al')).cell? ⟨G,0,none⟩=some (.int .i64 ph)∧((W2.setCell ⟨b,o,none⟩ (.int .i64 ah')).setCell ⟨b,o+1,none⟩ (.int .u64 al')).cell? ⟨G,1,none⟩=some (.int .u64 pl):=by
  have:=HG.out.1
  refine ⟨?_,?_⟩
  ·rw [cell_off (by omega),cell_off (by omega)];exact keep hW2 HG.out.2.1
  ·rw [cell_off (by omega),cell_off (by omega)];exact keep hW2 HG.out.2.2
 obtain ⟨g0,g1,g2,g3,g4⟩:=M
 clear hW2 c0 c1 u0 u1 cOf cA hbG e0 e1 HN
 go_wp2_with fail
 refine name_world (fun W3 hW3=>?_)
 rw [← hW3] at N1 N2 N3 N4
 clear hW3 g0 g1 g2 g3 g4
 have HN:Hid (LieA W3 b o (A+ph)∧LieA W3 b (o+2) B∧Near b o w W3):=⟨N1,N2,N3⟩
 obtain ⟨c0,c1⟩:=N2.words Hb.out b3 b4
 obtain ⟨d0,d1⟩:=N4
 have u0:=wcell_lt c0
 have u1:=wcell_lt d0
 clear N1 N2 N3
 refine flow 11 32 (by kernel_rfl) rfl rfl (by kernel_rfl) ?_
 apply Exists.intro
 refine ⟨?_,?_⟩
 ·intro F hF
  have hFc:=hF.cell
  have hFf:=hF.frozen
  simp only [List.take_succ_cons,List.take_zero,List.eraseIdx_cons_succ,List.eraseIdx_cons_zero]
  repeat (go_big_quiet_step (first|(go_at_call 134;with_reducible exact hF.call (cB _))))
  refine wpQuiet_nil ?_
  exact rfl
 intro W4 hW4
 simp only [List.drop_succ_cons,List.drop_zero]
 have M:=HN.out.2.1.up hW4
 have N1:=M.set (y:=B+pl) (yh:=bh') (yl:=bl') (by have:=Hb'.out;omega) (by have:=Hb'.out;omega)
 have N2:=(HN.out.1.up hW4).off (p:=o+2) (y0:=.int .i64 bh') (y1:=.int .u64 bl') (by omega)
 have N3:=((HN.out.2.2.trans (Near.of hW4 HN.out.1.1)).trans (Near.set W4 (o+2) (.int .i64 bh') (by omega) (by omega))).trans (Near.set _ (o+2+1) (.int .u64 bl') (by omega) (by omega))
 have HE:Hid (SumAt ((W4.setCell ⟨b,o+2,none⟩ (.int .i64 bh')).setCell ⟨b,o+2+1,none⟩ (.int .u64 bl')) b o (m+1) (T+Pr)∧Near b o w ((W4.setCell ⟨b,o+2,none⟩ (.int .i64 bh')).setCell ⟨b,o+2+1,none⟩ (.int .u64 bl'))):=⟨HF.out _ N2 N1,N3⟩
 obtain ⟨g0,g1,g2,g3,g4⟩:=M
 clear hW4 c0 c1 d0 d1 u0 u1 cB HN N1 N2 N3 HF HG
 go_wp2
 go_end0
 exact ⟨rfl,HE.out⟩
theorem sfix_any (b o m:Nat) (T:Int) (hm:m≤1073741824) (w:World) (hT:Hid (Tz w)) (hS:Hid (SumAt w b o m T)):
  Calls Tryz.prog 128 #[.pointer (some ⟨b,o,none⟩)] w fun e w'=>e = .returned (.int .i64 (rnd T))∧Below w.heap.size w w':=by
 obtain ⟨A,B,eT,rA1,rA2,rB1,rB2,LA,LB⟩:=hS.out
 have hm':(m:Int)≤1073741824:=by omega
 have HD:Hid (hold (rqI (hold (T / 18446744073709551616)*18446744073709551616+T % 18446744073709551616) 4294967296)=rnd T):=hold_above T
 obtain ⟨D,eD⟩:∃ D,rnd T=D:=⟨_,rfl⟩
 rw [eD] at HD ⊢
 obtain ⟨ah,al,ea,a1,a2,a3,a4,Ha⟩:=words (v:=A) (by unfold InW;omega)
 obtain ⟨bh,bl,eb,b1,b2,b3,b4,Hb⟩:=words (v:=B) (by unfold InW;omega)
 have wbh:InR bh:=⟨b1,b2⟩
 obtain ⟨oh,ol,eo,o1,o2_,o3,o4,Ho⟩:=words (InR.w wbh)
 have hbh:B=bh*18446744073709551616+bl:=Hb.out
 obtain ⟨ah',al',ea',a1',a2',a3',a4',Ha'⟩:=words (v:=A+bh) (by unfold InW;omega)
 have eH:A+bh=T / 18446744073709551616:=by omega
 have eL:bl=T % 18446744073709551616:=by omega
 obtain ⟨H,eH2⟩:∃ H,hold (A+bh)=H:=⟨_,rfl⟩
 have rH:InR H:=by rw [← eH2];exact hold_rng _
 rw [← eH,← eL,eH2] at HD
 have wS:InW (H*18446744073709551616+bl):=by unfold InR at rH;unfold InW;omega
 obtain ⟨Q,eQ⟩:∃ Q,rqI (H*18446744073709551616+bl) 4294967296=Q:=⟨_,rfl⟩
 have wQ:InW Q:=by rw [← eQ];unfold rqI;unfold InW at wS ⊢;split <;> omega
 obtain ⟨qh,ql,eq,q1,q2,q3,q4,Hq⟩:=words wQ
 have cOf:∀ W:World,Calls Tryz.prog 132 #[.int .i64 bh] W fun e w'=>e = .returned (.agg #[.int .i64 oh,.int .u64 ol])∧Below W.heap.size W w':=by
  intro W;have:=of_any bh wbh W;rw [eo] at this;exact this
 have cA:∀ W:World,Calls Tryz.prog 134 #[.agg #[.int .i64 ah,.int .u64 al],.agg #[.int .i64 oh,.int .u64 ol]] W fun e w'=>e = .returned (.agg #[.int .i64 ah',.int .u64 al'])∧Below W.heap.size W w':=by
  intro W;have:=add_in A bh (by unfold InW;omega) (InR.w wbh) (by unfold InW;omega) W;rw [ea,eo,ea'] at this;exact this
 have cF:∀ W:World,Calls Tryz.prog 93 #[.agg #[.int .i64 ah',.int .u64 al']] W fun e w'=>e = .returned (.int .i64 H)∧Below W.heap.size W w':=by
  intro W;have:=fix_any (A+bh) (by unfold InW;omega) W;rw [ea',eH2] at this;exact this
 have cS:Hid (∀ W:World,Below w.heap.size w W→Calls Tryz.prog 170 #[.agg #[.int .i64 H,.int .u64 bl],.int .i64 32] W fun e w'=>e = .returned (.agg #[.int .i64 qh,.int .u64 ql])∧Below W.heap.size W w'):=fun W hW=>by
  have:=shift_any (H*18446744073709551616+bl) 32 wS (by unfold InR;omega) W (hT.out.up hW)
  rw [← wd_mk H bl ⟨b3,by omega⟩,if_neg (by omega),show (2:Int) ^ (32:Int).toNat=4294967296 from rfl,eQ,eq] at this
  exact this
 have cG:∀ W:World,Calls Tryz.prog 93 #[.agg #[.int .i64 qh,.int .u64 ql]] W fun e w'=>e = .returned (.int .i64 D)∧Below W.heap.size W w':=by
  intro W;have:=fix_any Q wQ W;rw [eq,← eQ,HD.out] at this;exact this
 have HL:Hid (LieA w b (o+2) B):=LB
 obtain ⟨c0,c1⟩:=LA.words Ha.out a3 a4
 obtain ⟨d0,d1⟩:=LB.words Hb.out b3 b4
 have u0:=LA.1
 clear HD rA1 rA2 rB1 rB2 eT eH eL eH2 rH wS eQ wQ ea eb eo ea' eq wbh hbh LA LB hS hm hm' eD
 haveI:Nonempty World:=⟨w⟩
 go_enter Tryz.func128,Tryz.ntmps128
 go_wp2_with fail
 refine flow_new (.cells #[.int .i64 0,.int .u64 0] 129) 11 12 27 3 (by kernel_rfl) rfl rfl (by kernel_rfl) rfl rfl rfl ?_
 apply Exists.intro
 refine ⟨?_,?_,?_⟩
 ·intro F hF
  have hFc:=hF.cell
  have hFf:=hF.frozen
  simp only [List.take_succ_cons,List.take_zero,List.eraseIdx_cons_succ,List.eraseIdx_cons_zero]
  repeat (go_big_quiet_step (first|(go_at_call 132;with_reducible exact hF.call (cOf _))|(go_at_call 134;with_reducible exact hF.call (cA _))))
  refine wpQuiet_nil ?_
  exact rfl
 ·intro W
  kernel_rfl
 intro W6 g8 hW hM
 have Y0:=hM.cell (i:=0) rfl
 have Y1:=hM.cell (i:=1) rfl
 have Z0:=hM.frozen 0
 have Z1:=hM.frozen 1
 have lt6:g8 < W6.heap.size:=hM.1
 have ge6:w.heap.size≤g8:=hM.2.1
 have N8:=two W6 g8 (.int .i64 ah') (.int .u64 al') Y0 Y1
 have M:=HL.out.up hW
 have N2:((W6.setCell ⟨g8,0,none⟩ (.int .i64 ah')).setCell ⟨g8,1,none⟩ (.int .u64 al')).cell? ⟨b,o+2,none⟩=some (.int .i64 bh)∧((W6.setCell ⟨g8,0,none⟩ (.int .i64 ah')).setCell ⟨g8,1,none⟩ (.int .u64 al')).cell? ⟨b,o+2+1,none⟩=some (.int .u64 bl):=by
  have:=M.words Hb.out b3 b4
  refine ⟨?_,?_⟩
  ·rw [cell_off (by omega),cell_off (by omega)];exact this.1
  ·rw [cell_off (by omega),cell_off (by omega)];exact this.2
 have B6:=below_set2 hW g8 ge6 (.int .i64 ah') (.int .u64 al')
 simp only [List.drop_succ_cons,List.drop_zero]
 unfold ptrTo
 clear hM hW cOf cA c0 c1 d0 d1 u0 M
 go_wp2_with fail
 refine name_world (fun W9 hW9=>?_)
 rw [← hW9] at N8 N2 B6
 clear hW9 Y0 Y1 Z0 Z1 lt6
 obtain ⟨c0,c1⟩:=N8
 obtain ⟨d0,d1⟩:=N2
 have u0:=wcell_lt c0
 have u1:=wcell_lt d0
 have HB9:Hid (Below w.heap.size w W9):=B6
 clear B6 ge6
 refine flow_new (.cells #[.int .i64 0,.int .u64 0] 129) 8 9 27 4 (by kernel_rfl) rfl rfl (by kernel_rfl) rfl rfl rfl ?_
 apply Exists.intro
 refine ⟨?_,?_,?_⟩
 ·intro F hF
  have hFc:=hF.cell
  have hFf:=hF.frozen
  simp only [List.take_succ_cons,List.take_zero,List.eraseIdx_cons_succ,List.eraseIdx_cons_zero]
  repeat (go_big_quiet_step (first|(go_at_call 93;with_reducible exact hF.call (cF _))))
  refine wpQuiet_nil ?_
  exact rfl
 ·intro W
  kernel_rfl
 intro W7 g9 hW hM
 have Y0:=hM.cell (i:=0) rfl
 have Y1:=hM.cell (i:=1) rfl
 have Z0:=hM.frozen 0
 have Z1:=hM.frozen 1
 have lt6:g9 < W7.heap.size:=hM.1
 have ge6:w.heap.size≤g9:=Nat.le_trans HB9.out.size hM.2.1
 have N8:=two W7 g9 (.int .i64 H) (.int .u64 bl) Y0 Y1
 have B6:Hid (Below w.heap.size w ((W7.setCell ⟨g9,0,none⟩ (.int .i64 H)).setCell ⟨g9,1,none⟩ (.int .u64 bl))):=below_set2 (HB9.out.trans (hW.mono HB9.out.size)) g9 ge6 _ _
 have B6':=B6.out
 simp only [List.drop_succ_cons,List.drop_zero]
 unfold ptrTo
 clear hM hW cF c0 c1 d0 d1 u0 u1
 go_wp2_with fail
 clear Y0 Y1 Z0 Z1 lt6 B6' N8
 refine (cS.out _ B6.out).mono ?_
 rintro e W11 ⟨rfl,hW11⟩
 have B11:Hid (Below w.heap.size w W11):=B6.out.trans (hW11.mono B6.out.size)
 clear hW11 cS
 go_wp2_with fail
 refine (cG W11).mono ?_
 rintro e W12 ⟨rfl,hW12⟩
 have B12:Hid (Below w.heap.size w W12):=B11.out.trans (hW12.mono B11.out.size)
 clear hW12 cG
 go_wp2
 go_ret
 exact ⟨rfl,B12.out⟩
end Go.Proofs.YtaiigfhicaelkabGreatDoor.Wd
namespace Go.Proofs.YtaiigfhicaelkabGreatDoor.Wd
open Go.RowKit Fx
attribute [local go_sem] fld_hi fld_lo
/-- The words that lie there. -/
theorem Lies.words {W:World} {b:Nat} {x h l:Int} (H:Lies W b x) (e:x=h*18446744073709551616+l) (l1:0≤l) (l2:l≤18446744073709551615):W.cell? ⟨b,0,none⟩=some (.int .i64 h)∧W.cell? ⟨b,1,none⟩=some (.int .u64 l):=by
 refine ⟨?_,?_⟩
 ·rw [H.2.1,show x / 18446744073709551616=h by omega]
 ·rw [H.2.2.1,show x % 18446744073709551616=l by omega]
theorem total_any (p:Option Addr) (n c:Nat) (x:List Int) (hx:RI x) (hn:n≤4096) (w:World) (hv:Nums .i64 w (.slice p n c) x):
  Calls Tryz.prog 94 #[.slice p n c] w fun e w'=>e = .returned (wd (totalI x))∧Below w.heap.size w w':=by
 obtain ⟨_,_,_,e4,HX⟩:=hv.lst
 cases e4
 have HS:Hid (totalI x=sumI (fun q=>x.getD q 0) n):=by show _=_;rw [totalI,HX.out.1]
 have HR:Hid (∀ k,k≤n→InW (sumI (fun q=>x.getD q 0) k)):=fun k hk=>by
  have h1:=sumI_rng (f:=fun q=>x.getD q 0) (B:=9223372036854775808) (by omega) k fun q _=>by have:=getD_inR hx q;unfold InR at this;omega
  unfold InW
  omega
 have HI:Hid (RI x):=hx
 have hn1:(n:Int)≤4096:=by omega
 obtain ⟨T,eT⟩:∃ T,totalI x=T:=⟨_,rfl⟩
 rw [eT] at HS ⊢
 clear hv hx eT
 haveI:Nonempty World:=⟨w⟩
 go_enter Tryz.func94,Tryz.ntmps94
 go_wp2_with fail
 go_loopg [8] n (fun g i wr=>∃ (k:Nat),k≤n∧g=n - k∧i = .int .i64 (k:Int)∧Hid (Lies wr w.heap.size 0)∧Hid (Lies wr (w.heap.size+1) (sumI (fun q=>x.getD q 0) k))∧Hid (Below w.heap.size w wr))
 case atStart=>
  refine ⟨0,by omega,by omega,rfl,?_,?_,show Below _ _ _ by go_grown⟩
  ·show Lies _ _ _
   unfold Lies
   simp [go_sem]
  ·show Lies _ _ _
   simp only [sumI]
   unfold Lies
   simp [go_sem]
 case round=>
  obtain ⟨k,hk,hg,rfl,L0,L1,HB⟩:=hrel
  obtain ⟨R1,hR1⟩:∃ R1:World,R1=wr:=⟨_,rfl⟩
  subst hR1
  by_cases hkn:k < n
  ·have hk':(k:Int) < (n:Int):=by omega
   obtain ⟨q,o,rfl,hc0⟩:=HX.out.2 k hkn
   have hc1:=cell_low hc0 HB.out
   have lt0:=wcell_lt hc1
   have hX:=getD_inR HI.out k
   have wS:=HR.out k hk
   have wT:=HR.out (k+1) (by omega)
   obtain ⟨S,eS⟩:∃ S,sumI (fun q=>x.getD q 0) k=S:=⟨_,rfl⟩
   have eT1:sumI (fun q=>x.getD q 0) (k+1)=S+x.getD k 0:=by rw [sumI,eS]
   rw [eT1] at wT
   obtain ⟨X,eX⟩:∃ X,x.getD k 0=X:=⟨_,rfl⟩
   rw [eX] at hc1 hX wT eT1
   rw [eS] at wS L1
   have HT1:Hid (sumI (fun q=>x.getD q 0) (k+1)=S+X):=eT1
   obtain ⟨sh,sl,es,s1,s2,s3,s4,Hs⟩:=words wS
   obtain ⟨xh,xl,exw,x1,x2,x3,x4,Hx⟩:=words (InR.w hX)
   obtain ⟨th,tl,et,t1,t2,t3,t4,Ht⟩:=words wT
   have cOf:∀ W:World,Calls Tryz.prog 132 #[.int .i64 X] W fun e w'=>e = .returned (.agg #[.int .i64 xh,.int .u64 xl])∧Below W.heap.size W w':=by
    intro W;have:=of_any X hX W;rw [exw] at this;exact this
   have cAd:∀ W:World,Calls Tryz.prog 134 #[.agg #[.int .i64 sh,.int .u64 sl],.agg #[.int .i64 xh,.int .u64 xl]] W fun e w'=>e = .returned (.agg #[.int .i64 th,.int .u64 tl])∧Below W.heap.size W w':=by
    intro W;have:=add_in S X wS (InR.w hX) wT W;rw [exw,es,et] at this;exact this
   obtain ⟨q0,q1⟩:=L1.out.words Hs.out s3 s4
   have lt1:=L1.out.1
   clear eS eX eT1 hc0 es exw et hX wS wT
   go_wp2_with fail
   refine flow 4 18 (by kernel_rfl) rfl rfl (by kernel_rfl) ?_
   apply Exists.intro
   refine ⟨?_,?_⟩
   ·intro F hF
    have hFc:=hF.cell
    have hFf:=hF.frozen
    simp only [List.take_succ_cons,List.take_zero,List.eraseIdx_cons_succ,List.eraseIdx_cons_zero]
    repeat (go_big_quiet_step (first|(go_at_call 132;with_reducible exact hF.call (cOf _))|(go_at_call 134;with_reducible exact hF.call (cAd _))))
    refine wpQuiet_nil ?_
    exact rfl
   ·intro W2 hW2
    simp only [List.drop_succ_cons,List.drop_zero]
    have M:=L1.out.up hW2
    have N0:Hid (Lies ((W2.setCell ⟨w.heap.size+1,0,none⟩ (.int .i64 th)).setCell ⟨w.heap.size+1,1,none⟩ (.int .u64 tl)) w.heap.size 0):=(L0.out.up hW2).off (by omega)
    have N1:Hid (Lies ((W2.setCell ⟨w.heap.size+1,0,none⟩ (.int .i64 th)).setCell ⟨w.heap.size+1,1,none⟩ (.int .u64 tl)) (w.heap.size+1) (S+X)):=M.set (by have:=Ht.out;omega) (by have:=Ht.out;omega)
    have B2:Hid (Below w.heap.size w ((W2.setCell ⟨w.heap.size+1,0,none⟩ (.int .i64 th)).setCell ⟨w.heap.size+1,1,none⟩ (.int .u64 tl))):=below_set2 (HB.out.trans (hW2.mono HB.out.size)) _ (by omega) _ _
    obtain ⟨g0,g1,g2,g3,g4⟩:=M
    clear hW2 cOf cAd q0 q1 lt1 L0 L1 HB
    go_wp2
    go_roundg (n - (k+1))
    case measure=>omega
    case rel=>exact ⟨k+1,by omega,rfl,by first|rfl|simp,N0,by rw [HT1.out];exact N1,B2⟩
  ·obtain rfl:k=n:=by omega
   have wS:=HR.out k hk
   rw [← HS.out] at L1 wS
   obtain ⟨sh,sl,es,s1,s2,s3,s4,Hs⟩:=words wS
   obtain ⟨q0,q1⟩:=L1.out.words Hs.out s3 s4
   obtain ⟨g0,g1,g2,g3,g4⟩:=L0.out
   have lt1:=L1.out.1
   have cf:=L0.out.set (y:=T) (yh:=sh) (yl:=sl) (by have:=Hs.out;omega) (by have:=Hs.out;omega)
   have BF:=below_set2 HB.out w.heap.size (Nat.le_refl _) (.int .i64 sh) (.int .u64 sl)
   obtain ⟨y0,y1⟩:=cf.words Hs.out s3 s4
   clear cf wS
   go_wp2
   exact bodyPost_ret (v:=.agg #[.int .i64 sh,.int .u64 sl]) (by simp [results,Tryz.results94,go_sem,y0,y1]) rfl ⟨by rw [es],BF⟩
end Go.Proofs.YtaiigfhicaelkabGreatDoor.Wd
namespace Go.Proofs.YtaiigfhicaelkabGreatDoor.Wd
open Go.RowKit Fx
/-- A sum that was just made. -/
theorem sum_new (W:World) (t:TypeId):SumAt (W.alloc (.cells #[.int .i64 0,.int .u64 0,.int .i64 0,.int .u64 0] t)) W.heap.size 0 0 0:=by
 refine ⟨0,0,by omega,by omega,by omega,by omega,by omega,?_,?_⟩ <;> (unfold LieA;simp [go_sem])
theorem dot_any (p p2:Option Addr) (n c n2 c2:Nat) (x y:List Int) (hx:RI x) (hy:RI y) (m:Nat) (hm:min n n2=m) (hn:m≤4096) (w:World) (hT:Hid (Tz w)) (hv:Nums .i64 w (.slice p n c) x) (hv2:Nums .i64 w (.slice p2 n2 c2) y):
  Calls Tryz.prog 89 #[.slice p n c,.slice p2 n2 c2] w fun e w'=>e = .returned (.int .i64 (dotI x y))∧Below w.heap.size w w':=by
 obtain ⟨_,_,_,e4,HX⟩:=hv.lst
 cases e4
 obtain ⟨_,_,_,e4,HY⟩:=hv2.lst
 cases e4
 have HD:Hid (dotI x y=rnd (dotS x y m)):=by show _=_;rw [dotI,HX.out.1,HY.out.1,hm]
 have HI:Hid (RI x∧RI y):=⟨hx,hy⟩
 have HM:Hid (m≤n∧m≤n2∧m≤4096):=⟨by omega,by omega,hn⟩
 have hn1:(m:Int)≤4096:=by omega
 have kmin:∀ (ts:Array TypeId) (t:TypeId) (w:World),(Builtin.min_ ts t #[.int .i64 (n:Int),.int .i64 (n2:Int)]).run Tryz.prog w = .ok (.int .i64 (m:Int)) w:=fun ts t w=>by
  rw [run_min_int2]
  congr 2
  split <;> omega
 obtain ⟨D,eD⟩:∃ D,dotI x y=D:=⟨_,rfl⟩
 rw [eD] at HD ⊢
 clear hv hv2 hx hy eD hm
 haveI:Nonempty World:=⟨w⟩
 go_enter Tryz.func89,Tryz.ntmps89
 go_wp2_with fail
 clear kmin
 go_loopg [12] m (fun g i wr=>∃ (k:Nat),k≤m∧g=m - k∧i = .int .i64 (k:Int)∧Hid (SumAt wr w.heap.size 0 k (dotS x y k))∧Hid (Below w.heap.size w wr))
 case atStart=>exact ⟨0,by omega,by omega,rfl,sum_new w _,show Below _ _ _ by go_grown⟩
 case round=>
  obtain ⟨k,hk,hg,rfl,L0,HB⟩:=hrel
  obtain ⟨R1,hR1⟩:∃ R1:World,R1=wr:=⟨_,rfl⟩
  subst hR1
  by_cases hkn:k < m
  ·have hk':(k:Int) < (m:Int):=by omega
   have hkA:(k:Int) < (n:Int):=by have:=HM.out;omega
   have hkB:(k:Int) < (n2:Int):=by have:=HM.out;omega
   obtain ⟨q,o,rfl,hc0⟩:=HX.out.2 k (by omega)
   obtain ⟨q2,o2,rfl,hc2⟩:=HY.out.2 k (by omega)
   have hc1:=cell_low hc0 HB.out
   have hc3:=cell_low hc2 HB.out
   have lt0:=wcell_lt hc1
   have lt2:=wcell_lt hc3
   have hX:=getD_inR HI.out.1 k
   have hY:=getD_inR HI.out.2 k
   have eS:Hid (dotS x y (k+1)=dotS x y k+x.getD k 0*y.getD k 0):=rfl
   obtain ⟨X,eX⟩:∃ X,x.getD k 0=X:=⟨_,rfl⟩
   obtain ⟨Y,eY⟩:∃ Y,y.getD k 0=Y:=⟨_,rfl⟩
   rw [eX] at hc1 hX
   rw [eY] at hc3 hY
   rw [eX,eY] at eS
   have cA:Hid (∀ W,Below R1.heap.size R1 W→Calls Tryz.prog 103 #[.pointer (some ⟨w.heap.size,0,none⟩),.int .i64 X,.int .i64 Y] W fun e w'=>e = .returned (.tuple #[])∧SumAt w' w.heap.size 0 (k+1) (dotS x y k+X*Y)∧Near w.heap.size 0 W w'):=fun W hW=>sadd_any w.heap.size 0 k _ X Y (by have:=HM.out;omega) hX hY W (L0.out.up hW)
   clear eX eY hX hY hc0 hc2
   go_wp2_with fail
   refine flow 8 26 (by kernel_rfl) rfl rfl (by kernel_rfl) ?_
   apply Exists.intro
   refine ⟨?_,?_⟩
   ·intro F hF
    have hFc:=hF.cell
    have hFf:=hF.frozen
    simp only [List.take_succ_cons,List.take_zero,List.eraseIdx_cons_succ,List.eraseIdx_cons_zero]
    repeat (go_big_quiet_step (fail))
    refine wpQuiet_nil ?_
    exact rfl
   ·intro W1 hW1
    simp only [List.drop_succ_cons,List.drop_zero]
    clear hc1 hc3 lt0 lt2
    go_wp2_with fail
    refine (cA.out W1 hW1).mono ?_
    rintro e w2 ⟨rfl,hS2,hN2⟩
    have H5:Hid (SumAt w2 w.heap.size 0 (k+1) (dotS x y (k+1))):=by show SumAt _ _ _ _ _;rw [eS.out];exact hS2
    have H6:Hid (Below w.heap.size w w2):=(bstep HB.out hW1).trans hN2.below
    clear hS2 hN2 hW1 cA L0 HB
    go_wp2
    go_roundg (m - (k+1))
    case measure=>omega
    case rel=>exact ⟨k+1,by omega,rfl,by first|rfl|simp,H5,H6⟩
  ·obtain rfl:k=m:=by omega
   have hk':¬ (k:Int) < (k:Int):=by omega
   have cF:∀ W,Below w.heap.size w W→SumAt W w.heap.size 0 k (dotS x y k)→Calls Tryz.prog 128 #[.pointer (some ⟨w.heap.size,0,none⟩)] W fun e w'=>e = .returned (.int .i64 D)∧Below W.heap.size W w':=fun W hW hS=>by
    rw [HD.out]
    exact sfix_any w.heap.size 0 k _ (by have:=HM.out;omega) W (Hid.up_tz hT hW) hS
   have cF':=cF R1 HB.out L0.out
   clear cF
   go_wp2_with fail
   refine cF'.mono ?_
   rintro e w2 ⟨rfl,hB2⟩
   have H6:Hid (Below w.heap.size w w2):=bstep HB.out hB2
   clear hB2 cF' HB L0
   go_wp2
   go_ret
   exact ⟨rfl,H6.out⟩
end Go.Proofs.YtaiigfhicaelkabGreatDoor.Wd
namespace Go.Proofs.YtaiigfhicaelkabGreatDoor.Wd
open Go.RowKit
/-- What a cut of a row holds, whatever its elements' kind. -/
theorem cut_nums {k:IntKind} {W:World} {p:Option Addr} {n cap i j:Nat} {l:List Int} (h:i≤j) (h2:j≤n) (hl:l.length=n) (hn:n≤cap) (hb:Nums k W (.slice p n cap) l):Nums k W (sliced p i j cap 1) ((l.drop i).take (j - i)):=by
 rcases hb with ⟨e,rfl⟩|⟨ad,c',e,hx⟩
 ·cases e
  obtain rfl:i=0:=by omega
  obtain rfl:j=0:=by omega
  exact .inl ⟨rfl,rfl⟩
 ·cases e
  have hlen:((l.drop i).take (j - i)).length=j - i:=by simp;omega
  unfold sliced
  by_cases c:cap=i
  ·rw [if_pos c]
   exact .inr ⟨ad,cap - i,by rw [hlen],fun q u hu=>by
    rw [vals,List.getElem?_eq_none (by rw [List.length_map,hlen];omega)] at hu
    cases hu⟩
  ·rw [if_neg c]
   refine .inr ⟨ad.add (i*1),cap - i,by rw [hlen];rfl,fun q u hu=>?_⟩
   rw [vals,List.getElem?_map] at hu
   obtain ⟨x,hx',rfl⟩:=Option.map_eq_some_iff.1 hu
   have hj:q < j - i:=by
    rcases Nat.lt_or_ge q (j - i) with h|h
    ·exact h
    ·rw [List.getElem?_eq_none (by rw [hlen];exact h)] at hx';cases hx'
   rw [List.getElem?_take_of_lt hj,List.getElem?_drop] at hx'
   have h0:=hx (i+q) (.int k x) (by rw [vals,List.getElem?_map,hx'];rfl)
   have e0:=hx 0 (.int k (l[0]'(by omega))) (by rw [vals,List.getElem?_map,List.getElem?_eq_getElem (by omega)];rfl)
   have e1:ad=⟨ad.block,ad.off,none⟩:=spot_none (by
    have:ad.add 0=ad:=by simp [Addr.add]
    rw [this] at e0;exact e0)
   rw [e1,addr_plus] at h0
   rw [e1,Nat.mul_one,addr_plus,addr_plus,Nat.add_assoc]
   exact h0
/-- The front of a row of one's own is one's own. -/
theorem OwnK.cut {k:IntKind} {e:TypeId} {W:World} {B:Nat} {p:Option Addr} {n c:Nat} {l:List Int} (h:OwnK k e W B (.slice p n c) l) (j:Nat) (hj:j≤n):OwnK k e W B (sliced p 0 j c 1) (l.take j):=by
 obtain ⟨hl,h2⟩:=h
 rcases h2 with ⟨e1,h0⟩|⟨g,cap,cur,e1,hb,hg,hc,hm,hs,ht⟩
 ·cases e1
  obtain rfl:j=0:=by omega
  rw [List.take_zero]
  exact ⟨rfl,.inl ⟨by simp [sliced],rfl⟩⟩
 ·cases e1
  have hlen:(l.take j).length=j:=by rw [List.length_take];omega
  refine ⟨by simp [vals],.inr ⟨g,c,cur,?_,hb,hg,by omega,hm,hs,?_⟩⟩
  ·rw [hlen]
   simp [sliced,Addr.add]
  ·rw [hlen,Nat.mul_one]
   rw [Nat.mul_one] at ht
   have:cur.toList.take j=(cur.toList.take l.length).take j:=by rw [List.take_take,Nat.min_eq_left hj]
   rw [this,ht]
   simp [vals]
/-- Without the frame's end: a cut is a slice of its own length. -/
theorem sliced_is (p:Option Addr) (i j cap:Nat):∃ q,sliced p i j cap 1 = .slice q (j - i) (cap - i):=by
 unfold sliced
 by_cases c:cap=i
 ·rw [if_pos c];exact ⟨_,rfl⟩
 ·rw [if_neg c];exact ⟨_,rfl⟩
theorem cutI_lh (p:Option Addr) (n cap i j:Nat) (h:i≤j) (h2:j≤cap) (W:World):Sem.run Tryz.prog (Instr.slice 30 (.slice p n cap) (some (.int .i64 (i:Int))) (some (.int .i64 (j:Int))) none) W = .ok (sliced p i j cap 1) W:=by
 have hz:∀ W,Sem.run Tryz.prog (sizeOf (Tryz.prog.elem 30)) W = .ok 1 W:=fun W=>by kernel_rfl
 have:=run_slice_lh (P:=Tryz.prog) W 30 p n cap (by kernel_rfl) .i64 .i64 (i:Int) (j:Int) (by omega) (by omega) (by omega)
 rw [this,hz]
 simp [Result.andThen]
theorem cutI_l (p:Option Addr) (n cap i:Nat) (h:i≤n) (W:World):Sem.run Tryz.prog (Instr.slice 30 (.slice p n cap) (some (.int .i64 (i:Int))) none none) W = .ok (sliced p i n cap 1) W:=by
 have hz:∀ W,Sem.run Tryz.prog (sizeOf (Tryz.prog.elem 30)) W = .ok 1 W:=fun W=>by kernel_rfl
 have:=run_slice_l (P:=Tryz.prog) W 30 p n cap (by kernel_rfl) .i64 (i:Int) (by omega) (by omega)
 rw [this,hz]
 simp [Result.andThen]
theorem cutI_h (p:Option Addr) (n cap j:Nat) (h2:j≤cap) (W:World):Sem.run Tryz.prog (Instr.slice 30 (.slice p n cap) none (some (.int .i64 (j:Int))) none) W = .ok (sliced p 0 j cap 1) W:=by
 have hz:∀ W,Sem.run Tryz.prog (sizeOf (Tryz.prog.elem 30)) W = .ok 1 W:=fun W=>by kernel_rfl
 have:=run_slice_h (P:=Tryz.prog) W 30 p n cap (by kernel_rfl) .i64 (j:Int) (by omega) (by omega)
 rw [this,hz]
 simp [Result.andThen]
theorem cutF_lh (p:Option Addr) (n cap i j:Nat) (h:i≤j) (h2:j≤cap) (W:World):Sem.run Tryz.prog (Instr.slice 23 (.slice p n cap) (some (.int .i64 (i:Int))) (some (.int .i64 (j:Int))) none) W = .ok (sliced p i j cap 1) W:=by
 have hz:∀ W,Sem.run Tryz.prog (sizeOf (Tryz.prog.elem 23)) W = .ok 1 W:=fun W=>by kernel_rfl
 have:=run_slice_lh (P:=Tryz.prog) W 23 p n cap (by kernel_rfl) .i64 .i64 (i:Int) (j:Int) (by omega) (by omega) (by omega)
 rw [this,hz]
 simp [Result.andThen]
end Go.Proofs.YtaiigfhicaelkabGreatDoor.Wd
namespace Go.Proofs.YtaiigfhicaelkabGreatDoor.Kn
open Go.RowKit
variable {Y Y1 Y0 u v : Int}
/-- The dividend's next digit. -/
def dig (u v Y:Int):Int:=(u*4294967296+v) / Y
theorem dig_lo (hY:0 < Y):dig u v Y*Y≤u*4294967296+v:=Int.ediv_mul_le _ (by omega)
theorem dig_nonneg (hY:0 < Y) (hu:0≤u) (hv:0≤v):0≤dig u v Y:=Int.ediv_nonneg (by omega) (by omega)
theorem dig_lt (hY:0 < Y) (hu:u < Y) (hv:v < 4294967296):dig u v Y < 4294967296:=by
 unfold dig
 apply Int.ediv_lt_of_lt_mul hY
 omega
theorem dig_start (hY:0 < Y) (h1:0 < Y1) (h0:0≤Y0) (e:Y=Y1*4294967296+Y0) (hu:0≤u) (hv:0≤v) (hv':v < 4294967296):dig u v Y≤u / Y1:=by
 rw [Int.le_ediv_iff_mul_le h1]
 have h:=dig_lo (u:=u) (v:=v) hY
 have hd:=dig_nonneg (Y:=Y) hY hu hv
 have h0':0≤dig u v Y*Y0:=Int.mul_nonneg hd h0
 rw [e,Int.mul_add,← Int.mul_assoc] at h
 rw [← e] at h
 omega
theorem dig_ub (h1:2147483648≤Y1) (h0:Y0 < 4294967296) (e:Y=Y1*4294967296+Y0) (hu:u < Y):u / Y1≤4294967297:=by
 apply Int.le_of_lt_add_one
 apply Int.ediv_lt_of_lt_mul (by omega)
 omega
theorem dig_more (q r:Int) (hY:0 < Y) (hu:u < Y) (hv:v < 4294967296) (e:Y=Y1*4294967296+Y0) (hq:q*Y1+r=u) (h:4294967296≤q∨4294967296*r+v < q*Y0):dig u v Y < q:=by
 rcases h with h|h
 ·have:=dig_lt hY hu hv
  omega
 ·unfold dig
  apply Int.ediv_lt_of_lt_mul hY
  rw [e,Int.mul_add,← Int.mul_assoc]
  omega
theorem dig_stop (q r:Int) (hY:0 < Y) (e:Y=Y1*4294967296+Y0) (hq:q*Y1+r=u) (h:q*Y0≤4294967296*r+v) (hd:dig u v Y≤q):q=dig u v Y:=by
 apply Int.le_antisymm _ hd
 unfold dig
 rw [Int.le_ediv_iff_mul_le hY,e,Int.mul_add,← Int.mul_assoc]
 omega
theorem dig_far (q r:Int) (hY:0 < Y) (h0:0≤Y0) (h0':Y0 < 4294967296) (hv:0≤v) (e:Y=Y1*4294967296+Y0) (hq:q*Y1+r=u) (hr:4294967296≤r) (hq0:0≤q) (hq1:q≤4294967296) (hd:dig u v Y≤q):q=dig u v Y:=by
 apply dig_stop q r hY e hq _ hd
 have:q*Y0≤4294967296*Y0:=Int.mul_le_mul_of_nonneg_right hq1 h0
 omega
theorem wrap_sub_wrap (a b:Int):IntKind.u64.wrap (IntKind.u64.wrap a - IntKind.u64.wrap b)=IntKind.u64.wrap (a - b):=by
 simp only [IntKind.wrap_u64];omega
theorem wrap_add_wrap (a b:Int):IntKind.u64.wrap (IntKind.u64.wrap a+b)=IntKind.u64.wrap (a+b):=by
 simp only [IntKind.wrap_u64];omega
theorem wrap_id (a:Int) (h:0≤a) (h':a < 18446744073709551616):IntKind.u64.wrap a=a:=by
 simp only [IntKind.wrap_u64];omega
theorem dig_rem (hY:0 < Y) (hY':Y≤18446744073709551616):
  IntKind.u64.wrap (IntKind.u64.wrap (IntKind.u64.wrap (u*4294967296)+v) - IntKind.u64.wrap (dig u v Y*Y))=(u*4294967296+v) % Y:=by
 rw [wrap_add_wrap,wrap_sub_wrap]
 have h:=Int.emod_add_mul_ediv (u*4294967296+v) Y
 have e:u*4294967296+v - dig u v Y*Y=(u*4294967296+v) % Y:=by
  unfold dig
  rw [Int.mul_comm ((u*4294967296+v) / Y) Y]
  omega
 rw [e]
 have h1:=Int.emod_nonneg (u*4294967296+v) (show Y≠0 by omega)
 have h2:=Int.emod_lt_of_pos (u*4294967296+v) hY
 exact wrap_id _ h1 (by omega)
theorem start_rest (h1:0 < Y1) (h1':Y1 < 4294967296) (hu:0≤u) (hu':u < 18446744073709551616):
  IntKind.u64.wrap (u - IntKind.u64.wrap (u / Y1*Y1))=u % Y1:=by
 have h:=Int.emod_add_mul_ediv u Y1
 have a:=Int.emod_nonneg u (show Y1≠0 by omega)
 have b:=Int.emod_lt_of_pos u h1
 rw [Int.mul_comm] at h
 simp only [IntKind.wrap_u64]
 omega
theorem start_eq:u / Y1*Y1+u % Y1=u:=by
 have h:=Int.emod_add_mul_ediv u Y1
 rw [Int.mul_comm] at h
 omega
theorem dig_eq (u v Y:Int):u*4294967296+v=dig u v Y*Y+(u*4294967296+v) % Y:=by
 have h:=Int.emod_add_mul_ediv (u*4294967296+v) Y
 unfold dig
 rw [Int.mul_comm Y] at h
 omega
theorem maskI (a:Int) (h:0≤a) (h':a < 18446744073709551616):bits .and .u64 a 4294967295=a % 4294967296:=by
 have hw:∀ n:Int,0≤n→n < 2 ^ 64→IntKind.u64.wrap n=n:=fun n h0 h1=>by rw [IntKind.wrap_u64];omega
 exact bits_mask .u64 64 (by decide) hw 32 (by decide) a h (by omega)
theorem shift_of (y:Int) (h0:0 < y) (h1:y < 18446744073709551616):∃ s:Nat,s < 64∧Hid ((s:Int)=64 - (Lib.bitLen y.toNat:Int))∧9223372036854775808≤y*2 ^ s∧y*2 ^ s < 18446744073709551616:=by
 obtain ⟨n,rfl⟩:=Int.eq_ofNat_of_zero_le (show 0≤y by omega)
 have hb:=Lib.bitLenAux_bounds 64 n (by omega) (by omega)
 have hle:=Lib.bitLen_le n 64 (by omega) (by omega)
 change 1≤Lib.bitLen n∧2 ^ (Lib.bitLen n - 1)≤n∧n < 2 ^ Lib.bitLen n at hb
 refine ⟨64 - Lib.bitLen n,by omega,by show _=_;simp only [Int.toNat_natCast];omega,?_,?_⟩
 ·have e:2 ^ (Lib.bitLen n - 1)*2 ^ (64 - Lib.bitLen n)=9223372036854775808:=by
   rw [← Nat.pow_add,show Lib.bitLen n - 1+(64 - Lib.bitLen n)=63 by omega]
  have:=Nat.mul_le_mul_right (2 ^ (64 - Lib.bitLen n)) hb.2.1
  rw [e] at this
  have h2:=Int.ofNat_le.2 this
  rw [Int.natCast_mul,Int.natCast_pow] at h2
  exact h2
 ·have e:2 ^ Lib.bitLen n*2 ^ (64 - Lib.bitLen n)=18446744073709551616:=by
   rw [← Nat.pow_add,show Lib.bitLen n+(64 - Lib.bitLen n)=64 by omega]
  have:=Nat.mul_lt_mul_of_pos_right hb.2.2 (Nat.two_pow_pos (64 - Lib.bitLen n))
  rw [e] at this
  have h2:=Int.ofNat_lt.2 this
  rw [Int.natCast_mul,Int.natCast_pow] at h2
  exact h2
theorem shifted (hi lo y:Int) (s:Nat) (hh:hi < y) (h0:0 < hi) (hy:0 < y) (hs:s < 64) (hY:9223372036854775808≤y*2 ^ s∧y*2 ^ s < 18446744073709551616) (hl:0≤lo∧lo < 18446744073709551616):
  bits .or .u64 (IntKind.u64.wrap (hi*2 ^ s)) (lo / 2 ^ (64 - s))=hi*2 ^ s+lo / 2 ^ (64 - s)∧IntKind.u64.wrap (lo*2 ^ s)=lo*2 ^ s % 18446744073709551616∧
  0≤hi*2 ^ s+lo / 2 ^ (64 - s)∧hi*2 ^ s+lo / 2 ^ (64 - s) < y*2 ^ s∧
  (hi*18446744073709551616+lo)*2 ^ s=(hi*2 ^ s+lo / 2 ^ (64 - s))*18446744073709551616+lo*2 ^ s % 18446744073709551616:=by
 have hP:(0:Int) < 2 ^ s:=Int.pow_pos (by decide)
 have hT:(0:Int) < 2 ^ (64 - s):=Int.pow_pos (by decide)
 have hPT:(2:Int) ^ (64 - s)*2 ^ s=18446744073709551616:=by
  rw [← Int.pow_add,show 64 - s+s=64 by omega];rfl
 have hPT':(2:Int) ^ s*2 ^ (64 - s)=18446744073709551616:=by rw [Int.mul_comm];exact hPT
 have q0:0≤lo / 2 ^ (64 - s):=Int.ediv_nonneg hl.1 (by omega)
 have q1:lo / 2 ^ (64 - s) < 2 ^ s:=Int.ediv_lt_of_lt_mul hT (by rw [hPT'];exact hl.2)
 have hm:(hi+1)*2 ^ s≤y*2 ^ s:=Int.mul_le_mul_of_nonneg_right (by omega) (by omega)
 rw [Int.add_mul] at hm
 have hp:0≤hi*2 ^ s:=Int.mul_nonneg (by omega) (by omega)
 have hw:∀ n:Int,0≤n→n < 2 ^ 64→IntKind.u64.wrap n=n:=fun n h0 h1=>by rw [IntKind.wrap_u64];omega
 refine ⟨?_,by rw [IntKind.wrap_u64],by omega,by omega,?_⟩
 ·rw [wrap_id _ hp (by omega)]
  have hP64:(2:Int) ^ s≤2 ^ 64:=by
   rw [show (2:Int) ^ 64=18446744073709551616 from rfl,← hPT']
   have:(2:Int) ^ s*1≤2 ^ s*2 ^ (64 - s):=Int.mul_le_mul_of_nonneg_left (by omega) (by omega)
   omega
  exact bits_join .u64 64 (by decide) hw s _ _ hp (Int.mul_emod_left _ _) (by omega) q0 q1 (by omega)
 ·have hd:=Int.emod_add_mul_ediv lo (2 ^ (64 - s))
  have r0:=Int.emod_nonneg lo (show (2:Int) ^ (64 - s)≠0 by omega)
  have r1:=Int.emod_lt_of_pos lo hT
  have e:lo*2 ^ s=lo / 2 ^ (64 - s)*18446744073709551616+lo % 2 ^ (64 - s)*2 ^ s:=by
   rw [← hPT]
   have:lo*2 ^ s=(lo % 2 ^ (64 - s)+2 ^ (64 - s)*(lo / 2 ^ (64 - s)))*2 ^ s:=by rw [hd]
   rw [this,Int.add_mul,Int.mul_comm (2 ^ (64 - s)) (lo / 2 ^ (64 - s)),Int.mul_assoc]
   omega
  have e2:lo % 2 ^ (64 - s)*2 ^ s < 2 ^ (64 - s)*2 ^ s:=Int.mul_lt_mul_of_pos_right r1 hP
  have e3:0≤lo % 2 ^ (64 - s)*2 ^ s:=Int.mul_nonneg r0 (by omega)
  rw [hPT] at e2
  rw [Int.add_mul,Int.add_mul,Int.mul_assoc hi,Int.mul_comm 18446744073709551616 (2 ^ s),← Int.mul_assoc]
  omega
theorem whole (N y P Y U L Q1 Q0 R1 R0:Int) (hP:0 < P) (hY:Y=y*P) (hy:0 < y) (h0:0≤R0) (h1:R0 < Y)
  (hN:N*P=U*18446744073709551616+L) (e1:U*4294967296+L / 4294967296=Q1*Y+R1) (e2:R1*4294967296+L % 4294967296=Q0*Y+R0):
  N / y=Q1*4294967296+Q0∧R0 / P=N % y:=by
 have hA:N*P=(Q1*4294967296+Q0)*Y+R0:=by
  rw [Int.add_mul,Int.mul_assoc,Int.mul_comm 4294967296 Y,← Int.mul_assoc]
  omega
 have hR:R0=(N - (Q1*4294967296+Q0)*y)*P:=by
  rw [Int.sub_mul,hA,hY,Int.mul_assoc];omega
 have hd:R0 / P=N - (Q1*4294967296+Q0)*y:=by
  rw [hR];exact Int.mul_ediv_cancel _ (by omega)
 have p0:0≤N - (Q1*4294967296+Q0)*y:=by rw [← hd];exact Int.ediv_nonneg h0 (by omega)
 have p1:N - (Q1*4294967296+Q0)*y < y:=by
  rw [← hd];exact Int.ediv_lt_of_lt_mul hP (by rw [← hY];exact h1)
 have:=(Int.ediv_emod_unique (a:=N) (b:=y) (r:=N - (Q1*4294967296+Q0)*y) (q:=Q1*4294967296+Q0) hy).2 ⟨by rw [Int.mul_comm];omega,p0,p1⟩
 exact ⟨this.1,by rw [hd,this.2]⟩
end Go.Proofs.YtaiigfhicaelkabGreatDoor.Kn
