/- The code's giveA and giveB: the document's table of what a gradient gives. -/
import Derived.Test.YtjlofobnmjompaaGreatDoorJ21
import Derived.Test.YtjlofobnmjompaaGreatDoorJ22
import Derived.Test.YtjlofobnmjompaaGreatDoorJ23
set_option linter.unusedVariables false
set_option linter.unusedSimpArgs false
set_option maxHeartbeats 16000000
set_option maxRecDepth 16000
namespace Go.Proofs.YtjlofobnmjompaaGreatDoor.Wd
open Go.RowKit Fx
/-- What giveA, giveB tell at one Op. -/
def GvP (f:Nat) (h:Int→Int→Ten→Ten→Ten→Ten) (op:Int):Prop:=∀ (ps pt p p2 p3 p4 p5 p6:Option Addr) (ns cs nt ct n c n2 c2 n3 c3 n4 c4 n5 c5 n6 c6:Nat) (A B K:Int) (a b g:Ten) (hK:InR K) (ok:OkP op K a b g) (hc2:n2≤c2) (hc4:n4≤c4) (hc6:n6≤c6) (w:World) (hT:Hid (Tz w)) (h1:Nums .i64 w (.slice p n c) a.1) (h2:Nums .i64 w (.slice p2 n2 c2) a.2) (h3:Nums .i64 w (.slice p3 n3 c3) b.1) (h4:Nums .i64 w (.slice p4 n4 c4) b.2) (h5:Nums .i64 w (.slice p5 n5 c5) g.1) (h6:Nums .i64 w (.slice p6 n6 c6) g.2),
  Calls Tryz.prog f #[.agg #[.int .i64 op,.int .i64 A,.int .i64 B,.int .i64 K,.slice ps ns cs,.slice pt nt ct],.agg #[.slice p n c,.slice p2 n2 c2],.agg #[.slice p3 n3 c3,.slice p4 n4 c4],.agg #[.slice p5 n5 c5,.slice p6 n6 c6]] w fun e w'=>∃ v',e = .returned (.tuple #[v',.int .i64 0])∧TRes w' w.heap.size v' (h op K a b g).1 (h op K a b g).2∧Below w.heap.size w w'
theorem ga2:GvP 88 onA 2:=by
 intro ps pt p p2 p3 p4 p5 p6 ns cs nt ct n c n2 c2 n3 c3 n4 c4 n5 c5 n6 c6 A B K a b g hK ok hc2 hc4 hc6 w hT h1 h2 h3 h4 h5 h6
 obtain ⟨ga,gg,gb',hE,eg⟩:=ok
 obtain ⟨R,eR⟩:∃ R,onA 2 K a b g=R:=⟨_,rfl⟩
 rw [eR]
 have cc:Hid (∀ W,Below w.heap.size w W→Calls Tryz.prog 103 #[.agg #[.slice p5 n5 c5,.slice p6 n6 c6],.slice p n c] W fun e w'=>∃ v',e = .returned (.tuple #[v',.int .i64 0])∧TRes w' W.heap.size v' R.1 R.2∧Below W.heap.size W w'):=fun W hW=>by
  rw [← eR]
  have o:=ok_each ga (gb' (by decide)) hE gg eg
  have:=tfold_any p5 p6 p n5 c5 n6 c6 n c g.1 g.2 a.1 gg.2.1 gg.2.2 ga.2.1 W (h5.up hW) (h6.up hW) (h1.up hW)
  rw [o.1.1] at this
  exact this
 clear eR h1 h2 h3 h4 h5 h6 hT hK ga gg gb' hE eg hc2 hc4 hc6
 go_enter Tryz.func88,Tryz.ntmps88
 go_wp2_with fail
 generalize hW0:World.alloc _ _=W0
 have HB0:=hidB (w:=w) hW0 (by go_grown)
 have XR:Hid (Cel W0 (w.heap.size+4) (.slice none 0 0) (.slice none 0 0)):=celW hW0 (by simp [go_sem])
 clear hW0
 refine (cc.out W0 HB0.out).mono ?_
 rintro e w1 ⟨v1,rfl,⟨s1,t1,rfl,hs,ht⟩,hB1⟩
 obtain ⟨pa,na,ca,rfl⟩:=hs.form_
 obtain ⟨pb,nb,cb,rfl⟩:=ht.form_
 clear cc
 obtain ⟨HF,r0,r1,r2,r3,z0,z1⟩:=fin2 XR HB0 hB1 hs ht (by omega)
 clear hs ht
 go_wp2
 exact bodyPost_ret (v:=.tuple #[.agg #[.slice pa na ca,.slice pb nb cb],.int .i64 0]) (by simp [results,Tryz.results88,go_sem,z0,z1]) rfl ⟨_,rfl,HF.out⟩
theorem ga3:GvP 88 onA 3:=by
 intro ps pt p p2 p3 p4 p5 p6 ns cs nt ct n c n2 c2 n3 c3 n4 c4 n5 c5 n6 c6 A B K a b g hK ok hc2 hc4 hc6 w hT h1 h2 h3 h4 h5 h6
 obtain ⟨ga,gg,gb',hE,eg⟩:=ok
 obtain ⟨R,eR⟩:∃ R,onA 3 K a b g=R:=⟨_,rfl⟩
 rw [eR]
 have cc:Hid (∀ W,Below w.heap.size w W→Calls Tryz.prog 103 #[.agg #[.slice p5 n5 c5,.slice p6 n6 c6],.slice p n c] W fun e w'=>∃ v',e = .returned (.tuple #[v',.int .i64 0])∧TRes w' W.heap.size v' R.1 R.2∧Below W.heap.size W w'):=fun W hW=>by
  rw [← eR]
  have o:=ok_each ga (gb' (by decide)) hE gg eg
  have:=tfold_any p5 p6 p n5 c5 n6 c6 n c g.1 g.2 a.1 gg.2.1 gg.2.2 ga.2.1 W (h5.up hW) (h6.up hW) (h1.up hW)
  rw [o.1.1] at this
  exact this
 clear eR h1 h2 h3 h4 h5 h6 hT hK ga gg gb' hE eg hc2 hc4 hc6
 go_enter Tryz.func88,Tryz.ntmps88
 go_wp2_with fail
 generalize hW0:World.alloc _ _=W0
 have HB0:=hidB (w:=w) hW0 (by go_grown)
 have XR:Hid (Cel W0 (w.heap.size+4) (.slice none 0 0) (.slice none 0 0)):=celW hW0 (by simp [go_sem])
 clear hW0
 refine (cc.out W0 HB0.out).mono ?_
 rintro e w1 ⟨v1,rfl,⟨s1,t1,rfl,hs,ht⟩,hB1⟩
 obtain ⟨pa,na,ca,rfl⟩:=hs.form_
 obtain ⟨pb,nb,cb,rfl⟩:=ht.form_
 clear cc
 obtain ⟨HF,r0,r1,r2,r3,z0,z1⟩:=fin2 XR HB0 hB1 hs ht (by omega)
 clear hs ht
 go_wp2
 exact bodyPost_ret (v:=.tuple #[.agg #[.slice pa na ca,.slice pb nb cb],.int .i64 0]) (by simp [results,Tryz.results88,go_sem,z0,z1]) rfl ⟨_,rfl,HF.out⟩
theorem ga4:GvP 88 onA 4:=by
 intro ps pt p p2 p3 p4 p5 p6 ns cs nt ct n c n2 c2 n3 c3 n4 c4 n5 c5 n6 c6 A B K a b g hK ok hc2 hc4 hc6 w hT h1 h2 h3 h4 h5 h6
 obtain ⟨ga,gg,gb',hE,eg⟩:=ok
 obtain ⟨R,eR⟩:∃ R,onA 4 K a b g=R:=⟨_,rfl⟩
 rw [eR]
 have cc:Hid (∀ W,Below w.heap.size w W→Calls Tryz.prog 104 #[.agg #[.slice p5 n5 c5,.slice p6 n6 c6],.agg #[.slice p3 n3 c3,.slice p4 n4 c4],.slice p n c] W fun e w'=>∃ v',e = .returned (.tuple #[v',.int .i64 0])∧TRes w' W.heap.size v' R.1 R.2∧Below W.heap.size W w'):=fun W hW=>by
  rw [← eR]
  have o:=ok_each ga (gb' (by decide)) hE gg eg
  exact ctimesf_any p5 p6 n5 c5 n6 c6 p3 p4 n3 c3 n4 c4 p n c g b a.1 gg (gb' (by decide)) ga.2.1 o.2.2.1.1 o.2.2.1.2.2 o.2.2.1.2.1 W (h5.up hW) (h6.up hW) hc6 (h3.up hW) (h4.up hW) hc4 (h1.up hW)
 clear eR h1 h2 h3 h4 h5 h6 hT hK ga gg gb' hE eg hc2 hc4 hc6
 go_enter Tryz.func88,Tryz.ntmps88
 go_wp2_with fail
 generalize hW0:World.alloc _ _=W0
 have HB0:=hidB (w:=w) hW0 (by go_grown)
 have XR:Hid (Cel W0 (w.heap.size+4) (.slice none 0 0) (.slice none 0 0)):=celW hW0 (by simp [go_sem])
 clear hW0
 refine (cc.out W0 HB0.out).mono ?_
 rintro e w1 ⟨v1,rfl,⟨s1,t1,rfl,hs,ht⟩,hB1⟩
 obtain ⟨pa,na,ca,rfl⟩:=hs.form_
 obtain ⟨pb,nb,cb,rfl⟩:=ht.form_
 clear cc
 obtain ⟨HF,r0,r1,r2,r3,z0,z1⟩:=fin2 XR HB0 hB1 hs ht (by omega)
 clear hs ht
 go_wp2
 exact bodyPost_ret (v:=.tuple #[.agg #[.slice pa na ca,.slice pb nb cb],.int .i64 0]) (by simp [results,Tryz.results88,go_sem,z0,z1]) rfl ⟨_,rfl,HF.out⟩
theorem ga8:GvP 88 onA 8:=by
 intro ps pt p p2 p3 p4 p5 p6 ns cs nt ct n c n2 c2 n3 c3 n4 c4 n5 c5 n6 c6 A B K a b g hK ok hc2 hc4 hc6 w hT h1 h2 h3 h4 h5 h6
 obtain ⟨ga,gg,gb',hE,eg⟩:=ok
 obtain ⟨R,eR⟩:∃ R,onA 8 K a b g=R:=⟨_,rfl⟩
 rw [eR]
 have cc:Hid (∀ W,Below w.heap.size w W→Calls Tryz.prog 108 #[.agg #[.slice p5 n5 c5,.slice p6 n6 c6],.slice p n c,.int .i64 K] W fun e w'=>∃ v',e = .returned (.tuple #[v',.int .i64 0])∧TRes w' W.heap.size v' R.1 R.2∧Below W.heap.size W w'):=fun W hW=>by
  rw [← eR]
  obtain ⟨s,rfl,hs,o1,o2,o3⟩:=ok_along ga hE gg eg
  exact cspread_any p5 p6 n5 c5 n6 c6 p n c g a.1 _ s gg ga.1.1 hs o1 o2 o3 W (h5.up hW) (h6.up hW) (h1.up hW)
 clear eR h1 h2 h3 h4 h5 h6 hT hK ga gg gb' hE eg hc2 hc4 hc6
 go_enter Tryz.func88,Tryz.ntmps88
 go_wp2_with fail
 generalize hW0:World.alloc _ _=W0
 have HB0:=hidB (w:=w) hW0 (by go_grown)
 have XR:Hid (Cel W0 (w.heap.size+4) (.slice none 0 0) (.slice none 0 0)):=celW hW0 (by simp [go_sem])
 clear hW0
 refine (cc.out W0 HB0.out).mono ?_
 rintro e w1 ⟨v1,rfl,⟨s1,t1,rfl,hs,ht⟩,hB1⟩
 obtain ⟨pa,na,ca,rfl⟩:=hs.form_
 obtain ⟨pb,nb,cb,rfl⟩:=ht.form_
 clear cc
 obtain ⟨HF,r0,r1,r2,r3,z0,z1⟩:=fin2 XR HB0 hB1 hs ht (by omega)
 clear hs ht
 go_wp2
 exact bodyPost_ret (v:=.tuple #[.agg #[.slice pa na ca,.slice pb nb cb],.int .i64 0]) (by simp [results,Tryz.results88,go_sem,z0,z1]) rfl ⟨_,rfl,HF.out⟩
theorem ga11:GvP 88 onA 11:=by
 intro ps pt p p2 p3 p4 p5 p6 ns cs nt ct n c n2 c2 n3 c3 n4 c4 n5 c5 n6 c6 A B K a b g hK ok hc2 hc4 hc6 w hT h1 h2 h3 h4 h5 h6
 obtain ⟨ga,gg,gb',hE,eg⟩:=ok
 obtain ⟨R,eR⟩:∃ R,onA 11 K a b g=R:=⟨_,rfl⟩
 rw [eR]
 have cc:Hid (∀ W,Below w.heap.size w W→Calls Tryz.prog 110 #[.int .i64 K,.agg #[.slice p n c,.slice p2 n2 c2],.agg #[.slice p5 n5 c5,.slice p6 n6 c6]] W fun e w'=>∃ v',e = .returned (.tuple #[v',.int .i64 0])∧TRes w' W.heap.size v' R.1 R.2∧Below W.heap.size W w'):=fun W hW=>by
  rw [← eR]
  have:=aback_any K p p2 p5 p6 n c n2 c2 n5 c5 n6 c6 a.1 a.2 g.1 g.2 ga.2.1 ga.2.2 gg.2.1 gg.2.2 W (h1.up hW) (h2.up hW) (h5.up hW) (h6.up hW)
  rw [ok_bend ga hE gg eg] at this
  exact this
 clear eR h1 h2 h3 h4 h5 h6 hT hK ga gg gb' hE eg hc2 hc4 hc6
 go_enter Tryz.func88,Tryz.ntmps88
 go_wp2_with fail
 generalize hW0:World.alloc _ _=W0
 have HB0:=hidB (w:=w) hW0 (by go_grown)
 have XR:Hid (Cel W0 (w.heap.size+4) (.slice none 0 0) (.slice none 0 0)):=celW hW0 (by simp [go_sem])
 clear hW0
 refine (cc.out W0 HB0.out).mono ?_
 rintro e w1 ⟨v1,rfl,⟨s1,t1,rfl,hs,ht⟩,hB1⟩
 obtain ⟨pa,na,ca,rfl⟩:=hs.form_
 obtain ⟨pb,nb,cb,rfl⟩:=ht.form_
 clear cc
 obtain ⟨HF,r0,r1,r2,r3,z0,z1⟩:=fin2 XR HB0 hB1 hs ht (by omega)
 clear hs ht
 go_wp2
 exact bodyPost_ret (v:=.tuple #[.agg #[.slice pa na ca,.slice pb nb cb],.int .i64 0]) (by simp [results,Tryz.results88,go_sem,z0,z1]) rfl ⟨_,rfl,HF.out⟩
theorem gb2:GvP 89 onB 2:=by
 intro ps pt p p2 p3 p4 p5 p6 ns cs nt ct n c n2 c2 n3 c3 n4 c4 n5 c5 n6 c6 A B K a b g hK ok hc2 hc4 hc6 w hT h1 h2 h3 h4 h5 h6
 obtain ⟨ga,gg,gb',hE,eg⟩:=ok
 obtain ⟨R,eR⟩:∃ R,onB 2 K a b g=R:=⟨_,rfl⟩
 rw [eR]
 have cc:Hid (∀ W,Below w.heap.size w W→Calls Tryz.prog 103 #[.agg #[.slice p5 n5 c5,.slice p6 n6 c6],.slice p3 n3 c3] W fun e w'=>∃ v',e = .returned (.tuple #[v',.int .i64 0])∧TRes w' W.heap.size v' R.1 R.2∧Below W.heap.size W w'):=fun W hW=>by
  rw [← eR]
  have o:=ok_each ga (gb' (by decide)) hE gg eg
  have:=tfold_any p5 p6 p3 n5 c5 n6 c6 n3 c3 g.1 g.2 b.1 gg.2.1 gg.2.2 (gb' (by decide)).2.1 W (h5.up hW) (h6.up hW) (h3.up hW)
  rw [o.1.2] at this
  exact this
 clear eR h1 h2 h3 h4 h5 h6 hT hK ga gg gb' hE eg hc2 hc4 hc6
 go_enter Tryz.func89,Tryz.ntmps89
 go_wp2_with fail
 generalize hW0:World.alloc _ _=W0
 have HB0:=hidB (w:=w) hW0 (by go_grown)
 have XR:Hid (Cel W0 (w.heap.size+4) (.slice none 0 0) (.slice none 0 0)):=celW hW0 (by simp [go_sem])
 clear hW0
 refine (cc.out W0 HB0.out).mono ?_
 rintro e w1 ⟨v1,rfl,⟨s1,t1,rfl,hs,ht⟩,hB1⟩
 obtain ⟨pa,na,ca,rfl⟩:=hs.form_
 obtain ⟨pb,nb,cb,rfl⟩:=ht.form_
 clear cc
 obtain ⟨HF,r0,r1,r2,r3,z0,z1⟩:=fin2 XR HB0 hB1 hs ht (by omega)
 clear hs ht
 go_wp2
 exact bodyPost_ret (v:=.tuple #[.agg #[.slice pa na ca,.slice pb nb cb],.int .i64 0]) (by simp [results,Tryz.results89,go_sem,z0,z1]) rfl ⟨_,rfl,HF.out⟩
theorem gb3:GvP 89 onB 3:=by
 intro ps pt p p2 p3 p4 p5 p6 ns cs nt ct n c n2 c2 n3 c3 n4 c4 n5 c5 n6 c6 A B K a b g hK ok hc2 hc4 hc6 w hT h1 h2 h3 h4 h5 h6
 obtain ⟨ga,gg,gb',hE,eg⟩:=ok
 obtain ⟨R,eR⟩:∃ R,onB 3 K a b g=R:=⟨_,rfl⟩
 rw [eR]
 have cc:Hid (∀ W,Below w.heap.size w W→Calls Tryz.prog 114 #[.agg #[.slice p5 n5 c5,.slice p6 n6 c6],.slice p3 n3 c3] W fun e w'=>∃ v',e = .returned (.tuple #[v',.int .i64 0])∧TRes w' W.heap.size v' R.1 R.2∧Below W.heap.size W w'):=fun W hW=>by
  rw [← eR]
  have o:=ok_each ga (gb' (by decide)) hE gg eg
  exact cawayf_any p5 p6 n5 c5 n6 c6 p3 n3 c3 g b.1 gg (gb' (by decide)).2.1 o.2.1.2 o.2.1.1 W (h5.up hW) (h6.up hW) hc6 (h3.up hW)
 clear eR h1 h2 h3 h4 h5 h6 hT hK ga gg gb' hE eg hc2 hc4 hc6
 go_enter Tryz.func89,Tryz.ntmps89
 go_wp2_with fail
 generalize hW0:World.alloc _ _=W0
 have HB0:=hidB (w:=w) hW0 (by go_grown)
 have XR:Hid (Cel W0 (w.heap.size+4) (.slice none 0 0) (.slice none 0 0)):=celW hW0 (by simp [go_sem])
 clear hW0
 refine (cc.out W0 HB0.out).mono ?_
 rintro e w1 ⟨v1,rfl,⟨s1,t1,rfl,hs,ht⟩,hB1⟩
 obtain ⟨pa,na,ca,rfl⟩:=hs.form_
 obtain ⟨pb,nb,cb,rfl⟩:=ht.form_
 clear cc
 obtain ⟨HF,r0,r1,r2,r3,z0,z1⟩:=fin2 XR HB0 hB1 hs ht (by omega)
 clear hs ht
 go_wp2
 exact bodyPost_ret (v:=.tuple #[.agg #[.slice pa na ca,.slice pb nb cb],.int .i64 0]) (by simp [results,Tryz.results89,go_sem,z0,z1]) rfl ⟨_,rfl,HF.out⟩
theorem gb4:GvP 89 onB 4:=by
 intro ps pt p p2 p3 p4 p5 p6 ns cs nt ct n c n2 c2 n3 c3 n4 c4 n5 c5 n6 c6 A B K a b g hK ok hc2 hc4 hc6 w hT h1 h2 h3 h4 h5 h6
 obtain ⟨ga,gg,gb',hE,eg⟩:=ok
 obtain ⟨R,eR⟩:∃ R,onB 4 K a b g=R:=⟨_,rfl⟩
 rw [eR]
 have cc:Hid (∀ W,Below w.heap.size w W→Calls Tryz.prog 104 #[.agg #[.slice p5 n5 c5,.slice p6 n6 c6],.agg #[.slice p n c,.slice p2 n2 c2],.slice p3 n3 c3] W fun e w'=>∃ v',e = .returned (.tuple #[v',.int .i64 0])∧TRes w' W.heap.size v' R.1 R.2∧Below W.heap.size W w'):=fun W hW=>by
  rw [← eR]
  have o:=ok_each ga (gb' (by decide)) hE gg eg
  exact ctimesf_any p5 p6 n5 c5 n6 c6 p p2 n c n2 c2 p3 n3 c3 g a b.1 gg ga (gb' (by decide)).2.1 o.2.2.2.1 o.2.2.2.2.2 o.2.2.2.2.1 W (h5.up hW) (h6.up hW) hc6 (h1.up hW) (h2.up hW) hc2 (h3.up hW)
 clear eR h1 h2 h3 h4 h5 h6 hT hK ga gg gb' hE eg hc2 hc4 hc6
 go_enter Tryz.func89,Tryz.ntmps89
 go_wp2_with fail
 generalize hW0:World.alloc _ _=W0
 have HB0:=hidB (w:=w) hW0 (by go_grown)
 have XR:Hid (Cel W0 (w.heap.size+4) (.slice none 0 0) (.slice none 0 0)):=celW hW0 (by simp [go_sem])
 clear hW0
 refine (cc.out W0 HB0.out).mono ?_
 rintro e w1 ⟨v1,rfl,⟨s1,t1,rfl,hs,ht⟩,hB1⟩
 obtain ⟨pa,na,ca,rfl⟩:=hs.form_
 obtain ⟨pb,nb,cb,rfl⟩:=ht.form_
 clear cc
 obtain ⟨HF,r0,r1,r2,r3,z0,z1⟩:=fin2 XR HB0 hB1 hs ht (by omega)
 clear hs ht
 go_wp2
 exact bodyPost_ret (v:=.tuple #[.agg #[.slice pa na ca,.slice pb nb cb],.int .i64 0]) (by simp [results,Tryz.results89,go_sem,z0,z1]) rfl ⟨_,rfl,HF.out⟩
theorem ga9:GvP 88 onA 9:=by
 intro ps pt p p2 p3 p4 p5 p6 ns cs nt ct n c n2 c2 n3 c3 n4 c4 n5 c5 n6 c6 A B K a b g hK ok hc2 hc4 hc6 w hT h1 h2 h3 h4 h5 h6
 obtain ⟨ga,gg,gb',hE,eg⟩:=ok
 obtain ⟨R,eR⟩:∃ R,onA 9 K a b g=R:=⟨_,rfl⟩
 rw [eR]
 obtain ⟨G,eG⟩:∃ G,g.2.getD 0 0=G:=⟨_,rfl⟩
 have HG0:Hid (∃ q o,p6=some ⟨q,o,none⟩∧w.cell? ⟨q,o,none⟩=some (.int .i64 G)∧0 < n6):=by
  have h1:0 < g.2.length:=by rw [gg.1.2];exact prodN_pos gg.1.1.2.1
  obtain ⟨p_,c_,e_,hv⟩:=h6.view
  cases e_
  obtain ⟨q',o',e1,e2⟩:=hv 0 h1
  rw [eG,Nat.add_zero] at e2
  exact ⟨q',o',e1,e2,h1⟩
 have cc:Hid (∀ W,Below w.heap.size w W→Calls Tryz.prog 67 #[.slice p n c,.int .i64 G] W fun e w'=>∃ v',e = .returned (.tuple #[v',.int .i64 0])∧TRes w' W.heap.size v' R.1 R.2∧Below W.heap.size W w'):=fun W hW=>by
  rw [← eR]
  have:=tnew_any (.slice p n c) a.1 ga.2.1 G W (h1.up hW)
  rw [show newE a.1=0 from if_pos ga.1.1,show newD a.1=a.1 from if_pos ga.1.1,show newV a.1 G=List.replicate (prodN (ntl a.1)) G from if_pos ga.1.1,← eG] at this
  rw [← eG]
  exact this
 clear h1 h2 h3 h4 h5 h6
 obtain ⟨q6,o6,rfl,d6,hn6⟩:=HG0.out
 have hn6':(0:Int) < (n6:Int):=by omega
 clear eR hT hK ga gg gb' hE eg hc2 hc4 hc6
 go_enter Tryz.func88,Tryz.ntmps88
 go_wp2_with fail
 generalize hW0:World.alloc _ _=W0
 have HB0:=hidB (w:=w) hW0 (by go_grown)
 have XR:Hid (Cel W0 (w.heap.size+4) (.slice none 0 0) (.slice none 0 0)):=celW hW0 (by simp [go_sem])
 have XA:Cel W0 (w.heap.size+1) (.slice p n c) (.slice p2 n2 c2):=(celW hW0 (by simp [go_sem])).out
 obtain ⟨xa0,xa1,_,_⟩:=XA
 have ka:=cell_lt xa0
 have XG:Cel W0 (w.heap.size+3) (.slice p5 n5 c5) (.slice (some ⟨q6,o6,none⟩) n6 c6):=(celW hW0 (by simp [go_sem])).out
 obtain ⟨xg0,xg1,_,_⟩:=XG
 have kg:=cell_lt xg0
 have c6_:=cell_low d6 HB0.out
 have k6:=cell_lt c6_
 clear hW0
 refine relE [⟨6,69,TupP W0.heap.size R.1 R.2 0⟩,⟨7,70,OwnT W0.heap.size R.1 R.2⟩] 9 123 (by kernel_rfl) rfl rfl 8 _ rfl (by decide) rfl (by kernel_rfl) (by kernel_rfl) (fun _ _ _ _ h=>h) (by rfl) ?_ ?_
 ·intro e he v W W' h hb
  simp only [List.mem_cons,List.not_mem_nil,or_false] at he
  rcases he with rfl|rfl
  ·exact TupP.up h hb
  ·exact OwnT.up h hb
 apply Exists.intro
 refine ⟨?yl1,?wk1,?pk1,?rest1⟩
 case wk1=>
  intro x
  simp only [List.take_succ_cons,List.take_zero]
  iterate 6
   refine relQuiet rfl rfl ?_
   apply Exists.intro
   refine ⟨fun F hF hf K hK=>?_,?_⟩
   ·have hFc:=hF.cell
    have hFf:=hF.frozen
    go_big_quiet_op
    first|exact hK|(apply Exists.intro;refine ⟨fun _=>?_,?_⟩;(· fail);exact hK)
   (try simp only [Act.put,List.setIfInBounds_toArray,List.set_cons_zero,List.set_cons_succ])
  refine relTold rfl rfl ?_ ?_
  ·intro F hF hf d
   have hFc:=hF.cell
   have hFf:=hF.frozen
   simp [yieldsR,yieldsUpon,go_sem]
   refine (cc.out (F d) (bstep HB0.out (hF.below d))).mono ?_
   rintro e' w8 ⟨v8,rfl,h8,hb8⟩
   exact ⟨_,rfl,⟨v8,rfl,(h8.low (hF.below d).size).own⟩,hb8⟩
  (try simp only [Act.put,List.setIfInBounds_toArray,List.set_cons_zero,List.set_cons_succ])
  refine relTold rfl rfl ?_ ?_
  ·intro F hF hf d
   have hFc:=hF.cell
   have hFf:=hF.frozen
   have h9:=hf _ List.mem_cons_self (by rfl) d
   obtain ⟨u9,e9,n9⟩:=h9
   simp only [] at e9 n9
   simp [yieldsR,yieldsUpon,go_sem,e9]
   exact ⟨n9,Below.refl _ _⟩
  (try simp only [Act.put,List.setIfInBounds_toArray,List.set_cons_zero,List.set_cons_succ])
  refine relQuiet rfl rfl ?_
  apply Exists.intro
  refine ⟨fun F hF hf K hK=>?_,?_⟩
  ·have hFc:=hF.cell
   have hFf:=hF.frozen
   have h9:=hf _ List.mem_cons_self (by rfl)
   obtain ⟨u9,e9,_⟩:=h9 W0
   simp only [] at e9
   go_big_quiet_op
   first|exact hK|(apply Exists.intro;refine ⟨fun _=>?_,?_⟩;(· fail);exact hK)
  (try simp only [Act.put,List.setIfInBounds_toArray,List.set_cons_zero,List.set_cons_succ])
  refine relEnd ?_
  exact rfl
 case pk1=>
  intro x
  simp only [putsK,List.foldl_cons,List.foldl_nil,Act.put,List.setIfInBounds_toArray,List.set_cons_zero,List.set_cons_succ]
 case yl1=>
  intro x hx
  obtain ⟨W9,u9,e9,_⟩:=hx _ List.mem_cons_self (by rfl)
  simp only [] at e9
  refine ⟨.int .i64 0,fun t ht=>?_,.inl ⟨by rfl,fun w=>?_⟩⟩
  ·cases ht
   rfl
  ·simp [execOp,Act.eval,e9,go_sem]
 intro zz xs hBz1 hf
 simp only [List.drop_succ_cons,List.drop_zero]
 obtain ⟨pa,na,ca,pb,nb,cb,ev,hs,ht⟩:=hf _ (List.mem_cons_of_mem _ List.mem_cons_self)
 simp only [] at ev
 obtain ⟨x4,e4⟩:∃ q,xs 6=q:=⟨_,rfl⟩
 simp only [ev,e4]
 obtain ⟨HF,r0,r1,r2,r3,z0,z1⟩:=fin2 XR HB0 hBz1 hs ht (by omega)
 have rk:=cell_lt r0
 clear hs ht hBz1 hf cc xa0 xa1 xg0 xg1 c6_
 go_wp2
 exact bodyPost_ret (v:=.tuple #[.agg #[.slice pa na ca,.slice pb nb cb],.int .i64 0]) (by simp [results,Tryz.results88,go_sem,z0,z1]) rfl ⟨_,rfl,HF.out⟩
theorem ga10:GvP 88 onA 10:=by
 intro ps pt p p2 p3 p4 p5 p6 ns cs nt ct n c n2 c2 n3 c3 n4 c4 n5 c5 n6 c6 A B K a b g hK ok hc2 hc4 hc6 w hT h1 h2 h3 h4 h5 h6
 obtain ⟨ga,gg,gb',hE,eg⟩:=ok
 obtain ⟨R,eR⟩:∃ R,onA 10 K a b g=R:=⟨_,rfl⟩
 rw [eR]
 obtain ⟨G,eG⟩:∃ G,g.2.getD 0 0=G:=⟨_,rfl⟩
 have HG0:Hid (∃ q o,p6=some ⟨q,o,none⟩∧w.cell? ⟨q,o,none⟩=some (.int .i64 G)∧0 < n6):=by
  have h1:0 < g.2.length:=by rw [gg.1.2];exact prodN_pos gg.1.1.2.1
  obtain ⟨p_,c_,e_,hv⟩:=h6.view
  cases e_
  obtain ⟨q',o',e1,e2⟩:=hv 0 h1
  rw [eG,Nat.add_zero] at e2
  exact ⟨q',o',e1,e2,h1⟩
 have cc:Hid (∀ W,Below w.heap.size w W→Calls Tryz.prog 109 #[.int .i64 G,.slice p n c] W fun e w'=>∃ v',e = .returned (.tuple #[v',.int .i64 0])∧TRes w' W.heap.size v' R.1 R.2∧Below W.heap.size W w'):=fun W hW=>by
  rw [← eR]
  have:=cshared_any p n c a.1 G (by rw [← eG];exact InR_get gg.2.2 0) ga.1.1 W (h1.up hW)
  rw [← eG,← ga.1.2] at this
  rw [← eG]
  show Calls _ _ _ _ fun e w'=>∃ v',e=_∧TRes w' _ v' a.1 (List.replicate (prodN (ntl a.1)) (Fx.hold (rqI (g.2.getD 0 0) (a.2.length:Int))))∧_
  rw [← ga.1.2]
  exact this
 clear h1 h2 h3 h4 h5 h6
 obtain ⟨q6,o6,rfl,d6,hn6⟩:=HG0.out
 have hn6':(0:Int) < (n6:Int):=by omega
 clear eR hT hK ga gg gb' hE eg hc2 hc4 hc6
 go_enter Tryz.func88,Tryz.ntmps88
 go_wp2_with fail
 generalize hW0:World.alloc _ _=W0
 have HB0:=hidB (w:=w) hW0 (by go_grown)
 have XR:Hid (Cel W0 (w.heap.size+4) (.slice none 0 0) (.slice none 0 0)):=celW hW0 (by simp [go_sem])
 have XA:Cel W0 (w.heap.size+1) (.slice p n c) (.slice p2 n2 c2):=(celW hW0 (by simp [go_sem])).out
 obtain ⟨xa0,xa1,_,_⟩:=XA
 have ka:=cell_lt xa0
 have XG:Cel W0 (w.heap.size+3) (.slice p5 n5 c5) (.slice (some ⟨q6,o6,none⟩) n6 c6):=(celW hW0 (by simp [go_sem])).out
 obtain ⟨xg0,xg1,_,_⟩:=XG
 have kg:=cell_lt xg0
 have c6_:=cell_low d6 HB0.out
 have k6:=cell_lt c6_
 clear hW0
 refine relE [⟨6,80,TupP W0.heap.size R.1 R.2 0⟩,⟨7,81,OwnT W0.heap.size R.1 R.2⟩] 9 123 (by kernel_rfl) rfl rfl 8 _ rfl (by decide) rfl (by kernel_rfl) (by kernel_rfl) (fun _ _ _ _ h=>h) (by rfl) ?_ ?_
 ·intro e he v W W' h hb
  simp only [List.mem_cons,List.not_mem_nil,or_false] at he
  rcases he with rfl|rfl
  ·exact TupP.up h hb
  ·exact OwnT.up h hb
 apply Exists.intro
 refine ⟨?yl1,?wk1,?pk1,?rest1⟩
 case wk1=>
  intro x
  simp only [List.take_succ_cons,List.take_zero]
  iterate 6
   refine relQuiet rfl rfl ?_
   apply Exists.intro
   refine ⟨fun F hF hf K hK=>?_,?_⟩
   ·have hFc:=hF.cell
    have hFf:=hF.frozen
    go_big_quiet_op
    first|exact hK|(apply Exists.intro;refine ⟨fun _=>?_,?_⟩;(· fail);exact hK)
   (try simp only [Act.put,List.setIfInBounds_toArray,List.set_cons_zero,List.set_cons_succ])
  refine relTold rfl rfl ?_ ?_
  ·intro F hF hf d
   have hFc:=hF.cell
   have hFf:=hF.frozen
   simp [yieldsR,yieldsUpon,go_sem]
   refine (cc.out (F d) (bstep HB0.out (hF.below d))).mono ?_
   rintro e' w8 ⟨v8,rfl,h8,hb8⟩
   exact ⟨_,rfl,⟨v8,rfl,(h8.low (hF.below d).size).own⟩,hb8⟩
  (try simp only [Act.put,List.setIfInBounds_toArray,List.set_cons_zero,List.set_cons_succ])
  refine relTold rfl rfl ?_ ?_
  ·intro F hF hf d
   have hFc:=hF.cell
   have hFf:=hF.frozen
   have h9:=hf _ List.mem_cons_self (by rfl) d
   obtain ⟨u9,e9,n9⟩:=h9
   simp only [] at e9 n9
   simp [yieldsR,yieldsUpon,go_sem,e9]
   exact ⟨n9,Below.refl _ _⟩
  (try simp only [Act.put,List.setIfInBounds_toArray,List.set_cons_zero,List.set_cons_succ])
  refine relQuiet rfl rfl ?_
  apply Exists.intro
  refine ⟨fun F hF hf K hK=>?_,?_⟩
  ·have hFc:=hF.cell
   have hFf:=hF.frozen
   have h9:=hf _ List.mem_cons_self (by rfl)
   obtain ⟨u9,e9,_⟩:=h9 W0
   simp only [] at e9
   go_big_quiet_op
   first|exact hK|(apply Exists.intro;refine ⟨fun _=>?_,?_⟩;(· fail);exact hK)
  (try simp only [Act.put,List.setIfInBounds_toArray,List.set_cons_zero,List.set_cons_succ])
  refine relEnd ?_
  exact rfl
 case pk1=>
  intro x
  simp only [putsK,List.foldl_cons,List.foldl_nil,Act.put,List.setIfInBounds_toArray,List.set_cons_zero,List.set_cons_succ]
 case yl1=>
  intro x hx
  obtain ⟨W9,u9,e9,_⟩:=hx _ List.mem_cons_self (by rfl)
  simp only [] at e9
  refine ⟨.int .i64 0,fun t ht=>?_,.inl ⟨by rfl,fun w=>?_⟩⟩
  ·cases ht
   rfl
  ·simp [execOp,Act.eval,e9,go_sem]
 intro zz xs hBz1 hf
 simp only [List.drop_succ_cons,List.drop_zero]
 obtain ⟨pa,na,ca,pb,nb,cb,ev,hs,ht⟩:=hf _ (List.mem_cons_of_mem _ List.mem_cons_self)
 simp only [] at ev
 obtain ⟨x4,e4⟩:∃ q,xs 6=q:=⟨_,rfl⟩
 simp only [ev,e4]
 obtain ⟨HF,r0,r1,r2,r3,z0,z1⟩:=fin2 XR HB0 hBz1 hs ht (by omega)
 have rk:=cell_lt r0
 clear hs ht hBz1 hf cc xa0 xa1 xg0 xg1 c6_
 go_wp2
 exact bodyPost_ret (v:=.tuple #[.agg #[.slice pa na ca,.slice pb nb cb],.int .i64 0]) (by simp [results,Tryz.results88,go_sem,z0,z1]) rfl ⟨_,rfl,HF.out⟩
theorem ga_none (op:Int) (ho:¬ (2≤op∧op≤14)) (ps pt p p2 p3 p4 p5 p6:Option Addr) (ns cs nt ct n c n2 c2 n3 c3 n4 c4 n5 c5 n6 c6:Nat) (A B K:Int) (w:World):
  Calls Tryz.prog 88 #[.agg #[.int .i64 op,.int .i64 A,.int .i64 B,.int .i64 K,.slice ps ns cs,.slice pt nt ct],.agg #[.slice p n c,.slice p2 n2 c2],.agg #[.slice p3 n3 c3,.slice p4 n4 c4],.agg #[.slice p5 n5 c5,.slice p6 n6 c6]] w fun e w'=>∃ v',e = .returned (.tuple #[v',.int .i64 0])∧TRes w' w.heap.size v' [] []∧Below w.heap.size w w':=by
 have d2:(op==2)=false:=by simp;omega
 have d3:(op==3)=false:=by simp;omega
 have d4:(op==4)=false:=by simp;omega
 have d5:(op==5)=false:=by simp;omega
 have d6:(op==6)=false:=by simp;omega
 have d7:(op==7)=false:=by simp;omega
 have d8:(op==8)=false:=by simp;omega
 have d9:(op==9)=false:=by simp;omega
 have d10:(op==10)=false:=by simp;omega
 have d11:(op==11)=false:=by simp;omega
 have d12:(op==12)=false:=by simp;omega
 have d13:(op==13)=false:=by simp;omega
 have d14:(op==14)=false:=by simp;omega
 clear ho
 go_enter Tryz.func88,Tryz.ntmps88
 go_wp2
 exact bodyPost_ret (v:=.tuple #[.agg #[.slice none 0 0,.slice none 0 0],.int .i64 0]) (by simp [results,Tryz.results88,go_sem]) rfl ⟨_,rfl,TRes.none _ _,by go_grown⟩
theorem gb_none (op:Int) (ho:¬ twoP op) (ps pt p p2 p3 p4 p5 p6:Option Addr) (ns cs nt ct n c n2 c2 n3 c3 n4 c4 n5 c5 n6 c6:Nat) (A B K:Int) (w:World):
  Calls Tryz.prog 89 #[.agg #[.int .i64 op,.int .i64 A,.int .i64 B,.int .i64 K,.slice ps ns cs,.slice pt nt ct],.agg #[.slice p n c,.slice p2 n2 c2],.agg #[.slice p3 n3 c3,.slice p4 n4 c4],.agg #[.slice p5 n5 c5,.slice p6 n6 c6]] w fun e w'=>∃ v',e = .returned (.tuple #[v',.int .i64 0])∧TRes w' w.heap.size v' [] []∧Below w.heap.size w w':=by
 have d2:(op==2)=false:=by simp;omega
 have d3:(op==3)=false:=by simp;omega
 have d4:(op==4)=false:=by simp;omega
 have d6:(op==6)=false:=by simp;omega
 have d12:(op==12)=false:=by simp;omega
 clear ho
 go_enter Tryz.func89,Tryz.ntmps89
 go_wp2
 exact bodyPost_ret (v:=.tuple #[.agg #[.slice none 0 0,.slice none 0 0],.int .i64 0]) (by simp [results,Tryz.results89,go_sem]) rfl ⟨_,rfl,TRes.none _ _,by go_grown⟩
end Go.Proofs.YtjlofobnmjompaaGreatDoor.Wd
