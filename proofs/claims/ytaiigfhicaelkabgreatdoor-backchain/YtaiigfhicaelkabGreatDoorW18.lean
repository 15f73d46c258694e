/- The code's giveA and giveB: the document's table of what a gradient gives. · A row of tensors that a call hands back: how it lies in memory. -/
import Derived.Test.YtaiigfhicaelkabGreatDoorW15
import Derived.Test.YtaiigfhicaelkabGreatDoorW16
import Derived.Test.YtaiigfhicaelkabGreatDoorW17
import Derived.Test.YtaiigfhicaelkabGreatDoorW14
set_option linter.unusedVariables false
set_option linter.unusedSimpArgs false
set_option maxHeartbeats 16000000
set_option maxRecDepth 16000
namespace Go.Proofs.YtaiigfhicaelkabGreatDoor.Wd
open Go.RowKit Fx
/-- A node's Op, its number, the two that it is of, a gradient of it. -/
def OkP (op K:Int) (a b g:Ten):Prop:=TenG a∧TenG g∧(twoP op→TenG b)∧rkE op a.1 a.2 b.1 b.2 K=0∧g.1=rkD op a.1 a.2 b.1 b.2 K
/-- What giveA, giveB tell at one Op. -/
def GvP (f:Nat) (h:Int→Int→Ten→Ten→Ten→Ten) (op:Int):Prop:=∀ (ps pt p p2 p3 p4 p5 p6:Option Addr) (ns cs nt ct n c n2 c2 n3 c3 n4 c4 n5 c5 n6 c6:Nat) (A B K:Int) (a b g:Ten) (hK:InR K) (ok:OkP op K a b g) (hc2:n2≤c2) (hc4:n4≤c4) (hc6:n6≤c6) (w:World) (hT:Hid (Tz w)) (h1:Nums .i64 w (.slice p n c) a.1) (h2:Nums .i64 w (.slice p2 n2 c2) a.2) (h3:Nums .i64 w (.slice p3 n3 c3) b.1) (h4:Nums .i64 w (.slice p4 n4 c4) b.2) (h5:Nums .i64 w (.slice p5 n5 c5) g.1) (h6:Nums .i64 w (.slice p6 n6 c6) g.2),
  Calls Tryz.prog f #[.agg #[.int .i64 op,.int .i64 A,.int .i64 B,.int .i64 K,.slice ps ns cs,.slice pt nt ct],.agg #[.slice p n c,.slice p2 n2 c2],.agg #[.slice p3 n3 c3,.slice p4 n4 c4],.agg #[.slice p5 n5 c5,.slice p6 n6 c6]] w fun e w'=>∃ v',e = .returned (.tuple #[v',.int .i64 0])∧TRes w' w.heap.size v' (h op K a b g).1 (h op K a b g).2∧Below w.heap.size w w'
theorem ga2:GvP 106 onA 2:=by
 intro ps pt p p2 p3 p4 p5 p6 ns cs nt ct n c n2 c2 n3 c3 n4 c4 n5 c5 n6 c6 A B K a b g hK ok hc2 hc4 hc6 w hT h1 h2 h3 h4 h5 h6
 obtain ⟨ga,gg,gb',hE,eg⟩:=ok
 obtain ⟨R,eR⟩:∃ R,onA 2 K a b g=R:=⟨_,rfl⟩
 rw [eR]
 have cc:Hid (∀ W,Below w.heap.size w W→Calls Tryz.prog 152 #[.agg #[.slice p5 n5 c5,.slice p6 n6 c6],.slice p n c] W fun e w'=>∃ v',e = .returned (.tuple #[v',.int .i64 0])∧TRes w' W.heap.size v' R.1 R.2∧Below W.heap.size W w'):=fun W hW=>by
  rw [← eR]
  have o:=ok_each ga (gb' (by decide)) hE gg eg
  have:=tfold_any p5 p6 p n5 c5 n6 c6 n c g.1 g.2 a.1 gg.2.1 gg.2.2 ga.2.1 W (h5.up hW) (h6.up hW) (h1.up hW)
  rw [o.1.1] at this
  exact this
 clear eR h1 h2 h3 h4 h5 h6 hT hK ga gg gb' hE eg hc2 hc4 hc6
 go_enter Tryz.func106,Tryz.ntmps106
 go_wp2_with fail
 generalize hW0:World.alloc _ _=W0
 have HB0:=hidB (w:=w) hW0 (by go_grown)
 have XR:Hid (Cel W0 (w.heap.size+4) (.slice none 0 0) (.slice none 0 0)):=celW hW0 (by simp [go_sem])
 clear hW0
 refine (cc.out W0 HB0.out).mono ?_
 rintro e w1 ⟨v1,rfl,⟨s1,t1,rfl,hs,ht⟩,hB1⟩
 obtain ⟨pa,na,ca,rfl⟩:=hs.form_
 obtain ⟨pb,nb,cb,rfl⟩:=ht.form_
 clear cc
 obtain ⟨HF,r0,r1,r2,r3,z0,z1⟩:=fin2 XR HB0 hB1 hs ht (by omega)
 clear hs ht
 go_wp2
 exact bodyPost_ret (v:=.tuple #[.agg #[.slice pa na ca,.slice pb nb cb],.int .i64 0]) (by simp [results,Tryz.results106,go_sem,z0,z1]) rfl ⟨_,rfl,HF.out⟩
theorem ga3:GvP 106 onA 3:=by
 intro ps pt p p2 p3 p4 p5 p6 ns cs nt ct n c n2 c2 n3 c3 n4 c4 n5 c5 n6 c6 A B K a b g hK ok hc2 hc4 hc6 w hT h1 h2 h3 h4 h5 h6
 obtain ⟨ga,gg,gb',hE,eg⟩:=ok
 obtain ⟨R,eR⟩:∃ R,onA 3 K a b g=R:=⟨_,rfl⟩
 rw [eR]
 have cc:Hid (∀ W,Below w.heap.size w W→Calls Tryz.prog 152 #[.agg #[.slice p5 n5 c5,.slice p6 n6 c6],.slice p n c] W fun e w'=>∃ v',e = .returned (.tuple #[v',.int .i64 0])∧TRes w' W.heap.size v' R.1 R.2∧Below W.heap.size W w'):=fun W hW=>by
  rw [← eR]
  have o:=ok_each ga (gb' (by decide)) hE gg eg
  have:=tfold_any p5 p6 p n5 c5 n6 c6 n c g.1 g.2 a.1 gg.2.1 gg.2.2 ga.2.1 W (h5.up hW) (h6.up hW) (h1.up hW)
  rw [o.1.1] at this
  exact this
 clear eR h1 h2 h3 h4 h5 h6 hT hK ga gg gb' hE eg hc2 hc4 hc6
 go_enter Tryz.func106,Tryz.ntmps106
 go_wp2_with fail
 generalize hW0:World.alloc _ _=W0
 have HB0:=hidB (w:=w) hW0 (by go_grown)
 have XR:Hid (Cel W0 (w.heap.size+4) (.slice none 0 0) (.slice none 0 0)):=celW hW0 (by simp [go_sem])
 clear hW0
 refine (cc.out W0 HB0.out).mono ?_
 rintro e w1 ⟨v1,rfl,⟨s1,t1,rfl,hs,ht⟩,hB1⟩
 obtain ⟨pa,na,ca,rfl⟩:=hs.form_
 obtain ⟨pb,nb,cb,rfl⟩:=ht.form_
 clear cc
 obtain ⟨HF,r0,r1,r2,r3,z0,z1⟩:=fin2 XR HB0 hB1 hs ht (by omega)
 clear hs ht
 go_wp2
 exact bodyPost_ret (v:=.tuple #[.agg #[.slice pa na ca,.slice pb nb cb],.int .i64 0]) (by simp [results,Tryz.results106,go_sem,z0,z1]) rfl ⟨_,rfl,HF.out⟩
theorem ga4:GvP 106 onA 4:=by
 intro ps pt p p2 p3 p4 p5 p6 ns cs nt ct n c n2 c2 n3 c3 n4 c4 n5 c5 n6 c6 A B K a b g hK ok hc2 hc4 hc6 w hT h1 h2 h3 h4 h5 h6
 obtain ⟨ga,gg,gb',hE,eg⟩:=ok
 obtain ⟨R,eR⟩:∃ R,onA 4 K a b g=R:=⟨_,rfl⟩
 rw [eR]
 have cc:Hid (∀ W,Below w.heap.size w W→Calls Tryz.prog 153 #[.agg #[.slice p5 n5 c5,.slice p6 n6 c6],.agg #[.slice p3 n3 c3,.slice p4 n4 c4],.slice p n c] W fun e w'=>∃ v',e = .returned (.tuple #[v',.int .i64 0])∧TRes w' W.heap.size v' R.1 R.2∧Below W.heap.size W w'):=fun W hW=>by
  rw [← eR]
  have o:=ok_each ga (gb' (by decide)) hE gg eg
  exact ctimesf_any p5 p6 n5 c5 n6 c6 p3 p4 n3 c3 n4 c4 p n c g b a.1 gg (gb' (by decide)) ga.2.1 o.2.2.1.1 o.2.2.1.2.2 o.2.2.1.2.1 W (h5.up hW) (h6.up hW) hc6 (h3.up hW) (h4.up hW) hc4 (h1.up hW)
 clear eR h1 h2 h3 h4 h5 h6 hT hK ga gg gb' hE eg hc2 hc4 hc6
 go_enter Tryz.func106,Tryz.ntmps106
 go_wp2_with fail
 generalize hW0:World.alloc _ _=W0
 have HB0:=hidB (w:=w) hW0 (by go_grown)
 have XR:Hid (Cel W0 (w.heap.size+4) (.slice none 0 0) (.slice none 0 0)):=celW hW0 (by simp [go_sem])
 clear hW0
 refine (cc.out W0 HB0.out).mono ?_
 rintro e w1 ⟨v1,rfl,⟨s1,t1,rfl,hs,ht⟩,hB1⟩
 obtain ⟨pa,na,ca,rfl⟩:=hs.form_
 obtain ⟨pb,nb,cb,rfl⟩:=ht.form_
 clear cc
 obtain ⟨HF,r0,r1,r2,r3,z0,z1⟩:=fin2 XR HB0 hB1 hs ht (by omega)
 clear hs ht
 go_wp2
 exact bodyPost_ret (v:=.tuple #[.agg #[.slice pa na ca,.slice pb nb cb],.int .i64 0]) (by simp [results,Tryz.results106,go_sem,z0,z1]) rfl ⟨_,rfl,HF.out⟩
theorem ga5:GvP 106 onA 5:=by
 intro ps pt p p2 p3 p4 p5 p6 ns cs nt ct n c n2 c2 n3 c3 n4 c4 n5 c5 n6 c6 A B K a b g hK ok hc2 hc4 hc6 w hT h1 h2 h3 h4 h5 h6
 obtain ⟨ga,gg,gb',hE,eg⟩:=ok
 obtain ⟨R,eR⟩:∃ R,onA 5 K a b g=R:=⟨_,rfl⟩
 rw [eR]
 have cc:Hid (∀ W,Below w.heap.size w W→Calls Tryz.prog 45 #[.agg #[.slice p5 n5 c5,.slice p6 n6 c6],.int .i64 K] W fun e w'=>∃ v',e = .returned (.tuple #[v',.int .i64 0])∧TRes w' W.heap.size v' R.1 R.2∧Below W.heap.size W w'):=fun W hW=>by
  rw [← eR]
  have:=tscale_any p5 p6 n5 c5 n6 c6 g.1 g.2 gg.2.1 gg.2.2 K hK W (h5.up hW) (h6.up hW)
  rw [show scaleE g.1 g.2=0 from if_pos gg.1] at this
  exact this
 clear eR h1 h2 h3 h4 h5 h6 hT hK ga gg gb' hE eg hc2 hc4 hc6
 go_enter Tryz.func106,Tryz.ntmps106
 go_wp2_with fail
 generalize hW0:World.alloc _ _=W0
 have HB0:=hidB (w:=w) hW0 (by go_grown)
 have XR:Hid (Cel W0 (w.heap.size+4) (.slice none 0 0) (.slice none 0 0)):=celW hW0 (by simp [go_sem])
 clear hW0
 refine (cc.out W0 HB0.out).mono ?_
 rintro e w1 ⟨v1,rfl,⟨s1,t1,rfl,hs,ht⟩,hB1⟩
 obtain ⟨pa,na,ca,rfl⟩:=hs.form_
 obtain ⟨pb,nb,cb,rfl⟩:=ht.form_
 clear cc
 obtain ⟨HF,r0,r1,r2,r3,z0,z1⟩:=fin2 XR HB0 hB1 hs ht (by omega)
 clear hs ht
 go_wp2
 exact bodyPost_ret (v:=.tuple #[.agg #[.slice pa na ca,.slice pb nb cb],.int .i64 0]) (by simp [results,Tryz.results106,go_sem,z0,z1]) rfl ⟨_,rfl,HF.out⟩
theorem ga6:GvP 106 onA 6:=by
 intro ps pt p p2 p3 p4 p5 p6 ns cs nt ct n c n2 c2 n3 c3 n4 c4 n5 c5 n6 c6 A B K a b g hK ok hc2 hc4 hc6 w hT h1 h2 h3 h4 h5 h6
 obtain ⟨ga,gg,gb',hE,eg⟩:=ok
 obtain ⟨R,eR⟩:∃ R,onA 6 K a b g=R:=⟨_,rfl⟩
 rw [eR]
 have cc:Hid (∀ W,Below w.heap.size w W→Calls Tryz.prog 154 #[.agg #[.slice p5 n5 c5,.slice p6 n6 c6],.agg #[.slice p3 n3 c3,.slice p4 n4 c4]] W fun e w'=>∃ v',e = .returned (.tuple #[v',.int .i64 0])∧TRes w' W.heap.size v' R.1 R.2∧Below W.heap.size W w'):=fun W hW=>by
  rw [← eR]
  have o:=ok_mul ga (gb' (by decide)) hE gg eg
  exact ctimesl_any p5 p6 n5 c5 n6 c6 p3 p4 n3 c3 n4 c4 g b gg (gb' (by decide)) o.1.1 o.1.2.1 o.1.2.2 W (Hid.up_tz hT hW) (h5.up hW) (h6.up hW) hc6 (h3.up hW) (h4.up hW) hc4
 clear eR h1 h2 h3 h4 h5 h6 hT hK ga gg gb' hE eg hc2 hc4 hc6
 go_enter Tryz.func106,Tryz.ntmps106
 go_wp2_with fail
 generalize hW0:World.alloc _ _=W0
 have HB0:=hidB (w:=w) hW0 (by go_grown)
 have XR:Hid (Cel W0 (w.heap.size+4) (.slice none 0 0) (.slice none 0 0)):=celW hW0 (by simp [go_sem])
 clear hW0
 refine (cc.out W0 HB0.out).mono ?_
 rintro e w1 ⟨v1,rfl,⟨s1,t1,rfl,hs,ht⟩,hB1⟩
 obtain ⟨pa,na,ca,rfl⟩:=hs.form_
 obtain ⟨pb,nb,cb,rfl⟩:=ht.form_
 clear cc
 obtain ⟨HF,r0,r1,r2,r3,z0,z1⟩:=fin2 XR HB0 hB1 hs ht (by omega)
 clear hs ht
 go_wp2
 exact bodyPost_ret (v:=.tuple #[.agg #[.slice pa na ca,.slice pb nb cb],.int .i64 0]) (by simp [results,Tryz.results106,go_sem,z0,z1]) rfl ⟨_,rfl,HF.out⟩
theorem ga7:GvP 106 onA 7:=by
 intro ps pt p p2 p3 p4 p5 p6 ns cs nt ct n c n2 c2 n3 c3 n4 c4 n5 c5 n6 c6 A B K a b g hK ok hc2 hc4 hc6 w hT h1 h2 h3 h4 h5 h6
 obtain ⟨ga,gg,gb',hE,eg⟩:=ok
 obtain ⟨R,eR⟩:∃ R,onA 7 K a b g=R:=⟨_,rfl⟩
 rw [eR]
 have cc:Hid (∀ W,Below w.heap.size w W→Calls Tryz.prog 47 #[.agg #[.slice p5 n5 c5,.slice p6 n6 c6]] W fun e w'=>∃ v',e = .returned (.tuple #[v',.int .i64 0])∧TRes w' W.heap.size v' R.1 R.2∧Below W.heap.size W w'):=fun W hW=>by
  rw [← eR]
  have:=flip_any p5 p6 n5 c5 n6 c6 g.1 g.2 gg.2.1 W (h5.up hW) (h6.up hW)
  rw [ok_flip ga hE gg eg] at this
  exact this
 clear eR h1 h2 h3 h4 h5 h6 hT hK ga gg gb' hE eg hc2 hc4 hc6
 go_enter Tryz.func106,Tryz.ntmps106
 go_wp2_with fail
 generalize hW0:World.alloc _ _=W0
 have HB0:=hidB (w:=w) hW0 (by go_grown)
 have XR:Hid (Cel W0 (w.heap.size+4) (.slice none 0 0) (.slice none 0 0)):=celW hW0 (by simp [go_sem])
 clear hW0
 refine (cc.out W0 HB0.out).mono ?_
 rintro e w1 ⟨v1,rfl,⟨s1,t1,rfl,hs,ht⟩,hB1⟩
 obtain ⟨pa,na,ca,rfl⟩:=hs.form_
 obtain ⟨pb,nb,cb,rfl⟩:=ht.form_
 clear cc
 obtain ⟨HF,r0,r1,r2,r3,z0,z1⟩:=fin2 XR HB0 hB1 hs ht (by omega)
 clear hs ht
 go_wp2
 exact bodyPost_ret (v:=.tuple #[.agg #[.slice pa na ca,.slice pb nb cb],.int .i64 0]) (by simp [results,Tryz.results106,go_sem,z0,z1]) rfl ⟨_,rfl,HF.out⟩
theorem ga8:GvP 106 onA 8:=by
 intro ps pt p p2 p3 p4 p5 p6 ns cs nt ct n c n2 c2 n3 c3 n4 c4 n5 c5 n6 c6 A B K a b g hK ok hc2 hc4 hc6 w hT h1 h2 h3 h4 h5 h6
 obtain ⟨ga,gg,gb',hE,eg⟩:=ok
 obtain ⟨R,eR⟩:∃ R,onA 8 K a b g=R:=⟨_,rfl⟩
 rw [eR]
 have cc:Hid (∀ W,Below w.heap.size w W→Calls Tryz.prog 155 #[.agg #[.slice p5 n5 c5,.slice p6 n6 c6],.slice p n c,.int .i64 K] W fun e w'=>∃ v',e = .returned (.tuple #[v',.int .i64 0])∧TRes w' W.heap.size v' R.1 R.2∧Below W.heap.size W w'):=fun W hW=>by
  rw [← eR]
  obtain ⟨s,rfl,hs,o1,o2,o3⟩:=ok_along ga hE gg eg
  exact cspread_any p5 p6 n5 c5 n6 c6 p n c g a.1 _ s gg ga.1.1 hs o1 o2 o3 W (h5.up hW) (h6.up hW) (h1.up hW)
 clear eR h1 h2 h3 h4 h5 h6 hT hK ga gg gb' hE eg hc2 hc4 hc6
 go_enter Tryz.func106,Tryz.ntmps106
 go_wp2_with fail
 generalize hW0:World.alloc _ _=W0
 have HB0:=hidB (w:=w) hW0 (by go_grown)
 have XR:Hid (Cel W0 (w.heap.size+4) (.slice none 0 0) (.slice none 0 0)):=celW hW0 (by simp [go_sem])
 clear hW0
 refine (cc.out W0 HB0.out).mono ?_
 rintro e w1 ⟨v1,rfl,⟨s1,t1,rfl,hs,ht⟩,hB1⟩
 obtain ⟨pa,na,ca,rfl⟩:=hs.form_
 obtain ⟨pb,nb,cb,rfl⟩:=ht.form_
 clear cc
 obtain ⟨HF,r0,r1,r2,r3,z0,z1⟩:=fin2 XR HB0 hB1 hs ht (by omega)
 clear hs ht
 go_wp2
 exact bodyPost_ret (v:=.tuple #[.agg #[.slice pa na ca,.slice pb nb cb],.int .i64 0]) (by simp [results,Tryz.results106,go_sem,z0,z1]) rfl ⟨_,rfl,HF.out⟩
theorem ga11:GvP 106 onA 11:=by
 intro ps pt p p2 p3 p4 p5 p6 ns cs nt ct n c n2 c2 n3 c3 n4 c4 n5 c5 n6 c6 A B K a b g hK ok hc2 hc4 hc6 w hT h1 h2 h3 h4 h5 h6
 obtain ⟨ga,gg,gb',hE,eg⟩:=ok
 obtain ⟨R,eR⟩:∃ R,onA 11 K a b g=R:=⟨_,rfl⟩
 rw [eR]
 have cc:Hid (∀ W,Below w.heap.size w W→Calls Tryz.prog 157 #[.int .i64 K,.agg #[.slice p n c,.slice p2 n2 c2],.agg #[.slice p5 n5 c5,.slice p6 n6 c6]] W fun e w'=>∃ v',e = .returned (.tuple #[v',.int .i64 0])∧TRes w' W.heap.size v' R.1 R.2∧Below W.heap.size W w'):=fun W hW=>by
  rw [← eR]
  have:=aback_any K p p2 p5 p6 n c n2 c2 n5 c5 n6 c6 a.1 a.2 g.1 g.2 ga.2.1 ga.2.2 gg.2.1 gg.2.2 W (h1.up hW) (h2.up hW) (h5.up hW) (h6.up hW)
  rw [ok_bend ga hE gg eg] at this
  exact this
 clear eR h1 h2 h3 h4 h5 h6 hT hK ga gg gb' hE eg hc2 hc4 hc6
 go_enter Tryz.func106,Tryz.ntmps106
 go_wp2_with fail
 generalize hW0:World.alloc _ _=W0
 have HB0:=hidB (w:=w) hW0 (by go_grown)
 have XR:Hid (Cel W0 (w.heap.size+4) (.slice none 0 0) (.slice none 0 0)):=celW hW0 (by simp [go_sem])
 clear hW0
 refine (cc.out W0 HB0.out).mono ?_
 rintro e w1 ⟨v1,rfl,⟨s1,t1,rfl,hs,ht⟩,hB1⟩
 obtain ⟨pa,na,ca,rfl⟩:=hs.form_
 obtain ⟨pb,nb,cb,rfl⟩:=ht.form_
 clear cc
 obtain ⟨HF,r0,r1,r2,r3,z0,z1⟩:=fin2 XR HB0 hB1 hs ht (by omega)
 clear hs ht
 go_wp2
 exact bodyPost_ret (v:=.tuple #[.agg #[.slice pa na ca,.slice pb nb cb],.int .i64 0]) (by simp [results,Tryz.results106,go_sem,z0,z1]) rfl ⟨_,rfl,HF.out⟩
theorem ga14:GvP 106 onA 14:=by
 intro ps pt p p2 p3 p4 p5 p6 ns cs nt ct n c n2 c2 n3 c3 n4 c4 n5 c5 n6 c6 A B K a b g hK ok hc2 hc4 hc6 w hT h1 h2 h3 h4 h5 h6
 obtain ⟨ga,gg,gb',hE,eg⟩:=ok
 obtain ⟨R,eR⟩:∃ R,onA 14 K a b g=R:=⟨_,rfl⟩
 rw [eR]
 have cc:Hid (∀ W,Below w.heap.size w W→Calls Tryz.prog 55 #[.agg #[.slice p5 n5 c5,.slice p6 n6 c6],.slice p n c] W fun e w'=>∃ v',e = .returned (.tuple #[v',.int .i64 0])∧TRes w' W.heap.size v' R.1 R.2∧Below W.heap.size W w'):=fun W hW=>by
  rw [← eR]
  have:=treshape_any p5 p6 p n5 c5 n6 c6 n c g.1 g.2 a.1 gg.2.1 ga.2.1 W (h5.up hW) (h6.up hW) (h1.up hW)
  rw [ok_line ga hE gg eg] at this
  exact this
 clear eR h1 h2 h3 h4 h5 h6 hT hK ga gg gb' hE eg hc2 hc4 hc6
 go_enter Tryz.func106,Tryz.ntmps106
 go_wp2_with fail
 generalize hW0:World.alloc _ _=W0
 have HB0:=hidB (w:=w) hW0 (by go_grown)
 have XR:Hid (Cel W0 (w.heap.size+4) (.slice none 0 0) (.slice none 0 0)):=celW hW0 (by simp [go_sem])
 clear hW0
 refine (cc.out W0 HB0.out).mono ?_
 rintro e w1 ⟨v1,rfl,⟨s1,t1,rfl,hs,ht⟩,hB1⟩
 obtain ⟨pa,na,ca,rfl⟩:=hs.form_
 obtain ⟨pb,nb,cb,rfl⟩:=ht.form_
 clear cc
 obtain ⟨HF,r0,r1,r2,r3,z0,z1⟩:=fin2 XR HB0 hB1 hs ht (by omega)
 clear hs ht
 go_wp2
 exact bodyPost_ret (v:=.tuple #[.agg #[.slice pa na ca,.slice pb nb cb],.int .i64 0]) (by simp [results,Tryz.results106,go_sem,z0,z1]) rfl ⟨_,rfl,HF.out⟩
theorem ga13:GvP 106 onA 13:=by
 intro ps pt p p2 p3 p4 p5 p6 ns cs nt ct n c n2 c2 n3 c3 n4 c4 n5 c5 n6 c6 A B K a b g hK ok hc2 hc4 hc6 w hT h1 h2 h3 h4 h5 h6
 obtain ⟨ga,gg,gb',hE,eg⟩:=ok
 obtain ⟨R,eR⟩:∃ R,onA 13 K a b g=R:=⟨_,rfl⟩
 rw [eR]
 have cc:Hid (∀ W,Below w.heap.size w W→Calls Tryz.prog 159 #[.agg #[.slice p5 n5 c5,.slice p6 n6 c6],.agg #[.slice p n c,.slice p2 n2 c2],.int .i64 K] W fun e w'=>∃ v',e = .returned (.tuple #[v',.int .i64 0])∧TRes w' W.heap.size v' R.1 R.2∧Below W.heap.size W w'):=fun W hW=>by
  rw [← eR]
  obtain ⟨o1,o2,o3⟩:=ok_pool ga hE gg eg
  exact cplaces_any p5 p6 n5 c5 n6 c6 p p2 n c n2 c2 g a K gg ga hE o1 o2 o3 W (h5.up hW) (h6.up hW) (h1.up hW) (h2.up hW) hc2
 clear eR h1 h2 h3 h4 h5 h6 hT hK ga gg gb' hE eg hc2 hc4 hc6
 go_enter Tryz.func106,Tryz.ntmps106
 go_wp2_with fail
 generalize hW0:World.alloc _ _=W0
 have HB0:=hidB (w:=w) hW0 (by go_grown)
 have XR:Hid (Cel W0 (w.heap.size+4) (.slice none 0 0) (.slice none 0 0)):=celW hW0 (by simp [go_sem])
 clear hW0
 refine (cc.out W0 HB0.out).mono ?_
 rintro e w1 ⟨v1,rfl,⟨s1,t1,rfl,hs,ht⟩,hB1⟩
 obtain ⟨pa,na,ca,rfl⟩:=hs.form_
 obtain ⟨pb,nb,cb,rfl⟩:=ht.form_
 clear cc
 obtain ⟨HF,r0,r1,r2,r3,z0,z1⟩:=fin2 XR HB0 hB1 hs ht (by omega)
 clear hs ht
 go_wp2
 exact bodyPost_ret (v:=.tuple #[.agg #[.slice pa na ca,.slice pb nb cb],.int .i64 0]) (by simp [results,Tryz.results106,go_sem,z0,z1]) rfl ⟨_,rfl,HF.out⟩
theorem gb2:GvP 107 onB 2:=by
 intro ps pt p p2 p3 p4 p5 p6 ns cs nt ct n c n2 c2 n3 c3 n4 c4 n5 c5 n6 c6 A B K a b g hK ok hc2 hc4 hc6 w hT h1 h2 h3 h4 h5 h6
 obtain ⟨ga,gg,gb',hE,eg⟩:=ok
 obtain ⟨R,eR⟩:∃ R,onB 2 K a b g=R:=⟨_,rfl⟩
 rw [eR]
 have cc:Hid (∀ W,Below w.heap.size w W→Calls Tryz.prog 152 #[.agg #[.slice p5 n5 c5,.slice p6 n6 c6],.slice p3 n3 c3] W fun e w'=>∃ v',e = .returned (.tuple #[v',.int .i64 0])∧TRes w' W.heap.size v' R.1 R.2∧Below W.heap.size W w'):=fun W hW=>by
  rw [← eR]
  have o:=ok_each ga (gb' (by decide)) hE gg eg
  have:=tfold_any p5 p6 p3 n5 c5 n6 c6 n3 c3 g.1 g.2 b.1 gg.2.1 gg.2.2 (gb' (by decide)).2.1 W (h5.up hW) (h6.up hW) (h3.up hW)
  rw [o.1.2] at this
  exact this
 clear eR h1 h2 h3 h4 h5 h6 hT hK ga gg gb' hE eg hc2 hc4 hc6
 go_enter Tryz.func107,Tryz.ntmps107
 go_wp2_with fail
 generalize hW0:World.alloc _ _=W0
 have HB0:=hidB (w:=w) hW0 (by go_grown)
 have XR:Hid (Cel W0 (w.heap.size+4) (.slice none 0 0) (.slice none 0 0)):=celW hW0 (by simp [go_sem])
 clear hW0
 refine (cc.out W0 HB0.out).mono ?_
 rintro e w1 ⟨v1,rfl,⟨s1,t1,rfl,hs,ht⟩,hB1⟩
 obtain ⟨pa,na,ca,rfl⟩:=hs.form_
 obtain ⟨pb,nb,cb,rfl⟩:=ht.form_
 clear cc
 obtain ⟨HF,r0,r1,r2,r3,z0,z1⟩:=fin2 XR HB0 hB1 hs ht (by omega)
 clear hs ht
 go_wp2
 exact bodyPost_ret (v:=.tuple #[.agg #[.slice pa na ca,.slice pb nb cb],.int .i64 0]) (by simp [results,Tryz.results107,go_sem,z0,z1]) rfl ⟨_,rfl,HF.out⟩
theorem gb3:GvP 107 onB 3:=by
 intro ps pt p p2 p3 p4 p5 p6 ns cs nt ct n c n2 c2 n3 c3 n4 c4 n5 c5 n6 c6 A B K a b g hK ok hc2 hc4 hc6 w hT h1 h2 h3 h4 h5 h6
 obtain ⟨ga,gg,gb',hE,eg⟩:=ok
 obtain ⟨R,eR⟩:∃ R,onB 3 K a b g=R:=⟨_,rfl⟩
 rw [eR]
 have cc:Hid (∀ W,Below w.heap.size w W→Calls Tryz.prog 160 #[.agg #[.slice p5 n5 c5,.slice p6 n6 c6],.slice p3 n3 c3] W fun e w'=>∃ v',e = .returned (.tuple #[v',.int .i64 0])∧TRes w' W.heap.size v' R.1 R.2∧Below W.heap.size W w'):=fun W hW=>by
  rw [← eR]
  have o:=ok_each ga (gb' (by decide)) hE gg eg
  exact cawayf_any p5 p6 n5 c5 n6 c6 p3 n3 c3 g b.1 gg (gb' (by decide)).2.1 o.2.1.2 o.2.1.1 W (h5.up hW) (h6.up hW) hc6 (h3.up hW)
 clear eR h1 h2 h3 h4 h5 h6 hT hK ga gg gb' hE eg hc2 hc4 hc6
 go_enter Tryz.func107,Tryz.ntmps107
 go_wp2_with fail
 generalize hW0:World.alloc _ _=W0
 have HB0:=hidB (w:=w) hW0 (by go_grown)
 have XR:Hid (Cel W0 (w.heap.size+4) (.slice none 0 0) (.slice none 0 0)):=celW hW0 (by simp [go_sem])
 clear hW0
 refine (cc.out W0 HB0.out).mono ?_
 rintro e w1 ⟨v1,rfl,⟨s1,t1,rfl,hs,ht⟩,hB1⟩
 obtain ⟨pa,na,ca,rfl⟩:=hs.form_
 obtain ⟨pb,nb,cb,rfl⟩:=ht.form_
 clear cc
 obtain ⟨HF,r0,r1,r2,r3,z0,z1⟩:=fin2 XR HB0 hB1 hs ht (by omega)
 clear hs ht
 go_wp2
 exact bodyPost_ret (v:=.tuple #[.agg #[.slice pa na ca,.slice pb nb cb],.int .i64 0]) (by simp [results,Tryz.results107,go_sem,z0,z1]) rfl ⟨_,rfl,HF.out⟩
theorem gb4:GvP 107 onB 4:=by
 intro ps pt p p2 p3 p4 p5 p6 ns cs nt ct n c n2 c2 n3 c3 n4 c4 n5 c5 n6 c6 A B K a b g hK ok hc2 hc4 hc6 w hT h1 h2 h3 h4 h5 h6
 obtain ⟨ga,gg,gb',hE,eg⟩:=ok
 obtain ⟨R,eR⟩:∃ R,onB 4 K a b g=R:=⟨_,rfl⟩
 rw [eR]
 have cc:Hid (∀ W,Below w.heap.size w W→Calls Tryz.prog 153 #[.agg #[.slice p5 n5 c5,.slice p6 n6 c6],.agg #[.slice p n c,.slice p2 n2 c2],.slice p3 n3 c3] W fun e w'=>∃ v',e = .returned (.tuple #[v',.int .i64 0])∧TRes w' W.heap.size v' R.1 R.2∧Below W.heap.size W w'):=fun W hW=>by
  rw [← eR]
  have o:=ok_each ga (gb' (by decide)) hE gg eg
  exact ctimesf_any p5 p6 n5 c5 n6 c6 p p2 n c n2 c2 p3 n3 c3 g a b.1 gg ga (gb' (by decide)).2.1 o.2.2.2.1 o.2.2.2.2.2 o.2.2.2.2.1 W (h5.up hW) (h6.up hW) hc6 (h1.up hW) (h2.up hW) hc2 (h3.up hW)
 clear eR h1 h2 h3 h4 h5 h6 hT hK ga gg gb' hE eg hc2 hc4 hc6
 go_enter Tryz.func107,Tryz.ntmps107
 go_wp2_with fail
 generalize hW0:World.alloc _ _=W0
 have HB0:=hidB (w:=w) hW0 (by go_grown)
 have XR:Hid (Cel W0 (w.heap.size+4) (.slice none 0 0) (.slice none 0 0)):=celW hW0 (by simp [go_sem])
 clear hW0
 refine (cc.out W0 HB0.out).mono ?_
 rintro e w1 ⟨v1,rfl,⟨s1,t1,rfl,hs,ht⟩,hB1⟩
 obtain ⟨pa,na,ca,rfl⟩:=hs.form_
 obtain ⟨pb,nb,cb,rfl⟩:=ht.form_
 clear cc
 obtain ⟨HF,r0,r1,r2,r3,z0,z1⟩:=fin2 XR HB0 hB1 hs ht (by omega)
 clear hs ht
 go_wp2
 exact bodyPost_ret (v:=.tuple #[.agg #[.slice pa na ca,.slice pb nb cb],.int .i64 0]) (by simp [results,Tryz.results107,go_sem,z0,z1]) rfl ⟨_,rfl,HF.out⟩
theorem gb6:GvP 107 onB 6:=by
 intro ps pt p p2 p3 p4 p5 p6 ns cs nt ct n c n2 c2 n3 c3 n4 c4 n5 c5 n6 c6 A B K a b g hK ok hc2 hc4 hc6 w hT h1 h2 h3 h4 h5 h6
 obtain ⟨ga,gg,gb',hE,eg⟩:=ok
 obtain ⟨R,eR⟩:∃ R,onB 6 K a b g=R:=⟨_,rfl⟩
 rw [eR]
 have cc:Hid (∀ W,Below w.heap.size w W→Calls Tryz.prog 161 #[.agg #[.slice p n c,.slice p2 n2 c2],.agg #[.slice p5 n5 c5,.slice p6 n6 c6]] W fun e w'=>∃ v',e = .returned (.tuple #[v',.int .i64 0])∧TRes w' W.heap.size v' R.1 R.2∧Below W.heap.size W w'):=fun W hW=>by
  rw [← eR]
  have o:=ok_mul ga (gb' (by decide)) hE gg eg
  exact cltimes_any p p2 n c n2 c2 p5 p6 n5 c5 n6 c6 g a gg ga o.2.1 o.2.2.1 o.2.2.2 W (Hid.up_tz hT hW) (h1.up hW) (h2.up hW) hc2 (h5.up hW) (h6.up hW) hc6
 clear eR h1 h2 h3 h4 h5 h6 hT hK ga gg gb' hE eg hc2 hc4 hc6
 go_enter Tryz.func107,Tryz.ntmps107
 go_wp2_with fail
 generalize hW0:World.alloc _ _=W0
 have HB0:=hidB (w:=w) hW0 (by go_grown)
 have XR:Hid (Cel W0 (w.heap.size+4) (.slice none 0 0) (.slice none 0 0)):=celW hW0 (by simp [go_sem])
 clear hW0
 refine (cc.out W0 HB0.out).mono ?_
 rintro e w1 ⟨v1,rfl,⟨s1,t1,rfl,hs,ht⟩,hB1⟩
 obtain ⟨pa,na,ca,rfl⟩:=hs.form_
 obtain ⟨pb,nb,cb,rfl⟩:=ht.form_
 clear cc
 obtain ⟨HF,r0,r1,r2,r3,z0,z1⟩:=fin2 XR HB0 hB1 hs ht (by omega)
 clear hs ht
 go_wp2
 exact bodyPost_ret (v:=.tuple #[.agg #[.slice pa na ca,.slice pb nb cb],.int .i64 0]) (by simp [results,Tryz.results107,go_sem,z0,z1]) rfl ⟨_,rfl,HF.out⟩
theorem ga9:GvP 106 onA 9:=by
 intro ps pt p p2 p3 p4 p5 p6 ns cs nt ct n c n2 c2 n3 c3 n4 c4 n5 c5 n6 c6 A B K a b g hK ok hc2 hc4 hc6 w hT h1 h2 h3 h4 h5 h6
 obtain ⟨ga,gg,gb',hE,eg⟩:=ok
 obtain ⟨R,eR⟩:∃ R,onA 9 K a b g=R:=⟨_,rfl⟩
 rw [eR]
 obtain ⟨G,eG⟩:∃ G,g.2.getD 0 0=G:=⟨_,rfl⟩
 have HG0:Hid (∃ q o,p6=some ⟨q,o,none⟩∧w.cell? ⟨q,o,none⟩=some (.int .i64 G)∧0 < n6):=by
  have h1:0 < g.2.length:=by rw [gg.1.2];exact prodN_pos gg.1.1.2.1
  obtain ⟨p_,c_,e_,hv⟩:=h6.view
  cases e_
  obtain ⟨q',o',e1,e2⟩:=hv 0 h1
  rw [eG,Nat.add_zero] at e2
  exact ⟨q',o',e1,e2,h1⟩
 have cc:Hid (∀ W,Below w.heap.size w W→Calls Tryz.prog 57 #[.slice p n c,.int .i64 G] W fun e w'=>∃ v',e = .returned (.tuple #[v',.int .i64 0])∧TRes w' W.heap.size v' R.1 R.2∧Below W.heap.size W w'):=fun W hW=>by
  rw [← eR]
  have:=tnew_any (.slice p n c) a.1 ga.2.1 G W (h1.up hW)
  rw [show newE a.1=0 from if_pos ga.1.1,show newD a.1=a.1 from if_pos ga.1.1,show newV a.1 G=List.replicate (prodN (ntl a.1)) G from if_pos ga.1.1,← eG] at this
  rw [← eG]
  exact this
 clear h1 h2 h3 h4 h5 h6
 obtain ⟨q6,o6,rfl,d6,hn6⟩:=HG0.out
 have hn6':(0:Int) < (n6:Int):=by omega
 clear eR hT hK ga gg gb' hE eg hc2 hc4 hc6
 go_enter Tryz.func106,Tryz.ntmps106
 go_wp2_with fail
 generalize hW0:World.alloc _ _=W0
 have HB0:=hidB (w:=w) hW0 (by go_grown)
 have XR:Hid (Cel W0 (w.heap.size+4) (.slice none 0 0) (.slice none 0 0)):=celW hW0 (by simp [go_sem])
 have XA:Cel W0 (w.heap.size+1) (.slice p n c) (.slice p2 n2 c2):=(celW hW0 (by simp [go_sem])).out
 obtain ⟨xa0,xa1,_,_⟩:=XA
 have ka:=cell_lt xa0
 have XG:Cel W0 (w.heap.size+3) (.slice p5 n5 c5) (.slice (some ⟨q6,o6,none⟩) n6 c6):=(celW hW0 (by simp [go_sem])).out
 obtain ⟨xg0,xg1,_,_⟩:=XG
 have kg:=cell_lt xg0
 have c6_:=cell_low d6 HB0.out
 have k6:=cell_lt c6_
 clear hW0
 refine relE [⟨6,69,TupP W0.heap.size R.1 R.2 0⟩,⟨7,70,OwnT W0.heap.size R.1 R.2⟩] 9 123 (by kernel_rfl) rfl rfl 8 _ rfl (by decide) rfl (by kernel_rfl) (by kernel_rfl) (fun _ _ _ _ h=>h) (by rfl) ?_ ?_
 ·intro e he v W W' h hb
  simp only [List.mem_cons,List.not_mem_nil,or_false] at he
  rcases he with rfl|rfl
  ·exact TupP.up h hb
  ·exact OwnT.up h hb
 apply Exists.intro
 refine ⟨?yl1,?wk1,?pk1,?rest1⟩
 case wk1=>
  intro x
  simp only [List.take_succ_cons,List.take_zero]
  iterate 6
   refine relQuiet rfl rfl ?_
   apply Exists.intro
   refine ⟨fun F hF hf K hK=>?_,?_⟩
   ·have hFc:=hF.cell
    have hFf:=hF.frozen
    go_big_quiet_op
    first|exact hK|(apply Exists.intro;refine ⟨fun _=>?_,?_⟩;(· fail);exact hK)
   (try simp only [Act.put,List.setIfInBounds_toArray,List.set_cons_zero,List.set_cons_succ])
  refine relTold rfl rfl ?_ ?_
  ·intro F hF hf d
   have hFc:=hF.cell
   have hFf:=hF.frozen
   simp [yieldsR,yieldsUpon,go_sem]
   refine (cc.out (F d) (bstep HB0.out (hF.below d))).mono ?_
   rintro e' w8 ⟨v8,rfl,h8,hb8⟩
   exact ⟨_,rfl,⟨v8,rfl,(h8.low (hF.below d).size).own⟩,hb8⟩
  (try simp only [Act.put,List.setIfInBounds_toArray,List.set_cons_zero,List.set_cons_succ])
  refine relTold rfl rfl ?_ ?_
  ·intro F hF hf d
   have hFc:=hF.cell
   have hFf:=hF.frozen
   have h9:=hf _ List.mem_cons_self (by rfl) d
   obtain ⟨u9,e9,n9⟩:=h9
   simp only [] at e9 n9
   simp [yieldsR,yieldsUpon,go_sem,e9]
   exact ⟨n9,Below.refl _ _⟩
  (try simp only [Act.put,List.setIfInBounds_toArray,List.set_cons_zero,List.set_cons_succ])
  refine relQuiet rfl rfl ?_
  apply Exists.intro
  refine ⟨fun F hF hf K hK=>?_,?_⟩
  ·have hFc:=hF.cell
   have hFf:=hF.frozen
   have h9:=hf _ List.mem_cons_self (by rfl)
   obtain ⟨u9,e9,_⟩:=h9 W0
   simp only [] at e9
   go_big_quiet_op
   first|exact hK|(apply Exists.intro;refine ⟨fun _=>?_,?_⟩;(· fail);exact hK)
  (try simp only [Act.put,List.setIfInBounds_toArray,List.set_cons_zero,List.set_cons_succ])
  refine relEnd ?_
  exact rfl
 case pk1=>
  intro x
  simp only [putsK,List.foldl_cons,List.foldl_nil,Act.put,List.setIfInBounds_toArray,List.set_cons_zero,List.set_cons_succ]
 case yl1=>
  intro x hx
  obtain ⟨W9,u9,e9,_⟩:=hx _ List.mem_cons_self (by rfl)
  simp only [] at e9
  refine ⟨.int .i64 0,fun t ht=>?_,.inl ⟨by rfl,fun w=>?_⟩⟩
  ·cases ht
   rfl
  ·simp [execOp,Act.eval,e9,go_sem]
 intro zz xs hBz1 hf
 simp only [List.drop_succ_cons,List.drop_zero]
 obtain ⟨pa,na,ca,pb,nb,cb,ev,hs,ht⟩:=hf _ (List.mem_cons_of_mem _ List.mem_cons_self)
 simp only [] at ev
 obtain ⟨x4,e4⟩:∃ q,xs 6=q:=⟨_,rfl⟩
 simp only [ev,e4]
 obtain ⟨HF,r0,r1,r2,r3,z0,z1⟩:=fin2 XR HB0 hBz1 hs ht (by omega)
 have rk:=cell_lt r0
 clear hs ht hBz1 hf cc xa0 xa1 xg0 xg1 c6_
 go_wp2
 exact bodyPost_ret (v:=.tuple #[.agg #[.slice pa na ca,.slice pb nb cb],.int .i64 0]) (by simp [results,Tryz.results106,go_sem,z0,z1]) rfl ⟨_,rfl,HF.out⟩
theorem ga10:GvP 106 onA 10:=by
 intro ps pt p p2 p3 p4 p5 p6 ns cs nt ct n c n2 c2 n3 c3 n4 c4 n5 c5 n6 c6 A B K a b g hK ok hc2 hc4 hc6 w hT h1 h2 h3 h4 h5 h6
 obtain ⟨ga,gg,gb',hE,eg⟩:=ok
 obtain ⟨R,eR⟩:∃ R,onA 10 K a b g=R:=⟨_,rfl⟩
 rw [eR]
 obtain ⟨G,eG⟩:∃ G,g.2.getD 0 0=G:=⟨_,rfl⟩
 have HG0:Hid (∃ q o,p6=some ⟨q,o,none⟩∧w.cell? ⟨q,o,none⟩=some (.int .i64 G)∧0 < n6):=by
  have h1:0 < g.2.length:=by rw [gg.1.2];exact prodN_pos gg.1.1.2.1
  obtain ⟨p_,c_,e_,hv⟩:=h6.view
  cases e_
  obtain ⟨q',o',e1,e2⟩:=hv 0 h1
  rw [eG,Nat.add_zero] at e2
  exact ⟨q',o',e1,e2,h1⟩
 have cc:Hid (∀ W,Below w.heap.size w W→Calls Tryz.prog 156 #[.int .i64 G,.slice p n c] W fun e w'=>∃ v',e = .returned (.tuple #[v',.int .i64 0])∧TRes w' W.heap.size v' R.1 R.2∧Below W.heap.size W w'):=fun W hW=>by
  rw [← eR]
  have:=cshared_any p n c a.1 G (by rw [← eG];exact InR_get gg.2.2 0) ga.1.1 W (h1.up hW)
  rw [← eG,← ga.1.2] at this
  rw [← eG]
  show Calls _ _ _ _ fun e w'=>∃ v',e=_∧TRes w' _ v' a.1 (List.replicate (prodN (ntl a.1)) (Fx.hold (rqI (g.2.getD 0 0) (a.2.length:Int))))∧_
  rw [← ga.1.2]
  exact this
 clear h1 h2 h3 h4 h5 h6
 obtain ⟨q6,o6,rfl,d6,hn6⟩:=HG0.out
 have hn6':(0:Int) < (n6:Int):=by omega
 clear eR hT hK ga gg gb' hE eg hc2 hc4 hc6
 go_enter Tryz.func106,Tryz.ntmps106
 go_wp2_with fail
 generalize hW0:World.alloc _ _=W0
 have HB0:=hidB (w:=w) hW0 (by go_grown)
 have XR:Hid (Cel W0 (w.heap.size+4) (.slice none 0 0) (.slice none 0 0)):=celW hW0 (by simp [go_sem])
 have XA:Cel W0 (w.heap.size+1) (.slice p n c) (.slice p2 n2 c2):=(celW hW0 (by simp [go_sem])).out
 obtain ⟨xa0,xa1,_,_⟩:=XA
 have ka:=cell_lt xa0
 have XG:Cel W0 (w.heap.size+3) (.slice p5 n5 c5) (.slice (some ⟨q6,o6,none⟩) n6 c6):=(celW hW0 (by simp [go_sem])).out
 obtain ⟨xg0,xg1,_,_⟩:=XG
 have kg:=cell_lt xg0
 have c6_:=cell_low d6 HB0.out
 have k6:=cell_lt c6_
 clear hW0
 refine relE [⟨6,80,TupP W0.heap.size R.1 R.2 0⟩,⟨7,81,OwnT W0.heap.size R.1 R.2⟩] 9 123 (by kernel_rfl) rfl rfl 8 _ rfl (by decide) rfl (by kernel_rfl) (by kernel_rfl) (fun _ _ _ _ h=>h) (by rfl) ?_ ?_
 ·intro e he v W W' h hb
  simp only [List.mem_cons,List.not_mem_nil,or_false] at he
  rcases he with rfl|rfl
  ·exact TupP.up h hb
  ·exact OwnT.up h hb
 apply Exists.intro
 refine ⟨?yl1,?wk1,?pk1,?rest1⟩
 case wk1=>
  intro x
  simp only [List.take_succ_cons,List.take_zero]
  iterate 6
   refine relQuiet rfl rfl ?_
   apply Exists.intro
   refine ⟨fun F hF hf K hK=>?_,?_⟩
   ·have hFc:=hF.cell
    have hFf:=hF.frozen
    go_big_quiet_op
    first|exact hK|(apply Exists.intro;refine ⟨fun _=>?_,?_⟩;(· fail);exact hK)
   (try simp only [Act.put,List.setIfInBounds_toArray,List.set_cons_zero,List.set_cons_succ])
  refine relTold rfl rfl ?_ ?_
  ·intro F hF hf d
   have hFc:=hF.cell
   have hFf:=hF.frozen
   simp [yieldsR,yieldsUpon,go_sem]
   refine (cc.out (F d) (bstep HB0.out (hF.below d))).mono ?_
   rintro e' w8 ⟨v8,rfl,h8,hb8⟩
   exact ⟨_,rfl,⟨v8,rfl,(h8.low (hF.below d).size).own⟩,hb8⟩
  (try simp only [Act.put,List.setIfInBounds_toArray,List.set_cons_zero,List.set_cons_succ])
  refine relTold rfl rfl ?_ ?_
  ·intro F hF hf d
   have hFc:=hF.cell
   have hFf:=hF.frozen
   have h9:=hf _ List.mem_cons_self (by rfl) d
   obtain ⟨u9,e9,n9⟩:=h9
   simp only [] at e9 n9
   simp [yieldsR,yieldsUpon,go_sem,e9]
   exact ⟨n9,Below.refl _ _⟩
  (try simp only [Act.put,List.setIfInBounds_toArray,List.set_cons_zero,List.set_cons_succ])
  refine relQuiet rfl rfl ?_
  apply Exists.intro
  refine ⟨fun F hF hf K hK=>?_,?_⟩
  ·have hFc:=hF.cell
   have hFf:=hF.frozen
   have h9:=hf _ List.mem_cons_self (by rfl)
   obtain ⟨u9,e9,_⟩:=h9 W0
   simp only [] at e9
   go_big_quiet_op
   first|exact hK|(apply Exists.intro;refine ⟨fun _=>?_,?_⟩;(· fail);exact hK)
  (try simp only [Act.put,List.setIfInBounds_toArray,List.set_cons_zero,List.set_cons_succ])
  refine relEnd ?_
  exact rfl
 case pk1=>
  intro x
  simp only [putsK,List.foldl_cons,List.foldl_nil,Act.put,List.setIfInBounds_toArray,List.set_cons_zero,List.set_cons_succ]
 case yl1=>
  intro x hx
  obtain ⟨W9,u9,e9,_⟩:=hx _ List.mem_cons_self (by rfl)
  simp only [] at e9
  refine ⟨.int .i64 0,fun t ht=>?_,.inl ⟨by rfl,fun w=>?_⟩⟩
  ·cases ht
   rfl
  ·simp [execOp,Act.eval,e9,go_sem]
 intro zz xs hBz1 hf
 simp only [List.drop_succ_cons,List.drop_zero]
 obtain ⟨pa,na,ca,pb,nb,cb,ev,hs,ht⟩:=hf _ (List.mem_cons_of_mem _ List.mem_cons_self)
 simp only [] at ev
 obtain ⟨x4,e4⟩:∃ q,xs 6=q:=⟨_,rfl⟩
 simp only [ev,e4]
 obtain ⟨HF,r0,r1,r2,r3,z0,z1⟩:=fin2 XR HB0 hBz1 hs ht (by omega)
 have rk:=cell_lt r0
 clear hs ht hBz1 hf cc xa0 xa1 xg0 xg1 c6_
 go_wp2
 exact bodyPost_ret (v:=.tuple #[.agg #[.slice pa na ca,.slice pb nb cb],.int .i64 0]) (by simp [results,Tryz.results106,go_sem,z0,z1]) rfl ⟨_,rfl,HF.out⟩
theorem ga12:GvP 106 onA 12:=by
 intro ps pt p p2 p3 p4 p5 p6 ns cs nt ct n c n2 c2 n3 c3 n4 c4 n5 c5 n6 c6 A B K a b g hK ok hc2 hc4 hc6 w hT h1 h2 h3 h4 h5 h6
 obtain ⟨ga,gg,gb',hE,eg⟩:=ok
 obtain ⟨R,eR⟩:∃ R,onA 12 K a b g=R:=⟨_,rfl⟩
 rw [eR]
 obtain ⟨LG,eL⟩:∃ LG,a.1.getD 1 0=LG:=⟨_,rfl⟩
 have HG0:Hid (∃ q o,p=some ⟨q,o,none⟩∧w.cell? ⟨q,o+1,none⟩=some (.int .i64 LG)∧1 < n):=by
  have h1_:1 < a.1.length:=by
   have:=(ok_row ga (gb' (by decide)) hE gg eg).2
   omega
  obtain ⟨p_,c_,e_,hv⟩:=h1.view
  cases e_
  obtain ⟨q',o',e1,e2⟩:=hv 1 h1_
  rw [eL] at e2
  exact ⟨q',o',e1,e2,h1_⟩
 have cc:Hid (∀ W,Below w.heap.size w W→Calls Tryz.prog 158 #[.agg #[.slice p5 n5 c5,.slice p6 n6 c6],.agg #[.slice p3 n3 c3,.slice p4 n4 c4],.int .i64 K,.int .i64 LG] W fun e w'=>∃ v',e = .returned (.tuple #[v',.int .i64 0])∧TRes w' W.heap.size v' R.1 R.2∧Below W.heap.size W w'):=fun W hW=>by
  rw [← eR]
  have:=cin_any p5 p6 p3 p4 n5 c5 n6 c6 n3 c3 n4 c4 g.1 g.2 b.1 b.2 K (a.1.getD 1 0) gg.2.1 gg.2.2 (gb' (by decide)).2.1 (gb' (by decide)).2.2 W (Hid.up_tz hT hW) (h5.up hW) (h6.up hW) (h3.up hW) (h4.up hW)
  rw [(ok_row ga (gb' (by decide)) hE gg eg).1.1] at this
  rw [← eL]
  exact this
 clear h1 h2 h3 h4 h5 h6
 obtain ⟨q6,o6,rfl,d6,hn6⟩:=HG0.out
 have hn6':(1:Int) < (n:Int):=by omega
 clear eR hT hK ga gg gb' hE eg hc2 hc4 hc6
 go_enter Tryz.func106,Tryz.ntmps106
 go_wp2_with fail
 generalize hW0:World.alloc _ _=W0
 have HB0:=hidB (w:=w) hW0 (by go_grown)
 have XR:Hid (Cel W0 (w.heap.size+4) (.slice none 0 0) (.slice none 0 0)):=celW hW0 (by simp [go_sem])
 have XA:Cel W0 (w.heap.size+1) (.slice (some ⟨q6,o6,none⟩) n c) (.slice p2 n2 c2):=(celW hW0 (by simp [go_sem])).out
 obtain ⟨xa0,xa1,_,_⟩:=XA
 have ka:=cell_lt xa0
 have XB:Cel W0 (w.heap.size+2) (.slice p3 n3 c3) (.slice p4 n4 c4):=(celW hW0 (by simp [go_sem])).out
 obtain ⟨xb0,xb1,_,_⟩:=XB
 have kb:=cell_lt xb0
 have XG:Cel W0 (w.heap.size+3) (.slice p5 n5 c5) (.slice p6 n6 c6):=(celW hW0 (by simp [go_sem])).out
 obtain ⟨xg0,xg1,_,_⟩:=XG
 have kg:=cell_lt xg0
 have xk:W0.cell? ⟨w.heap.size,3,none⟩=some (.int .i64 K):=by rw [← hW0];simp [go_sem]
 have kk:=cell_lt xk
 have c6_:=cell_low d6 HB0.out
 have k6:=cell_lt c6_
 clear hW0
 refine relE [⟨8,102,TupP W0.heap.size R.1 R.2 0⟩,⟨9,103,OwnT W0.heap.size R.1 R.2⟩] 11 123 (by kernel_rfl) rfl rfl 10 _ rfl (by decide) rfl (by kernel_rfl) (by kernel_rfl) (fun _ _ _ _ h=>h) (by rfl) ?_ ?_
 ·intro e he v W W' h hb
  simp only [List.mem_cons,List.not_mem_nil,or_false] at he
  rcases he with rfl|rfl
  ·exact TupP.up h hb
  ·exact OwnT.up h hb
 apply Exists.intro
 refine ⟨?yl1,?wk1,?pk1,?rest1⟩
 case wk1=>
  intro x
  simp only [List.take_succ_cons,List.take_zero]
  iterate 8
   refine relQuiet rfl rfl ?_
   apply Exists.intro
   refine ⟨fun F hF hf K hK=>?_,?_⟩
   ·have hFc:=hF.cell
    have hFf:=hF.frozen
    go_big_quiet_op
    first|exact hK|(apply Exists.intro;refine ⟨fun _=>?_,?_⟩;(· fail);exact hK)
   (try simp only [Act.put,List.setIfInBounds_toArray,List.set_cons_zero,List.set_cons_succ])
  refine relTold rfl rfl ?_ ?_
  ·intro F hF hf d
   have hFc:=hF.cell
   have hFf:=hF.frozen
   simp [yieldsR,yieldsUpon,go_sem]
   refine (cc.out (F d) (bstep HB0.out (hF.below d))).mono ?_
   rintro e' w8 ⟨v8,rfl,h8,hb8⟩
   exact ⟨_,rfl,⟨v8,rfl,(h8.low (hF.below d).size).own⟩,hb8⟩
  (try simp only [Act.put,List.setIfInBounds_toArray,List.set_cons_zero,List.set_cons_succ])
  refine relTold rfl rfl ?_ ?_
  ·intro F hF hf d
   have hFc:=hF.cell
   have hFf:=hF.frozen
   have h9:=hf _ List.mem_cons_self (by rfl) d
   obtain ⟨u9,e9,n9⟩:=h9
   simp only [] at e9 n9
   simp [yieldsR,yieldsUpon,go_sem,e9]
   exact ⟨n9,Below.refl _ _⟩
  (try simp only [Act.put,List.setIfInBounds_toArray,List.set_cons_zero,List.set_cons_succ])
  refine relQuiet rfl rfl ?_
  apply Exists.intro
  refine ⟨fun F hF hf K hK=>?_,?_⟩
  ·have hFc:=hF.cell
   have hFf:=hF.frozen
   have h9:=hf _ List.mem_cons_self (by rfl)
   obtain ⟨u9,e9,_⟩:=h9 W0
   simp only [] at e9
   go_big_quiet_op
   first|exact hK|(apply Exists.intro;refine ⟨fun _=>?_,?_⟩;(· fail);exact hK)
  (try simp only [Act.put,List.setIfInBounds_toArray,List.set_cons_zero,List.set_cons_succ])
  refine relEnd ?_
  exact rfl
 case pk1=>
  intro x
  simp only [putsK,List.foldl_cons,List.foldl_nil,Act.put,List.setIfInBounds_toArray,List.set_cons_zero,List.set_cons_succ]
 case yl1=>
  intro x hx
  obtain ⟨W9,u9,e9,_⟩:=hx _ List.mem_cons_self (by rfl)
  simp only [] at e9
  refine ⟨.int .i64 0,fun t ht=>?_,.inl ⟨by rfl,fun w=>?_⟩⟩
  ·cases ht
   rfl
  ·simp [execOp,Act.eval,e9,go_sem]
 intro zz xs hBz1 hf
 simp only [List.drop_succ_cons,List.drop_zero]
 obtain ⟨pa,na,ca,pb,nb,cb,ev,hs,ht⟩:=hf _ (List.mem_cons_of_mem _ List.mem_cons_self)
 simp only [] at ev
 obtain ⟨x4,e4⟩:∃ q,xs 8=q:=⟨_,rfl⟩
 simp only [ev,e4]
 obtain ⟨HF,r0,r1,r2,r3,z0,z1⟩:=fin2 XR HB0 hBz1 hs ht (by omega)
 have rk:=cell_lt r0
 clear hs ht hBz1 hf cc xa0 xa1 xb0 xb1 xg0 xg1 xk c6_
 go_wp2
 exact bodyPost_ret (v:=.tuple #[.agg #[.slice pa na ca,.slice pb nb cb],.int .i64 0]) (by simp [results,Tryz.results106,go_sem,z0,z1]) rfl ⟨_,rfl,HF.out⟩
theorem gb12:GvP 107 onB 12:=by
 intro ps pt p p2 p3 p4 p5 p6 ns cs nt ct n c n2 c2 n3 c3 n4 c4 n5 c5 n6 c6 A B K a b g hK ok hc2 hc4 hc6 w hT h1 h2 h3 h4 h5 h6
 obtain ⟨ga,gg,gb',hE,eg⟩:=ok
 obtain ⟨R,eR⟩:∃ R,onB 12 K a b g=R:=⟨_,rfl⟩
 rw [eR]
 obtain ⟨LG,eL⟩:∃ LG,b.1.getD 2 0=LG:=⟨_,rfl⟩
 have HG0:Hid (∃ q o,p3=some ⟨q,o,none⟩∧w.cell? ⟨q,o+2,none⟩=some (.int .i64 LG)∧2 < n3):=by
  have h1_:2 < b.1.length:=by
   have:=(ok_row ga (gb' (by decide)) hE gg eg).2
   omega
  obtain ⟨p_,c_,e_,hv⟩:=h3.view
  cases e_
  obtain ⟨q',o',e1,e2⟩:=hv 2 h1_
  rw [eL] at e2
  exact ⟨q',o',e1,e2,h1_⟩
 have cc:Hid (∀ W,Below w.heap.size w W→Calls Tryz.prog 162 #[.agg #[.slice p5 n5 c5,.slice p6 n6 c6],.agg #[.slice p n c,.slice p2 n2 c2],.int .i64 K,.int .i64 LG] W fun e w'=>∃ v',e = .returned (.tuple #[v',.int .i64 0])∧TRes w' W.heap.size v' R.1 R.2∧Below W.heap.size W w'):=fun W hW=>by
  rw [← eR]
  have:=cker_any p5 p6 p p2 n5 c5 n6 c6 n c n2 c2 g.1 g.2 a.1 a.2 K (b.1.getD 2 0) gg.2.1 gg.2.2 ga.2.1 ga.2.2 W (Hid.up_tz hT hW) (h5.up hW) (h6.up hW) (h1.up hW) (h2.up hW)
  rw [(ok_row ga (gb' (by decide)) hE gg eg).1.2] at this
  rw [← eL]
  exact this
 clear h1 h2 h3 h4 h5 h6
 obtain ⟨q6,o6,rfl,d6,hn6⟩:=HG0.out
 have hn6':(2:Int) < (n3:Int):=by omega
 clear eR hT hK ga gg gb' hE eg hc2 hc4 hc6
 go_enter Tryz.func107,Tryz.ntmps107
 go_wp2_with fail
 generalize hW0:World.alloc _ _=W0
 have HB0:=hidB (w:=w) hW0 (by go_grown)
 have XR:Hid (Cel W0 (w.heap.size+4) (.slice none 0 0) (.slice none 0 0)):=celW hW0 (by simp [go_sem])
 have XA:Cel W0 (w.heap.size+1) (.slice p n c) (.slice p2 n2 c2):=(celW hW0 (by simp [go_sem])).out
 obtain ⟨xa0,xa1,_,_⟩:=XA
 have ka:=cell_lt xa0
 have XB:Cel W0 (w.heap.size+2) (.slice (some ⟨q6,o6,none⟩) n3 c3) (.slice p4 n4 c4):=(celW hW0 (by simp [go_sem])).out
 obtain ⟨xb0,xb1,_,_⟩:=XB
 have kb:=cell_lt xb0
 have XG:Cel W0 (w.heap.size+3) (.slice p5 n5 c5) (.slice p6 n6 c6):=(celW hW0 (by simp [go_sem])).out
 obtain ⟨xg0,xg1,_,_⟩:=XG
 have kg:=cell_lt xg0
 have xk:W0.cell? ⟨w.heap.size,3,none⟩=some (.int .i64 K):=by rw [← hW0];simp [go_sem]
 have kk:=cell_lt xk
 have c6_:=cell_low d6 HB0.out
 have k6:=cell_lt c6_
 clear hW0
 refine relE [⟨8,54,TupP W0.heap.size R.1 R.2 0⟩,⟨9,55,OwnT W0.heap.size R.1 R.2⟩] 11 58 (by kernel_rfl) rfl rfl 10 _ rfl (by decide) rfl (by kernel_rfl) (by kernel_rfl) (fun _ _ _ _ h=>h) (by rfl) ?_ ?_
 ·intro e he v W W' h hb
  simp only [List.mem_cons,List.not_mem_nil,or_false] at he
  rcases he with rfl|rfl
  ·exact TupP.up h hb
  ·exact OwnT.up h hb
 apply Exists.intro
 refine ⟨?yl1,?wk1,?pk1,?rest1⟩
 case wk1=>
  intro x
  simp only [List.take_succ_cons,List.take_zero]
  iterate 8
   refine relQuiet rfl rfl ?_
   apply Exists.intro
   refine ⟨fun F hF hf K hK=>?_,?_⟩
   ·have hFc:=hF.cell
    have hFf:=hF.frozen
    go_big_quiet_op
    first|exact hK|(apply Exists.intro;refine ⟨fun _=>?_,?_⟩;(· fail);exact hK)
   (try simp only [Act.put,List.setIfInBounds_toArray,List.set_cons_zero,List.set_cons_succ])
  refine relTold rfl rfl ?_ ?_
  ·intro F hF hf d
   have hFc:=hF.cell
   have hFf:=hF.frozen
   simp [yieldsR,yieldsUpon,go_sem]
   refine (cc.out (F d) (bstep HB0.out (hF.below d))).mono ?_
   rintro e' w8 ⟨v8,rfl,h8,hb8⟩
   exact ⟨_,rfl,⟨v8,rfl,(h8.low (hF.below d).size).own⟩,hb8⟩
  (try simp only [Act.put,List.setIfInBounds_toArray,List.set_cons_zero,List.set_cons_succ])
  refine relTold rfl rfl ?_ ?_
  ·intro F hF hf d
   have hFc:=hF.cell
   have hFf:=hF.frozen
   have h9:=hf _ List.mem_cons_self (by rfl) d
   obtain ⟨u9,e9,n9⟩:=h9
   simp only [] at e9 n9
   simp [yieldsR,yieldsUpon,go_sem,e9]
   exact ⟨n9,Below.refl _ _⟩
  (try simp only [Act.put,List.setIfInBounds_toArray,List.set_cons_zero,List.set_cons_succ])
  refine relQuiet rfl rfl ?_
  apply Exists.intro
  refine ⟨fun F hF hf K hK=>?_,?_⟩
  ·have hFc:=hF.cell
   have hFf:=hF.frozen
   have h9:=hf _ List.mem_cons_self (by rfl)
   obtain ⟨u9,e9,_⟩:=h9 W0
   simp only [] at e9
   go_big_quiet_op
   first|exact hK|(apply Exists.intro;refine ⟨fun _=>?_,?_⟩;(· fail);exact hK)
  (try simp only [Act.put,List.setIfInBounds_toArray,List.set_cons_zero,List.set_cons_succ])
  refine relEnd ?_
  exact rfl
 case pk1=>
  intro x
  simp only [putsK,List.foldl_cons,List.foldl_nil,Act.put,List.setIfInBounds_toArray,List.set_cons_zero,List.set_cons_succ]
 case yl1=>
  intro x hx
  obtain ⟨W9,u9,e9,_⟩:=hx _ List.mem_cons_self (by rfl)
  simp only [] at e9
  refine ⟨.int .i64 0,fun t ht=>?_,.inl ⟨by rfl,fun w=>?_⟩⟩
  ·cases ht
   rfl
  ·simp [execOp,Act.eval,e9,go_sem]
 intro zz xs hBz1 hf
 simp only [List.drop_succ_cons,List.drop_zero]
 obtain ⟨pa,na,ca,pb,nb,cb,ev,hs,ht⟩:=hf _ (List.mem_cons_of_mem _ List.mem_cons_self)
 simp only [] at ev
 obtain ⟨x4,e4⟩:∃ q,xs 8=q:=⟨_,rfl⟩
 simp only [ev,e4]
 obtain ⟨HF,r0,r1,r2,r3,z0,z1⟩:=fin2 XR HB0 hBz1 hs ht (by omega)
 have rk:=cell_lt r0
 clear hs ht hBz1 hf cc xa0 xa1 xb0 xb1 xg0 xg1 xk c6_
 go_wp2
 exact bodyPost_ret (v:=.tuple #[.agg #[.slice pa na ca,.slice pb nb cb],.int .i64 0]) (by simp [results,Tryz.results107,go_sem,z0,z1]) rfl ⟨_,rfl,HF.out⟩
theorem ga_none (op:Int) (ho:¬ (2≤op∧op≤14)) (ps pt p p2 p3 p4 p5 p6:Option Addr) (ns cs nt ct n c n2 c2 n3 c3 n4 c4 n5 c5 n6 c6:Nat) (A B K:Int) (w:World):
  Calls Tryz.prog 106 #[.agg #[.int .i64 op,.int .i64 A,.int .i64 B,.int .i64 K,.slice ps ns cs,.slice pt nt ct],.agg #[.slice p n c,.slice p2 n2 c2],.agg #[.slice p3 n3 c3,.slice p4 n4 c4],.agg #[.slice p5 n5 c5,.slice p6 n6 c6]] w fun e w'=>∃ v',e = .returned (.tuple #[v',.int .i64 0])∧TRes w' w.heap.size v' [] []∧Below w.heap.size w w':=by
 have d2:(op==2)=false:=by simp;omega
 have d3:(op==3)=false:=by simp;omega
 have d4:(op==4)=false:=by simp;omega
 have d5:(op==5)=false:=by simp;omega
 have d6:(op==6)=false:=by simp;omega
 have d7:(op==7)=false:=by simp;omega
 have d8:(op==8)=false:=by simp;omega
 have d9:(op==9)=false:=by simp;omega
 have d10:(op==10)=false:=by simp;omega
 have d11:(op==11)=false:=by simp;omega
 have d12:(op==12)=false:=by simp;omega
 have d13:(op==13)=false:=by simp;omega
 have d14:(op==14)=false:=by simp;omega
 clear ho
 go_enter Tryz.func106,Tryz.ntmps106
 go_wp2
 exact bodyPost_ret (v:=.tuple #[.agg #[.slice none 0 0,.slice none 0 0],.int .i64 0]) (by simp [results,Tryz.results106,go_sem]) rfl ⟨_,rfl,TRes.none _ _,by go_grown⟩
theorem gb_none (op:Int) (ho:¬ twoP op) (ps pt p p2 p3 p4 p5 p6:Option Addr) (ns cs nt ct n c n2 c2 n3 c3 n4 c4 n5 c5 n6 c6:Nat) (A B K:Int) (w:World):
  Calls Tryz.prog 107 #[.agg #[.int .i64 op,.int .i64 A,.int .i64 B,.int .i64 K,.slice ps ns cs,.slice pt nt ct],.agg #[.slice p n c,.slice p2 n2 c2],.agg #[.slice p3 n3 c3,.slice p4 n4 c4],.agg #[.slice p5 n5 c5,.slice p6 n6 c6]] w fun e w'=>∃ v',e = .returned (.tuple #[v',.int .i64 0])∧TRes w' w.heap.size v' [] []∧Below w.heap.size w w':=by
 have d2:(op==2)=false:=by simp;omega
 have d3:(op==3)=false:=by simp;omega
 have d4:(op==4)=false:=by simp;omega
 have d6:(op==6)=false:=by simp;omega
 have d12:(op==12)=false:=by simp;omega
 clear ho
 go_enter Tryz.func107,Tryz.ntmps107
 go_wp2
 exact bodyPost_ret (v:=.tuple #[.agg #[.slice none 0 0,.slice none 0 0],.int .i64 0]) (by simp [results,Tryz.results107,go_sem]) rfl ⟨_,rfl,TRes.none _ _,by go_grown⟩
theorem cga_any (op:Int) (ho:2≤op∧op≤14):GvP 106 onA op:=by
 have h:op=2∨op=3∨op=4∨op=5∨op=6∨op=7∨op=8∨op=9∨op=10∨op=11∨op=12∨op=13∨op=14:=by omega
 rcases h with rfl|rfl|rfl|rfl|rfl|rfl|rfl|rfl|rfl|rfl|rfl|rfl|rfl
 ·exact ga2
 ·exact ga3
 ·exact ga4
 ·exact ga5
 ·exact ga6
 ·exact ga7
 ·exact ga8
 ·exact ga9
 ·exact ga10
 ·exact ga11
 ·exact ga12
 ·exact ga13
 ·exact ga14
theorem cgb_any (op:Int) (ho:twoP op):GvP 107 onB op:=by
 rcases ho with rfl|rfl|rfl|rfl|rfl
 ·exact gb2
 ·exact gb3
 ·exact gb4
 ·exact gb6
 ·exact gb12
/-- A tensor's two cells. -/
def TwC (W:World) (B:Nat) (t:Ten) (u:List Value):Prop:=∃ s v,u = [s,v]∧OwnK .i64 3 W B s t.1∧OwnK .i64 22 W B v t.2
def TsC (W:World) (B:Nat) (ts:List Ten) (xs:List Value):Prop:=xs.length=ts.length*2∧∀ i t,ts[i]?=some t→TwC W B t ((xs.drop (i*2)).take 2)
/-- A row of tensors of one's own. -/
def OwnTs (W:World) (B:Nat) (v:Value) (ts:List Ten):Prop:=∃ xs,W.ownsRow B 32 2 v ts.length xs∧TsC W B ts xs
theorem OwnTs.nil (W:World) (B:Nat):OwnTs W B (.slice none 0 0) []:=⟨[],World.ownsRow_nil _ _ _ _,rfl,fun i t h=>by simp at h⟩
theorem OwnTs.low {W:World} {B B':Nat} {v:Value} {ts:List Ten} (h:OwnTs W B v ts) (hB:B'≤B):OwnTs W B' v ts:=by
 obtain ⟨xs,hx,hl,hc⟩:=h
 refine ⟨xs,⟨hx.1,?_⟩,hl,fun i t ht=>?_⟩
 ·rcases hx.2 with hn|⟨g,cap,cur,hv,hb,rest⟩
  ·exact .inl hn
  ·exact .inr ⟨g,cap,cur,hv,Nat.le_trans hB hb,rest⟩
 ·obtain ⟨s,u,e,hs,hu⟩:=hc i t ht
  exact ⟨s,u,e,hs.low hB,hu.low hB⟩
/-- What a walk reads of it. -/
theorem OwnTs.form {W:World} {B:Nat} {v:Value} {ts:List Ten} (h:OwnTs W B v ts):∃ p c,v = .slice p ts.length c∧ts.length≤c:=by
 obtain ⟨xs,hx,_⟩:=h
 rcases hx.2 with ⟨rfl,h0⟩|⟨g,cap,cur,rfl,_,_,hc,_⟩
 ·exact ⟨none,0,by rw [h0],by omega⟩
 ·exact ⟨_,_,rfl,hc⟩
theorem OwnTs.at {W:World} {B n c:Nat} {p:Option Addr} {ts:List Ten} (h:OwnTs W B (.slice p n c) ts) (i:Nat) (t:Ten) (hi:ts[i]?=some t):
  ∃ q s u,p=some ⟨q,0,none⟩∧W.cell? ⟨q,i*2,none⟩=some s∧W.cell? ⟨q,i*2+1,none⟩=some u∧OwnK .i64 3 W B s t.1∧OwnK .i64 22 W B u t.2:=by
 obtain ⟨xs,hx,hl,hc⟩:=h
 obtain ⟨s,u,e,hs,hu⟩:=hc i t hi
 have hlt:i < ts.length:=(List.getElem?_eq_some_iff.1 hi).1
 have hget:∀ j v,((xs.drop (i*2)).take 2)[j]?=some v→xs[i*2+j]?=some v:=fun j v h=>by
  rw [List.getElem?_take] at h
  split at h
  ·rw [List.getElem?_drop] at h
   exact h
  ·cases h
 rw [e] at hget
 rcases hx.2 with ⟨_,h0⟩|⟨g,cap,cur,hv,hb,hg,rest⟩
 ·omega
 ·cases hv
  have hcell:∀ j v,xs[j]?=some v→W.cell? ⟨g,j,none⟩=some v:=fun j v h=>by
   have:=hx.cells (g:=g) rfl j v h
   rw [addr_plus,Nat.zero_add] at this
   exact this
  exact ⟨g,s,u,rfl,hcell _ _ (hget 0 _ rfl),hcell _ _ (hget 1 _ rfl),hs,hu⟩
theorem below_drew1 {w w1:World} {B:Nat} (h:Below B w w1):Below B w w1.drew:=h.trans ⟨rfl,rfl,rfl,Nat.le_refl _,fun _ _=>rfl⟩
theorem fin22 {w W:World} {B b b':Nat} {s t s' t' s0 t0 s1 t1:Value} {D X D' X':List Int} (h6:Cel W b s0 t0) (h7:Cel W b' s1 t1) (hne:b≠b') (hB:Below w.heap.size w W) (hb:w.heap.size≤b) (hb':w.heap.size≤b') (hbB:b < B) (hbB':b' < B)
  (hs:OwnK .i64 3 W B s D) (ht:OwnK .i64 22 W B t X) (hs':OwnK .i64 3 W B s' D') (ht':OwnK .i64 22 W B t' X'):
  (Cel (set2 (set2 W b s t) b' s' t') b s t∧Cel (set2 (set2 W b s t) b' s' t') b' s' t')∧TRes (set2 (set2 W b s t) b' s' t') w.heap.size (.agg #[s,t]) D X∧TRes (set2 (set2 W b s t) b' s' t') w.heap.size (.agg #[s',t']) D' X'∧Below w.heap.size w (set2 (set2 W b s t) b' s' t'):=by
 have e1:=Stay.set2 (g:=b) W s t
 have e2:=Stay.set2 (g:=b') (set2 W b s t) s' t'
 have q1:∀ {e:TypeId} {v:Value} {l:List Int},OwnK .i64 e W B v l→OwnK .i64 e (set2 (set2 W b s t) b' s' t') w.heap.size v l:=fun h=>((h.stay e1 (h.off hbB)).stay e2 ((h.stay e1 (h.off hbB)).off hbB')).low (by omega)
 exact ⟨⟨(h6.set s t).stay e2 hne,(h7.stay e1 (Ne.symm hne)).set s' t'⟩,⟨_,_,rfl,q1 hs,q1 ht⟩,⟨_,_,rfl,q1 hs',q1 ht'⟩,below_set2 (below_set2 hB b hb s t) b' hb' s' t'⟩
/-- What a return of two tensors leaves. -/
theorem fin22z {w W Z U:World} {B b b':Nat} {s t s' t' s0 t0 s1 t1:Value} {D X D' X':List Int} (hU:set2 (set2 W b s t) b' s' t'=U) (hZ:Below U.heap.size U Z) (h6:Cel W b s0 t0) (h7:Cel W b' s1 t1) (hne:b≠b') (hB:Below w.heap.size w W) (hb:w.heap.size≤b) (hb':w.heap.size≤b') (hbB:b < B) (hbB':b' < B)
  (hs:OwnK .i64 3 W B s D) (ht:OwnK .i64 22 W B t X) (hs':OwnK .i64 3 W B s' D') (ht':OwnK .i64 22 W B t' X'):
  Hid (TRes Z w.heap.size (.agg #[s,t]) D X∧TRes Z w.heap.size (.agg #[s',t']) D' X'∧Below w.heap.size w Z)∧(Z.cell? ⟨b,0,none⟩=some s∧Z.cell? ⟨b,1,none⟩=some t)∧Z.cell? ⟨b',0,none⟩=some s'∧Z.cell? ⟨b',1,none⟩=some t':=by
 obtain ⟨⟨c6,c7⟩,r6,r7,hBz⟩:=fin22 (w:=w) h6 h7 hne hB hb hb' hbB hbB' hs ht hs' ht'
 rw [hU] at c6 c7 r6 r7 hBz
 have d6:=c6.up hZ
 have d7:=c7.up hZ
 exact ⟨⟨r6.up hZ,r7.up hZ,bstep hBz hZ⟩,⟨d6.1,d6.2.1⟩,d7.1,d7.2.1⟩
end Go.Proofs.YtaiigfhicaelkabGreatDoor.Wd
