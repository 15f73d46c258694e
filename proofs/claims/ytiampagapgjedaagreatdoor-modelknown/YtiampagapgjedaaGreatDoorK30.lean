/- ModelKnown: what chapter 12 says of a few texts, reckoned. · ModelKnown. -/
import Derived.Test.YtiampagapgjedaaGreatDoorK29
set_option linter.unusedVariables false
set_option linter.unusedSimpArgs false
set_option maxHeartbeats 16000000
set_option maxRecDepth 16000
namespace Go.Proofs.YtiampagapgjedaaGreatDoor.Wd
open Go.RowKit Fx
abbrev kt_a:ByteArray:=⟨#[105,110]⟩
theorem kE_a:pE kt_a=7:=by decide +kernel
theorem kX_a:pX kt_a=([],[]):=by decide +kernel
abbrev kt_b:ByteArray:=⟨#[105,110,32,50,32,119,104,97,116,32,51]⟩
theorem kE_b:pE kt_b=7:=by decide +kernel
theorem kX_b:pX kt_b=([],[]):=by decide +kernel
abbrev kt_c:ByteArray:=⟨#[105,110,32,50,32,99,111,110,118,32,49,32,49]⟩
theorem kE_c:pE kt_c=4:=by decide +kernel
theorem kX_c:pX kt_c=([],[]):=by decide +kernel
abbrev kt_d:ByteArray:=⟨#[105,110,32,48]⟩
theorem kE_d:pE kt_d=1:=by decide +kernel
theorem kX_d:pX kt_d=([],[]):=by decide +kernel
abbrev kt_e:ByteArray:=⟨#[105,110,32,49,48,50,52,32,100,101,110,115,101,32,53]⟩
theorem kE_e:pE kt_e=2:=by decide +kernel
theorem kX_e:pX kt_e=([],[]):=by decide +kernel
abbrev kt_f:ByteArray:=⟨#[105,110,32,50,32,115,107,105,112]⟩
theorem kE_f:pE kt_f=4:=by decide +kernel
theorem kX_f:pX kt_f=([],[]):=by decide +kernel
abbrev kt_g:ByteArray:=⟨#[105,110,32,50,32,98,101,110,100,32,49,32,115,107,105,112,32,115,107,105,112]⟩
theorem kE_g:pE kt_g=4:=by decide +kernel
theorem kX_g:pX kt_g=([],[]):=by decide +kernel
abbrev kt_h:ByteArray:=⟨#[105,110,32,50,32,56,32,99,111,110,118,32,51,32,51,32,98,101,110,100,32,50,32,112,111,111,108,32,50,32,100,101,110,115,101,32,52,9,115,107,105,112,10]⟩
theorem kE_h:pE kt_h=4:=by decide +kernel
theorem kX_h:pX kt_h=([],[]):=by decide +kernel
abbrev kt_i:ByteArray:=⟨#[105,110,32,50,32,56,32,99,111,110,118,32,51,32,51,32,98,101,110,100,32,50,32,112,111,111,108,32,50,32,100,101,110,115,101,32,52,32,98,101,110,100,32,49,32,115,107,105,112]⟩
theorem kE_i:pE kt_i=0:=by decide +kernel
abbrev kt_k:ByteArray:=⟨#[105,110,32,50,32,100,101,110,115,101,32,48,50]⟩
theorem kE_k:pE kt_k=7:=by decide +kernel
theorem kX_k:pX kt_k=([],[]):=by decide +kernel
abbrev kLs:List Ly:=[(kConv,3,3),(kBend,2,0),(kPool,2,0),(kDense,4,0),(kBend,1,0),(kSkip,0,0)]
theorem kX_i:pX kt_i=([2,8],kLs):=by decide +kernel
theorem kn_E:nE [2,8] kLs=0:=by decide +kernel
theorem kn_S:nS [2,8] kLs = [[2,8],[3,6],[3,6],[3,3],[4],[4],[4]]:=by decide +kernel
theorem kn_P:nP [2,8] kLs=58:=by decide +kernel
theorem kn_T:netT [] []=⟨#[]⟩:=by decide +kernel
theorem parse_at (s:ByteArray) (E:Int) (hE:pE s=E) (hX:pX s=([],[])) (w W:World) (hK:Hid (Kz w)) (hB:Below w.heap.size w W):Calls Tryz.prog 10 #[.string s] W fun e w'=>∃ p n c p2 c2,e = .returned (.tuple #[.agg #[.slice p n c,.slice p2 0 c2],.int .i64 E])∧Below w.heap.size w w':=by
 have h:=Parse_any s W (Hid.up_kz hK hB)
 rw [hE,hX] at h
 refine h.mono ?_
 rintro e w1 ⟨p,n,c,p2,n2,c2,rfl,hd,hl,hB1⟩
 obtain ⟨p',c',e',-⟩:=hl.rd
 cases e'
 exact ⟨_,_,_,_,_,rfl,bstep hB hB1⟩
theorem mknown_walk (w:World) (hT:Hid (Tz w)) (hK:Hid (Kz w)) (hP:Hid (Pz w)):
  Calls Tryz.prog 3 #[] w fun e w'=>e = .returned (.bool true)∧Below w.heap.size w w':=by
 haveI:Nonempty World:=⟨w⟩
 go_enter Tryz.func3,Tryz.ntmps3
 go_wp2_with fail
 refine (awake12_any w hT hK hP).mono ?_
 rintro e w0 ⟨rfl,hB⟩
 have HB0:Hid (Below w.heap.size w w0):=hB
 clear hB
 go_wp2_with fail
 refine (parse_at kt_a _ kE_a kX_a w _ hK HB0.out).mono ?_
 rintro e wa ⟨pa,na,ca,qa,da,rfl,hB⟩
 have HBa:Hid (Below w.heap.size w wa):=hB
 clear hB HB0
 go_wp2_with fail
 refine (parse_at kt_b _ kE_b kX_b w _ hK (bstep HBa.out (up_alloc _ _))).mono ?_
 rintro e wb ⟨pb,nb,cb,qb,db,rfl,hB⟩
 have HBb:Hid (Below w.heap.size w wb):=hB
 clear hB HBa
 go_wp2_with fail
 refine (parse_at kt_c _ kE_c kX_c w _ hK (bstep HBb.out (up_alloc _ _))).mono ?_
 rintro e wc ⟨pc,nc,cc,qc,dc,rfl,hB⟩
 have HBc:Hid (Below w.heap.size w wc):=hB
 clear hB HBb
 go_wp2_with fail
 refine (parse_at kt_d _ kE_d kX_d w _ hK (bstep HBc.out (up_alloc _ _))).mono ?_
 rintro e wd ⟨pd,nd,cd,qd,dd,rfl,hB⟩
 have HBd:Hid (Below w.heap.size w wd):=hB
 clear hB HBc
 go_wp2_with fail
 refine (parse_at kt_e _ kE_e kX_e w _ hK (bstep HBd.out (up_alloc _ _))).mono ?_
 rintro e we ⟨pe,ne,ce,qe,de,rfl,hB⟩
 have HBe:Hid (Below w.heap.size w we):=hB
 clear hB HBd
 go_wp2_with fail
 refine (parse_at kt_f _ kE_f kX_f w _ hK (bstep HBe.out (up_alloc _ _))).mono ?_
 rintro e wf ⟨pf,nf,cf,qf,df,rfl,hB⟩
 have HBf:Hid (Below w.heap.size w wf):=hB
 clear hB HBe
 go_wp2_with fail
 refine (parse_at kt_g _ kE_g kX_g w _ hK (bstep HBf.out (up_alloc _ _))).mono ?_
 rintro e wg ⟨pg,ng,cg,qg,dg,rfl,hB⟩
 have HBg:Hid (Below w.heap.size w wg):=hB
 clear hB HBf
 go_wp2_with fail
 refine (parse_at kt_h _ kE_h kX_h w _ hK (bstep HBg.out (up_alloc _ _))).mono ?_
 rintro e wh ⟨ph,nh,ch,qh,dh,rfl,hB⟩
 have HBh:Hid (Below w.heap.size w wh):=hB
 clear hB HBg
 go_wp2_with fail
 generalize hWi:World.alloc _ _=Wi
 have hLi:Below wh.heap.size wh Wi:=by rw [← hWi];exact up_alloc wh _
 obtain ⟨g0,g1⟩:Wi.cell? ⟨wh.heap.size,0,none⟩=some (.slice ph nh ch)∧Wi.cell? ⟨wh.heap.size,1,none⟩=some (.slice qh 0 dh):=by rw [← hWi];simp [go_sem]
 clear hWi
 have ci:=Parse_any kt_i Wi (Hid.up_kz hK (bstep HBh.out hLi))
 rw [kE_i,kX_i] at ci
 refine ci.mono ?_
 rintro e w2 ⟨pm,nm,cm,qm,n2,dm,rfl,hd,hl,hB⟩
 obtain ⟨p',c',e',hl2⟩:=hl.rd
 cases e'
 replace g0:=still_cell hB g0
 replace g1:=still_cell hB g1
 have HB2:Hid (Below w.heap.size w w2):=bstep (bstep HBh.out hLi) hB
 have HM2:Hid (Nums .i64 w2 (.slice pm nm cm) [2,8]∧LyR 0 w2 qm 6 kLs):=⟨hd.nums,hl2⟩
 clear hd hl hl2 hB hLi ci HBh
 go_wp2_with fail
 generalize hW3:World.alloc _ _=W3
 have hL3:Below w2.heap.size w2 W3:=by rw [← hW3];exact up_alloc w2 _
 obtain ⟨m0,m1⟩:W3.cell? ⟨w2.heap.size,0,none⟩=some (.slice pm nm cm)∧W3.cell? ⟨w2.heap.size,1,none⟩=some (.slice qm 6 dm):=by rw [← hW3];simp [go_sem]
 replace g0:=still_cell hL3 g0
 replace g1:=still_cell hL3 g1
 have HB3:Hid (Below w.heap.size w W3):=bstep HB2.out hL3
 have HM3:Hid (Nums .i64 W3 (.slice pm nm cm) [2,8]∧LyR 0 W3 qm 6 kLs):=⟨HM2.out.1.up hL3,HM2.out.2.up hL3⟩
 have cs:=Shapes_any pm qm nm cm 6 dm [2,8] kLs (by decide) W3 (Hid.up_kz hK HB3.out) HM3.out.1 HM3.out.2
 rw [kn_E,kn_S] at cs
 clear hW3 hL3 HM2 HB2
 refine cs.mono ?_
 rintro e w4 ⟨ps,css,rfl,hoS,hB⟩
 replace g0:=still_cell hB g0
 replace g1:=still_cell hB g1
 replace m0:=still_cell hB m0
 replace m1:=still_cell hB m1
 have HB4:Hid (Below w.heap.size w w4):=bstep HB3.out hB
 have HM4:Hid (Nums .i64 w4 (.slice pm nm cm) [2,8]∧LyR 0 w4 qm 6 kLs):=⟨HM3.out.1.up hB,HM3.out.2.up hB⟩
 have HS4:Hid (OwnS w4 W3.heap.size (.slice ps 7 css) [[2,8],[3,6],[3,6],[3,3],[4],[4],[4]]):=hoS
 clear hoS hB cs HM3 HB3
 have ck:=parse_at kt_k _ kE_k kX_k w4 w4 (Hid.up_kz hK HB4.out) (Below.refl _ _)
 go_wp2_with fail
 refine ck.mono ?_
 rintro e w5 ⟨pk,nk,ck',qk,dk,rfl,hB5⟩
 clear ck
 replace g0:=still_cell hB5 g0
 replace g1:=still_cell hB5 g1
 replace m0:=still_cell hB5 m0
 replace m1:=still_cell hB5 m1
 have km:=cell_size m0
 go_wp2_with fail
 generalize hW6:World.alloc _ _=W6
 have hL5:Below w5.heap.size w5 W6:=by rw [← hW6];exact up_alloc w5 _
 have hL6:Below w4.heap.size w4 W6:=bstep hB5 hL5
 clear hW6 hB5
 replace g0:=still_cell hL5 g0
 replace g1:=still_cell hL5 g1
 have HB6:Hid (Below w.heap.size w W6):=bstep HB4.out hL6
 have HM6:Hid (Nums .i64 W6 (.slice pm nm cm) [2,8]∧LyR 0 W6 qm 6 kLs):=⟨HM4.out.1.up hL6,HM4.out.2.up hL6⟩
 have HS6:Hid (OwnS W6 W3.heap.size (.slice ps 7 css) [[2,8],[3,6],[3,6],[3,3],[4],[4],[4]]):=HS4.out.up hL6
 clear hL6 hL5 HB4 HM4 HS4
 have cq:=Params_any pm qm nm cm 6 dm [2,8] kLs (by decide) W6 (Hid.up_kz hK HB6.out) HM6.out.1 HM6.out.2
 rw [kn_E,kn_P] at cq
 refine cq.mono ?_
 rintro e w7 ⟨rfl,hB7⟩
 replace g0:=still_cell hB7 g0
 replace g1:=still_cell hB7 g1
 have kg:=cell_size g0
 have HB7:Hid (Below w.heap.size w w7):=bstep HB6.out hB7
 have HS7:Hid (OwnS w7 W3.heap.size (.slice ps 7 css) [[2,8],[3,6],[3,6],[3,3],[4],[4],[4]]):=HS6.out.up hB7
 obtain ⟨ps',cs',es',hrd⟩:=HS7.out.rd
 cases es'
 obtain ⟨q3,o3,a3,b3,c3,rfl,s3,hn3⟩:=hrd.2 3 (by decide)
 have hn3':Nums .i64 w7 (.slice a3 b3 c3) [3,3]:=hn3
 have HN3:Hid (Nums .i64 w7 (.slice a3 b3 c3) [3,3]):=hn3'
 have ks:=cell_size s3
 clear hB7 cq HM6 HB6 HS6 m0 m1 hrd hn3 hn3' HS7
 go_wp2_with fail
 have cm:=rsame_any (.slice a3 b3 c3) (.slice (some ⟨w7.heap.size,0,none⟩) 2 2) [3,3] [3,3] (by decide) (w7.alloc (.cells #[.int .i64 3,.int .i64 3] 3)) (HN3.out.up (up_alloc w7 _)) (nums_lit (k:=.i64) w7 [3,3] 2 (0,0) rfl)
 rw [decide_eq_true rfl] at cm
 refine cm.mono ?_
 rintro e w8 ⟨rfl,dr,e8⟩
 have HB8:Hid (Below w.heap.size w w8):=by
  rw [e8]
  exact below_drew (bstep HB7.out (up_alloc w7 _)) dr
 clear e8 cm HN3
 have ct:=Text_any none none 0 0 0 0 [] [] (by decide) w8 (Hid.up_kz hK HB8.out) (Hid.up_pz hP HB8.out) (.inl ⟨rfl,rfl⟩) ⟨rfl,fun i hi=>absurd hi (Nat.not_lt_zero i)⟩
 rw [kn_T] at ct
 go_wp2_with fail
 refine ct.mono ?_
 rintro e w9 ⟨rfl,hB9⟩
 have HF:Hid (Below w.heap.size w w9):=bstep HB8.out hB9
 clear hB9 ct
 go_wp2
 go_ret
 exact ⟨rfl,HF.out⟩
end Go.Proofs.YtiampagapgjedaaGreatDoor.Wd
