/- ModelRuns: the card: whatever the input, -/
import Derived.Test.YtkfpainpomobfaaGreatDoorCards
import Derived.Test.YtkfpainpomobfaaGreatDoorTie
import Derived.Test.YtkfpainpomobfaaGreatDoorR33
import Derived.LaidMore
import Derived.Stop.Joined
import Derived.SevenTiedAt
set_option linter.unusedVariables false
set_option linter.unusedSimpArgs false
set_option maxHeartbeats 16000000
set_option maxRecDepth 16000
namespace Go.Proofs.YtkfpainpomobfaaGreatDoor.modelRuns
open Go.ChangeShapes Go.WideShapes Go.ChangeAt Go.RowKit Go.Joins
theorem own:ownKnob Tryz.prog.godebug=none:=by kernel_rfl
theorem p_S (os:Os) (args:Array Value):laidMetH Tryz.prog Rows.modelRunsRow.laid ((World.doorLaid Tryz.prog 4000 os).forCall (fun _ _=>0) ⟨#[],args,[]⟩).memory:=
 laidMetH_of_parts3 (fuel:=8) (laidMet_of_run' 8 (by kernel_rfl) (by kernel_rfl)) (by kernel_rfl) (by kernel_rfl)
theorem e_t {W:World} (h:laidMetH Tryz.prog Rows.modelRunsRow.laid W):Wd.Tz W/\Wd.Kz W/\Wd.Pz W:=by
 rw [MakeChecks.laidMetH_plain _ _ _ (by kernel_rfl)] at h;obtain ⟨ps,⟨g0,t0,ac,f0,p0,q0,ah,ae,ag,af,⟨g1,t1,ad,f1,p1,q1,L,I,ab,M,⟨g2,t2,ai,f2,p2,q2,J,R,O,V,⟨g3,t3,E,f3,p3,q3,Z,aa,A,H,_,_⟩,_⟩,_⟩,_⟩,_,_⟩:=h
 obtain rfl := Option.some.inj ((show Tryz.prog.globalNamed "math/bits.deBruijn64tab" = some 6 by kernel_rfl).symm.trans L)
 obtain rfl:=Option.some.inj ((show (Tryz.prog.globals[6]?).map (·.type)=some 257 by kernel_rfl).symm.trans I)
 have hx : Lib.TabIs Tryz.prog W "math/bits.deBruijn64tab" .u8 (Lib.deBruijn64tab.map Int.ofNat) := by
  unfold Lib.TabIs;rw [ab,<- Lib.cells_of_tab (zs:=Lib.deBruijn64tab.map Int.ofNat) Tryz.underlying257 Tryz.underlying5 (by kernel_rfl) (by kernel_rfl) M]
 obtain rfl := Option.some.inj ((show Tryz.prog.globalNamed "carousel/model.kinds" = some 0 by kernel_rfl).symm.trans Z)
 obtain rfl:=Option.some.inj ((show (Tryz.prog.globals[0]?).map (·.type)=some 140 by kernel_rfl).symm.trans aa)
 obtain rfl := Option.some.inj ((show Tryz.prog.globalNamed "internal/strconv.uint64pow10" = some 1 by kernel_rfl).symm.trans J)
 obtain rfl:=Option.some.inj ((show (Tryz.prog.globals[1]?).map (·.type)=some 226 by kernel_rfl).symm.trans R)
 have hk:Wd.Kz W:=by
  have e:=Wd.kinds_cells Tryz.underlying140 (by kernel_rfl) Tryz.underlying110 (by kernel_rfl) rfl rfl rfl (by kernel_rfl) (by kernel_rfl) (by kernel_rfl) Tryz.underlying9 Tryz.underlying3 Tryz.underlying108 Tryz.underlying3 (by kernel_rfl) H;rw [show E=Wd.kArr from Array.ext' e] at A;exact Wd.kz_var A
 have hp:Wd.Pz W:=by
  unfold Wd.Pz Lib.TabIs;rw [O,<- Lib.cells_of_tab (zs:=Lib.pow10Tab) Tryz.underlying226 Tryz.underlying162 (by kernel_rfl) (by kernel_rfl) V]
 refine ⟨?_,hk,hp⟩;intro j hj
 have hc := hx.cell (show Tryz.prog.globalNamed "math/bits.deBruijn64tab" = some 6 by kernel_rfl) j (by simpa [Lib.deBruijn64tab] using hj)
 have e:(Lib.deBruijn64tab.map Int.ofNat).getD j 0=((Lib.deBruijn64tab.getD j 0:Nat):Int):=by
  rw [List.getD_eq_getElem?_getD,List.getD_eq_getElem?_getD,List.getElem?_map];cases Lib.deBruijn64tab[j]? <;> rfl
 rw [e] at hc;exact hc
theorem j_D:laidOutB Tryz.prog=true:=by kernel_rfl
theorem walk (w:World) (hT:Hid (Wd.Tz w)) (hK:Hid (Wd.Kz w)) (hP:Hid (Wd.Pz w)) (E:Option Addr) (O J:Nat) (z0:Nat->Int) (r0:Wd.RowN .i64 w E O J z0) (V:Option Addr) (H A:Nat) (y0:List Wd.Ly) (s0:Wd.LayN w V H A y0) (L:Option Addr) (Z I:Nat) (z1:Nat->Int) (r1:Wd.RowN .i64 w L Z I z1) (R:Option Addr) (n2 M:Nat) (z2:Nat->Int) (r2:Wd.RowN .i64 w R n2 M z2) (x3:Bool):
  Calls Tryz.prog 3 #[.agg #[.slice E O J,.slice V H A],.slice L Z I,.slice R n2 M,.bool x3] w fun e w'=>e = .returned (.bool true)/\Below w.heap.size w w':=by
 have:=Wd.mruns_walk w hT hK hP z0 O J E y0 H A V z1 Z I L z2 n2 M R x3 r0 s0 r1 r2;exact this
theorem t_h (os:Os) (I:os.Started) (H:Type) (enc:TypeId×Value->H):
  ReturnsInHanded {} Tryz.checked os 3 .any (fun w args=>(Rows.modelRunsSpec.pre enc Tryz.prog Tryz.f3 [] false w args/\laidMetH Tryz.prog Rows.modelRunsRow.laid w)/\sizedMet enc Tryz.prog Tryz.f3 (OpenSpec.ofChange Rows.modelRunsSpec) false w args)
   (Rows.modelRunsSpec.post enc Tryz.prog Tryz.f3 false true false false):=by
 refine returnsInHanded_of_change_and (C:=Tryz.checked) (X:=fun w _=>laidMetH Tryz.prog Rows.modelRunsRow.laid w) (fun _ _ _ hh h=>h.of_heap hh) own I (by kernel_rfl) Tryz.func3
  (ChangeSpec.witness_shaped (enc:=enc) (C:=Tryz.checked) (os:=os) (X:=fun w _=>laidMetH Tryz.prog Rows.modelRunsRow.laid w) false (World.doorLaid Tryz.prog 4000 os) #[.agg #[.slice none 0 0,.slice none 0 0],.slice none 0 0,.slice none 0 0,.bool false] 8 rfl (World.shaped_of_RefB (by kernel_rfl) (by kernel_rfl)) (by kernel_rfl) (by kernel_rfl) (by kernel_rfl) (p_S os _)) ?_
 intro W R args ds gs aa E hW _ _ hL _;have A:∀ (j:Nat) t v,Tryz.f3.params[j]?=some t->args[j]?=some v->Value.okWide Tryz.prog W .any R t v:=E;have af:=hW;obtain ⟨p,q,Z,hV,rfl,al,aj⟩:=hW;have hA:DataW.TrodAll enc Tryz.prog W 0 (fun _=>true) true Tryz.f3.params.toList args.toList ds p:=Z;rw [Tryz.params3] at hA A;obtain ⟨v0,ag,d0,ak,p0,q0,ac,rfl,rfl,h0,r0⟩:=trodAll_cons hA;obtain ⟨v1,ao,d1,ai,p1,q1,rfl,rfl,rfl,h1,r1⟩:=trodAll_cons r0;obtain ⟨v2,ap,d2,am,p2,q2,rfl,rfl,rfl,h2,r2⟩:=trodAll_cons r1;obtain ⟨v3,ah,d3,an,p3,q3,rfl,rfl,rfl,h3,r3⟩:=trodAll_cons r2;obtain ⟨rfl,rfl,rfl⟩:=trodAll_nil r3;obtain rfl:args=#[v0,v1,v2,v3]:=by cases args;simp_all
 obtain ⟨rfl,rfl⟩:=trodVars_none hV;have k0:=h0;have ad:∀ x∈p0,x.block < W.heap.size:=by obtain ⟨m,V⟩:=k0;exact DataW.trod_lt m _ _ _ V
 obtain ⟨a0,n0,c0,z0,b0,m0,e0,y0,rfl,w0,u0⟩:=Wd.open_net Tryz.underlying25 (by kernel_rfl) (by kernel_rfl) Tryz.underlying22 Tryz.underlying3 (by kernel_rfl) Tryz.underlying23 Tryz.underlying69 (by kernel_rfl) rfl rfl rfl (by kernel_rfl) (by kernel_rfl) (by kernel_rfl) Tryz.underlying9 Tryz.underlying3 Tryz.underlying3 (A 0 25 v0 rfl rfl) h0;obtain ⟨a1,t_5,M,rfl⟩:=okWide_slice Tryz.underlying26 (A 1 26 v1 rfl rfl);have k1:=h1;have ab:∀ x∈p1,x.block < W.heap.size:=by obtain ⟨m,V⟩:=k1;exact DataW.trod_lt m _ _ _ V
 obtain ⟨z1,w1⟩:=Wd.open_rowN Tryz.underlying26 Tryz.underlying48 (by kernel_rfl) h1;obtain ⟨a2,O,L,rfl⟩:=okWide_slice Tryz.underlying26 (A 2 26 v2 rfl rfl);have k2:=h2;have ae:∀ x∈p2,x.block < W.heap.size:=by obtain ⟨m,V⟩:=k2;exact DataW.trod_lt m _ _ _ V
 obtain ⟨z2,w2⟩:=Wd.open_rowN Tryz.underlying26 Tryz.underlying48 (by kernel_rfl) h2;obtain ⟨x3,rfl,rfl,rfl⟩:=open_bool Tryz.underlying4 (A 3 4 v3 rfl rfl) h3;clear Z E;refine (walk W (e_t hL).1 (e_t hL).2.1 (e_t hL).2.2 a0 n0 c0 z0 w0 b0 m0 e0 y0 u0 a1 t_5 M z1 w1 a2 O L z2 w2 x3).mono fun e W' ⟨he,J⟩=>?_;subst he;exact ⟨_,rfl,_,_,_,[],_,[],af,trodAll_mk1 (shut_bool Tryz.underlying4 _),(trodAll_cons_mk (Below.trod j_D (by kernel_rfl) (of_decide_eq_true (by kernel_rfl)) k0 J ad) (trodAll_cons_mk (Below.trod j_D (by kernel_rfl) (of_decide_eq_true (by kernel_rfl)) k1 J ab) (trodAll_cons_mk (Below.trod j_D (by kernel_rfl) (of_decide_eq_true (by kernel_rfl)) k2 J ae) (trodAll_cons_mk (shut_bool Tryz.underlying4 x3) trodAll_mk0)))),rfl,J.frame _,fun h=>by cases h⟩
theorem o_b:Rows.ModelRunsSaid:=
 OpenClaim.holds_of_wide 3 Tryz.f3 rfl rfl rfl rfl rfl rfl rfl ⟨rfl,rfl,rfl,rfl,rfl⟩ rfl rfl rfl rfl rfl (by kernel_rfl) Tryz.func3 (by kernel_rfl)
  (of_decide_eq_true (by kernel_rfl)) (by unfold Func.isWrapper;first|(rw [if_pos (by decide +kernel)];kernel_rfl)|(rw [if_neg (by decide +kernel)];exact ⟨rfl,rfl⟩))
  (fun os A H enc _=>t_h os A H enc)
theorem card_holds:Rows.ModelRunsCardSaid:=
 Claim7.holds_tied_plain_at .later [] [.data,.data,.data,.data] true Rows.modelRunsCard.stood.harness false
  o_b (fun _ h=>by cases h) (by kernel_rfl) (fun _ h=>by cases h) modelRuns_row_tie rfl ⟨rfl,rfl⟩ (by kernel_rfl) rfl
  (fun f J hf E=>by
   obtain rfl:f=3:=Option.some.inj ((show Tryz.prog.funcNamed Rows.modelRunsRow.func=some 3 by kernel_rfl).symm.trans hf) |>.symm;obtain rfl:J=Tryz.f3:=(Option.some.inj (Tryz.func3.symm.trans E)).symm
   exact ⟨by kernel_rfl,fun j t H=>by
    rw [Tryz.params3] at H;have I:t∈[25,26,26,4]:=by simpa using Array.mem_of_getElem? H
    have A:([25,26,26,4].all fun u=>!Tryz.prog.wantsStandIn u)=true:=by kernel_rfl
    exact (show Tryz.prog.wantsStandIn t=false by simpa using List.all_eq_true.1 A t I)⟩)
  (by kernel_rfl)
end Go.Proofs.YtkfpainpomobfaaGreatDoor.modelRuns
namespace Go.Proofs.YtkfpainpomobfaaGreatDoor
/-- The card. -/
theorem modelRuns_card:Rows.ModelRunsCardSaid:=modelRuns.card_holds
#print axioms modelRuns_card
end Go.Proofs.YtkfpainpomobfaaGreatDoor
