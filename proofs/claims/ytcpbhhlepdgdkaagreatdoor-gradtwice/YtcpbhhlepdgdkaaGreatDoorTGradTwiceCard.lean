/- GradTwice: the card: whatever the input, -/
import Derived.Test.YtcpbhhlepdgdkaaGreatDoorCards
import Derived.Test.YtcpbhhlepdgdkaaGreatDoorTie
import Derived.Test.YtcpbhhlepdgdkaaGreatDoorT31
import Derived.LaidMore
import Derived.Stop.Joined
import Derived.SevenTiedAt
set_option linter.unusedVariables false
set_option linter.unusedSimpArgs false
set_option maxHeartbeats 16000000
set_option maxRecDepth 16000
namespace Go.Proofs.YtcpbhhlepdgdkaaGreatDoor.gradTwice
open Go.ChangeShapes Go.WideShapes Go.ChangeAt Go.RowKit Go.Joins
theorem own:ownKnob Tryz.prog.godebug=none:=by kernel_rfl
theorem p_e (os:Os) (args:Array Value):laidMetH Tryz.prog Rows.gradTwiceRow.laid ((World.doorLaid Tryz.prog 4000 os).forCall (fun _ _=>0) ⟨#[],args,[]⟩).memory:=
 laidMetH_of_parts3 (fuel:=8) (laidMet_of_run' 8 (by kernel_rfl) (by kernel_rfl)) (by kernel_rfl) (by kernel_rfl)
theorem f_Z {W:World} (h:laidMetH Tryz.prog Rows.gradTwiceRow.laid W):Wd.Tz W/\Wd.Kz W:=by
 rw [MakeChecks.laidMetH_plain _ _ _ (by kernel_rfl)] at h;obtain ⟨ps,⟨g0,t0,V,f0,p0,q0,I,J,H,R,⟨g1,t1,M,f1,p1,q1,O,L,D,E,_,_⟩,_⟩,_,_⟩:=h
 obtain rfl := Option.some.inj ((show Tryz.prog.globalNamed "math/bits.deBruijn64tab" = some 3 by kernel_rfl).symm.trans I)
 obtain rfl:=Option.some.inj ((show (Tryz.prog.globals[3]?).map (·.type)=some 233 by kernel_rfl).symm.trans J)
 have hx : Lib.TabIs Tryz.prog W "math/bits.deBruijn64tab" .u8 (Lib.deBruijn64tab.map Int.ofNat) := by
  unfold Lib.TabIs;rw [H,<- Lib.cells_of_tab (zs:=Lib.deBruijn64tab.map Int.ofNat) Tryz.underlying233 Tryz.underlying5 (by kernel_rfl) (by kernel_rfl) R]
 obtain rfl := Option.some.inj ((show Tryz.prog.globalNamed "carousel/model.kinds" = some 0 by kernel_rfl).symm.trans O)
 obtain rfl:=Option.some.inj ((show (Tryz.prog.globals[0]?).map (·.type)=some 174 by kernel_rfl).symm.trans L)
 have hk:Wd.Kz W:=by
  have e:=Wd.kinds_cells Tryz.underlying174 (by kernel_rfl) Tryz.underlying154 (by kernel_rfl) rfl rfl rfl (by kernel_rfl) (by kernel_rfl) (by kernel_rfl) Tryz.underlying9 Tryz.underlying3 Tryz.underlying152 Tryz.underlying3 (by kernel_rfl) E;rw [show M=Wd.kArr from Array.ext' e] at D;exact Wd.kz_var D
 refine ⟨?_,hk⟩;intro j hj
 have U := hx.cell (show Tryz.prog.globalNamed "math/bits.deBruijn64tab" = some 3 by kernel_rfl) j (by simpa [Lib.deBruijn64tab] using hj)
 have e:(Lib.deBruijn64tab.map Int.ofNat).getD j 0=((Lib.deBruijn64tab.getD j 0:Nat):Int):=by
  rw [List.getD_eq_getElem?_getD,List.getD_eq_getElem?_getD,List.getElem?_map];cases Lib.deBruijn64tab[j]? <;> rfl
 rw [e] at U;exact U
theorem j_m:laidOutB Tryz.prog=true:=by kernel_rfl
theorem walk (w:World) (hT:Hid (Wd.Tz w)) (hK:Hid (Wd.Kz w)) (R:Option Addr) (U H:Nat) (z0:Nat->Int) (r0:Wd.RowN .i64 w R U H z0) (V:Option Addr) (E I:Nat) (y0:List Wd.Ly) (s0:Wd.LayN w V E I y0) (D:Int) (k1:-9223372036854775808<=D/\D<=9223372036854775807) (L:Option Addr) (n2 M:Nat) (z2:Nat->Int) (r2:Wd.RowN .i64 w L n2 M z2) (O:Option Addr) (J c3:Nat) (z3:List Wd.Exm) (r3:Wd.ExsN w O J c3 z3):
  Calls Tryz.prog 3 #[.agg #[.slice R U H,.slice V E I],.int .i64 D,.slice L n2 M,.slice O J c3] w fun e w'=>e = .returned (.bool true)/\Below w.heap.size w w':=by
 have:=Wd.gtwice_walk w hT hK z0 U H R y0 E I V D z2 n2 M L z3 J c3 O r0 s0 k1 r2 r3;exact this
theorem s_M (os:Os) (E:os.Started) (H:Type) (enc:TypeId×Value->H):
  ReturnsInHanded {} Tryz.checked os 3 .any (fun w args=>(Rows.gradTwiceSpec.pre enc Tryz.prog Tryz.f3 [] false w args/\laidMetH Tryz.prog Rows.gradTwiceRow.laid w)/\sizedMet enc Tryz.prog Tryz.f3 (OpenSpec.ofChange Rows.gradTwiceSpec) false w args)
   (Rows.gradTwiceSpec.post enc Tryz.prog Tryz.f3 false true false false):=by
 refine returnsInHanded_of_change_and (C:=Tryz.checked) (X:=fun w _=>laidMetH Tryz.prog Rows.gradTwiceRow.laid w) (fun _ _ _ hh h=>h.of_heap hh) own E (by kernel_rfl) Tryz.func3
  (ChangeSpec.witness_shaped (enc:=enc) (C:=Tryz.checked) (os:=os) (X:=fun w _=>laidMetH Tryz.prog Rows.gradTwiceRow.laid w) false (World.doorLaid Tryz.prog 4000 os) #[.agg #[.slice none 0 0,.slice none 0 0],.int .i64 0,.slice none 0 0,.slice none 0 0] 8 rfl (World.shaped_of_RefB (by kernel_rfl) (by kernel_rfl)) (by kernel_rfl) (by kernel_rfl) (by kernel_rfl) (p_e os _)) ?_
 intro W M args ds gs ab I hW _ _ hL _;have D:∀ (j:Nat) t v,Tryz.f3.params[j]?=some t->args[j]?=some v->Value.okWide Tryz.prog W .any M t v:=I;have af:=hW;obtain ⟨p,q,O,hV,rfl,ai,aj⟩:=hW;have hA:DataW.TrodAll enc Tryz.prog W 0 (fun _=>true) true Tryz.f3.params.toList args.toList ds p:=O;rw [Tryz.params3] at hA D;obtain ⟨v0,ah,d0,aq,p0,q0,ad,rfl,rfl,h0,r0⟩:=trodAll_cons hA;obtain ⟨v1,an,d1,ao,p1,q1,rfl,rfl,rfl,h1,r1⟩:=trodAll_cons r0;obtain ⟨v2,ap,d2,am,p2,q2,rfl,rfl,rfl,h2,r2⟩:=trodAll_cons r1;obtain ⟨v3,ak,d3,ar,p3,q3,rfl,rfl,rfl,h3,r3⟩:=trodAll_cons r2;obtain ⟨rfl,rfl,rfl⟩:=trodAll_nil r3;obtain rfl:args=#[v0,v1,v2,v3]:=by cases args;simp_all
 obtain ⟨rfl,rfl⟩:=trodVars_none hV;have k0:=h0;have ae:∀ x∈p0,x.block < W.heap.size:=by obtain ⟨m,V⟩:=k0;exact DataW.trod_lt m _ _ _ V
 obtain ⟨a0,n0,c0,z0,b0,m0,e0,y0,rfl,w0,u0⟩:=Wd.open_net Tryz.underlying25 (by kernel_rfl) (by kernel_rfl) Tryz.underlying22 Tryz.underlying3 (by kernel_rfl) Tryz.underlying23 Tryz.underlying65 (by kernel_rfl) rfl rfl rfl (by kernel_rfl) (by kernel_rfl) (by kernel_rfl) Tryz.underlying9 Tryz.underlying3 Tryz.underlying3 (D 0 25 v0 rfl rfl) h0;obtain ⟨a1,rfl,rfl,rfl,w1⟩:=open_int Tryz.underlying3 (D 1 3 v1 rfl rfl) h1;obtain ⟨a2,aa,U,rfl⟩:=okWide_slice Tryz.underlying26 (D 2 26 v2 rfl rfl);have k2:=h2;have ag:∀ x∈p2,x.block < W.heap.size:=by obtain ⟨m,V⟩:=k2;exact DataW.trod_lt m _ _ _ V
 obtain ⟨z2,w2⟩:=Wd.open_rowN Tryz.underlying26 Tryz.underlying48 (by kernel_rfl) h2;obtain ⟨a3,L,R,rfl⟩:=okWide_slice Tryz.underlying27 (D 3 27 v3 rfl rfl);have k3:=h3;have ac:∀ x∈p3,x.block < W.heap.size:=by obtain ⟨m,V⟩:=k3;exact DataW.trod_lt m _ _ _ V
 obtain ⟨z3,w3⟩:=Wd.open_exs Tryz.underlying27 Tryz.underlying33 (by kernel_rfl) rfl rfl rfl (by kernel_rfl) (by kernel_rfl) (by kernel_rfl) Tryz.underlying26 Tryz.underlying48 (by kernel_rfl) Tryz.underlying26 Tryz.underlying48 (by kernel_rfl) Tryz.underlying3 h3;clear O I;refine (walk W (f_Z hL).1 (f_Z hL).2 a0 n0 c0 z0 w0 b0 m0 e0 y0 u0 a1 (bounds_i64 w1) a2 aa U z2 w2 a3 L R z3 w3).mono fun e W' ⟨he,J⟩=>?_;subst he;exact ⟨_,rfl,_,_,_,[],_,[],af,trodAll_mk1 (shut_bool Tryz.underlying4 _),(trodAll_cons_mk (Below.trod j_m (by kernel_rfl) (of_decide_eq_true (by kernel_rfl)) k0 J ae) (trodAll_cons_mk (shut_int Tryz.underlying3 w1) (trodAll_cons_mk (Below.trod j_m (by kernel_rfl) (of_decide_eq_true (by kernel_rfl)) k2 J ag) (trodAll_cons_mk (Below.trod j_m (by kernel_rfl) (of_decide_eq_true (by kernel_rfl)) k3 J ac) trodAll_mk0)))),rfl,J.frame _,fun h=>by cases h⟩
theorem n_y:Rows.GradTwiceSaid:=
 OpenClaim.holds_of_wide 3 Tryz.f3 rfl rfl rfl rfl rfl rfl rfl ⟨rfl,rfl,rfl,rfl,rfl⟩ rfl rfl rfl rfl rfl (by kernel_rfl) Tryz.func3 (by kernel_rfl)
  (of_decide_eq_true (by kernel_rfl)) (by unfold Func.isWrapper;first|(rw [if_pos (by decide +kernel)];kernel_rfl)|(rw [if_neg (by decide +kernel)];exact ⟨rfl,rfl⟩))
  (fun os D H enc _=>s_M os D H enc)
theorem card_holds:Rows.GradTwiceCardSaid:=
 Claim7.holds_tied_plain_at .later [] [.data,.data] true Rows.gradTwiceCard.stood.harness false
  n_y (fun _ h=>by cases h) (by kernel_rfl) (fun _ h=>by cases h) gradTwice_row_tie rfl ⟨rfl,rfl⟩ (by kernel_rfl) rfl
  (fun f J hf E=>by
   obtain rfl:f=3:=Option.some.inj ((show Tryz.prog.funcNamed Rows.gradTwiceRow.func=some 3 by kernel_rfl).symm.trans hf) |>.symm;obtain rfl:J=Tryz.f3:=(Option.some.inj (Tryz.func3.symm.trans E)).symm
   exact ⟨by kernel_rfl,fun j t H=>by
    rw [Tryz.params3] at H;have I:t∈[25,3,26,27]:=by simpa using Array.mem_of_getElem? H
    have D:([25,3,26,27].all fun u=>!Tryz.prog.wantsStandIn u)=true:=by kernel_rfl
    exact (show Tryz.prog.wantsStandIn t=false by simpa using List.all_eq_true.1 D t I)⟩)
  (by kernel_rfl)
end Go.Proofs.YtcpbhhlepdgdkaaGreatDoor.gradTwice
namespace Go.Proofs.YtcpbhhlepdgdkaaGreatDoor
/-- The card. -/
theorem gradTwice_card:Rows.GradTwiceCardSaid:=gradTwice.card_holds
#print axioms gradTwice_card
end Go.Proofs.YtcpbhhlepdgdkaaGreatDoor
