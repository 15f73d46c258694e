/- GradParts: the card: whatever the input, -/
import Derived.Test.YtjlofobnmjompaaGreatDoorCards
import Derived.Test.YtjlofobnmjompaaGreatDoorTie
import Derived.Test.YtjlofobnmjompaaGreatDoorP42
import Derived.LaidMore
import Derived.Stop.Joined
import Derived.SevenTiedAt
set_option linter.unusedVariables false
set_option linter.unusedSimpArgs false
set_option maxHeartbeats 16000000
set_option maxRecDepth 16000
namespace Go.Proofs.YtjlofobnmjompaaGreatDoor.gradParts
open Go.ChangeShapes Go.WideShapes Go.ChangeAt Go.RowKit Go.Joins
theorem own:ownKnob Tryz.prog.godebug=none:=by kernel_rfl
theorem o_2 (os:Os) (args:Array Value):laidMetH Tryz.prog Rows.gradPartsRow.laid ((World.doorLaid Tryz.prog 4000 os).forCall (fun _ _=>0) ⟨#[],args,[]⟩).memory:=
 laidMetH_of_parts3 (fuel:=8) (laidMet_of_run' 8 (by kernel_rfl) (by kernel_rfl)) (by kernel_rfl) (by kernel_rfl)
theorem f_T {W:World} (h:laidMetH Tryz.prog Rows.gradPartsRow.laid W):Wd.Tz W/\Wd.Kz W:=by
 rw [MakeChecks.laidMetH_plain _ _ _ (by kernel_rfl)] at h;obtain ⟨ps,⟨g0,t0,aa,f0,p0,q0,L,J,R,M,⟨g1,t1,O,f1,p1,q1,I,E,D,H,_,_⟩,_⟩,_,_⟩:=h
 obtain rfl := Option.some.inj ((show Tryz.prog.globalNamed "math/bits.deBruijn64tab" = some 3 by kernel_rfl).symm.trans L)
 obtain rfl:=Option.some.inj ((show (Tryz.prog.globals[3]?).map (·.type)=some 242 by kernel_rfl).symm.trans J)
 have hx : Lib.TabIs Tryz.prog W "math/bits.deBruijn64tab" .u8 (Lib.deBruijn64tab.map Int.ofNat) := by
  unfold Lib.TabIs;rw [R,<- Lib.cells_of_tab (zs:=Lib.deBruijn64tab.map Int.ofNat) Tryz.underlying242 Tryz.underlying5 (by kernel_rfl) (by kernel_rfl) M]
 obtain rfl := Option.some.inj ((show Tryz.prog.globalNamed "carousel/model.kinds" = some 0 by kernel_rfl).symm.trans I)
 obtain rfl:=Option.some.inj ((show (Tryz.prog.globals[0]?).map (·.type)=some 183 by kernel_rfl).symm.trans E)
 have V:Wd.Kz W:=by
  have e:=Wd.kinds_cells Tryz.underlying183 (by kernel_rfl) Tryz.underlying163 (by kernel_rfl) rfl rfl rfl (by kernel_rfl) (by kernel_rfl) (by kernel_rfl) Tryz.underlying9 Tryz.underlying3 Tryz.underlying161 Tryz.underlying3 (by kernel_rfl) H;rw [show O=Wd.kArr from Array.ext' e] at D;exact Wd.kz_var D
 refine ⟨?_,V⟩;intro j hj
 have U := hx.cell (show Tryz.prog.globalNamed "math/bits.deBruijn64tab" = some 3 by kernel_rfl) j (by simpa [Lib.deBruijn64tab] using hj)
 have e:(Lib.deBruijn64tab.map Int.ofNat).getD j 0=((Lib.deBruijn64tab.getD j 0:Nat):Int):=by
  rw [List.getD_eq_getElem?_getD,List.getD_eq_getElem?_getD,List.getElem?_map];cases Lib.deBruijn64tab[j]? <;> rfl
 rw [e] at U;exact U
theorem j_c:laidOutB Tryz.prog=true:=by kernel_rfl
theorem walk (w:World) (hT:Hid (Wd.Tz w)) (hK:Hid (Wd.Kz w)) (H:Option Addr) (U R:Nat) (z0:Nat->Int) (r0:Wd.RowN .i64 w H U R z0) (I:Option Addr) (m0 V:Nat) (y0:List Wd.Ly) (s0:Wd.LayN w I m0 V y0) (D:Int) (k1:-9223372036854775808<=D/\D<=9223372036854775807) (O:Option Addr) (n2 L:Nat) (z2:Nat->Int) (r2:Wd.RowN .i64 w O n2 L z2) (M:Option Addr) (J c3:Nat) (z3:List Wd.Exm) (r3:Wd.ExsN w M J c3 z3) (E:Int) (k4:-9223372036854775808<=E/\E<=9223372036854775807):
  Calls Tryz.prog 4 #[.agg #[.slice H U R,.slice I m0 V],.int .i64 D,.slice O n2 L,.slice M J c3,.int .i64 E] w fun e w'=>e = .returned (.bool true)/\Below w.heap.size w w':=by
 have:=Wd.gparts_walk w hT hK z0 U R H y0 m0 V I D z2 n2 L O z3 J c3 M E r0 s0 k1 r2 r3 k4;exact this
theorem s_x (os:Os) (E:os.Started) (H:Type) (enc:TypeId×Value->H):
  ReturnsInHanded {} Tryz.checked os 4 .any (fun w args=>(Rows.gradPartsSpec.pre enc Tryz.prog Tryz.f4 [] false w args/\laidMetH Tryz.prog Rows.gradPartsRow.laid w)/\sizedMet enc Tryz.prog Tryz.f4 (OpenSpec.ofChange Rows.gradPartsSpec) false w args)
   (Rows.gradPartsSpec.post enc Tryz.prog Tryz.f4 false true false false):=by
 refine returnsInHanded_of_change_and (C:=Tryz.checked) (X:=fun w _=>laidMetH Tryz.prog Rows.gradPartsRow.laid w) (fun _ _ _ hh h=>h.of_heap hh) own E (by kernel_rfl) Tryz.func4
  (ChangeSpec.witness_shaped (enc:=enc) (C:=Tryz.checked) (os:=os) (X:=fun w _=>laidMetH Tryz.prog Rows.gradPartsRow.laid w) false (World.doorLaid Tryz.prog 4000 os) #[.agg #[.slice none 0 0,.slice none 0 0],.int .i64 0,.slice none 0 0,.slice none 0 0,.int .i64 0] 8 rfl (World.shaped_of_RefB (by kernel_rfl) (by kernel_rfl)) (by kernel_rfl) (by kernel_rfl) (by kernel_rfl) (o_2 os _)) ?_
 intro W R args ds gs ab I hW _ _ hL _;have D:∀ (j:Nat) t v,Tryz.f4.params[j]?=some t->args[j]?=some v->Value.okWide Tryz.prog W .any R t v:=I;have ac:=hW;obtain ⟨p,q,aa,hV,rfl,aj,am⟩:=hW;have hA:DataW.TrodAll enc Tryz.prog W 0 (fun _=>true) true Tryz.f4.params.toList args.toList ds p:=aa;rw [Tryz.params4] at hA D;obtain ⟨v0,aq,d0,au,p0,q0,ag,rfl,rfl,h0,r0⟩:=trodAll_cons hA;obtain ⟨v1,ap,d1,ar,p1,q1,rfl,rfl,rfl,h1,r1⟩:=trodAll_cons r0;obtain ⟨v2,an,d2,ah,p2,q2,rfl,rfl,rfl,h2,r2⟩:=trodAll_cons r1;obtain ⟨v3,ak,d3,ai,p3,q3,rfl,rfl,rfl,h3,r3⟩:=trodAll_cons r2;obtain ⟨v4,av,d4,ao,p4,q4,rfl,rfl,rfl,h4,r4⟩:=trodAll_cons r3;obtain ⟨rfl,rfl,rfl⟩:=trodAll_nil r4;obtain rfl:args=#[v0,v1,v2,v3,v4]:=by cases args;simp_all
 obtain ⟨rfl,rfl⟩:=trodVars_none hV;have k0:=h0;have ae:∀ x∈p0,x.block < W.heap.size:=by obtain ⟨m,M⟩:=k0;exact DataW.trod_lt m _ _ _ M
 obtain ⟨a0,n0,c0,z0,b0,m0,e0,y0,rfl,w0,u0⟩:=Wd.open_net Tryz.underlying33 (by kernel_rfl) (by kernel_rfl) Tryz.underlying30 Tryz.underlying3 (by kernel_rfl) Tryz.underlying31 Tryz.underlying69 (by kernel_rfl) rfl rfl rfl (by kernel_rfl) (by kernel_rfl) (by kernel_rfl) Tryz.underlying9 Tryz.underlying3 Tryz.underlying3 (D 0 33 v0 rfl rfl) h0;obtain ⟨a1,rfl,rfl,rfl,w1⟩:=open_int Tryz.underlying3 (D 1 3 v1 rfl rfl) h1;obtain ⟨a2,O,L,rfl⟩:=okWide_slice Tryz.underlying24 (D 2 24 v2 rfl rfl);have k2:=h2;have af:∀ x∈p2,x.block < W.heap.size:=by obtain ⟨m,M⟩:=k2;exact DataW.trod_lt m _ _ _ M
 obtain ⟨z2,w2⟩:=Wd.open_rowN Tryz.underlying24 Tryz.underlying23 (by kernel_rfl) h2;obtain ⟨a3,V,U,rfl⟩:=okWide_slice Tryz.underlying38 (D 3 38 v3 rfl rfl);have k3:=h3;have ad:∀ x∈p3,x.block < W.heap.size:=by obtain ⟨m,M⟩:=k3;exact DataW.trod_lt m _ _ _ M
 obtain ⟨z3,w3⟩:=Wd.open_exs Tryz.underlying38 Tryz.underlying26 (by kernel_rfl) rfl rfl rfl (by kernel_rfl) (by kernel_rfl) (by kernel_rfl) Tryz.underlying24 Tryz.underlying23 (by kernel_rfl) Tryz.underlying24 Tryz.underlying23 (by kernel_rfl) Tryz.underlying3 h3;obtain ⟨a4,rfl,rfl,rfl,w4⟩:=open_int Tryz.underlying3 (D 4 3 v4 rfl rfl) h4;clear aa I;refine (walk W (f_T hL).1 (f_T hL).2 a0 n0 c0 z0 w0 b0 m0 e0 y0 u0 a1 (bounds_i64 w1) a2 O L z2 w2 a3 V U z3 w3 a4 (bounds_i64 w4)).mono fun e W' ⟨he,J⟩=>?_;subst he;exact ⟨_,rfl,_,_,_,[],_,[],ac,trodAll_mk1 (shut_bool Tryz.underlying4 _),(trodAll_cons_mk (Below.trod j_c (by kernel_rfl) (of_decide_eq_true (by kernel_rfl)) k0 J ae) (trodAll_cons_mk (shut_int Tryz.underlying3 w1) (trodAll_cons_mk (Below.trod j_c (by kernel_rfl) (of_decide_eq_true (by kernel_rfl)) k2 J af) (trodAll_cons_mk (Below.trod j_c (by kernel_rfl) (of_decide_eq_true (by kernel_rfl)) k3 J ad) (trodAll_cons_mk (shut_int Tryz.underlying3 w4) trodAll_mk0))))),rfl,J.frame _,fun h=>by cases h⟩
theorem n_s:Rows.GradPartsSaid:=
 OpenClaim.holds_of_wide 4 Tryz.f4 rfl rfl rfl rfl rfl rfl rfl ⟨rfl,rfl,rfl,rfl,rfl⟩ rfl rfl rfl rfl rfl (by kernel_rfl) Tryz.func4 (by kernel_rfl)
  (of_decide_eq_true (by kernel_rfl)) (by unfold Func.isWrapper;first|(rw [if_pos (by decide +kernel)];kernel_rfl)|(rw [if_neg (by decide +kernel)];exact ⟨rfl,rfl⟩))
  (fun os D H enc _=>s_x os D H enc)
theorem card_holds:Rows.GradPartsCardSaid:=
 Claim7.holds_tied_plain_at .later [] [.data,.data] true Rows.gradPartsCard.stood.harness false
  n_s (fun _ h=>by cases h) (by kernel_rfl) (fun _ h=>by cases h) gradParts_row_tie rfl ⟨rfl,rfl⟩ (by kernel_rfl) rfl
  (fun f J hf H=>by
   obtain rfl:f=4:=Option.some.inj ((show Tryz.prog.funcNamed Rows.gradPartsRow.func=some 4 by kernel_rfl).symm.trans hf) |>.symm;obtain rfl:J=Tryz.f4:=(Option.some.inj (Tryz.func4.symm.trans H)).symm
   exact ⟨by kernel_rfl,fun j t I=>by
    rw [Tryz.params4] at I;have L:t∈[33,3,24,38,3]:=by simpa using Array.mem_of_getElem? I
    have E:([33,3,24,38,3].all fun u=>!Tryz.prog.wantsStandIn u)=true:=by kernel_rfl
    exact (show Tryz.prog.wantsStandIn t=false by simpa using List.all_eq_true.1 E t L)⟩)
  (by kernel_rfl)
end Go.Proofs.YtjlofobnmjompaaGreatDoor.gradParts
namespace Go.Proofs.YtjlofobnmjompaaGreatDoor
/-- The card. -/
theorem gradParts_card:Rows.GradPartsCardSaid:=gradParts.card_holds
#print axioms gradParts_card
end Go.Proofs.YtjlofobnmjompaaGreatDoor
