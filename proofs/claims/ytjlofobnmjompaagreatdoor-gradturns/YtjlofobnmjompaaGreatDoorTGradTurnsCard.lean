/- GradTurns: the card: whatever the input, the law GradTurns returns true and leaves its arguments as they were. Its conditions: the listed tables of the library start as their text lays them (tied). -/
import Derived.Test.YtjlofobnmjompaaGreatDoorRows
import Derived.Test.YtjlofobnmjompaaGreatDoorCards
import Derived.Test.YtjlofobnmjompaaGreatDoorTie
import Derived.Test.YtjlofobnmjompaaGreatDoorT41
import Derived.WalkKit
import Derived.ProofKit
import Derived.LaidMore
import Derived.OpenShut
import Derived.Stop.Joined
import Derived.SevenTiedAt
import Derived.Lib.SmallJoins
import Derived.Lib.LaidTab
import Derived.Carry
import Derived.Test.YtjlofobnmjompaaGreatDoorT00
import Derived.Test.YtjlofobnmjompaaGreatDoorT32
set_option linter.unusedVariables false
set_option linter.unusedSimpArgs false
set_option maxHeartbeats 16000000
set_option maxRecDepth 16000
namespace Go.Proofs.YtjlofobnmjompaaGreatDoor.gradTurns
open Go.ChangeShapes Go.WideShapes Go.ChangeAt Go.RowKit Go.Joins
theorem own:ownKnob Tryz.prog.godebug=none:=by kernel_rfl
theorem o_Y (os:Os) (args:Array Value):laidMetH Tryz.prog Rows.gradTurnsRow.laid ((World.doorLaid Tryz.prog 4000 os).forCall (fun _ _=>0) ⟨#[],args,[]⟩).memory:=
 laidMetH_of_parts3 (fuel:=8) (laidMet_of_run' 8 (by kernel_rfl) (by kernel_rfl)) (by kernel_rfl) (by kernel_rfl)
theorem f_R {W:World} (h:laidMetH Tryz.prog Rows.gradTurnsRow.laid W):Wd.Tz W/\Wd.Kz W:=by
 rw [MakeChecks.laidMetH_plain _ _ _ (by kernel_rfl)] at h;obtain ⟨ps,⟨g0,t0,aa,f0,p0,q0,O,I,J,U,⟨g1,t1,R,f1,p1,q1,H,M,D,L,_,_⟩,_⟩,_,_⟩:=h
 obtain rfl := Option.some.inj ((show Tryz.prog.globalNamed "math/bits.deBruijn64tab" = some 3 by kernel_rfl).symm.trans O)
 obtain rfl:=Option.some.inj ((show (Tryz.prog.globals[3]?).map (·.type)=some 242 by kernel_rfl).symm.trans I)
 have hx : Lib.TabIs Tryz.prog W "math/bits.deBruijn64tab" .u8 (Lib.deBruijn64tab.map Int.ofNat) := by
  unfold Lib.TabIs;rw [J,<- Lib.cells_of_tab (zs:=Lib.deBruijn64tab.map Int.ofNat) Tryz.underlying242 Tryz.underlying5 (by kernel_rfl) (by kernel_rfl) U]
 obtain rfl := Option.some.inj ((show Tryz.prog.globalNamed "carousel/model.kinds" = some 0 by kernel_rfl).symm.trans H)
 obtain rfl:=Option.some.inj ((show (Tryz.prog.globals[0]?).map (·.type)=some 183 by kernel_rfl).symm.trans M)
 have hk:Wd.Kz W:=by
  have e:=Wd.kinds_cells Tryz.underlying183 (by kernel_rfl) Tryz.underlying163 (by kernel_rfl) rfl rfl rfl (by kernel_rfl) (by kernel_rfl) (by kernel_rfl) Tryz.underlying9 Tryz.underlying3 Tryz.underlying161 Tryz.underlying3 (by kernel_rfl) L;rw [show R=Wd.kArr from Array.ext' e] at D;exact Wd.kz_var D
 refine ⟨?_,hk⟩;intro j hj
 have V := hx.cell (show Tryz.prog.globalNamed "math/bits.deBruijn64tab" = some 3 by kernel_rfl) j (by simpa [Lib.deBruijn64tab] using hj)
 have e:(Lib.deBruijn64tab.map Int.ofNat).getD j 0=((Lib.deBruijn64tab.getD j 0:Nat):Int):=by
  rw [List.getD_eq_getElem?_getD,List.getD_eq_getElem?_getD,List.getElem?_map];cases Lib.deBruijn64tab[j]? <;> rfl
 rw [e] at V;exact V
theorem j_c:laidOutB Tryz.prog=true:=by kernel_rfl
theorem walk (w:World) (hT:Hid (Wd.Tz w)) (hK:Hid (Wd.Kz w)) (J:Option Addr) (H R:Nat) (z0:Nat->Int) (r0:Wd.RowN .i64 w J H R z0) (b0:Option Addr) (M U:Nat) (y0:List Wd.Ly) (s0:Wd.LayN w b0 M U y0) (D:Int) (k1:-9223372036854775808<=D/\D<=9223372036854775807) (I:Option Addr) (V O:Nat) (z2:Nat->Int) (r2:Wd.RowN .i64 w I V O z2) (L:Option Addr) (n3 c3:Nat) (z3:List Wd.Exm) (r3:Wd.ExsN w L n3 c3 z3):
  Calls Tryz.prog 7 #[.agg #[.slice J H R,.slice b0 M U],.int .i64 D,.slice I V O,.slice L n3 c3] w fun e w'=>e = .returned (.bool true)/\Below w.heap.size w w':=by
 have:=Wd.gturns_walk w hT hK z0 H R J y0 M U b0 D z2 V O I z3 n3 c3 L r0 s0 k1 r2 r3;exact this
theorem s_A (os:Os) (I:os.Started) (H:Type) (enc:TypeId×Value->H):
  ReturnsInHanded {} Tryz.checked os 7 .any (fun w args=>(Rows.gradTurnsSpec.pre enc Tryz.prog Tryz.f7 [] false w args/\laidMetH Tryz.prog Rows.gradTurnsRow.laid w)/\sizedMet enc Tryz.prog Tryz.f7 (OpenSpec.ofChange Rows.gradTurnsSpec) false w args)
   (Rows.gradTurnsSpec.post enc Tryz.prog Tryz.f7 false true false false):=by
 refine returnsInHanded_of_change_and (C:=Tryz.checked) (X:=fun w _=>laidMetH Tryz.prog Rows.gradTurnsRow.laid w) (fun _ _ _ hh h=>h.of_heap hh) own I (by kernel_rfl) Tryz.func7
  (ChangeSpec.witness_shaped (enc:=enc) (C:=Tryz.checked) (os:=os) (X:=fun w _=>laidMetH Tryz.prog Rows.gradTurnsRow.laid w) false (World.doorLaid Tryz.prog 4000 os) #[.agg #[.slice none 0 0,.slice none 0 0],.int .i64 0,.slice none 0 0,.slice none 0 0] 8 rfl (World.shaped_of_RefB (by kernel_rfl) (by kernel_rfl)) (by kernel_rfl) (by kernel_rfl) (by kernel_rfl) (o_Y os _)) ?_
 intro W U args ds gs ac J hW _ _ hL _;have D:∀ (j:Nat) t v,Tryz.f7.params[j]?=some t->args[j]?=some v->Value.okWide Tryz.prog W .any U t v:=J;have ah:=hW;obtain ⟨p,q,M,hV,rfl,aj,an⟩:=hW;have hA:DataW.TrodAll enc Tryz.prog W 0 (fun _=>true) true Tryz.f7.params.toList args.toList ds p:=M;rw [Tryz.params7] at hA D;obtain ⟨v0,ap,d0,ao,p0,q0,ag,rfl,rfl,h0,r0⟩:=trodAll_cons hA;obtain ⟨v1,am,d1,au,p1,q1,rfl,rfl,rfl,h1,r1⟩:=trodAll_cons r0;obtain ⟨v2,aq,d2,ak,p2,q2,rfl,rfl,rfl,h2,r2⟩:=trodAll_cons r1;obtain ⟨v3,ai,d3,ar,p3,q3,rfl,rfl,rfl,h3,r3⟩:=trodAll_cons r2;obtain ⟨rfl,rfl,rfl⟩:=trodAll_nil r3;obtain rfl:args=#[v0,v1,v2,v3]:=by cases args;simp_all
 obtain ⟨rfl,rfl⟩:=trodVars_none hV;have k0:=h0;have ad:∀ x∈p0,x.block < W.heap.size:=by obtain ⟨m,O⟩:=k0;exact DataW.trod_lt m _ _ _ O
 obtain ⟨a0,n0,c0,z0,b0,m0,e0,y0,rfl,w0,u0⟩:=Wd.open_net Tryz.underlying33 (by kernel_rfl) (by kernel_rfl) Tryz.underlying30 Tryz.underlying3 (by kernel_rfl) Tryz.underlying31 Tryz.underlying69 (by kernel_rfl) rfl rfl rfl (by kernel_rfl) (by kernel_rfl) (by kernel_rfl) Tryz.underlying9 Tryz.underlying3 Tryz.underlying3 (D 0 33 v0 rfl rfl) h0;obtain ⟨a1,rfl,rfl,rfl,w1⟩:=open_int Tryz.underlying3 (D 1 3 v1 rfl rfl) h1;obtain ⟨a2,ab,aa,rfl⟩:=okWide_slice Tryz.underlying24 (D 2 24 v2 rfl rfl);have k2:=h2;have ae:∀ x∈p2,x.block < W.heap.size:=by obtain ⟨m,O⟩:=k2;exact DataW.trod_lt m _ _ _ O
 obtain ⟨z2,w2⟩:=Wd.open_rowN Tryz.underlying24 Tryz.underlying23 (by kernel_rfl) h2;obtain ⟨a3,R,V,rfl⟩:=okWide_slice Tryz.underlying38 (D 3 38 v3 rfl rfl);have k3:=h3;have af:∀ x∈p3,x.block < W.heap.size:=by obtain ⟨m,O⟩:=k3;exact DataW.trod_lt m _ _ _ O
 obtain ⟨z3,w3⟩:=Wd.open_exs Tryz.underlying38 Tryz.underlying26 (by kernel_rfl) rfl rfl rfl (by kernel_rfl) (by kernel_rfl) (by kernel_rfl) Tryz.underlying24 Tryz.underlying23 (by kernel_rfl) Tryz.underlying24 Tryz.underlying23 (by kernel_rfl) Tryz.underlying3 h3;clear M J;refine (walk W (f_R hL).1 (f_R hL).2 a0 n0 c0 z0 w0 b0 m0 e0 y0 u0 a1 (bounds_i64 w1) a2 ab aa z2 w2 a3 R V z3 w3).mono fun e W' ⟨he,L⟩=>?_;subst he;exact ⟨_,rfl,_,_,_,[],_,[],ah,trodAll_mk1 (shut_bool Tryz.underlying4 _),(trodAll_cons_mk (Below.trod j_c (by kernel_rfl) (of_decide_eq_true (by kernel_rfl)) k0 L ad) (trodAll_cons_mk (shut_int Tryz.underlying3 w1) (trodAll_cons_mk (Below.trod j_c (by kernel_rfl) (of_decide_eq_true (by kernel_rfl)) k2 L ae) (trodAll_cons_mk (Below.trod j_c (by kernel_rfl) (of_decide_eq_true (by kernel_rfl)) k3 L af) trodAll_mk0)))),rfl,L.frame _,fun h=>by cases h⟩
theorem n_h:Rows.GradTurnsSaid:=
 OpenClaim.holds_of_wide 7 Tryz.f7 rfl rfl rfl rfl rfl rfl rfl ⟨rfl,rfl,rfl,rfl,rfl⟩ rfl rfl rfl rfl rfl (by kernel_rfl) Tryz.func7 (by kernel_rfl)
  (of_decide_eq_true (by kernel_rfl)) (by unfold Func.isWrapper;first|(rw [if_pos (by decide +kernel)];kernel_rfl)|(rw [if_neg (by decide +kernel)];exact ⟨rfl,rfl⟩))
  (fun os D H enc _=>s_A os D H enc)
theorem card_holds:Rows.GradTurnsCardSaid:=
 Claim7.holds_tied_plain_at .later [] [.data,.data] true Rows.gradTurnsCard.stood.harness false
  n_h (fun _ h=>by cases h) (by kernel_rfl) (fun _ h=>by cases h) gradTurns_row_tie rfl ⟨rfl,rfl⟩ (by kernel_rfl) rfl
  (fun f L hf I=>by
   obtain rfl:f=7:=Option.some.inj ((show Tryz.prog.funcNamed Rows.gradTurnsRow.func=some 7 by kernel_rfl).symm.trans hf) |>.symm;obtain rfl:L=Tryz.f7:=(Option.some.inj (Tryz.func7.symm.trans I)).symm
   exact ⟨by kernel_rfl,fun j t J=>by
    rw [Tryz.params7] at J;have M:t∈[33,3,24,38]:=by simpa using Array.mem_of_getElem? J
    have H:([33,3,24,38].all fun u=>!Tryz.prog.wantsStandIn u)=true:=by kernel_rfl
    exact (show Tryz.prog.wantsStandIn t=false by simpa using List.all_eq_true.1 H t M)⟩)
  (by kernel_rfl)
end Go.Proofs.YtjlofobnmjompaaGreatDoor.gradTurns
namespace Go.Proofs.YtjlofobnmjompaaGreatDoor
/-- The card. -/
theorem gradTurns_card:Rows.GradTurnsCardSaid:=gradTurns.card_holds
#print axioms gradTurns_card
end Go.Proofs.YtjlofobnmjompaaGreatDoor
