/- What the functions of package wide hand  -/
import Derived.Test.YtihjnbbhpojnpaaGreatDoorQ04
import Derived.Shelf.Spec.BitsCarry
import Derived.Shelf.Spec.TrailingZeros
import Derived.Deep.RegionWith
set_option linter.unusedVariables false
set_option linter.unusedSimpArgs false
set_option maxHeartbeats 16000000
set_option maxRecDepth 16000
namespace Go.Proofs.YtihjnbbhpojnpaaGreatDoor.Wd
open Go.RowKit Fx
theorem bcell {B:Nat} {W w1:World} (hb:Below B W w1):(∀ b o,b < B→w1.cell? ⟨b,o,none⟩=W.cell? ⟨b,o,none⟩)∧(∀ b o,b < B→w1.frozen? ⟨b,o,none⟩=W.frozen? ⟨b,o,none⟩):=
 ⟨fun b o h=>hb.cell (p:=⟨b,o,none⟩) h,fun b o h=>hb.frozen (p:=⟨b,o,none⟩) h⟩
theorem wset_same {W:World} {p:Addr} {x v:Value} (h:W.cell? p=some v):(W.setCell p x).cell? p=some x:=World.cell?_setCell_same _ _ _ h
theorem wset_off {W:World} {b i j:Nat} {x:Value} (hij:j≠i):(W.setCell ⟨b,i,none⟩ x).cell? ⟨b,j,none⟩=W.cell? ⟨b,j,none⟩:=World.cell?_setCell_other _ _ _ _ (by simp;try omega)
theorem two (W:World) (b:Nat) (x0 x1:Value) {y0 y1:Value} (h0:W.cell? ⟨b,0,none⟩=some y0) (h1:W.cell? ⟨b,1,none⟩=some y1):
  ((W.setCell ⟨b,0,none⟩ x0).setCell ⟨b,1,none⟩ x1).cell? ⟨b,0,none⟩=some x0∧((W.setCell ⟨b,0,none⟩ x0).setCell ⟨b,1,none⟩ x1).cell? ⟨b,1,none⟩=some x1:=by
 refine ⟨?_,?_⟩
 ·rw [wset_off (by omega)];exact wset_same h0
 ·exact wset_same (by rw [wset_off (by omega)];exact h1)
theorem ret_int {k:IntKind} {a b:Int} (h:a=b):Ending.returned (.int k a) = .returned (.int k b):=by rw [h]
/-- The two words of a number. -/
theorem words {v:Int} (hv:InW v):∃ h l:Int,wd v = .agg #[.int .i64 h,.int .u64 l]∧-9223372036854775808≤h∧h≤9223372036854775807∧0≤l∧l≤18446744073709551615∧Hid (v=h*18446744073709551616+l):=by
 refine ⟨_,_,rfl,?_⟩
 unfold InW at hv
 refine ⟨by omega,by omega,by omega,by omega,show _=_ by omega⟩
theorem of_any (n:Int) (hn:InR n) (w:World):
  Calls Tryz.prog 141 #[.int .i64 n] w fun e w'=>e = .returned (wd n)∧Below w.heap.size w w':=by
 obtain ⟨h,l,e,h1,h2,l1,l2,H⟩:=words (InR.w hn)
 rw [e]
 unfold InR at hn
 go_enter Tryz.func141,Tryz.ntmps141
 go_wp2
 refine bodyPost_ret (v:=.agg #[.int .i64 h,.int .u64 l]) ?_ rfl ⟨rfl,by go_grown⟩
 have:=H.out
 simp [results,Tryz.results141,go_sem]
 try simp only [IntKind.wrap_u64,wrap64]
 constructor <;> omega
theorem add64 (x y:Int) (hx:0≤x) (hy:0≤y) (w:World):(callFunc 165 #[.int .u64 x,.int .u64 y,.int .u64 0]).run Tryz.prog w =
  .ok (.value (.tuple #[.int .u64 ((x+y) % 18446744073709551616),.int .u64 ((x+y) / 18446744073709551616)])) w:=by
 obtain ⟨x,rfl⟩:=Int.eq_ofNat_of_zero_le hx
 obtain ⟨y,rfl⟩:=Int.eq_ofNat_of_zero_le hy
 rw [run_callFunc_extern Tryz.func165 (by kernel_rfl) (by kernel_rfl) (by kernel_rfl) (e:=add64Entry) (by kernel_rfl)]
 refine (congrArg (fun r=>Result.andThen r _) (run_add64 (x:Int) (y:Int) 0 (by omega) (by omega) (by omega) (by omega) w)).trans ?_
 simp only [Result.andThen]
 congr 5 <;> omega
theorem add_any (a b:Int) (ha:InW a) (hb:InW b) (w:World):
  Calls Tryz.prog 143 #[wd a,wd b] w fun e w'=>e = .returned (wd (wr (a+b)))∧Below w.heap.size w w':=by
 obtain ⟨ah,al,ea,a1,a2,a3,a4,Ha⟩:=words ha
 obtain ⟨bh,bl,eb,b1,b2,b3,b4,Hb⟩:=words hb
 obtain ⟨h,l,e,h1,h2,l1,l2,H⟩:=words (wr_rng (a+b))
 rw [ea,eb,e]
 go_enter Tryz.func143,Tryz.ntmps143
 go_wp2_with (simp only [add64 al bl a3 b3])
 refine bodyPost_ret (v:=.agg #[.int .i64 h,.int .u64 l]) ?_ rfl ⟨rfl,by go_grown⟩
 have:=Ha.out
 have:=Hb.out
 have:=H.out
 simp [results,Tryz.results143,go_sem]
 try simp only [IntKind.wrap_u64,wrap64]
 unfold wr at *
 constructor <;> omega
theorem bound_any (b:Bool) (w:World):
  Calls Tryz.prog 142 #[.bool b] w fun e w'=>e = .returned (.int .i64 (lim b))∧w'=w:=by
 cases b
 all_goals
  go_enter Tryz.func142,Tryz.ntmps142
  go_wp2
  go_ret
  exact ⟨rfl,rfl⟩
theorem wrapi_in (x:Int):InR (IntKind.i64.wrap x):=by unfold InR;rw [IntKind.wrap_i64];omega
theorem of_at (al:Int) (ha:0≤al∧al≤18446744073709551615) (W:World):Calls Tryz.prog 141 #[.int .i64 (IntKind.i64.wrap al)] W fun e w'=>e = .returned (.agg #[.int .i64 (if al < 9223372036854775808 then 0 else -1),.int .u64 al])∧Below W.heap.size W w':=by
 have:=of_any (IntKind.i64.wrap al) (wrapi_in al) W
 have e:wd (IntKind.i64.wrap al) = .agg #[.int .i64 (if al < 9223372036854775808 then 0 else -1),.int .u64 al]:=by
  refine (wd_eq ?_ ?_).symm
  ·rw [IntKind.wrap_i64];split <;> omega
  ·rw [IntKind.wrap_i64];omega
 rw [e] at this
 exact this
theorem fix_any (a:Int) (ha:InW a) (w:World):
  Calls Tryz.prog 115 #[wd a] w fun e w'=>e = .returned (.int .i64 (hold a))∧Below w.heap.size w w':=by
 obtain ⟨ah,al,ea,a1,a2,a3,a4,Ha⟩:=words ha
 have hs:=of_at al ⟨a3,a4⟩
 obtain ⟨oh,eo⟩:∃ oh:Int,(if al < 9223372036854775808 then 0 else -1)=oh:=⟨_,rfl⟩
 rw [eo] at hs
 have Ho:Hid ((if al < 9223372036854775808 then 0 else -1)=oh):=eo
 have ob:-1≤oh∧oh≤0:=by rw [← eo];split <;> omega
 rw [ea]
 clear ea eo
 by_cases h:oh=ah
 ·subst h
  go_enter Tryz.func115,Tryz.ntmps115
  go_wp2_with fail
  go_region_with (go_at_call 141;refine (hs _).mono ?_;rintro e' w1 ⟨rfl,hb⟩;obtain ⟨hcell,hfroz⟩:=bcell hb;have hB:Below w.heap.size w w1:=Below.trans (by go_grown) (hb.mono (by simp;try omega));have hsz:=hb.size;simp at hsz)
  all_goals
   go_wp2
   go_ret
   refine ⟨ret_int ?_,by go_grown⟩
   have h1:=Ha.out
   have h2:=Ho.out
   try simp only [IntKind.wrap_i64,wrap64]
   unfold hold
   split at h2 <;> split <;> (try split) <;> omega
 ·have hne:(oh==ah)=false:=by simpa using h
  go_enter Tryz.func115,Tryz.ntmps115
  go_wp2_with fail
  go_region_with (go_at_call 141;refine (hs _).mono ?_;rintro e' w1 ⟨rfl,hb⟩;obtain ⟨hcell,hfroz⟩:=bcell hb;have hB:Below w.heap.size w w1:=Below.trans (by go_grown) (hb.mono (by simp;try omega));have hsz:=hb.size;simp at hsz)
  all_goals
   go_wp2_with (go_at_call 142;refine (bound_any _ _).mono ?_;rintro e' w2 ⟨rfl,rfl⟩)
   go_ret
   refine ⟨ret_int ?_,by go_grown⟩
   have h1:=Ha.out
   have h2:=Ho.out
   unfold InW at ha
   unfold lim hold
   simp only [decide_eq_true_eq]
   split at h2 <;> split <;> split <;> (try split) <;> omega
end Go.Proofs.YtihjnbbhpojnpaaGreatDoor.Wd
