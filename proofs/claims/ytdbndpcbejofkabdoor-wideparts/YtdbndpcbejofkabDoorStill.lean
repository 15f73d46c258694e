/- A region that draws its order, whose operations only read and whose callees leave all that stood as it was (they may make memory of their own): walked once, in the order of the text. -/
import Derived.Deep.QuietTactic
import Derived.BigQuiet
import Derived.Below
import Derived.Handy
namespace Go.Proofs.YtdbndpcbejofkabDoor.Wd
open Go.RowKit
/-- A world that keeps all that stood in w0. -/
def onTop (w0 d : World) : World := { d with heap := w0.heap ++ d.heap.extract w0.heap.size d.heap.size, os := w0.os, tape := w0.tape, output := w0.output }
theorem onTop_below (w0 d : World) : Below w0.heap.size w0 (onTop w0 d) :=
  ⟨rfl, rfl, rfl, by unfold onTop; simp, fun k hk => by unfold onTop; simp [Array.getElem?_append, hk]⟩
theorem of_below {w0 W : World} (h : Below w0.heap.size w0 W) : ∃ d, W = onTop w0 d := by
  refine ⟨W, ?_⟩
  obtain ⟨heap, tape, drawn, os, output⟩ := W
  obtain ⟨h1, h2, h3, h4, h5⟩ := h
  simp only at h1 h2 h3 h4 h5
  subst h1 h2 h3
  unfold onTop
  congr 1
  refine Array.ext_getElem? fun i => ?_
  rw [Array.getElem?_append]
  split
  · rename_i hi
    exact h5 i hi
  · rename_i hi
    rw [Array.getElem?_extract]
    show _ = if i - w0.heap.size < min heap.size heap.size - w0.heap.size then heap[w0.heap.size + (i - w0.heap.size)]? else none
    rw [Nat.min_self]
    by_cases c : i < heap.size
    · rw [if_pos (by omega), show w0.heap.size + (i - w0.heap.size) = i by omega]
    · rw [if_neg (by omega)]
      exact Array.getElem?_eq_none (by omega)
theorem onTop_cell (w0 d : World) (b o : Nat) (h : b < w0.heap.size) : (onTop w0 d).cell? ⟨b, o, none⟩ = w0.cell? ⟨b, o, none⟩ := (onTop_below w0 d).cell (p := ⟨b, o, none⟩) h
theorem onTop_frozen (w0 d : World) (b o : Nat) (h : b < w0.heap.size) : (onTop w0 d).frozen? ⟨b, o, none⟩ = w0.frozen? ⟨b, o, none⟩ := (onTop_below w0 d).frozen (p := ⟨b, o, none⟩) h
theorem Calls.still_of {P : Program} {f : FuncId} {args : Array Value} {w0 d : World} {v : Value}
    (h : Calls P f args (onTop w0 d) fun e w' => e = .returned v ∧ Below (onTop w0 d).heap.size (onTop w0 d) w') : Calls P f args (onTop w0 d) fun e w'' => e = .returned v ∧ ∃ d', w'' = onTop w0 d' :=
  h.mono fun _ _ ⟨he, hb⟩ => ⟨he, of_below ((onTop_below w0 d).trans (hb.mono (onTop_below w0 d).size))⟩
theorem wp_region_still {P : Program} {id : Nat} {Q : Exit → Act → World → Prop} {a : Act} {w : World} {l : List Oper} (hm : P.follows .mixedOrders = true) (hB : Region.lexB .any l.toArray = true)
    (h : wpQuiet P l.toArray (fun W => ∃ d, W = onTop w d) (fun a' => ∀ W, (∃ d, W = onTop w d) → Q .normal a' W) l a) : (Code.region id l.toArray true).wp P Q a w :=
  wp_region_quiet (C := fun W => ∃ d, W = onTop w d) hm hB (of_below ⟨rfl, rfl, rfl, Nat.le_refl _, fun _ _ => rfl⟩) (by simpa using h)
theorem all_const {p : Prop} [h : Nonempty World] : (World → p) ↔ p := ⟨fun f => h.elim f, fun x _ => x⟩
end Go.Proofs.YtdbndpcbejofkabDoor.Wd
