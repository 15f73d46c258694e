/- What conv's gathered tells, of Row's, BackIn's and BackKernel's sums; and what the document says of their answers. -/
import Derived.Test.YtnicknnhboanoaaDoorClo
namespace Go.Proofs.YtnicknnhboanoaaDoor.Wd
open Go.RowKit Fx
set_option linter.unusedVariables false
set_option linter.unusedSimpArgs false
theorem five (W : World) (b : Nat) (x0 x1 x2 x3 x4 : Value) {y0 y1 y2 y3 y4 : Value} (h0 : W.cell? ⟨b, 0, none⟩ = some y0) (h1 : W.cell? ⟨b, 1, none⟩ = some y1) (h2 : W.cell? ⟨b, 2, none⟩ = some y2) (h3 : W.cell? ⟨b, 3, none⟩ = some y3) (h4 : W.cell? ⟨b, 4, none⟩ = some y4) :
    (((((W.setCell ⟨b, 0, none⟩ x0).setCell ⟨b, 1, none⟩ x1).setCell ⟨b, 2, none⟩ x2).setCell ⟨b, 3, none⟩ x3).setCell ⟨b, 4, none⟩ x4).cell? ⟨b, 0, none⟩ = some x0 ∧ (((((W.setCell ⟨b, 0, none⟩ x0).setCell ⟨b, 1, none⟩ x1).setCell ⟨b, 2, none⟩ x2).setCell ⟨b, 3, none⟩ x3).setCell ⟨b, 4, none⟩ x4).cell? ⟨b, 1, none⟩ = some x1 ∧ (((((W.setCell ⟨b, 0, none⟩ x0).setCell ⟨b, 1, none⟩ x1).setCell ⟨b, 2, none⟩ x2).setCell ⟨b, 3, none⟩ x3).setCell ⟨b, 4, none⟩ x4).cell? ⟨b, 2, none⟩ = some x2 ∧ (((((W.setCell ⟨b, 0, none⟩ x0).setCell ⟨b, 1, none⟩ x1).setCell ⟨b, 2, none⟩ x2).setCell ⟨b, 3, none⟩ x3).setCell ⟨b, 4, none⟩ x4).cell? ⟨b, 3, none⟩ = some x3 ∧ (((((W.setCell ⟨b, 0, none⟩ x0).setCell ⟨b, 1, none⟩ x1).setCell ⟨b, 2, none⟩ x2).setCell ⟨b, 3, none⟩ x3).setCell ⟨b, 4, none⟩ x4).cell? ⟨b, 4, none⟩ = some x4 := by
  refine ⟨?_, ?_, ?_, ?_, ?_⟩
  · rw [wset_off (by omega), wset_off (by omega), wset_off (by omega), wset_off (by omega)]
    exact wset_same h0
  · rw [wset_off (by omega), wset_off (by omega), wset_off (by omega)]
    exact wset_same (by rw [wset_off (by omega)]; exact h1)
  · rw [wset_off (by omega), wset_off (by omega)]
    exact wset_same (by rw [wset_off (by omega), wset_off (by omega)]; exact h2)
  · rw [wset_off (by omega)]
    exact wset_same (by rw [wset_off (by omega), wset_off (by omega), wset_off (by omega)]; exact h3)
  · exact wset_same (by rw [wset_off (by omega), wset_off (by omega), wset_off (by omega), wset_off (by omega)]; exact h4)
theorem stay5 {g : Nat} (W : World) (x0 x1 x2 x3 x4 : Value) : Stay g W (((((W.setCell ⟨g, 0, none⟩ x0).setCell ⟨g, 1, none⟩ x1).setCell ⟨g, 2, none⟩ x2).setCell ⟨g, 3, none⟩ x3).setCell ⟨g, 4, none⟩ x4) := (((((Stay.refl g W).set 0 x0).set 1 x1).set 2 x2).set 3 x3).set 4 x4
theorem gat_congr {d : List Int} {F G : Nat → Int} {N : Nat} (hN : prodN (ntl d) = N) (h : ∀ i, i < N → rnd (F i) = G i) : gatV d F = if goodN (ntl d) then (List.range N).map G else [] := by
  unfold gatV
  by_cases hg : goodN (ntl d)
  · rw [if_pos hg, if_pos hg, hN]
    refine List.map_congr_left fun i hi => h i ?_
    simpa using hi
  · rw [if_neg hg, if_neg hg]
theorem stops_le {L wd st : Nat} (h : 1 ≤ wd) (h1 : wd ≤ L) : stopsN L wd st ≤ L := by
  unfold stopsN
  have := Nat.div_le_self (L - wd) st
  omega
theorem stops_room {L wd st n : Nat} (h1 : wd ≤ L) (h3 : 1 ≤ st) (hn : n < stopsN L wd st) : n * st + wd ≤ L := by
  unfold stopsN at hn
  have : n ≤ (L - wd) / st := by omega
  have := (Nat.le_div_iff_mul_le (by omega)).1 this
  omega
theorem len_ne {x : List Int} {n : Nat} (h : x.length = n) (hn : 1 ≤ n) : x ≠ [] := by
  intro e
  rw [e] at h
  simp at h
  omega
theorem row_gath (R L O wd st S : Nat) (hS : stopsN L wd st = S) (h0 : 1 ≤ wd) (h1 : wd ≤ L) (h2 : L ≤ 4096) (h3 : 1 ≤ st) (h4 : st ≤ 64) (hR : 1 ≤ R) (hO : 1 ≤ O) (h5 : O * R * wd ≤ 4096) (h7 : R * L ≤ 4096) (h8 : O ≤ 4096) (h9 : R ≤ 4096) (gs ga gk : Nat) (pa : Option Addr) (na ca : Nat) (pk : Option Addr) (nk ck : Nat) (x y : List Int) (hx : RI x) (hy : RI y) (hxl : x.length = R * L) (hyl : y.length = O * R * wd) (p : Option Addr) (n c : Nat) (w : World) (hT : Hid (Tz w)) (hd : Nums .i64 w (.slice p n c) [(O : Int), (S : Int)])
    (hs : SlC w gs R L O wd st) (ca1 : w.cell? ⟨ga, 1, none⟩ = some (.slice pa na ca)) (ck1 : w.cell? ⟨gk, 1, none⟩ = some (.slice pk nk ck)) (nx : Nums .i64 w (.slice pa na ca) x) (ny : Nums .i64 w (.slice pk nk ck) y) :
    Calls Tryd.prog 25 #[.slice p n c, .func (.func 27) #[] #[.pointer (some ⟨gs, 0, none⟩), .pointer (some ⟨ga, 0, none⟩), .pointer (some ⟨gk, 0, none⟩)]] w fun e w' => ∃ v', e = .returned (.tuple #[v', .int .i64 (gatE [(O : Int), (S : Int)])]) ∧ TRes w' w.heap.size v' (newD [(O : Int), (S : Int)]) (if goodN (ntl [(O : Int), (S : Int)]) then convV R L wd O S st x y else []) ∧ Below w.heap.size w w' := by
  have hSL : S ≤ 4096 := by rw [← hS]; exact Nat.le_trans (stops_le h0 h1) h2
  by_cases hg : goodN (ntl [(O : Int), (S : Int)])
  · have hG := good_two.1 hg
    have h5 : O * R * wd ≤ 4096 := h5
    have h6 : O * S ≤ 4096 := hG.2.2
    have h7 : R * L ≤ 4096 := h7
    have hM : O * R * S * wd ≤ 1073741824 := by
      have q2 : O * R * S * wd = O * R * wd * S := by rw [Nat.mul_assoc, Nat.mul_comm S wd, ← Nat.mul_assoc]
      rw [q2]
      exact Nat.le_trans (Nat.mul_le_mul h5 hSL) (by decide)
    have := gathered_any 27 (fun args W => by simp [go_sem]) (.pointer (some ⟨gs, 0, none⟩)) (.pointer (some ⟨ga, 0, none⟩)) (.pointer (some ⟨gk, 0, none⟩)) p n c [(O : Int), (S : Int)] (RI_two h8 hSL) (fun i => flat4 (rowT L R S wd st x y i) R S wd (O * R * S * wd)) (O * R * S * wd) hM w hT hd (by
      intro _ W b hB hb hbl hz
      rw [prod_two] at hz ⊢
      have la := cell_lt ca1
      have lk := cell_lt ck1
      exact rgather_any R L O wd st S hS h1 h2 h3 h4 h5 h6 h7 h8 h9 b gs ga gk pa na ca pk nk ck x y hx hy hxl hyl W (hs.up hB) (cell_low ca1 hB) (cell_low ck1 hB) (nx.up hB) (ny.up hB) ⟨by omega, by omega⟩ (nx.off (len_ne hxl (Nat.mul_le_mul hR (show 1 ≤ L by omega))) hb) (ny.off (len_ne hyl (Nat.mul_le_mul (Nat.mul_le_mul hO hR) h0)) hb) hbl hz)
    rw [gat_congr (G := convN R L wd S st x y) (prod_two _ _) (fun i hi => row_total x y hi)] at this
    exact this
  · have := gathered_any 27 (fun args W => by simp [go_sem]) (.pointer (some ⟨gs, 0, none⟩)) (.pointer (some ⟨ga, 0, none⟩)) (.pointer (some ⟨gk, 0, none⟩)) p n c [(O : Int), (S : Int)] (RI_two h8 hSL) (fun i => 0) 0 (by omega) w hT hd (fun h => absurd h hg)
    rw [show gatV [(O : Int), (S : Int)] (fun i => 0) = [] from if_neg hg] at this
    rw [if_neg hg]
    exact this
theorem in_gath (R L O wd st S : Nat) (hS : stopsN L wd st = S) (h0 : 1 ≤ wd) (h1 : wd ≤ L) (h2 : L ≤ 4096) (h3 : 1 ≤ st) (h4 : st ≤ 64) (hR : 1 ≤ R) (hO : 1 ≤ O) (h5 : O * R * wd ≤ 4096) (h6 : O * S ≤ 4096) (h8 : O ≤ 4096) (h9 : R ≤ 4096) (gs ga gk : Nat) (pa : Option Addr) (na ca : Nat) (pk : Option Addr) (nk ck : Nat) (x y : List Int) (hx : RI x) (hy : RI y) (hxl : x.length = O * S) (hyl : y.length = O * R * wd) (p : Option Addr) (n c : Nat) (w : World) (hT : Hid (Tz w)) (hd : Nums .i64 w (.slice p n c) [(R : Int), (L : Int)])
    (hs : SlC w gs R L O wd st) (ca1 : w.cell? ⟨ga, 1, none⟩ = some (.slice pa na ca)) (ck1 : w.cell? ⟨gk, 1, none⟩ = some (.slice pk nk ck)) (nx : Nums .i64 w (.slice pa na ca) x) (ny : Nums .i64 w (.slice pk nk ck) y) :
    Calls Tryd.prog 25 #[.slice p n c, .func (.func 32) #[] #[.pointer (some ⟨gs, 0, none⟩), .pointer (some ⟨ga, 0, none⟩), .pointer (some ⟨gk, 0, none⟩)]] w fun e w' => ∃ v', e = .returned (.tuple #[v', .int .i64 (gatE [(R : Int), (L : Int)])]) ∧ TRes w' w.heap.size v' (newD [(R : Int), (L : Int)]) (if goodN (ntl [(R : Int), (L : Int)]) then gradV O R S wd st L x y else []) ∧ Below w.heap.size w w' := by
  have hSL : S ≤ 4096 := by rw [← hS]; exact Nat.le_trans (stops_le h0 h1) h2
  by_cases hg : goodN (ntl [(R : Int), (L : Int)])
  · have hG := good_two.1 hg
    have h5 : O * R * wd ≤ 4096 := h5
    have h6 : O * S ≤ 4096 := h6
    have h7 : R * L ≤ 4096 := hG.2.2
    have hM : O * R * S * wd ≤ 1073741824 := by
      have q2 : O * R * S * wd = O * R * wd * S := by rw [Nat.mul_assoc, Nat.mul_comm S wd, ← Nat.mul_assoc]
      rw [q2]
      exact Nat.le_trans (Nat.mul_le_mul h5 hSL) (by decide)
    have := gathered_any 32 (fun args W => by simp [go_sem]) (.pointer (some ⟨gs, 0, none⟩)) (.pointer (some ⟨ga, 0, none⟩)) (.pointer (some ⟨gk, 0, none⟩)) p n c [(R : Int), (L : Int)] (RI_two h9 h2) (fun i => flat4 (inT L R S wd st x y i) R S wd (O * R * S * wd)) (O * R * S * wd) hM w hT hd (by
      intro _ W b hB hb hbl hz
      rw [prod_two] at hz ⊢
      have la := cell_lt ca1
      have lk := cell_lt ck1
      exact igather_any R L O wd st S hS h1 h2 h3 h4 h5 h6 h7 h8 h9 b gs ga gk pa na ca pk nk ck x y hx hy hxl hyl W (hs.up hB) (cell_low ca1 hB) (cell_low ck1 hB) (nx.up hB) (ny.up hB) ⟨by omega, by omega⟩ (nx.off (len_ne hxl (Nat.mul_le_mul hO (show 1 ≤ S by rw [← hS]; exact Nat.le_add_left 1 _))) hb) (ny.off (len_ne hyl (Nat.mul_le_mul (Nat.mul_le_mul hO hR) h0)) hb) hbl hz)
    rw [gat_congr (G := gradN O R S wd st L x y) (prod_two _ _) (fun i hi => in_total x y hi (fun n hn => stops_room h1 h3 (by rw [hS]; exact hn)))] at this
    exact this
  · have := gathered_any 32 (fun args W => by simp [go_sem]) (.pointer (some ⟨gs, 0, none⟩)) (.pointer (some ⟨ga, 0, none⟩)) (.pointer (some ⟨gk, 0, none⟩)) p n c [(R : Int), (L : Int)] (RI_two h9 h2) (fun i => 0) 0 (by omega) w hT hd (fun h => absurd h hg)
    rw [show gatV [(R : Int), (L : Int)] (fun i => 0) = [] from if_neg hg] at this
    rw [if_neg hg]
    exact this
theorem ker_gath (R L O wd st S : Nat) (hS : stopsN L wd st = S) (h0 : 1 ≤ wd) (h1 : wd ≤ L) (h2 : L ≤ 4096) (h3 : 1 ≤ st) (h4 : st ≤ 64) (hR : 1 ≤ R) (hO : 1 ≤ O) (h6 : O * S ≤ 4096) (h7 : R * L ≤ 4096) (h8 : O ≤ 4096) (h9 : R ≤ 4096) (gs ga gk : Nat) (pa : Option Addr) (na ca : Nat) (pk : Option Addr) (nk ck : Nat) (x y : List Int) (hx : RI x) (hy : RI y) (hxl : x.length = O * S) (hyl : y.length = R * L) (p : Option Addr) (n c : Nat) (w : World) (hT : Hid (Tz w)) (hd : Nums .i64 w (.slice p n c) [(O : Int), (R : Int), (wd : Int)])
    (hs : SlC w gs R L O wd st) (ca1 : w.cell? ⟨ga, 1, none⟩ = some (.slice pa na ca)) (ck1 : w.cell? ⟨gk, 1, none⟩ = some (.slice pk nk ck)) (nx : Nums .i64 w (.slice pa na ca) x) (ny : Nums .i64 w (.slice pk nk ck) y) :
    Calls Tryd.prog 25 #[.slice p n c, .func (.func 34) #[] #[.pointer (some ⟨gs, 0, none⟩), .pointer (some ⟨ga, 0, none⟩), .pointer (some ⟨gk, 0, none⟩)]] w fun e w' => ∃ v', e = .returned (.tuple #[v', .int .i64 (gatE [(O : Int), (R : Int), (wd : Int)])]) ∧ TRes w' w.heap.size v' (newD [(O : Int), (R : Int), (wd : Int)]) (if goodN (ntl [(O : Int), (R : Int), (wd : Int)]) then kerV O R S L wd st x y else []) ∧ Below w.heap.size w w' := by
  have hSL : S ≤ 4096 := by rw [← hS]; exact Nat.le_trans (stops_le h0 h1) h2
  by_cases hg : goodN (ntl [(O : Int), (R : Int), (wd : Int)])
  · have hG := good_three.1 hg
    have h5 : O * R * wd ≤ 4096 := hG.2.2.2
    have h6 : O * S ≤ 4096 := h6
    have h7 : R * L ≤ 4096 := h7
    have hM : O * R * S * wd ≤ 1073741824 := by
      have q2 : O * R * S * wd = O * R * wd * S := by rw [Nat.mul_assoc, Nat.mul_comm S wd, ← Nat.mul_assoc]
      rw [q2]
      exact Nat.le_trans (Nat.mul_le_mul h5 hSL) (by decide)
    have := gathered_any 34 (fun args W => by simp [go_sem]) (.pointer (some ⟨gs, 0, none⟩)) (.pointer (some ⟨ga, 0, none⟩)) (.pointer (some ⟨gk, 0, none⟩)) p n c [(O : Int), (R : Int), (wd : Int)] (RI_three h8 h9 (Nat.le_trans h1 h2)) (fun i => flat4 (kerT L R S wd st x y i) R S wd (O * R * S * wd)) (O * R * S * wd) hM w hT hd (by
      intro _ W b hB hb hbl hz
      rw [prod_three] at hz ⊢
      have la := cell_lt ca1
      have lk := cell_lt ck1
      exact kgather_any R L O wd st S hS h1 h2 h3 h4 h5 h6 h7 h8 h9 b gs ga gk pa na ca pk nk ck x y hx hy hxl hyl W (hs.up hB) (cell_low ca1 hB) (cell_low ck1 hB) (nx.up hB) (ny.up hB) ⟨by omega, by omega⟩ (nx.off (len_ne hxl (Nat.mul_le_mul hO (show 1 ≤ S by rw [← hS]; exact Nat.le_add_left 1 _))) hb) (ny.off (len_ne hyl (Nat.mul_le_mul hR (show 1 ≤ L by omega))) hb) hbl hz)
    rw [gat_congr (G := kerN R S L wd st x y) (prod_three _ _ _) (fun i hi => ker_total x y hi)] at this
    exact this
  · have := gathered_any 34 (fun args W => by simp [go_sem]) (.pointer (some ⟨gs, 0, none⟩)) (.pointer (some ⟨ga, 0, none⟩)) (.pointer (some ⟨gk, 0, none⟩)) p n c [(O : Int), (R : Int), (wd : Int)] (RI_three h8 h9 (Nat.le_trans h1 h2)) (fun i => 0) 0 (by omega) w hT hd (fun h => absurd h hg)
    rw [show gatV [(O : Int), (R : Int), (wd : Int)] (fun i => 0) = [] from if_neg hg] at this
    rw [if_neg hg]
    exact this
/-- Row: what the document says. -/
abbrev rwA (d x d' y : List Int) (st : Int) : Prop := isP d x ∧ isP d' y ∧ 1 ≤ st ∧ st ≤ 64
abbrev rwS (d d' : List Int) : Prop := d.length = 2 ∧ d'.length = 3 ∧ d.getD 0 0 = d'.getD 1 0 ∧ d'.getD 2 0 ≤ d.getD 1 0
def rwO (d d' : List Int) (st : Int) : List Int := [d'.getD 0 0, ((stopsN (d.getD 1 0).toNat (d'.getD 2 0).toNat st.toNat : Nat) : Int)]
def rwE (d x d' y : List Int) (st : Int) : Int := if rwA d x d' y st then if rwS d d' then gatE (rwO d d' st) else 4 else 1
def rwD (d x d' y : List Int) (st : Int) : List Int := if rwA d x d' y st ∧ rwS d d' then newD (rwO d d' st) else []
def rwV (d x d' y : List Int) (st : Int) : List Int := if rwA d x d' y st ∧ rwS d d' then if goodN (ntl (rwO d d' st)) then convV (d.getD 0 0).toNat (d.getD 1 0).toNat (d'.getD 2 0).toNat (d'.getD 0 0).toNat (stopsN (d.getD 1 0).toNat (d'.getD 2 0).toNat st.toNat) st.toNat x y else [] else []
theorem rw_arg {d x d' y : List Int} {st : Int} (h : ¬ rwA d x d' y st) : rwE d x d' y st = 1 ∧ rwD d x d' y st = [] ∧ rwV d x d' y st = [] := ⟨if_neg h, if_neg fun c => h c.1, if_neg fun c => h c.1⟩
theorem rw_shape {d x d' y : List Int} {st : Int} (h1 : rwA d x d' y st) (h : ¬ rwS d d') : rwE d x d' y st = 4 ∧ rwD d x d' y st = [] ∧ rwV d x d' y st = [] := ⟨by unfold rwE; rw [if_pos h1, if_neg h], if_neg fun c => h c.2, if_neg fun c => h c.2⟩
theorem rw_fine {x y : List Int} {R L O wd st S : Nat} (h1 : rwA [(R : Int), (L : Int)] x [(O : Int), (R : Int), (wd : Int)] y st) (h : wd ≤ L) (hS : stopsN L wd st = S) : rwE [(R : Int), (L : Int)] x [(O : Int), (R : Int), (wd : Int)] y st = gatE [(O : Int), (S : Int)] ∧ rwD [(R : Int), (L : Int)] x [(O : Int), (R : Int), (wd : Int)] y st = newD [(O : Int), (S : Int)] ∧ rwV [(R : Int), (L : Int)] x [(O : Int), (R : Int), (wd : Int)] y st = if goodN (ntl [(O : Int), (S : Int)]) then convV R L wd O S st x y else [] := by
  have hs : rwS [(R : Int), (L : Int)] [(O : Int), (R : Int), (wd : Int)] := ⟨rfl, rfl, rfl, by simpa using h⟩
  subst hS
  refine ⟨?_, ?_, ?_⟩
  · unfold rwE
    rw [if_pos h1, if_pos hs]
    rfl
  · unfold rwD
    rw [if_pos ⟨h1, hs⟩]
    rfl
  · unfold rwV
    rw [if_pos ⟨h1, hs⟩]
    rfl
/-- BackIn: what the document says. -/
abbrev biA (d x d' y : List Int) (st lg : Int) : Prop := isP d x ∧ isP d' y ∧ (1 ≤ st ∧ st ≤ 64) ∧ 1 ≤ lg ∧ lg ≤ 4096
abbrev biS (d d' : List Int) (st lg : Int) : Prop := d.length = 2 ∧ d'.length = 3 ∧ d.getD 0 0 = d'.getD 0 0 ∧ d'.getD 2 0 ≤ lg ∧ d.getD 1 0 = ((stopsN lg.toNat (d'.getD 2 0).toNat st.toNat : Nat) : Int)
def biO (d' : List Int) (lg : Int) : List Int := [d'.getD 1 0, lg]
def biE (d x d' y : List Int) (st lg : Int) : Int := if biA d x d' y st lg then if biS d d' st lg then gatE (biO d' lg) else 4 else 1
def biD (d x d' y : List Int) (st lg : Int) : List Int := if biA d x d' y st lg ∧ biS d d' st lg then newD (biO d' lg) else []
def biV (d x d' y : List Int) (st lg : Int) : List Int := if biA d x d' y st lg ∧ biS d d' st lg then if goodN (ntl (biO d' lg)) then gradV (d.getD 0 0).toNat (d'.getD 1 0).toNat (d.getD 1 0).toNat (d'.getD 2 0).toNat st.toNat lg.toNat x y else [] else []
theorem bi_arg {d x d' y : List Int} {st lg : Int} (h : ¬ biA d x d' y st lg) : biE d x d' y st lg = 1 ∧ biD d x d' y st lg = [] ∧ biV d x d' y st lg = [] := ⟨if_neg h, if_neg fun c => h c.1, if_neg fun c => h c.1⟩
theorem bi_shape {d x d' y : List Int} {st lg : Int} (h1 : biA d x d' y st lg) (h : ¬ biS d d' st lg) : biE d x d' y st lg = 4 ∧ biD d x d' y st lg = [] ∧ biV d x d' y st lg = [] := ⟨by unfold biE; rw [if_pos h1, if_neg h], if_neg fun c => h c.2, if_neg fun c => h c.2⟩
theorem bi_fine {x y : List Int} {R L O wd st S : Nat} (h1 : biA [(O : Int), (S : Int)] x [(O : Int), (R : Int), (wd : Int)] y st L) (h : wd ≤ L) (hS : stopsN L wd st = S) : biE [(O : Int), (S : Int)] x [(O : Int), (R : Int), (wd : Int)] y st L = gatE [(R : Int), (L : Int)] ∧ biD [(O : Int), (S : Int)] x [(O : Int), (R : Int), (wd : Int)] y st L = newD [(R : Int), (L : Int)] ∧ biV [(O : Int), (S : Int)] x [(O : Int), (R : Int), (wd : Int)] y st L = if goodN (ntl [(R : Int), (L : Int)]) then gradV O R S wd st L x y else [] := by
  have hs : biS [(O : Int), (S : Int)] [(O : Int), (R : Int), (wd : Int)] st L := ⟨rfl, rfl, rfl, by simpa using h, by rw [← hS]; rfl⟩
  refine ⟨?_, ?_, ?_⟩
  · unfold biE
    rw [if_pos h1, if_pos hs]
    rfl
  · unfold biD
    rw [if_pos ⟨h1, hs⟩]
    rfl
  · unfold biV
    rw [if_pos ⟨h1, hs⟩]
    rfl
/-- BackKernel: what the document says. -/
abbrev bkS (d d' : List Int) (st lg : Int) : Prop := d.length = 2 ∧ d'.length = 2 ∧ lg ≤ d'.getD 1 0 ∧ d.getD 1 0 = ((stopsN (d'.getD 1 0).toNat lg.toNat st.toNat : Nat) : Int)
def bkO (d d' : List Int) (lg : Int) : List Int := [d.getD 0 0, d'.getD 0 0, lg]
def bkE (d x d' y : List Int) (st lg : Int) : Int := if biA d x d' y st lg then if bkS d d' st lg then gatE (bkO d d' lg) else 4 else 1
def bkD (d x d' y : List Int) (st lg : Int) : List Int := if biA d x d' y st lg ∧ bkS d d' st lg then newD (bkO d d' lg) else []
def bkV (d x d' y : List Int) (st lg : Int) : List Int := if biA d x d' y st lg ∧ bkS d d' st lg then if goodN (ntl (bkO d d' lg)) then kerV (d.getD 0 0).toNat (d'.getD 0 0).toNat (d.getD 1 0).toNat (d'.getD 1 0).toNat lg.toNat st.toNat x y else [] else []
theorem bk_arg {d x d' y : List Int} {st lg : Int} (h : ¬ biA d x d' y st lg) : bkE d x d' y st lg = 1 ∧ bkD d x d' y st lg = [] ∧ bkV d x d' y st lg = [] := ⟨if_neg h, if_neg fun c => h c.1, if_neg fun c => h c.1⟩
theorem bk_shape {d x d' y : List Int} {st lg : Int} (h1 : biA d x d' y st lg) (h : ¬ bkS d d' st lg) : bkE d x d' y st lg = 4 ∧ bkD d x d' y st lg = [] ∧ bkV d x d' y st lg = [] := ⟨by unfold bkE; rw [if_pos h1, if_neg h], if_neg fun c => h c.2, if_neg fun c => h c.2⟩
theorem bk_fine {x y : List Int} {R L O wd st S : Nat} (h1 : biA [(O : Int), (S : Int)] x [(R : Int), (L : Int)] y st wd) (h : wd ≤ L) (hS : stopsN L wd st = S) : bkE [(O : Int), (S : Int)] x [(R : Int), (L : Int)] y st wd = gatE [(O : Int), (R : Int), (wd : Int)] ∧ bkD [(O : Int), (S : Int)] x [(R : Int), (L : Int)] y st wd = newD [(O : Int), (R : Int), (wd : Int)] ∧ bkV [(O : Int), (S : Int)] x [(R : Int), (L : Int)] y st wd = if goodN (ntl [(O : Int), (R : Int), (wd : Int)]) then kerV O R S L wd st x y else [] := by
  have hs : bkS [(O : Int), (S : Int)] [(R : Int), (L : Int)] st wd := ⟨rfl, rfl, by simpa using h, by rw [← hS]; rfl⟩
  refine ⟨?_, ?_, ?_⟩
  · unfold bkE
    rw [if_pos h1, if_pos hs]
    rfl
  · unfold bkD
    rw [if_pos ⟨h1, hs⟩]
    rfl
  · unfold bkV
    rw [if_pos ⟨h1, hs⟩]
    rfl
end Go.Proofs.YtnicknnhboanoaaDoor.Wd
