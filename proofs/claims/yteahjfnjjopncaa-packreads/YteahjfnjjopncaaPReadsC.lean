/- The law PackReads: rounds of its loop. -/
import Derived.Test.YteahjfnjjopncaaPReadsA
namespace Go.Proofs.Yteahjfnjjopncaa.Wd
open Go.RowKit
set_option linter.unusedVariables false
set_option linter.unusedSimpArgs false
set_option maxHeartbeats 8000000 in
set_option maxRecDepth 20000 in
theorem rd1_ok (w : World) (n cap : Nat) (p : Option Addr) (m cap2 q2 o2 : Nat) (l : List Int) (g : Nat) (hn63 : n ≤ 9223372036854775807) (hm63 : m ≤ 9223372036854775807) (hl200 : l.length ≤ 200) (HL : Hid (l.length = n)) (HR : Hid (∀ y, y ∈ l → 0 ≤ y ∧ y < 256)) (HB : Hid (Bytes w (.slice p n cap) l)) (Hcap : Hid (n ≤ cap ∧ cap ≤ 9223372036854775807)) (h1 : (n : Int) ≤ 200) (h2 : (m : Int) ≤ 100) (HG : Hid (w.heap.size ≤ g)) (k at_ : Nat) (hkm : k < m) (hk' : (k : Int) < (m : Int)) (hat : at_ ≤ n) (hat' : (at_ : Int) ≤ (n : Int)) (e : Int) (hw : -9223372036854775808 ≤ e ∧ e ≤ 9223372036854775807) (wr : World) (hB : Below w.heap.size w wr) (hcell : wr.cell? ⟨q2, o2 + k, none⟩ = some (.int .i64 e)) (HRd : Hid (Rd wr g (rst l at_ false) false)) (ea : bits .and .i64 e 7 = 1) (hok : (2 : Int) ≤ (n : Int) - (at_ : Int)) (Q0 : Exit → Act → World → Prop) (c2 c3 c14 c15 c16 c17 c18 c19 c20 c21 c22 c23 c24 c25 c26 c27 u4 u9 u10 u11 u12 u13 u28 u29 u30 u31 u32 u33 u34 u35 u36 u37 u38 u39 u40 u41 u42 u43 u44 u45 u46 u47 u48 u49 u50 u51 u52 u53 u54 u55 u56 u57 u58 u59 u60 u61 u62 u63 u64 u65 u66 u67 u68 u69 u70 u71 u72 u73 u74 u75 u76 u77 u78 u79 u80 u81 u82 u83 u84 u85 u86 u87 u88 u89 u90 u91 u92 u93 u94 u95 u96 u97 u98 u99 u100 u101 u102 u103 u104 u105 u106 u107 u108 u109 u110 u111 u112 u113 u114 u115 u116 u117 u118 u119 u120 u121 u122 u123 u124 u125 u126 u127 u128 u129 u130 u131 u132 u133 u134 u135 u136 u137 u138 u139 u140 u141 u142 u143 u144 u145 : Value) (hnext : ∀ (at2 : Nat) (bad2 : Bool) (v4 v9 v10 v11 v12 v13 v28 v29 v30 v31 v32 v33 v34 v35 v36 v37 v38 v39 v40 v41 v42 v43 v44 v45 v46 v47 v48 v49 v50 v51 v52 v53 v54 v55 v56 v57 v58 v59 v60 v61 v62 v63 v64 v65 v66 v67 v68 v69 v70 v71 v72 v73 v74 v75 v76 v77 v78 v79 v80 v81 v82 v83 v84 v85 v86 v87 v88 v89 v90 v91 v92 v93 v94 v95 v96 v97 v98 v99 v100 v101 v102 v103 v104 v105 v106 v107 v108 v109 v110 v111 v112 v113 v114 v115 v116 v117 v118 v119 v120 v121 v122 v123 v124 v125 v126 v127 v128 v129 v130 v131 v132 v133 v134 v135 v136 v137 v138 v139 v140 v141 v142 v143 v144 v145 : Value) (w' : World), at2 ≤ n → Rd w' g (rst l at2 bad2) bad2 → Below w.heap.size w w' → Q0 .normal ⟨#[.slice p n cap, .slice (some ⟨q2, o2, none⟩) m cap2, c2, c3, v4, .pointer (some ⟨g, 0, none⟩), .int .i64 (at2 : Int), .bool bad2, .int .i64 ((k : Int) + 1), v9, v10, v11, v12, v13, c14, c15, c16, c17, c18, c19, c20, c21, c22, c23, c24, c25, c26, c27, v28, v29, v30, v31, v32, v33, v34, v35, v36, v37, v38, v39, v40, v41, v42, v43, v44, v45, v46, v47, v48, v49, v50, v51, v52, v53, v54, v55, v56, v57, v58, v59, v60, v61, v62, v63, v64, v65, v66, v67, v68, v69, v70, v71, v72, v73, v74, v75, v76, v77, v78, v79, v80, v81, v82, v83, v84, v85, v86, v87, v88, v89, v90, v91, v92, v93, v94, v95, v96, v97, v98, v99, v100, v101, v102, v103, v104, v105, v106, v107, v108, v109, v110, v111, v112, v113, v114, v115, v116, v117, v118, v119, v120, v121, v122, v123, v124, v125, v126, v127, v128, v129, v130, v131, v132, v133, v134, v135, v136, v137, v138, v139, v140, v141, v142, v143, v144, v145], []⟩ w') :
    Code.wp Try.prog (((Try.f4.body.map loopsIn).getD []).headD .skip) Q0 ⟨#[.slice p n cap, .slice (some ⟨q2, o2, none⟩) m cap2, c2, c3, u4, .pointer (some ⟨g, 0, none⟩), .int .i64 (at_ : Int), .bool false, .int .i64 (k : Int), u9, u10, u11, u12, u13, c14, c15, c16, c17, c18, c19, c20, c21, c22, c23, c24, c25, c26, c27, u28, u29, u30, u31, u32, u33, u34, u35, u36, u37, u38, u39, u40, u41, u42, u43, u44, u45, u46, u47, u48, u49, u50, u51, u52, u53, u54, u55, u56, u57, u58, u59, u60, u61, u62, u63, u64, u65, u66, u67, u68, u69, u70, u71, u72, u73, u74, u75, u76, u77, u78, u79, u80, u81, u82, u83, u84, u85, u86, u87, u88, u89, u90, u91, u92, u93, u94, u95, u96, u97, u98, u99, u100, u101, u102, u103, u104, u105, u106, u107, u108, u109, u110, u111, u112, u113, u114, u115, u116, u117, u118, u119, u120, u121, u122, u123, u124, u125, u126, u127, u128, u129, u130, u131, u132, u133, u134, u135, u136, u137, u138, u139, u140, u141, u142, u143, u144, u145], []⟩ wr := by
  haveI : Nonempty World := ⟨w⟩
  conv => arg 2; whnf
  obtain ⟨a2, ea2⟩ : ∃ a2, at_ + 2 = a2 := ⟨_, rfl⟩
  have ha2 : (at_ : Int) + 2 = (a2 : Int) := by omega
  have st := step_ok l at_ 2 (by rw [HL.out]; omega)
  rw [show ((2 : Nat) : Int) = 2 from rfl, ea2] at st
  have cA := at_any p cap n at_ 2 l HL.out (by omega) (by omega) (by omega) HR.out
  rw [show ((2 : Nat) : Int) = 2 from rfl] at cA
  obtain ⟨x, ex⟩ : ∃ x, num ((l.drop at_).take 2) = x := ⟨_, rfl⟩
  have hx : 0 ≤ x ∧ x < 65536 := by
    have := num_lt 2 (l := (l.drop at_).take 2) (fun y hy => HR.out y (List.mem_of_mem_drop (List.mem_of_mem_take hy))) (by simp; omega)
    rw [ex] at this
    simpa using this
  rw [ex] at cA
  have HS : Hid (num (got (rst l at_ false) 2) = x ∧ left (rst l at_ false) 2 = rst l a2 false ∧ mars (rst l at_ false) false 2 = false) := ⟨by rw [st.1, ex], st.2⟩
  have HA2 : Hid (at_ + 2 = a2) := ea2
  have h2n : a2 ≤ n := by omega
  have h2n' : (a2 : Int) ≤ (n : Int) := by omega
  clear st ex ea2
  go_wp2_with fail
  refine (cA _ (HB.out.up (hB.alloc hB.size _))).mono ?_
  rintro e' w4' ⟨rfl, rfl⟩
  clear cA
  go_wp2_with fail
  refine (ru16_any g _ false _ (HRd.out.up ((Below.refl _ _).alloc (Nat.le_refl _) _))).mono ?_
  rintro e' w4 ⟨rfl, hR4, hb4⟩
  rw [HS.out.1]
  rw [HS.out.2.1, HS.out.2.2] at hR4
  have H4 : Hid (Rd w4 g (rst l a2 false) false ∧ Below w.heap.size w w4) := ⟨hR4, hb4.below (hB.alloc hB.size _) HG.out (by have := hB.size; simp; omega)⟩
  clear hR4 hb4 HS HRd hB
  go_wp2_with fail
  refine (end_any g _ (by have := rst_le l a2 false; omega) false _ H4.out.1).mono ?_
  rintro e' w5 ⟨rfl, rfl⟩
  have el : (rst l a2 false).length = n - a2 := by rw [rst_len, HL.out]
  rw [el]
  clear el
  by_cases hfin : a2 = n
  · have hd : decide (n - a2 = 0) = true := by simp; omega
    rw [hd]
    have hfi : ((a2 : Int) == (n : Int)) = true := by simp; omega
    clear hd hfin
    go_wp2
    exact hnext a2 false _ _ _ _ _ _ _ _ _ _ _ _ _ _ _ _ _ _ _ _ _ _ _ _ _ _ _ _ _ _ _ _ _ _ _ _ _ _ _ _ _ _ _ _ _ _ _ _ _ _ _ _ _ _ _ _ _ _ _ _ _ _ _ _ _ _ _ _ _ _ _ _ _ _ _ _ _ _ _ _ _ _ _ _ _ _ _ _ _ _ _ _ _ _ _ _ _ _ _ _ _ _ _ _ _ _ _ _ _ _ _ _ _ _ _ _ _ _ _ _ _ _ _ _ _ (by omega) H4.out.1 H4.out.2
  · have hd : decide (n - a2 = 0) = false := by simp; omega
    rw [hd]
    have hfi : ((a2 : Int) == (n : Int)) = false := by simp; omega
    clear hd hfin
    go_wp2
    exact hnext a2 false _ _ _ _ _ _ _ _ _ _ _ _ _ _ _ _ _ _ _ _ _ _ _ _ _ _ _ _ _ _ _ _ _ _ _ _ _ _ _ _ _ _ _ _ _ _ _ _ _ _ _ _ _ _ _ _ _ _ _ _ _ _ _ _ _ _ _ _ _ _ _ _ _ _ _ _ _ _ _ _ _ _ _ _ _ _ _ _ _ _ _ _ _ _ _ _ _ _ _ _ _ _ _ _ _ _ _ _ _ _ _ _ _ _ _ _ _ _ _ _ _ _ _ _ _ (by omega) H4.out.1 H4.out.2
set_option maxHeartbeats 8000000 in
set_option maxRecDepth 20000 in
theorem rd1_no (w : World) (n cap : Nat) (p : Option Addr) (m cap2 q2 o2 : Nat) (l : List Int) (g : Nat) (hn63 : n ≤ 9223372036854775807) (hm63 : m ≤ 9223372036854775807) (hl200 : l.length ≤ 200) (HL : Hid (l.length = n)) (HR : Hid (∀ y, y ∈ l → 0 ≤ y ∧ y < 256)) (HB : Hid (Bytes w (.slice p n cap) l)) (Hcap : Hid (n ≤ cap ∧ cap ≤ 9223372036854775807)) (h1 : (n : Int) ≤ 200) (h2 : (m : Int) ≤ 100) (HG : Hid (w.heap.size ≤ g)) (k at_ : Nat) (hkm : k < m) (hk' : (k : Int) < (m : Int)) (hat : at_ ≤ n) (hat' : (at_ : Int) ≤ (n : Int)) (e : Int) (hw : -9223372036854775808 ≤ e ∧ e ≤ 9223372036854775807) (wr : World) (hB : Below w.heap.size w wr) (hcell : wr.cell? ⟨q2, o2 + k, none⟩ = some (.int .i64 e)) (HRd : Hid (Rd wr g (rst l at_ false) false)) (ea : bits .and .i64 e 7 = 1) (hok : ¬ (2 : Int) ≤ (n : Int) - (at_ : Int)) (Q0 : Exit → Act → World → Prop) (c2 c3 c14 c15 c16 c17 c18 c19 c20 c21 c22 c23 c24 c25 c26 c27 u4 u9 u10 u11 u12 u13 u28 u29 u30 u31 u32 u33 u34 u35 u36 u37 u38 u39 u40 u41 u42 u43 u44 u45 u46 u47 u48 u49 u50 u51 u52 u53 u54 u55 u56 u57 u58 u59 u60 u61 u62 u63 u64 u65 u66 u67 u68 u69 u70 u71 u72 u73 u74 u75 u76 u77 u78 u79 u80 u81 u82 u83 u84 u85 u86 u87 u88 u89 u90 u91 u92 u93 u94 u95 u96 u97 u98 u99 u100 u101 u102 u103 u104 u105 u106 u107 u108 u109 u110 u111 u112 u113 u114 u115 u116 u117 u118 u119 u120 u121 u122 u123 u124 u125 u126 u127 u128 u129 u130 u131 u132 u133 u134 u135 u136 u137 u138 u139 u140 u141 u142 u143 u144 u145 : Value) (hnext : ∀ (at2 : Nat) (bad2 : Bool) (v4 v9 v10 v11 v12 v13 v28 v29 v30 v31 v32 v33 v34 v35 v36 v37 v38 v39 v40 v41 v42 v43 v44 v45 v46 v47 v48 v49 v50 v51 v52 v53 v54 v55 v56 v57 v58 v59 v60 v61 v62 v63 v64 v65 v66 v67 v68 v69 v70 v71 v72 v73 v74 v75 v76 v77 v78 v79 v80 v81 v82 v83 v84 v85 v86 v87 v88 v89 v90 v91 v92 v93 v94 v95 v96 v97 v98 v99 v100 v101 v102 v103 v104 v105 v106 v107 v108 v109 v110 v111 v112 v113 v114 v115 v116 v117 v118 v119 v120 v121 v122 v123 v124 v125 v126 v127 v128 v129 v130 v131 v132 v133 v134 v135 v136 v137 v138 v139 v140 v141 v142 v143 v144 v145 : Value) (w' : World), at2 ≤ n → Rd w' g (rst l at2 bad2) bad2 → Below w.heap.size w w' → Q0 .normal ⟨#[.slice p n cap, .slice (some ⟨q2, o2, none⟩) m cap2, c2, c3, v4, .pointer (some ⟨g, 0, none⟩), .int .i64 (at2 : Int), .bool bad2, .int .i64 ((k : Int) + 1), v9, v10, v11, v12, v13, c14, c15, c16, c17, c18, c19, c20, c21, c22, c23, c24, c25, c26, c27, v28, v29, v30, v31, v32, v33, v34, v35, v36, v37, v38, v39, v40, v41, v42, v43, v44, v45, v46, v47, v48, v49, v50, v51, v52, v53, v54, v55, v56, v57, v58, v59, v60, v61, v62, v63, v64, v65, v66, v67, v68, v69, v70, v71, v72, v73, v74, v75, v76, v77, v78, v79, v80, v81, v82, v83, v84, v85, v86, v87, v88, v89, v90, v91, v92, v93, v94, v95, v96, v97, v98, v99, v100, v101, v102, v103, v104, v105, v106, v107, v108, v109, v110, v111, v112, v113, v114, v115, v116, v117, v118, v119, v120, v121, v122, v123, v124, v125, v126, v127, v128, v129, v130, v131, v132, v133, v134, v135, v136, v137, v138, v139, v140, v141, v142, v143, v144, v145], []⟩ w') :
    Code.wp Try.prog (((Try.f4.body.map loopsIn).getD []).headD .skip) Q0 ⟨#[.slice p n cap, .slice (some ⟨q2, o2, none⟩) m cap2, c2, c3, u4, .pointer (some ⟨g, 0, none⟩), .int .i64 (at_ : Int), .bool false, .int .i64 (k : Int), u9, u10, u11, u12, u13, c14, c15, c16, c17, c18, c19, c20, c21, c22, c23, c24, c25, c26, c27, u28, u29, u30, u31, u32, u33, u34, u35, u36, u37, u38, u39, u40, u41, u42, u43, u44, u45, u46, u47, u48, u49, u50, u51, u52, u53, u54, u55, u56, u57, u58, u59, u60, u61, u62, u63, u64, u65, u66, u67, u68, u69, u70, u71, u72, u73, u74, u75, u76, u77, u78, u79, u80, u81, u82, u83, u84, u85, u86, u87, u88, u89, u90, u91, u92, u93, u94, u95, u96, u97, u98, u99, u100, u101, u102, u103, u104, u105, u106, u107, u108, u109, u110, u111, u112, u113, u114, u115, u116, u117, u118, u119, u120, u121, u122, u123, u124, u125, u126, u127, u128, u129, u130, u131, u132, u133, u134, u135, u136, u137, u138, u139, u140, u141, u142, u143, u144, u145], []⟩ wr := by
  haveI : Nonempty World := ⟨w⟩
  conv => arg 2; whnf
  have st := step_bad l at_ (by rw [HL.out]; exact hat) 2 false (by rw [HL.out]; intro; right; omega)
  have HS : Hid (got (rst l at_ false) 2 = [] ∧ left (rst l at_ false) 2 = rst l at_ true ∧ mars (rst l at_ false) false 2 = true) := st
  clear st
  go_wp2_with fail
  refine (ru16_any g _ false _ (HRd.out.up ((Below.refl _ _).alloc (Nat.le_refl _) _))).mono ?_
  rintro e' w4 ⟨rfl, hR4, hb4⟩
  rw [HS.out.1, num_nil]
  rw [HS.out.2.1, HS.out.2.2] at hR4
  have H4 : Hid (Rd w4 g (rst l at_ true) true ∧ Below w.heap.size w w4) := ⟨hR4, hb4.below (hB.alloc hB.size _) HG.out (by have := hB.size; simp; omega)⟩
  clear hR4 hb4 HS HRd hB
  go_wp2_with fail
  refine (end_any g _ (by have := rst_le l at_ true; omega) true _ H4.out.1).mono ?_
  rintro e' w5 ⟨rfl, rfl⟩
  go_wp2
  exact hnext at_ true _ _ _ _ _ _ _ _ _ _ _ _ _ _ _ _ _ _ _ _ _ _ _ _ _ _ _ _ _ _ _ _ _ _ _ _ _ _ _ _ _ _ _ _ _ _ _ _ _ _ _ _ _ _ _ _ _ _ _ _ _ _ _ _ _ _ _ _ _ _ _ _ _ _ _ _ _ _ _ _ _ _ _ _ _ _ _ _ _ _ _ _ _ _ _ _ _ _ _ _ _ _ _ _ _ _ _ _ _ _ _ _ _ _ _ _ _ _ _ _ _ _ _ _ _ (by omega) H4.out.1 H4.out.2
set_option maxHeartbeats 8000000 in
set_option maxRecDepth 20000 in
theorem rd1_bad (w : World) (n cap : Nat) (p : Option Addr) (m cap2 q2 o2 : Nat) (l : List Int) (g : Nat) (hn63 : n ≤ 9223372036854775807) (hm63 : m ≤ 9223372036854775807) (hl200 : l.length ≤ 200) (HL : Hid (l.length = n)) (HR : Hid (∀ y, y ∈ l → 0 ≤ y ∧ y < 256)) (HB : Hid (Bytes w (.slice p n cap) l)) (Hcap : Hid (n ≤ cap ∧ cap ≤ 9223372036854775807)) (h1 : (n : Int) ≤ 200) (h2 : (m : Int) ≤ 100) (HG : Hid (w.heap.size ≤ g)) (k at_ : Nat) (hkm : k < m) (hk' : (k : Int) < (m : Int)) (hat : at_ ≤ n) (hat' : (at_ : Int) ≤ (n : Int)) (e : Int) (hw : -9223372036854775808 ≤ e ∧ e ≤ 9223372036854775807) (wr : World) (hB : Below w.heap.size w wr) (hcell : wr.cell? ⟨q2, o2 + k, none⟩ = some (.int .i64 e)) (HRd : Hid (Rd wr g (rst l at_ true) true)) (ea : bits .and .i64 e 7 = 1)  (Q0 : Exit → Act → World → Prop) (c2 c3 c14 c15 c16 c17 c18 c19 c20 c21 c22 c23 c24 c25 c26 c27 u4 u9 u10 u11 u12 u13 u28 u29 u30 u31 u32 u33 u34 u35 u36 u37 u38 u39 u40 u41 u42 u43 u44 u45 u46 u47 u48 u49 u50 u51 u52 u53 u54 u55 u56 u57 u58 u59 u60 u61 u62 u63 u64 u65 u66 u67 u68 u69 u70 u71 u72 u73 u74 u75 u76 u77 u78 u79 u80 u81 u82 u83 u84 u85 u86 u87 u88 u89 u90 u91 u92 u93 u94 u95 u96 u97 u98 u99 u100 u101 u102 u103 u104 u105 u106 u107 u108 u109 u110 u111 u112 u113 u114 u115 u116 u117 u118 u119 u120 u121 u122 u123 u124 u125 u126 u127 u128 u129 u130 u131 u132 u133 u134 u135 u136 u137 u138 u139 u140 u141 u142 u143 u144 u145 : Value) (hnext : ∀ (at2 : Nat) (bad2 : Bool) (v4 v9 v10 v11 v12 v13 v28 v29 v30 v31 v32 v33 v34 v35 v36 v37 v38 v39 v40 v41 v42 v43 v44 v45 v46 v47 v48 v49 v50 v51 v52 v53 v54 v55 v56 v57 v58 v59 v60 v61 v62 v63 v64 v65 v66 v67 v68 v69 v70 v71 v72 v73 v74 v75 v76 v77 v78 v79 v80 v81 v82 v83 v84 v85 v86 v87 v88 v89 v90 v91 v92 v93 v94 v95 v96 v97 v98 v99 v100 v101 v102 v103 v104 v105 v106 v107 v108 v109 v110 v111 v112 v113 v114 v115 v116 v117 v118 v119 v120 v121 v122 v123 v124 v125 v126 v127 v128 v129 v130 v131 v132 v133 v134 v135 v136 v137 v138 v139 v140 v141 v142 v143 v144 v145 : Value) (w' : World), at2 ≤ n → Rd w' g (rst l at2 bad2) bad2 → Below w.heap.size w w' → Q0 .normal ⟨#[.slice p n cap, .slice (some ⟨q2, o2, none⟩) m cap2, c2, c3, v4, .pointer (some ⟨g, 0, none⟩), .int .i64 (at2 : Int), .bool bad2, .int .i64 ((k : Int) + 1), v9, v10, v11, v12, v13, c14, c15, c16, c17, c18, c19, c20, c21, c22, c23, c24, c25, c26, c27, v28, v29, v30, v31, v32, v33, v34, v35, v36, v37, v38, v39, v40, v41, v42, v43, v44, v45, v46, v47, v48, v49, v50, v51, v52, v53, v54, v55, v56, v57, v58, v59, v60, v61, v62, v63, v64, v65, v66, v67, v68, v69, v70, v71, v72, v73, v74, v75, v76, v77, v78, v79, v80, v81, v82, v83, v84, v85, v86, v87, v88, v89, v90, v91, v92, v93, v94, v95, v96, v97, v98, v99, v100, v101, v102, v103, v104, v105, v106, v107, v108, v109, v110, v111, v112, v113, v114, v115, v116, v117, v118, v119, v120, v121, v122, v123, v124, v125, v126, v127, v128, v129, v130, v131, v132, v133, v134, v135, v136, v137, v138, v139, v140, v141, v142, v143, v144, v145], []⟩ w') :
    Code.wp Try.prog (((Try.f4.body.map loopsIn).getD []).headD .skip) Q0 ⟨#[.slice p n cap, .slice (some ⟨q2, o2, none⟩) m cap2, c2, c3, u4, .pointer (some ⟨g, 0, none⟩), .int .i64 (at_ : Int), .bool true, .int .i64 (k : Int), u9, u10, u11, u12, u13, c14, c15, c16, c17, c18, c19, c20, c21, c22, c23, c24, c25, c26, c27, u28, u29, u30, u31, u32, u33, u34, u35, u36, u37, u38, u39, u40, u41, u42, u43, u44, u45, u46, u47, u48, u49, u50, u51, u52, u53, u54, u55, u56, u57, u58, u59, u60, u61, u62, u63, u64, u65, u66, u67, u68, u69, u70, u71, u72, u73, u74, u75, u76, u77, u78, u79, u80, u81, u82, u83, u84, u85, u86, u87, u88, u89, u90, u91, u92, u93, u94, u95, u96, u97, u98, u99, u100, u101, u102, u103, u104, u105, u106, u107, u108, u109, u110, u111, u112, u113, u114, u115, u116, u117, u118, u119, u120, u121, u122, u123, u124, u125, u126, u127, u128, u129, u130, u131, u132, u133, u134, u135, u136, u137, u138, u139, u140, u141, u142, u143, u144, u145], []⟩ wr := by
  haveI : Nonempty World := ⟨w⟩
  conv => arg 2; whnf
  have st := step_bad l at_ (by rw [HL.out]; exact hat) 2 true (by intro h; cases h)
  have HS : Hid (got (rst l at_ true) 2 = [] ∧ left (rst l at_ true) 2 = rst l at_ true ∧ mars (rst l at_ true) true 2 = true) := st
  clear st
  go_wp2_with fail
  refine (ru16_any g _ true _ (HRd.out.up ((Below.refl _ _).alloc (Nat.le_refl _) _))).mono ?_
  rintro e' w4 ⟨rfl, hR4, hb4⟩
  rw [HS.out.1, num_nil]
  rw [HS.out.2.1, HS.out.2.2] at hR4
  have H4 : Hid (Rd w4 g (rst l at_ true) true ∧ Below w.heap.size w w4) := ⟨hR4, hb4.below (hB.alloc hB.size _) HG.out (by have := hB.size; simp; omega)⟩
  clear hR4 hb4 HS HRd hB
  go_wp2_with fail
  refine (end_any g _ (by have := rst_le l at_ true; omega) true _ H4.out.1).mono ?_
  rintro e' w5 ⟨rfl, rfl⟩
  go_wp2
  exact hnext at_ true _ _ _ _ _ _ _ _ _ _ _ _ _ _ _ _ _ _ _ _ _ _ _ _ _ _ _ _ _ _ _ _ _ _ _ _ _ _ _ _ _ _ _ _ _ _ _ _ _ _ _ _ _ _ _ _ _ _ _ _ _ _ _ _ _ _ _ _ _ _ _ _ _ _ _ _ _ _ _ _ _ _ _ _ _ _ _ _ _ _ _ _ _ _ _ _ _ _ _ _ _ _ _ _ _ _ _ _ _ _ _ _ _ _ _ _ _ _ _ _ _ _ _ _ _ (by omega) H4.out.1 H4.out.2
set_option maxHeartbeats 8000000 in
set_option maxRecDepth 20000 in
theorem rd6_ok (w : World) (n cap : Nat) (p : Option Addr) (m cap2 q2 o2 : Nat) (l : List Int) (g : Nat) (hn63 : n ≤ 9223372036854775807) (hm63 : m ≤ 9223372036854775807) (hl200 : l.length ≤ 200) (HL : Hid (l.length = n)) (HR : Hid (∀ y, y ∈ l → 0 ≤ y ∧ y < 256)) (HB : Hid (Bytes w (.slice p n cap) l)) (Hcap : Hid (n ≤ cap ∧ cap ≤ 9223372036854775807)) (h1 : (n : Int) ≤ 200) (h2 : (m : Int) ≤ 100) (HG : Hid (w.heap.size ≤ g)) (k at_ : Nat) (hkm : k < m) (hk' : (k : Int) < (m : Int)) (hat : at_ ≤ n) (hat' : (at_ : Int) ≤ (n : Int)) (e : Int) (hw : -9223372036854775808 ≤ e ∧ e ≤ 9223372036854775807) (wr : World) (hB : Below w.heap.size w wr) (hcell : wr.cell? ⟨q2, o2 + k, none⟩ = some (.int .i64 e)) (HRd : Hid (Rd wr g (rst l at_ false) false)) (ea : bits .and .i64 e 7 = 6) (hok : (2 : Int) ≤ (n : Int) - (at_ : Int)) (Q0 : Exit → Act → World → Prop) (c2 c3 c14 c15 c16 c17 c18 c19 c20 c21 c22 c23 c24 c25 c26 c27 u4 u9 u10 u11 u12 u13 u28 u29 u30 u31 u32 u33 u34 u35 u36 u37 u38 u39 u40 u41 u42 u43 u44 u45 u46 u47 u48 u49 u50 u51 u52 u53 u54 u55 u56 u57 u58 u59 u60 u61 u62 u63 u64 u65 u66 u67 u68 u69 u70 u71 u72 u73 u74 u75 u76 u77 u78 u79 u80 u81 u82 u83 u84 u85 u86 u87 u88 u89 u90 u91 u92 u93 u94 u95 u96 u97 u98 u99 u100 u101 u102 u103 u104 u105 u106 u107 u108 u109 u110 u111 u112 u113 u114 u115 u116 u117 u118 u119 u120 u121 u122 u123 u124 u125 u126 u127 u128 u129 u130 u131 u132 u133 u134 u135 u136 u137 u138 u139 u140 u141 u142 u143 u144 u145 : Value) (hnext : ∀ (at2 : Nat) (bad2 : Bool) (v4 v9 v10 v11 v12 v13 v28 v29 v30 v31 v32 v33 v34 v35 v36 v37 v38 v39 v40 v41 v42 v43 v44 v45 v46 v47 v48 v49 v50 v51 v52 v53 v54 v55 v56 v57 v58 v59 v60 v61 v62 v63 v64 v65 v66 v67 v68 v69 v70 v71 v72 v73 v74 v75 v76 v77 v78 v79 v80 v81 v82 v83 v84 v85 v86 v87 v88 v89 v90 v91 v92 v93 v94 v95 v96 v97 v98 v99 v100 v101 v102 v103 v104 v105 v106 v107 v108 v109 v110 v111 v112 v113 v114 v115 v116 v117 v118 v119 v120 v121 v122 v123 v124 v125 v126 v127 v128 v129 v130 v131 v132 v133 v134 v135 v136 v137 v138 v139 v140 v141 v142 v143 v144 v145 : Value) (w' : World), at2 ≤ n → Rd w' g (rst l at2 bad2) bad2 → Below w.heap.size w w' → Q0 .normal ⟨#[.slice p n cap, .slice (some ⟨q2, o2, none⟩) m cap2, c2, c3, v4, .pointer (some ⟨g, 0, none⟩), .int .i64 (at2 : Int), .bool bad2, .int .i64 ((k : Int) + 1), v9, v10, v11, v12, v13, c14, c15, c16, c17, c18, c19, c20, c21, c22, c23, c24, c25, c26, c27, v28, v29, v30, v31, v32, v33, v34, v35, v36, v37, v38, v39, v40, v41, v42, v43, v44, v45, v46, v47, v48, v49, v50, v51, v52, v53, v54, v55, v56, v57, v58, v59, v60, v61, v62, v63, v64, v65, v66, v67, v68, v69, v70, v71, v72, v73, v74, v75, v76, v77, v78, v79, v80, v81, v82, v83, v84, v85, v86, v87, v88, v89, v90, v91, v92, v93, v94, v95, v96, v97, v98, v99, v100, v101, v102, v103, v104, v105, v106, v107, v108, v109, v110, v111, v112, v113, v114, v115, v116, v117, v118, v119, v120, v121, v122, v123, v124, v125, v126, v127, v128, v129, v130, v131, v132, v133, v134, v135, v136, v137, v138, v139, v140, v141, v142, v143, v144, v145], []⟩ w') :
    Code.wp Try.prog (((Try.f4.body.map loopsIn).getD []).headD .skip) Q0 ⟨#[.slice p n cap, .slice (some ⟨q2, o2, none⟩) m cap2, c2, c3, u4, .pointer (some ⟨g, 0, none⟩), .int .i64 (at_ : Int), .bool false, .int .i64 (k : Int), u9, u10, u11, u12, u13, c14, c15, c16, c17, c18, c19, c20, c21, c22, c23, c24, c25, c26, c27, u28, u29, u30, u31, u32, u33, u34, u35, u36, u37, u38, u39, u40, u41, u42, u43, u44, u45, u46, u47, u48, u49, u50, u51, u52, u53, u54, u55, u56, u57, u58, u59, u60, u61, u62, u63, u64, u65, u66, u67, u68, u69, u70, u71, u72, u73, u74, u75, u76, u77, u78, u79, u80, u81, u82, u83, u84, u85, u86, u87, u88, u89, u90, u91, u92, u93, u94, u95, u96, u97, u98, u99, u100, u101, u102, u103, u104, u105, u106, u107, u108, u109, u110, u111, u112, u113, u114, u115, u116, u117, u118, u119, u120, u121, u122, u123, u124, u125, u126, u127, u128, u129, u130, u131, u132, u133, u134, u135, u136, u137, u138, u139, u140, u141, u142, u143, u144, u145], []⟩ wr := by
  haveI : Nonempty World := ⟨w⟩
  conv => arg 2; whnf
  obtain ⟨a2, ea2⟩ : ∃ a2, at_ + 2 = a2 := ⟨_, rfl⟩
  have ha2 : (at_ : Int) + 2 = (a2 : Int) := by omega
  have st := step_ok l at_ 2 (by rw [HL.out]; omega)
  rw [show ((2 : Nat) : Int) = 2 from rfl, ea2] at st
  have cA := at_any p cap n at_ 2 l HL.out (by omega) (by omega) (by omega) HR.out
  rw [show ((2 : Nat) : Int) = 2 from rfl] at cA
  obtain ⟨x, ex⟩ : ∃ x, num ((l.drop at_).take 2) = x := ⟨_, rfl⟩
  have hx : 0 ≤ x ∧ x < 65536 := by
    have := num_lt 2 (l := (l.drop at_).take 2) (fun y hy => HR.out y (List.mem_of_mem_drop (List.mem_of_mem_take hy))) (by simp; omega)
    rw [ex] at this
    simpa using this
  rw [ex] at cA
  have HS : Hid (num (got (rst l at_ false) 2) = x ∧ left (rst l at_ false) 2 = rst l a2 false ∧ mars (rst l at_ false) false 2 = false) := ⟨by rw [st.1, ex], st.2⟩
  have HA2 : Hid (at_ + 2 = a2) := ea2
  have h2n : a2 ≤ n := by omega
  have h2n' : (a2 : Int) ≤ (n : Int) := by omega
  clear st ex ea2
  go_wp2_with fail
  refine (cA _ (HB.out.up (hB.alloc hB.size _))).mono ?_
  rintro e' w4' ⟨rfl, rfl⟩
  clear cA
  go_wp2_with fail
  refine (ru16_any g _ false _ (HRd.out.up ((Below.refl _ _).alloc (Nat.le_refl _) _))).mono ?_
  rintro e' w4 ⟨rfl, hR4, hb4⟩
  rw [HS.out.1]
  rw [HS.out.2.1, HS.out.2.2] at hR4
  have H4 : Hid (Rd w4 g (rst l a2 false) false ∧ Below w.heap.size w w4) := ⟨hR4, hb4.below (hB.alloc hB.size _) HG.out (by have := hB.size; simp; omega)⟩
  clear hR4 hb4 HS HRd hB
  go_wp2_with fail
  refine (end_any g _ (by have := rst_le l a2 false; omega) false _ H4.out.1).mono ?_
  rintro e' w5 ⟨rfl, rfl⟩
  have el : (rst l a2 false).length = n - a2 := by rw [rst_len, HL.out]
  rw [el]
  clear el
  by_cases hfin : a2 = n
  · have hd : decide (n - a2 = 0) = true := by simp; omega
    rw [hd]
    have hfi : ((a2 : Int) == (n : Int)) = true := by simp; omega
    clear hd hfin
    go_wp2
    exact hnext a2 false _ _ _ _ _ _ _ _ _ _ _ _ _ _ _ _ _ _ _ _ _ _ _ _ _ _ _ _ _ _ _ _ _ _ _ _ _ _ _ _ _ _ _ _ _ _ _ _ _ _ _ _ _ _ _ _ _ _ _ _ _ _ _ _ _ _ _ _ _ _ _ _ _ _ _ _ _ _ _ _ _ _ _ _ _ _ _ _ _ _ _ _ _ _ _ _ _ _ _ _ _ _ _ _ _ _ _ _ _ _ _ _ _ _ _ _ _ _ _ _ _ _ _ _ _ (by omega) H4.out.1 H4.out.2
  · have hd : decide (n - a2 = 0) = false := by simp; omega
    rw [hd]
    have hfi : ((a2 : Int) == (n : Int)) = false := by simp; omega
    clear hd hfin
    go_wp2
    exact hnext a2 false _ _ _ _ _ _ _ _ _ _ _ _ _ _ _ _ _ _ _ _ _ _ _ _ _ _ _ _ _ _ _ _ _ _ _ _ _ _ _ _ _ _ _ _ _ _ _ _ _ _ _ _ _ _ _ _ _ _ _ _ _ _ _ _ _ _ _ _ _ _ _ _ _ _ _ _ _ _ _ _ _ _ _ _ _ _ _ _ _ _ _ _ _ _ _ _ _ _ _ _ _ _ _ _ _ _ _ _ _ _ _ _ _ _ _ _ _ _ _ _ _ _ _ _ _ (by omega) H4.out.1 H4.out.2
set_option maxHeartbeats 8000000 in
set_option maxRecDepth 20000 in
theorem rd6_no (w : World) (n cap : Nat) (p : Option Addr) (m cap2 q2 o2 : Nat) (l : List Int) (g : Nat) (hn63 : n ≤ 9223372036854775807) (hm63 : m ≤ 9223372036854775807) (hl200 : l.length ≤ 200) (HL : Hid (l.length = n)) (HR : Hid (∀ y, y ∈ l → 0 ≤ y ∧ y < 256)) (HB : Hid (Bytes w (.slice p n cap) l)) (Hcap : Hid (n ≤ cap ∧ cap ≤ 9223372036854775807)) (h1 : (n : Int) ≤ 200) (h2 : (m : Int) ≤ 100) (HG : Hid (w.heap.size ≤ g)) (k at_ : Nat) (hkm : k < m) (hk' : (k : Int) < (m : Int)) (hat : at_ ≤ n) (hat' : (at_ : Int) ≤ (n : Int)) (e : Int) (hw : -9223372036854775808 ≤ e ∧ e ≤ 9223372036854775807) (wr : World) (hB : Below w.heap.size w wr) (hcell : wr.cell? ⟨q2, o2 + k, none⟩ = some (.int .i64 e)) (HRd : Hid (Rd wr g (rst l at_ false) false)) (ea : bits .and .i64 e 7 = 6) (hok : ¬ (2 : Int) ≤ (n : Int) - (at_ : Int)) (Q0 : Exit → Act → World → Prop) (c2 c3 c14 c15 c16 c17 c18 c19 c20 c21 c22 c23 c24 c25 c26 c27 u4 u9 u10 u11 u12 u13 u28 u29 u30 u31 u32 u33 u34 u35 u36 u37 u38 u39 u40 u41 u42 u43 u44 u45 u46 u47 u48 u49 u50 u51 u52 u53 u54 u55 u56 u57 u58 u59 u60 u61 u62 u63 u64 u65 u66 u67 u68 u69 u70 u71 u72 u73 u74 u75 u76 u77 u78 u79 u80 u81 u82 u83 u84 u85 u86 u87 u88 u89 u90 u91 u92 u93 u94 u95 u96 u97 u98 u99 u100 u101 u102 u103 u104 u105 u106 u107 u108 u109 u110 u111 u112 u113 u114 u115 u116 u117 u118 u119 u120 u121 u122 u123 u124 u125 u126 u127 u128 u129 u130 u131 u132 u133 u134 u135 u136 u137 u138 u139 u140 u141 u142 u143 u144 u145 : Value) (hnext : ∀ (at2 : Nat) (bad2 : Bool) (v4 v9 v10 v11 v12 v13 v28 v29 v30 v31 v32 v33 v34 v35 v36 v37 v38 v39 v40 v41 v42 v43 v44 v45 v46 v47 v48 v49 v50 v51 v52 v53 v54 v55 v56 v57 v58 v59 v60 v61 v62 v63 v64 v65 v66 v67 v68 v69 v70 v71 v72 v73 v74 v75 v76 v77 v78 v79 v80 v81 v82 v83 v84 v85 v86 v87 v88 v89 v90 v91 v92 v93 v94 v95 v96 v97 v98 v99 v100 v101 v102 v103 v104 v105 v106 v107 v108 v109 v110 v111 v112 v113 v114 v115 v116 v117 v118 v119 v120 v121 v122 v123 v124 v125 v126 v127 v128 v129 v130 v131 v132 v133 v134 v135 v136 v137 v138 v139 v140 v141 v142 v143 v144 v145 : Value) (w' : World), at2 ≤ n → Rd w' g (rst l at2 bad2) bad2 → Below w.heap.size w w' → Q0 .normal ⟨#[.slice p n cap, .slice (some ⟨q2, o2, none⟩) m cap2, c2, c3, v4, .pointer (some ⟨g, 0, none⟩), .int .i64 (at2 : Int), .bool bad2, .int .i64 ((k : Int) + 1), v9, v10, v11, v12, v13, c14, c15, c16, c17, c18, c19, c20, c21, c22, c23, c24, c25, c26, c27, v28, v29, v30, v31, v32, v33, v34, v35, v36, v37, v38, v39, v40, v41, v42, v43, v44, v45, v46, v47, v48, v49, v50, v51, v52, v53, v54, v55, v56, v57, v58, v59, v60, v61, v62, v63, v64, v65, v66, v67, v68, v69, v70, v71, v72, v73, v74, v75, v76, v77, v78, v79, v80, v81, v82, v83, v84, v85, v86, v87, v88, v89, v90, v91, v92, v93, v94, v95, v96, v97, v98, v99, v100, v101, v102, v103, v104, v105, v106, v107, v108, v109, v110, v111, v112, v113, v114, v115, v116, v117, v118, v119, v120, v121, v122, v123, v124, v125, v126, v127, v128, v129, v130, v131, v132, v133, v134, v135, v136, v137, v138, v139, v140, v141, v142, v143, v144, v145], []⟩ w') :
    Code.wp Try.prog (((Try.f4.body.map loopsIn).getD []).headD .skip) Q0 ⟨#[.slice p n cap, .slice (some ⟨q2, o2, none⟩) m cap2, c2, c3, u4, .pointer (some ⟨g, 0, none⟩), .int .i64 (at_ : Int), .bool false, .int .i64 (k : Int), u9, u10, u11, u12, u13, c14, c15, c16, c17, c18, c19, c20, c21, c22, c23, c24, c25, c26, c27, u28, u29, u30, u31, u32, u33, u34, u35, u36, u37, u38, u39, u40, u41, u42, u43, u44, u45, u46, u47, u48, u49, u50, u51, u52, u53, u54, u55, u56, u57, u58, u59, u60, u61, u62, u63, u64, u65, u66, u67, u68, u69, u70, u71, u72, u73, u74, u75, u76, u77, u78, u79, u80, u81, u82, u83, u84, u85, u86, u87, u88, u89, u90, u91, u92, u93, u94, u95, u96, u97, u98, u99, u100, u101, u102, u103, u104, u105, u106, u107, u108, u109, u110, u111, u112, u113, u114, u115, u116, u117, u118, u119, u120, u121, u122, u123, u124, u125, u126, u127, u128, u129, u130, u131, u132, u133, u134, u135, u136, u137, u138, u139, u140, u141, u142, u143, u144, u145], []⟩ wr := by
  haveI : Nonempty World := ⟨w⟩
  conv => arg 2; whnf
  have st := step_bad l at_ (by rw [HL.out]; exact hat) 2 false (by rw [HL.out]; intro; right; omega)
  have HS : Hid (got (rst l at_ false) 2 = [] ∧ left (rst l at_ false) 2 = rst l at_ true ∧ mars (rst l at_ false) false 2 = true) := st
  clear st
  go_wp2_with fail
  refine (ru16_any g _ false _ (HRd.out.up ((Below.refl _ _).alloc (Nat.le_refl _) _))).mono ?_
  rintro e' w4 ⟨rfl, hR4, hb4⟩
  rw [HS.out.1, num_nil]
  rw [HS.out.2.1, HS.out.2.2] at hR4
  have H4 : Hid (Rd w4 g (rst l at_ true) true ∧ Below w.heap.size w w4) := ⟨hR4, hb4.below (hB.alloc hB.size _) HG.out (by have := hB.size; simp; omega)⟩
  clear hR4 hb4 HS HRd hB
  go_wp2_with fail
  refine (end_any g _ (by have := rst_le l at_ true; omega) true _ H4.out.1).mono ?_
  rintro e' w5 ⟨rfl, rfl⟩
  go_wp2
  exact hnext at_ true _ _ _ _ _ _ _ _ _ _ _ _ _ _ _ _ _ _ _ _ _ _ _ _ _ _ _ _ _ _ _ _ _ _ _ _ _ _ _ _ _ _ _ _ _ _ _ _ _ _ _ _ _ _ _ _ _ _ _ _ _ _ _ _ _ _ _ _ _ _ _ _ _ _ _ _ _ _ _ _ _ _ _ _ _ _ _ _ _ _ _ _ _ _ _ _ _ _ _ _ _ _ _ _ _ _ _ _ _ _ _ _ _ _ _ _ _ _ _ _ _ _ _ _ _ (by omega) H4.out.1 H4.out.2
set_option maxHeartbeats 8000000 in
set_option maxRecDepth 20000 in
theorem rd6_bad (w : World) (n cap : Nat) (p : Option Addr) (m cap2 q2 o2 : Nat) (l : List Int) (g : Nat) (hn63 : n ≤ 9223372036854775807) (hm63 : m ≤ 9223372036854775807) (hl200 : l.length ≤ 200) (HL : Hid (l.length = n)) (HR : Hid (∀ y, y ∈ l → 0 ≤ y ∧ y < 256)) (HB : Hid (Bytes w (.slice p n cap) l)) (Hcap : Hid (n ≤ cap ∧ cap ≤ 9223372036854775807)) (h1 : (n : Int) ≤ 200) (h2 : (m : Int) ≤ 100) (HG : Hid (w.heap.size ≤ g)) (k at_ : Nat) (hkm : k < m) (hk' : (k : Int) < (m : Int)) (hat : at_ ≤ n) (hat' : (at_ : Int) ≤ (n : Int)) (e : Int) (hw : -9223372036854775808 ≤ e ∧ e ≤ 9223372036854775807) (wr : World) (hB : Below w.heap.size w wr) (hcell : wr.cell? ⟨q2, o2 + k, none⟩ = some (.int .i64 e)) (HRd : Hid (Rd wr g (rst l at_ true) true)) (ea : bits .and .i64 e 7 = 6)  (Q0 : Exit → Act → World → Prop) (c2 c3 c14 c15 c16 c17 c18 c19 c20 c21 c22 c23 c24 c25 c26 c27 u4 u9 u10 u11 u12 u13 u28 u29 u30 u31 u32 u33 u34 u35 u36 u37 u38 u39 u40 u41 u42 u43 u44 u45 u46 u47 u48 u49 u50 u51 u52 u53 u54 u55 u56 u57 u58 u59 u60 u61 u62 u63 u64 u65 u66 u67 u68 u69 u70 u71 u72 u73 u74 u75 u76 u77 u78 u79 u80 u81 u82 u83 u84 u85 u86 u87 u88 u89 u90 u91 u92 u93 u94 u95 u96 u97 u98 u99 u100 u101 u102 u103 u104 u105 u106 u107 u108 u109 u110 u111 u112 u113 u114 u115 u116 u117 u118 u119 u120 u121 u122 u123 u124 u125 u126 u127 u128 u129 u130 u131 u132 u133 u134 u135 u136 u137 u138 u139 u140 u141 u142 u143 u144 u145 : Value) (hnext : ∀ (at2 : Nat) (bad2 : Bool) (v4 v9 v10 v11 v12 v13 v28 v29 v30 v31 v32 v33 v34 v35 v36 v37 v38 v39 v40 v41 v42 v43 v44 v45 v46 v47 v48 v49 v50 v51 v52 v53 v54 v55 v56 v57 v58 v59 v60 v61 v62 v63 v64 v65 v66 v67 v68 v69 v70 v71 v72 v73 v74 v75 v76 v77 v78 v79 v80 v81 v82 v83 v84 v85 v86 v87 v88 v89 v90 v91 v92 v93 v94 v95 v96 v97 v98 v99 v100 v101 v102 v103 v104 v105 v106 v107 v108 v109 v110 v111 v112 v113 v114 v115 v116 v117 v118 v119 v120 v121 v122 v123 v124 v125 v126 v127 v128 v129 v130 v131 v132 v133 v134 v135 v136 v137 v138 v139 v140 v141 v142 v143 v144 v145 : Value) (w' : World), at2 ≤ n → Rd w' g (rst l at2 bad2) bad2 → Below w.heap.size w w' → Q0 .normal ⟨#[.slice p n cap, .slice (some ⟨q2, o2, none⟩) m cap2, c2, c3, v4, .pointer (some ⟨g, 0, none⟩), .int .i64 (at2 : Int), .bool bad2, .int .i64 ((k : Int) + 1), v9, v10, v11, v12, v13, c14, c15, c16, c17, c18, c19, c20, c21, c22, c23, c24, c25, c26, c27, v28, v29, v30, v31, v32, v33, v34, v35, v36, v37, v38, v39, v40, v41, v42, v43, v44, v45, v46, v47, v48, v49, v50, v51, v52, v53, v54, v55, v56, v57, v58, v59, v60, v61, v62, v63, v64, v65, v66, v67, v68, v69, v70, v71, v72, v73, v74, v75, v76, v77, v78, v79, v80, v81, v82, v83, v84, v85, v86, v87, v88, v89, v90, v91, v92, v93, v94, v95, v96, v97, v98, v99, v100, v101, v102, v103, v104, v105, v106, v107, v108, v109, v110, v111, v112, v113, v114, v115, v116, v117, v118, v119, v120, v121, v122, v123, v124, v125, v126, v127, v128, v129, v130, v131, v132, v133, v134, v135, v136, v137, v138, v139, v140, v141, v142, v143, v144, v145], []⟩ w') :
    Code.wp Try.prog (((Try.f4.body.map loopsIn).getD []).headD .skip) Q0 ⟨#[.slice p n cap, .slice (some ⟨q2, o2, none⟩) m cap2, c2, c3, u4, .pointer (some ⟨g, 0, none⟩), .int .i64 (at_ : Int), .bool true, .int .i64 (k : Int), u9, u10, u11, u12, u13, c14, c15, c16, c17, c18, c19, c20, c21, c22, c23, c24, c25, c26, c27, u28, u29, u30, u31, u32, u33, u34, u35, u36, u37, u38, u39, u40, u41, u42, u43, u44, u45, u46, u47, u48, u49, u50, u51, u52, u53, u54, u55, u56, u57, u58, u59, u60, u61, u62, u63, u64, u65, u66, u67, u68, u69, u70, u71, u72, u73, u74, u75, u76, u77, u78, u79, u80, u81, u82, u83, u84, u85, u86, u87, u88, u89, u90, u91, u92, u93, u94, u95, u96, u97, u98, u99, u100, u101, u102, u103, u104, u105, u106, u107, u108, u109, u110, u111, u112, u113, u114, u115, u116, u117, u118, u119, u120, u121, u122, u123, u124, u125, u126, u127, u128, u129, u130, u131, u132, u133, u134, u135, u136, u137, u138, u139, u140, u141, u142, u143, u144, u145], []⟩ wr := by
  haveI : Nonempty World := ⟨w⟩
  conv => arg 2; whnf
  have st := step_bad l at_ (by rw [HL.out]; exact hat) 2 true (by intro h; cases h)
  have HS : Hid (got (rst l at_ true) 2 = [] ∧ left (rst l at_ true) 2 = rst l at_ true ∧ mars (rst l at_ true) true 2 = true) := st
  clear st
  go_wp2_with fail
  refine (ru16_any g _ true _ (HRd.out.up ((Below.refl _ _).alloc (Nat.le_refl _) _))).mono ?_
  rintro e' w4 ⟨rfl, hR4, hb4⟩
  rw [HS.out.1, num_nil]
  rw [HS.out.2.1, HS.out.2.2] at hR4
  have H4 : Hid (Rd w4 g (rst l at_ true) true ∧ Below w.heap.size w w4) := ⟨hR4, hb4.below (hB.alloc hB.size _) HG.out (by have := hB.size; simp; omega)⟩
  clear hR4 hb4 HS HRd hB
  go_wp2_with fail
  refine (end_any g _ (by have := rst_le l at_ true; omega) true _ H4.out.1).mono ?_
  rintro e' w5 ⟨rfl, rfl⟩
  go_wp2
  exact hnext at_ true _ _ _ _ _ _ _ _ _ _ _ _ _ _ _ _ _ _ _ _ _ _ _ _ _ _ _ _ _ _ _ _ _ _ _ _ _ _ _ _ _ _ _ _ _ _ _ _ _ _ _ _ _ _ _ _ _ _ _ _ _ _ _ _ _ _ _ _ _ _ _ _ _ _ _ _ _ _ _ _ _ _ _ _ _ _ _ _ _ _ _ _ _ _ _ _ _ _ _ _ _ _ _ _ _ _ _ _ _ _ _ _ _ _ _ _ _ _ _ _ _ _ _ _ _ (by omega) H4.out.1 H4.out.2
end Go.Proofs.Yteahjfnjjopncaa.Wd
