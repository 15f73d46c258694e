/- The law PackReads. -/
import Derived.Test.YteahjfnjjopncaaPReadsB
import Derived.Test.YteahjfnjjopncaaPReadsC
import Derived.Test.YteahjfnjjopncaaPReadsD
import Derived.Test.YteahjfnjjopncaaPReadsE
import Derived.Test.YteahjfnjjopncaaPReadsF
namespace Go.Proofs.Yteahjfnjjopncaa.Wd
open Go.RowKit
set_option linter.unusedVariables false
set_option linter.unusedSimpArgs false
set_option maxHeartbeats 8000000 in
set_option maxRecDepth 20000 in
theorem round_all (w : World) (n cap : Nat) (p : Option Addr) (m cap2 q2 o2 : Nat) (l : List Int) (g : Nat) (hn63 : n ≤ 9223372036854775807) (hm63 : m ≤ 9223372036854775807) (hl200 : l.length ≤ 200) (HL : Hid (l.length = n)) (HR : Hid (∀ y, y ∈ l → 0 ≤ y ∧ y < 256)) (HB : Hid (Bytes w (.slice p n cap) l)) (Hcap : Hid (n ≤ cap ∧ cap ≤ 9223372036854775807)) (h1 : (n : Int) ≤ 200) (h2 : (m : Int) ≤ 100) (HG : Hid (w.heap.size ≤ g)) (k at_ : Nat) (hkm : k < m) (hk' : (k : Int) < (m : Int)) (hat : at_ ≤ n) (hat' : (at_ : Int) ≤ (n : Int)) (e : Int) (hw : -9223372036854775808 ≤ e ∧ e ≤ 9223372036854775807) (wr : World) (hB : Below w.heap.size w wr) (hcell : wr.cell? ⟨q2, o2 + k, none⟩ = some (.int .i64 e)) (bad : Bool) (HRd : Hid (Rd wr g (rst l at_ bad) bad)) (Q0 : Exit → Act → World → Prop) (c2 c3 c14 c15 c16 c17 c18 c19 c20 c21 c22 c23 c24 c25 c26 c27 u4 u9 u10 u11 u12 u13 u28 u29 u30 u31 u32 u33 u34 u35 u36 u37 u38 u39 u40 u41 u42 u43 u44 u45 u46 u47 u48 u49 u50 u51 u52 u53 u54 u55 u56 u57 u58 u59 u60 u61 u62 u63 u64 u65 u66 u67 u68 u69 u70 u71 u72 u73 u74 u75 u76 u77 u78 u79 u80 u81 u82 u83 u84 u85 u86 u87 u88 u89 u90 u91 u92 u93 u94 u95 u96 u97 u98 u99 u100 u101 u102 u103 u104 u105 u106 u107 u108 u109 u110 u111 u112 u113 u114 u115 u116 u117 u118 u119 u120 u121 u122 u123 u124 u125 u126 u127 u128 u129 u130 u131 u132 u133 u134 u135 u136 u137 u138 u139 u140 u141 u142 u143 u144 u145 : Value) (hnext : ∀ (at2 : Nat) (bad2 : Bool) (v4 v9 v10 v11 v12 v13 v28 v29 v30 v31 v32 v33 v34 v35 v36 v37 v38 v39 v40 v41 v42 v43 v44 v45 v46 v47 v48 v49 v50 v51 v52 v53 v54 v55 v56 v57 v58 v59 v60 v61 v62 v63 v64 v65 v66 v67 v68 v69 v70 v71 v72 v73 v74 v75 v76 v77 v78 v79 v80 v81 v82 v83 v84 v85 v86 v87 v88 v89 v90 v91 v92 v93 v94 v95 v96 v97 v98 v99 v100 v101 v102 v103 v104 v105 v106 v107 v108 v109 v110 v111 v112 v113 v114 v115 v116 v117 v118 v119 v120 v121 v122 v123 v124 v125 v126 v127 v128 v129 v130 v131 v132 v133 v134 v135 v136 v137 v138 v139 v140 v141 v142 v143 v144 v145 : Value) (w' : World), at2 ≤ n → Rd w' g (rst l at2 bad2) bad2 → Below w.heap.size w w' → Q0 .normal ⟨#[.slice p n cap, .slice (some ⟨q2, o2, none⟩) m cap2, c2, c3, v4, .pointer (some ⟨g, 0, none⟩), .int .i64 (at2 : Int), .bool bad2, .int .i64 ((k : Int) + 1), v9, v10, v11, v12, v13, c14, c15, c16, c17, c18, c19, c20, c21, c22, c23, c24, c25, c26, c27, v28, v29, v30, v31, v32, v33, v34, v35, v36, v37, v38, v39, v40, v41, v42, v43, v44, v45, v46, v47, v48, v49, v50, v51, v52, v53, v54, v55, v56, v57, v58, v59, v60, v61, v62, v63, v64, v65, v66, v67, v68, v69, v70, v71, v72, v73, v74, v75, v76, v77, v78, v79, v80, v81, v82, v83, v84, v85, v86, v87, v88, v89, v90, v91, v92, v93, v94, v95, v96, v97, v98, v99, v100, v101, v102, v103, v104, v105, v106, v107, v108, v109, v110, v111, v112, v113, v114, v115, v116, v117, v118, v119, v120, v121, v122, v123, v124, v125, v126, v127, v128, v129, v130, v131, v132, v133, v134, v135, v136, v137, v138, v139, v140, v141, v142, v143, v144, v145], []⟩ w') :
    Code.wp Try.prog (((Try.f4.body.map loopsIn).getD []).headD .skip) Q0 ⟨#[.slice p n cap, .slice (some ⟨q2, o2, none⟩) m cap2, c2, c3, u4, .pointer (some ⟨g, 0, none⟩), .int .i64 (at_ : Int), .bool bad, .int .i64 (k : Int), u9, u10, u11, u12, u13, c14, c15, c16, c17, c18, c19, c20, c21, c22, c23, c24, c25, c26, c27, u28, u29, u30, u31, u32, u33, u34, u35, u36, u37, u38, u39, u40, u41, u42, u43, u44, u45, u46, u47, u48, u49, u50, u51, u52, u53, u54, u55, u56, u57, u58, u59, u60, u61, u62, u63, u64, u65, u66, u67, u68, u69, u70, u71, u72, u73, u74, u75, u76, u77, u78, u79, u80, u81, u82, u83, u84, u85, u86, u87, u88, u89, u90, u91, u92, u93, u94, u95, u96, u97, u98, u99, u100, u101, u102, u103, u104, u105, u106, u107, u108, u109, u110, u111, u112, u113, u114, u115, u116, u117, u118, u119, u120, u121, u122, u123, u124, u125, u126, u127, u128, u129, u130, u131, u132, u133, u134, u135, u136, u137, u138, u139, u140, u141, u142, u143, u144, u145], []⟩ wr := by
  have ea := i64_and3 e
  have hs8 := eight e
  rcases hs8 with h8 | h8 | h8 | h8 | h8 | h8 | h8 | h8
  · rw [h8] at ea
    cases bad
    · by_cases hok : (1 : Int) ≤ (n : Int) - (at_ : Int)
      · exact rd0_ok w n cap p m cap2 q2 o2 l g hn63 hm63 hl200 HL HR HB Hcap h1 h2 HG k at_ hkm hk' hat hat' e hw wr hB hcell HRd ea hok Q0 c2 c3 c14 c15 c16 c17 c18 c19 c20 c21 c22 c23 c24 c25 c26 c27 u4 u9 u10 u11 u12 u13 u28 u29 u30 u31 u32 u33 u34 u35 u36 u37 u38 u39 u40 u41 u42 u43 u44 u45 u46 u47 u48 u49 u50 u51 u52 u53 u54 u55 u56 u57 u58 u59 u60 u61 u62 u63 u64 u65 u66 u67 u68 u69 u70 u71 u72 u73 u74 u75 u76 u77 u78 u79 u80 u81 u82 u83 u84 u85 u86 u87 u88 u89 u90 u91 u92 u93 u94 u95 u96 u97 u98 u99 u100 u101 u102 u103 u104 u105 u106 u107 u108 u109 u110 u111 u112 u113 u114 u115 u116 u117 u118 u119 u120 u121 u122 u123 u124 u125 u126 u127 u128 u129 u130 u131 u132 u133 u134 u135 u136 u137 u138 u139 u140 u141 u142 u143 u144 u145 hnext
      · exact rd0_no w n cap p m cap2 q2 o2 l g hn63 hm63 hl200 HL HR HB Hcap h1 h2 HG k at_ hkm hk' hat hat' e hw wr hB hcell HRd ea hok Q0 c2 c3 c14 c15 c16 c17 c18 c19 c20 c21 c22 c23 c24 c25 c26 c27 u4 u9 u10 u11 u12 u13 u28 u29 u30 u31 u32 u33 u34 u35 u36 u37 u38 u39 u40 u41 u42 u43 u44 u45 u46 u47 u48 u49 u50 u51 u52 u53 u54 u55 u56 u57 u58 u59 u60 u61 u62 u63 u64 u65 u66 u67 u68 u69 u70 u71 u72 u73 u74 u75 u76 u77 u78 u79 u80 u81 u82 u83 u84 u85 u86 u87 u88 u89 u90 u91 u92 u93 u94 u95 u96 u97 u98 u99 u100 u101 u102 u103 u104 u105 u106 u107 u108 u109 u110 u111 u112 u113 u114 u115 u116 u117 u118 u119 u120 u121 u122 u123 u124 u125 u126 u127 u128 u129 u130 u131 u132 u133 u134 u135 u136 u137 u138 u139 u140 u141 u142 u143 u144 u145 hnext
    · exact rd0_bad w n cap p m cap2 q2 o2 l g hn63 hm63 hl200 HL HR HB Hcap h1 h2 HG k at_ hkm hk' hat hat' e hw wr hB hcell HRd ea Q0 c2 c3 c14 c15 c16 c17 c18 c19 c20 c21 c22 c23 c24 c25 c26 c27 u4 u9 u10 u11 u12 u13 u28 u29 u30 u31 u32 u33 u34 u35 u36 u37 u38 u39 u40 u41 u42 u43 u44 u45 u46 u47 u48 u49 u50 u51 u52 u53 u54 u55 u56 u57 u58 u59 u60 u61 u62 u63 u64 u65 u66 u67 u68 u69 u70 u71 u72 u73 u74 u75 u76 u77 u78 u79 u80 u81 u82 u83 u84 u85 u86 u87 u88 u89 u90 u91 u92 u93 u94 u95 u96 u97 u98 u99 u100 u101 u102 u103 u104 u105 u106 u107 u108 u109 u110 u111 u112 u113 u114 u115 u116 u117 u118 u119 u120 u121 u122 u123 u124 u125 u126 u127 u128 u129 u130 u131 u132 u133 u134 u135 u136 u137 u138 u139 u140 u141 u142 u143 u144 u145 hnext
  · rw [h8] at ea
    cases bad
    · by_cases hok : (2 : Int) ≤ (n : Int) - (at_ : Int)
      · exact rd1_ok w n cap p m cap2 q2 o2 l g hn63 hm63 hl200 HL HR HB Hcap h1 h2 HG k at_ hkm hk' hat hat' e hw wr hB hcell HRd ea hok Q0 c2 c3 c14 c15 c16 c17 c18 c19 c20 c21 c22 c23 c24 c25 c26 c27 u4 u9 u10 u11 u12 u13 u28 u29 u30 u31 u32 u33 u34 u35 u36 u37 u38 u39 u40 u41 u42 u43 u44 u45 u46 u47 u48 u49 u50 u51 u52 u53 u54 u55 u56 u57 u58 u59 u60 u61 u62 u63 u64 u65 u66 u67 u68 u69 u70 u71 u72 u73 u74 u75 u76 u77 u78 u79 u80 u81 u82 u83 u84 u85 u86 u87 u88 u89 u90 u91 u92 u93 u94 u95 u96 u97 u98 u99 u100 u101 u102 u103 u104 u105 u106 u107 u108 u109 u110 u111 u112 u113 u114 u115 u116 u117 u118 u119 u120 u121 u122 u123 u124 u125 u126 u127 u128 u129 u130 u131 u132 u133 u134 u135 u136 u137 u138 u139 u140 u141 u142 u143 u144 u145 hnext
      · exact rd1_no w n cap p m cap2 q2 o2 l g hn63 hm63 hl200 HL HR HB Hcap h1 h2 HG k at_ hkm hk' hat hat' e hw wr hB hcell HRd ea hok Q0 c2 c3 c14 c15 c16 c17 c18 c19 c20 c21 c22 c23 c24 c25 c26 c27 u4 u9 u10 u11 u12 u13 u28 u29 u30 u31 u32 u33 u34 u35 u36 u37 u38 u39 u40 u41 u42 u43 u44 u45 u46 u47 u48 u49 u50 u51 u52 u53 u54 u55 u56 u57 u58 u59 u60 u61 u62 u63 u64 u65 u66 u67 u68 u69 u70 u71 u72 u73 u74 u75 u76 u77 u78 u79 u80 u81 u82 u83 u84 u85 u86 u87 u88 u89 u90 u91 u92 u93 u94 u95 u96 u97 u98 u99 u100 u101 u102 u103 u104 u105 u106 u107 u108 u109 u110 u111 u112 u113 u114 u115 u116 u117 u118 u119 u120 u121 u122 u123 u124 u125 u126 u127 u128 u129 u130 u131 u132 u133 u134 u135 u136 u137 u138 u139 u140 u141 u142 u143 u144 u145 hnext
    · exact rd1_bad w n cap p m cap2 q2 o2 l g hn63 hm63 hl200 HL HR HB Hcap h1 h2 HG k at_ hkm hk' hat hat' e hw wr hB hcell HRd ea Q0 c2 c3 c14 c15 c16 c17 c18 c19 c20 c21 c22 c23 c24 c25 c26 c27 u4 u9 u10 u11 u12 u13 u28 u29 u30 u31 u32 u33 u34 u35 u36 u37 u38 u39 u40 u41 u42 u43 u44 u45 u46 u47 u48 u49 u50 u51 u52 u53 u54 u55 u56 u57 u58 u59 u60 u61 u62 u63 u64 u65 u66 u67 u68 u69 u70 u71 u72 u73 u74 u75 u76 u77 u78 u79 u80 u81 u82 u83 u84 u85 u86 u87 u88 u89 u90 u91 u92 u93 u94 u95 u96 u97 u98 u99 u100 u101 u102 u103 u104 u105 u106 u107 u108 u109 u110 u111 u112 u113 u114 u115 u116 u117 u118 u119 u120 u121 u122 u123 u124 u125 u126 u127 u128 u129 u130 u131 u132 u133 u134 u135 u136 u137 u138 u139 u140 u141 u142 u143 u144 u145 hnext
  · rw [h8] at ea
    cases bad
    · by_cases hok : (4 : Int) ≤ (n : Int) - (at_ : Int)
      · exact rd2_ok w n cap p m cap2 q2 o2 l g hn63 hm63 hl200 HL HR HB Hcap h1 h2 HG k at_ hkm hk' hat hat' e hw wr hB hcell HRd ea hok Q0 c2 c3 c14 c15 c16 c17 c18 c19 c20 c21 c22 c23 c24 c25 c26 c27 u4 u9 u10 u11 u12 u13 u28 u29 u30 u31 u32 u33 u34 u35 u36 u37 u38 u39 u40 u41 u42 u43 u44 u45 u46 u47 u48 u49 u50 u51 u52 u53 u54 u55 u56 u57 u58 u59 u60 u61 u62 u63 u64 u65 u66 u67 u68 u69 u70 u71 u72 u73 u74 u75 u76 u77 u78 u79 u80 u81 u82 u83 u84 u85 u86 u87 u88 u89 u90 u91 u92 u93 u94 u95 u96 u97 u98 u99 u100 u101 u102 u103 u104 u105 u106 u107 u108 u109 u110 u111 u112 u113 u114 u115 u116 u117 u118 u119 u120 u121 u122 u123 u124 u125 u126 u127 u128 u129 u130 u131 u132 u133 u134 u135 u136 u137 u138 u139 u140 u141 u142 u143 u144 u145 hnext
      · exact rd2_no w n cap p m cap2 q2 o2 l g hn63 hm63 hl200 HL HR HB Hcap h1 h2 HG k at_ hkm hk' hat hat' e hw wr hB hcell HRd ea hok Q0 c2 c3 c14 c15 c16 c17 c18 c19 c20 c21 c22 c23 c24 c25 c26 c27 u4 u9 u10 u11 u12 u13 u28 u29 u30 u31 u32 u33 u34 u35 u36 u37 u38 u39 u40 u41 u42 u43 u44 u45 u46 u47 u48 u49 u50 u51 u52 u53 u54 u55 u56 u57 u58 u59 u60 u61 u62 u63 u64 u65 u66 u67 u68 u69 u70 u71 u72 u73 u74 u75 u76 u77 u78 u79 u80 u81 u82 u83 u84 u85 u86 u87 u88 u89 u90 u91 u92 u93 u94 u95 u96 u97 u98 u99 u100 u101 u102 u103 u104 u105 u106 u107 u108 u109 u110 u111 u112 u113 u114 u115 u116 u117 u118 u119 u120 u121 u122 u123 u124 u125 u126 u127 u128 u129 u130 u131 u132 u133 u134 u135 u136 u137 u138 u139 u140 u141 u142 u143 u144 u145 hnext
    · exact rd2_bad w n cap p m cap2 q2 o2 l g hn63 hm63 hl200 HL HR HB Hcap h1 h2 HG k at_ hkm hk' hat hat' e hw wr hB hcell HRd ea Q0 c2 c3 c14 c15 c16 c17 c18 c19 c20 c21 c22 c23 c24 c25 c26 c27 u4 u9 u10 u11 u12 u13 u28 u29 u30 u31 u32 u33 u34 u35 u36 u37 u38 u39 u40 u41 u42 u43 u44 u45 u46 u47 u48 u49 u50 u51 u52 u53 u54 u55 u56 u57 u58 u59 u60 u61 u62 u63 u64 u65 u66 u67 u68 u69 u70 u71 u72 u73 u74 u75 u76 u77 u78 u79 u80 u81 u82 u83 u84 u85 u86 u87 u88 u89 u90 u91 u92 u93 u94 u95 u96 u97 u98 u99 u100 u101 u102 u103 u104 u105 u106 u107 u108 u109 u110 u111 u112 u113 u114 u115 u116 u117 u118 u119 u120 u121 u122 u123 u124 u125 u126 u127 u128 u129 u130 u131 u132 u133 u134 u135 u136 u137 u138 u139 u140 u141 u142 u143 u144 u145 hnext
  · rw [h8] at ea
    cases bad
    · by_cases hok : (8 : Int) ≤ (n : Int) - (at_ : Int)
      · exact rd3_ok w n cap p m cap2 q2 o2 l g hn63 hm63 hl200 HL HR HB Hcap h1 h2 HG k at_ hkm hk' hat hat' e hw wr hB hcell HRd ea hok Q0 c2 c3 c14 c15 c16 c17 c18 c19 c20 c21 c22 c23 c24 c25 c26 c27 u4 u9 u10 u11 u12 u13 u28 u29 u30 u31 u32 u33 u34 u35 u36 u37 u38 u39 u40 u41 u42 u43 u44 u45 u46 u47 u48 u49 u50 u51 u52 u53 u54 u55 u56 u57 u58 u59 u60 u61 u62 u63 u64 u65 u66 u67 u68 u69 u70 u71 u72 u73 u74 u75 u76 u77 u78 u79 u80 u81 u82 u83 u84 u85 u86 u87 u88 u89 u90 u91 u92 u93 u94 u95 u96 u97 u98 u99 u100 u101 u102 u103 u104 u105 u106 u107 u108 u109 u110 u111 u112 u113 u114 u115 u116 u117 u118 u119 u120 u121 u122 u123 u124 u125 u126 u127 u128 u129 u130 u131 u132 u133 u134 u135 u136 u137 u138 u139 u140 u141 u142 u143 u144 u145 hnext
      · exact rd3_no w n cap p m cap2 q2 o2 l g hn63 hm63 hl200 HL HR HB Hcap h1 h2 HG k at_ hkm hk' hat hat' e hw wr hB hcell HRd ea hok Q0 c2 c3 c14 c15 c16 c17 c18 c19 c20 c21 c22 c23 c24 c25 c26 c27 u4 u9 u10 u11 u12 u13 u28 u29 u30 u31 u32 u33 u34 u35 u36 u37 u38 u39 u40 u41 u42 u43 u44 u45 u46 u47 u48 u49 u50 u51 u52 u53 u54 u55 u56 u57 u58 u59 u60 u61 u62 u63 u64 u65 u66 u67 u68 u69 u70 u71 u72 u73 u74 u75 u76 u77 u78 u79 u80 u81 u82 u83 u84 u85 u86 u87 u88 u89 u90 u91 u92 u93 u94 u95 u96 u97 u98 u99 u100 u101 u102 u103 u104 u105 u106 u107 u108 u109 u110 u111 u112 u113 u114 u115 u116 u117 u118 u119 u120 u121 u122 u123 u124 u125 u126 u127 u128 u129 u130 u131 u132 u133 u134 u135 u136 u137 u138 u139 u140 u141 u142 u143 u144 u145 hnext
    · exact rd3_bad w n cap p m cap2 q2 o2 l g hn63 hm63 hl200 HL HR HB Hcap h1 h2 HG k at_ hkm hk' hat hat' e hw wr hB hcell HRd ea Q0 c2 c3 c14 c15 c16 c17 c18 c19 c20 c21 c22 c23 c24 c25 c26 c27 u4 u9 u10 u11 u12 u13 u28 u29 u30 u31 u32 u33 u34 u35 u36 u37 u38 u39 u40 u41 u42 u43 u44 u45 u46 u47 u48 u49 u50 u51 u52 u53 u54 u55 u56 u57 u58 u59 u60 u61 u62 u63 u64 u65 u66 u67 u68 u69 u70 u71 u72 u73 u74 u75 u76 u77 u78 u79 u80 u81 u82 u83 u84 u85 u86 u87 u88 u89 u90 u91 u92 u93 u94 u95 u96 u97 u98 u99 u100 u101 u102 u103 u104 u105 u106 u107 u108 u109 u110 u111 u112 u113 u114 u115 u116 u117 u118 u119 u120 u121 u122 u123 u124 u125 u126 u127 u128 u129 u130 u131 u132 u133 u134 u135 u136 u137 u138 u139 u140 u141 u142 u143 u144 u145 hnext
  · rw [h8] at ea
    cases bad
    · have HE : -9223372036854775808 ≤ e / 8 ∧ e / 8 ≤ 9223372036854775807 := by omega
      by_cases hok : 0 ≤ e / 8 ∧ e / 8 ≤ (n : Int) - (at_ : Int)
      · by_cases h88 : e / 8 ≤ 8
        · exact rd4_ok8 w n cap p m cap2 q2 o2 l g hn63 hm63 hl200 HL HR HB Hcap h1 h2 HG k at_ hkm hk' hat hat' e hw wr hB hcell HRd ea _ rfl HE HE hok h88 Q0 c2 c3 c14 c15 c16 c17 c18 c19 c20 c21 c22 c23 c24 c25 c26 c27 u4 u9 u10 u11 u12 u13 u28 u29 u30 u31 u32 u33 u34 u35 u36 u37 u38 u39 u40 u41 u42 u43 u44 u45 u46 u47 u48 u49 u50 u51 u52 u53 u54 u55 u56 u57 u58 u59 u60 u61 u62 u63 u64 u65 u66 u67 u68 u69 u70 u71 u72 u73 u74 u75 u76 u77 u78 u79 u80 u81 u82 u83 u84 u85 u86 u87 u88 u89 u90 u91 u92 u93 u94 u95 u96 u97 u98 u99 u100 u101 u102 u103 u104 u105 u106 u107 u108 u109 u110 u111 u112 u113 u114 u115 u116 u117 u118 u119 u120 u121 u122 u123 u124 u125 u126 u127 u128 u129 u130 u131 u132 u133 u134 u135 u136 u137 u138 u139 u140 u141 u142 u143 u144 u145 hnext
        · exact rd4_ok9 w n cap p m cap2 q2 o2 l g hn63 hm63 hl200 HL HR HB Hcap h1 h2 HG k at_ hkm hk' hat hat' e hw wr hB hcell HRd ea _ rfl HE HE hok h88 Q0 c2 c3 c14 c15 c16 c17 c18 c19 c20 c21 c22 c23 c24 c25 c26 c27 u4 u9 u10 u11 u12 u13 u28 u29 u30 u31 u32 u33 u34 u35 u36 u37 u38 u39 u40 u41 u42 u43 u44 u45 u46 u47 u48 u49 u50 u51 u52 u53 u54 u55 u56 u57 u58 u59 u60 u61 u62 u63 u64 u65 u66 u67 u68 u69 u70 u71 u72 u73 u74 u75 u76 u77 u78 u79 u80 u81 u82 u83 u84 u85 u86 u87 u88 u89 u90 u91 u92 u93 u94 u95 u96 u97 u98 u99 u100 u101 u102 u103 u104 u105 u106 u107 u108 u109 u110 u111 u112 u113 u114 u115 u116 u117 u118 u119 u120 u121 u122 u123 u124 u125 u126 u127 u128 u129 u130 u131 u132 u133 u134 u135 u136 u137 u138 u139 u140 u141 u142 u143 u144 u145 hnext
      · by_cases hs0 : 0 ≤ e / 8
        · exact rd4_far w n cap p m cap2 q2 o2 l g hn63 hm63 hl200 HL HR HB Hcap h1 h2 HG k at_ hkm hk' hat hat' e hw wr hB hcell HRd ea _ rfl HE HE hs0 (fun h => hok ⟨hs0, h⟩) Q0 c2 c3 c14 c15 c16 c17 c18 c19 c20 c21 c22 c23 c24 c25 c26 c27 u4 u9 u10 u11 u12 u13 u28 u29 u30 u31 u32 u33 u34 u35 u36 u37 u38 u39 u40 u41 u42 u43 u44 u45 u46 u47 u48 u49 u50 u51 u52 u53 u54 u55 u56 u57 u58 u59 u60 u61 u62 u63 u64 u65 u66 u67 u68 u69 u70 u71 u72 u73 u74 u75 u76 u77 u78 u79 u80 u81 u82 u83 u84 u85 u86 u87 u88 u89 u90 u91 u92 u93 u94 u95 u96 u97 u98 u99 u100 u101 u102 u103 u104 u105 u106 u107 u108 u109 u110 u111 u112 u113 u114 u115 u116 u117 u118 u119 u120 u121 u122 u123 u124 u125 u126 u127 u128 u129 u130 u131 u132 u133 u134 u135 u136 u137 u138 u139 u140 u141 u142 u143 u144 u145 hnext
        · exact rd4_low w n cap p m cap2 q2 o2 l g hn63 hm63 hl200 HL HR HB Hcap h1 h2 HG k at_ hkm hk' hat hat' e hw wr hB hcell HRd ea _ rfl HE HE hs0 Q0 c2 c3 c14 c15 c16 c17 c18 c19 c20 c21 c22 c23 c24 c25 c26 c27 u4 u9 u10 u11 u12 u13 u28 u29 u30 u31 u32 u33 u34 u35 u36 u37 u38 u39 u40 u41 u42 u43 u44 u45 u46 u47 u48 u49 u50 u51 u52 u53 u54 u55 u56 u57 u58 u59 u60 u61 u62 u63 u64 u65 u66 u67 u68 u69 u70 u71 u72 u73 u74 u75 u76 u77 u78 u79 u80 u81 u82 u83 u84 u85 u86 u87 u88 u89 u90 u91 u92 u93 u94 u95 u96 u97 u98 u99 u100 u101 u102 u103 u104 u105 u106 u107 u108 u109 u110 u111 u112 u113 u114 u115 u116 u117 u118 u119 u120 u121 u122 u123 u124 u125 u126 u127 u128 u129 u130 u131 u132 u133 u134 u135 u136 u137 u138 u139 u140 u141 u142 u143 u144 u145 hnext
    · have HE : -9223372036854775808 ≤ e / 8 ∧ e / 8 ≤ 9223372036854775807 := by omega
      exact rd4_bad w n cap p m cap2 q2 o2 l g hn63 hm63 hl200 HL HR HB Hcap h1 h2 HG k at_ hkm hk' hat hat' e hw wr hB hcell HRd ea _ rfl HE HE Q0 c2 c3 c14 c15 c16 c17 c18 c19 c20 c21 c22 c23 c24 c25 c26 c27 u4 u9 u10 u11 u12 u13 u28 u29 u30 u31 u32 u33 u34 u35 u36 u37 u38 u39 u40 u41 u42 u43 u44 u45 u46 u47 u48 u49 u50 u51 u52 u53 u54 u55 u56 u57 u58 u59 u60 u61 u62 u63 u64 u65 u66 u67 u68 u69 u70 u71 u72 u73 u74 u75 u76 u77 u78 u79 u80 u81 u82 u83 u84 u85 u86 u87 u88 u89 u90 u91 u92 u93 u94 u95 u96 u97 u98 u99 u100 u101 u102 u103 u104 u105 u106 u107 u108 u109 u110 u111 u112 u113 u114 u115 u116 u117 u118 u119 u120 u121 u122 u123 u124 u125 u126 u127 u128 u129 u130 u131 u132 u133 u134 u135 u136 u137 u138 u139 u140 u141 u142 u143 u144 u145 hnext
  · rw [h8] at ea
    cases bad
    · by_cases hok : (1 : Int) ≤ (n : Int) - (at_ : Int)
      · exact rd5_ok w n cap p m cap2 q2 o2 l g hn63 hm63 hl200 HL HR HB Hcap h1 h2 HG k at_ hkm hk' hat hat' e hw wr hB hcell HRd ea hok Q0 c2 c3 c14 c15 c16 c17 c18 c19 c20 c21 c22 c23 c24 c25 c26 c27 u4 u9 u10 u11 u12 u13 u28 u29 u30 u31 u32 u33 u34 u35 u36 u37 u38 u39 u40 u41 u42 u43 u44 u45 u46 u47 u48 u49 u50 u51 u52 u53 u54 u55 u56 u57 u58 u59 u60 u61 u62 u63 u64 u65 u66 u67 u68 u69 u70 u71 u72 u73 u74 u75 u76 u77 u78 u79 u80 u81 u82 u83 u84 u85 u86 u87 u88 u89 u90 u91 u92 u93 u94 u95 u96 u97 u98 u99 u100 u101 u102 u103 u104 u105 u106 u107 u108 u109 u110 u111 u112 u113 u114 u115 u116 u117 u118 u119 u120 u121 u122 u123 u124 u125 u126 u127 u128 u129 u130 u131 u132 u133 u134 u135 u136 u137 u138 u139 u140 u141 u142 u143 u144 u145 hnext
      · exact rd5_no w n cap p m cap2 q2 o2 l g hn63 hm63 hl200 HL HR HB Hcap h1 h2 HG k at_ hkm hk' hat hat' e hw wr hB hcell HRd ea hok Q0 c2 c3 c14 c15 c16 c17 c18 c19 c20 c21 c22 c23 c24 c25 c26 c27 u4 u9 u10 u11 u12 u13 u28 u29 u30 u31 u32 u33 u34 u35 u36 u37 u38 u39 u40 u41 u42 u43 u44 u45 u46 u47 u48 u49 u50 u51 u52 u53 u54 u55 u56 u57 u58 u59 u60 u61 u62 u63 u64 u65 u66 u67 u68 u69 u70 u71 u72 u73 u74 u75 u76 u77 u78 u79 u80 u81 u82 u83 u84 u85 u86 u87 u88 u89 u90 u91 u92 u93 u94 u95 u96 u97 u98 u99 u100 u101 u102 u103 u104 u105 u106 u107 u108 u109 u110 u111 u112 u113 u114 u115 u116 u117 u118 u119 u120 u121 u122 u123 u124 u125 u126 u127 u128 u129 u130 u131 u132 u133 u134 u135 u136 u137 u138 u139 u140 u141 u142 u143 u144 u145 hnext
    · exact rd5_bad w n cap p m cap2 q2 o2 l g hn63 hm63 hl200 HL HR HB Hcap h1 h2 HG k at_ hkm hk' hat hat' e hw wr hB hcell HRd ea Q0 c2 c3 c14 c15 c16 c17 c18 c19 c20 c21 c22 c23 c24 c25 c26 c27 u4 u9 u10 u11 u12 u13 u28 u29 u30 u31 u32 u33 u34 u35 u36 u37 u38 u39 u40 u41 u42 u43 u44 u45 u46 u47 u48 u49 u50 u51 u52 u53 u54 u55 u56 u57 u58 u59 u60 u61 u62 u63 u64 u65 u66 u67 u68 u69 u70 u71 u72 u73 u74 u75 u76 u77 u78 u79 u80 u81 u82 u83 u84 u85 u86 u87 u88 u89 u90 u91 u92 u93 u94 u95 u96 u97 u98 u99 u100 u101 u102 u103 u104 u105 u106 u107 u108 u109 u110 u111 u112 u113 u114 u115 u116 u117 u118 u119 u120 u121 u122 u123 u124 u125 u126 u127 u128 u129 u130 u131 u132 u133 u134 u135 u136 u137 u138 u139 u140 u141 u142 u143 u144 u145 hnext
  · rw [h8] at ea
    cases bad
    · by_cases hok : (2 : Int) ≤ (n : Int) - (at_ : Int)
      · exact rd6_ok w n cap p m cap2 q2 o2 l g hn63 hm63 hl200 HL HR HB Hcap h1 h2 HG k at_ hkm hk' hat hat' e hw wr hB hcell HRd ea hok Q0 c2 c3 c14 c15 c16 c17 c18 c19 c20 c21 c22 c23 c24 c25 c26 c27 u4 u9 u10 u11 u12 u13 u28 u29 u30 u31 u32 u33 u34 u35 u36 u37 u38 u39 u40 u41 u42 u43 u44 u45 u46 u47 u48 u49 u50 u51 u52 u53 u54 u55 u56 u57 u58 u59 u60 u61 u62 u63 u64 u65 u66 u67 u68 u69 u70 u71 u72 u73 u74 u75 u76 u77 u78 u79 u80 u81 u82 u83 u84 u85 u86 u87 u88 u89 u90 u91 u92 u93 u94 u95 u96 u97 u98 u99 u100 u101 u102 u103 u104 u105 u106 u107 u108 u109 u110 u111 u112 u113 u114 u115 u116 u117 u118 u119 u120 u121 u122 u123 u124 u125 u126 u127 u128 u129 u130 u131 u132 u133 u134 u135 u136 u137 u138 u139 u140 u141 u142 u143 u144 u145 hnext
      · exact rd6_no w n cap p m cap2 q2 o2 l g hn63 hm63 hl200 HL HR HB Hcap h1 h2 HG k at_ hkm hk' hat hat' e hw wr hB hcell HRd ea hok Q0 c2 c3 c14 c15 c16 c17 c18 c19 c20 c21 c22 c23 c24 c25 c26 c27 u4 u9 u10 u11 u12 u13 u28 u29 u30 u31 u32 u33 u34 u35 u36 u37 u38 u39 u40 u41 u42 u43 u44 u45 u46 u47 u48 u49 u50 u51 u52 u53 u54 u55 u56 u57 u58 u59 u60 u61 u62 u63 u64 u65 u66 u67 u68 u69 u70 u71 u72 u73 u74 u75 u76 u77 u78 u79 u80 u81 u82 u83 u84 u85 u86 u87 u88 u89 u90 u91 u92 u93 u94 u95 u96 u97 u98 u99 u100 u101 u102 u103 u104 u105 u106 u107 u108 u109 u110 u111 u112 u113 u114 u115 u116 u117 u118 u119 u120 u121 u122 u123 u124 u125 u126 u127 u128 u129 u130 u131 u132 u133 u134 u135 u136 u137 u138 u139 u140 u141 u142 u143 u144 u145 hnext
    · exact rd6_bad w n cap p m cap2 q2 o2 l g hn63 hm63 hl200 HL HR HB Hcap h1 h2 HG k at_ hkm hk' hat hat' e hw wr hB hcell HRd ea Q0 c2 c3 c14 c15 c16 c17 c18 c19 c20 c21 c22 c23 c24 c25 c26 c27 u4 u9 u10 u11 u12 u13 u28 u29 u30 u31 u32 u33 u34 u35 u36 u37 u38 u39 u40 u41 u42 u43 u44 u45 u46 u47 u48 u49 u50 u51 u52 u53 u54 u55 u56 u57 u58 u59 u60 u61 u62 u63 u64 u65 u66 u67 u68 u69 u70 u71 u72 u73 u74 u75 u76 u77 u78 u79 u80 u81 u82 u83 u84 u85 u86 u87 u88 u89 u90 u91 u92 u93 u94 u95 u96 u97 u98 u99 u100 u101 u102 u103 u104 u105 u106 u107 u108 u109 u110 u111 u112 u113 u114 u115 u116 u117 u118 u119 u120 u121 u122 u123 u124 u125 u126 u127 u128 u129 u130 u131 u132 u133 u134 u135 u136 u137 u138 u139 u140 u141 u142 u143 u144 u145 hnext
  · rw [h8] at ea
    cases bad
    · by_cases hok : (4 : Int) ≤ (n : Int) - (at_ : Int)
      · exact rd7_ok w n cap p m cap2 q2 o2 l g hn63 hm63 hl200 HL HR HB Hcap h1 h2 HG k at_ hkm hk' hat hat' e hw wr hB hcell HRd ea hok Q0 c2 c3 c14 c15 c16 c17 c18 c19 c20 c21 c22 c23 c24 c25 c26 c27 u4 u9 u10 u11 u12 u13 u28 u29 u30 u31 u32 u33 u34 u35 u36 u37 u38 u39 u40 u41 u42 u43 u44 u45 u46 u47 u48 u49 u50 u51 u52 u53 u54 u55 u56 u57 u58 u59 u60 u61 u62 u63 u64 u65 u66 u67 u68 u69 u70 u71 u72 u73 u74 u75 u76 u77 u78 u79 u80 u81 u82 u83 u84 u85 u86 u87 u88 u89 u90 u91 u92 u93 u94 u95 u96 u97 u98 u99 u100 u101 u102 u103 u104 u105 u106 u107 u108 u109 u110 u111 u112 u113 u114 u115 u116 u117 u118 u119 u120 u121 u122 u123 u124 u125 u126 u127 u128 u129 u130 u131 u132 u133 u134 u135 u136 u137 u138 u139 u140 u141 u142 u143 u144 u145 hnext
      · exact rd7_no w n cap p m cap2 q2 o2 l g hn63 hm63 hl200 HL HR HB Hcap h1 h2 HG k at_ hkm hk' hat hat' e hw wr hB hcell HRd ea hok Q0 c2 c3 c14 c15 c16 c17 c18 c19 c20 c21 c22 c23 c24 c25 c26 c27 u4 u9 u10 u11 u12 u13 u28 u29 u30 u31 u32 u33 u34 u35 u36 u37 u38 u39 u40 u41 u42 u43 u44 u45 u46 u47 u48 u49 u50 u51 u52 u53 u54 u55 u56 u57 u58 u59 u60 u61 u62 u63 u64 u65 u66 u67 u68 u69 u70 u71 u72 u73 u74 u75 u76 u77 u78 u79 u80 u81 u82 u83 u84 u85 u86 u87 u88 u89 u90 u91 u92 u93 u94 u95 u96 u97 u98 u99 u100 u101 u102 u103 u104 u105 u106 u107 u108 u109 u110 u111 u112 u113 u114 u115 u116 u117 u118 u119 u120 u121 u122 u123 u124 u125 u126 u127 u128 u129 u130 u131 u132 u133 u134 u135 u136 u137 u138 u139 u140 u141 u142 u143 u144 u145 hnext
    · exact rd7_bad w n cap p m cap2 q2 o2 l g hn63 hm63 hl200 HL HR HB Hcap h1 h2 HG k at_ hkm hk' hat hat' e hw wr hB hcell HRd ea Q0 c2 c3 c14 c15 c16 c17 c18 c19 c20 c21 c22 c23 c24 c25 c26 c27 u4 u9 u10 u11 u12 u13 u28 u29 u30 u31 u32 u33 u34 u35 u36 u37 u38 u39 u40 u41 u42 u43 u44 u45 u46 u47 u48 u49 u50 u51 u52 u53 u54 u55 u56 u57 u58 u59 u60 u61 u62 u63 u64 u65 u66 u67 u68 u69 u70 u71 u72 u73 u74 u75 u76 u77 u78 u79 u80 u81 u82 u83 u84 u85 u86 u87 u88 u89 u90 u91 u92 u93 u94 u95 u96 u97 u98 u99 u100 u101 u102 u103 u104 u105 u106 u107 u108 u109 u110 u111 u112 u113 u114 u115 u116 u117 u118 u119 u120 u121 u122 u123 u124 u125 u126 u127 u128 u129 u130 u131 u132 u133 u134 u135 u136 u137 u138 u139 u140 u141 u142 u143 u144 u145 hnext
set_option maxHeartbeats 40000000 in
set_option maxRecDepth 20000 in
theorem reads_walk (w : World) (z : Nat → Int) (n cap : Nat) (p : Option Addr) (y : Nat → Int) (m cap2 : Nat) (p2 : Option Addr) (r : RowN .u8 w p n cap z) (r2 : RowN .i64 w p2 m cap2 y) :
    Calls Try.prog 4 #[.slice p n cap, .slice p2 m cap2] w fun e w' => e = .returned (.bool true) ∧ Below w.heap.size w w' := by
  have hn63 : n ≤ 9223372036854775807 := Nat.le_trans r.1.1 r.1.2.1
  have hm63 : m ≤ 9223372036854775807 := Nat.le_trans r2.1.1 r2.1.2.1
  by_cases h200 : 200 < n
  · have h1 : (200 : Int) < (n : Int) := by omega
    clear r r2
    go_enter Try.func4, Try.ntmps4
    go_wp2_with fail
    refine (awake_any w).mono ?_
    rintro e w1 ⟨rfl, B1⟩
    go_wp2
    go_ret
    exact ⟨rfl, B1⟩
  by_cases h100 : 100 < m
  · have h1 : ¬ (200 : Int) < (n : Int) := by omega
    have h2 : (100 : Int) < (m : Int) := by omega
    clear r r2
    go_enter Try.func4, Try.ntmps4
    go_wp2_with fail
    refine (awake_any w).mono ?_
    rintro e w1 ⟨rfl, B1⟩
    go_wp2
    go_ret
    exact ⟨rfl, B1⟩
  have h1 : ¬ (200 : Int) < (n : Int) := by omega
  have h2 : ¬ (100 : Int) < (m : Int) := by omega
  have hncap : n ≤ cap := r.1.1
  have hcapm : cap ≤ 9223372036854775807 := r.1.2.1
  have hrng := r.rng
  have hby := r.bytes
  have hll := lst_len n z
  obtain ⟨l, el⟩ : ∃ l, lst n z = l := ⟨_, rfl⟩
  rw [el] at hrng hby hll
  have HC : Hid (∀ j, j < m → ∃ q o, p2 = some ⟨q, o, none⟩ ∧ (-9223372036854775808 ≤ y j ∧ y j ≤ 9223372036854775807) ∧ ∀ W, Below w.heap.size w W → W.cell? ⟨q, o + j, none⟩ = some (.int .i64 (y j))) := fun j hj => by
    obtain ⟨b, o, e, hb, hx⟩ := r2.1.2.2.2 (by omega)
    exact ⟨b, o, e, wf_i64 (r2.1.2.2.1 j hj), fun W hW => by rw [(bcell hW).1 _ _ hb]; exact hx j hj⟩
  clear el r r2 h200 h100
  have hl200 : l.length ≤ 200 := by omega
  have HL : Hid (l.length = n) := hll
  have HR : Hid (∀ y, y ∈ l → 0 ≤ y ∧ y < 256) := hrng
  have HB : Hid (Bytes w (.slice p n cap) l) := hby
  clear hll hrng hby
  have Hcap : Hid (n ≤ cap ∧ cap ≤ 9223372036854775807) := ⟨hncap, hcapm⟩
  clear hncap hcapm
  haveI : Nonempty World := ⟨w⟩
  go_enter Try.func4, Try.ntmps4
  go_wp2_with fail
  refine (awake_any w).mono ?_
  rintro e w1 ⟨rfl, B1⟩
  go_wp2_with (at_builtin; refine wpList_append8 rfl (.tmp 24) (.tmp 25) rfl w.heap.size _ [] rfl ((own8_new w1).low B1.size) _ l rfl ((HB.out.up B1).up ((Below.refl _ _).alloc (Nat.le_refl _) _)) (by simp; omega) (by have := B1.size; simp; omega) w (B1.alloc B1.size _) ?_; intro v0 w2 H2 B2; rw [List.nil_append] at H2)
  refine (read_any v0 l (by omega) HR.out _ H2.out.bytes).mono ?_
  rintro e w3 ⟨g, rfl, hg, hR, hb⟩
  have H3 : Hid (w.heap.size ≤ g ∧ Rd w3 g (rst l 0 false) false) := ⟨Nat.le_trans B2.size hg, by simpa [rst] using hR⟩
  have B3 := B2.trans (hb.mono B2.size)
  have HG : Hid (w.heap.size ≤ g) := H3.out.1
  clear hg hR hb H2 B2 B1
  go_wp2_with fail
  go_loopg [6, 7, 8] m (fun gg u v i wr => ∃ (k at_ : Nat) (bad : Bool), k ≤ m ∧ gg = m - k ∧ u = .int .i64 (at_ : Int) ∧ v = .bool bad ∧ i = .int .i64 (k : Int) ∧ at_ ≤ n ∧ Hid (Rd wr g (rst l at_ bad) bad) ∧ Below w.heap.size w wr)
  case atStart => exact ⟨0, 0, false, by omega, by omega, rfl, rfl, rfl, by omega, H3.out.2, B3⟩
  case round =>
    obtain ⟨k, at_, bad, hk, hg, rfl, rfl, rfl, hat, HRd, hB⟩ := hrel
    by_cases hkm : k < m
    · have hk' : (k : Int) < (m : Int) := by omega
      have hat' : (at_ : Int) ≤ (n : Int) := by omega
      obtain ⟨q2, o2, rfl, hw, hc0⟩ := HC.out k hkm
      have hcell := hc0 wr hB
      clear hc0
      refine round_all w n cap p m cap2 q2 o2 l g hn63 hm63 hl200 HL HR HB Hcap (by omega) (by omega) HG k at_ hkm hk' hat hat' (y k) hw wr hB hcell bad HRd _ _ _ _ _ _ _ _ _ _ _ _ _ _ _ _ _ _ _ _ _ _ _ _ _ _ _ _ _ _ _ _ _ _ _ _ _ _ _ _ _ _ _ _ _ _ _ _ _ _ _ _ _ _ _ _ _ _ _ _ _ _ _ _ _ _ _ _ _ _ _ _ _ _ _ _ _ _ _ _ _ _ _ _ _ _ _ _ _ _ _ _ _ _ _ _ _ _ _ _ _ _ _ _ _ _ _ _ _ _ _ _ _ _ _ _ _ _ _ _ _ _ _ _ _ _ _ _ _ _ _ _ _ _ _ _ _ _ _ _ _ ?_
      intro at2 bad2 v4 v9 v10 v11 v12 v13 v28 v29 v30 v31 v32 v33 v34 v35 v36 v37 v38 v39 v40 v41 v42 v43 v44 v45 v46 v47 v48 v49 v50 v51 v52 v53 v54 v55 v56 v57 v58 v59 v60 v61 v62 v63 v64 v65 v66 v67 v68 v69 v70 v71 v72 v73 v74 v75 v76 v77 v78 v79 v80 v81 v82 v83 v84 v85 v86 v87 v88 v89 v90 v91 v92 v93 v94 v95 v96 v97 v98 v99 v100 v101 v102 v103 v104 v105 v106 v107 v108 v109 v110 v111 v112 v113 v114 v115 v116 v117 v118 v119 v120 v121 v122 v123 v124 v125 v126 v127 v128 v129 v130 v131 v132 v133 v134 v135 v136 v137 v138 v139 v140 v141 v142 v143 v144 v145 w' ha2 hR2 hB2
      go_wp2
      go_roundg (m - (k + 1))
      case measure => omega
      case rel => exact ⟨k + 1, at2, bad2, by omega, rfl, rfl, rfl, by first | rfl | simp, ha2, hR2, hB2⟩
    · obtain rfl : k = m := by omega
      clear HRd
      go_wp2
      go_ret
      exact ⟨rfl, hB⟩
end Go.Proofs.Yteahjfnjjopncaa.Wd
