/- The loop of ArenaPinned's steps, taken out of the function, and what stands at a step. -/
import Derived.Test.YthficfmakbblkaaRows
import Derived.Test.YthficfmakbblkaaPinL
import Derived.Test.YthficfmakbblkaaArC
import Derived.WalkKit
import Derived.Deep.DeepCutAuto
namespace Go.Proofs.Ythficfmakbblkaa
open Go.Joins Go.ChangeShapes Go.WideShapes Go.ChangeAt Go.RowKit Go.Deep
open Pool (Pl PL MayBe noP noPl Drew Told4 Row upd ints)
set_option linter.unusedVariables false
set_option maxRecDepth 1000000

/-- The first loop of a piece of code. -/
def loopOf : Code → Option Code
  | .loop c => some c
  | .seq x y => (loopOf x).orElse fun _ => loopOf y
  | .cond _ x y => (loopOf x).orElse fun _ => loopOf y
  | .block _ c => loopOf c
  | .scope c => loopOf c
  | _ => none
noncomputable def stepBody : Code := (Try.f6.body.bind loopOf).getD .skip
/-- What stands ahead of step j. -/
structure Std (w u : World) (h g9 g10 TN : Nat) (s : Sh) (X : SL) (pb : List Bool) (R : Nat → Sl) (C : Nat → List (Int × Int)) (lA : Option Addr) (ln lc j : Nat) : Prop where
  r0 : R 0 = ⟨lA, ln, lc⟩
  pn : Pn w u h g9 g10 TN s X pb R C
  inv : Inv X pb ((List.range TN).map fun i => C (i + 1)) (C 0)
  len : X.Z.length = TN
  few : ∀ i, (C i).length ≤ j
def WJ (w : World) (h g9 g10 TN n2 c2 : Nat) (A2 : Option Addr) (j : Nat) (a : Act) (u : World) : Prop :=
  ∃ (s : Sh) (X : SL) (pb : List Bool) (R : Nat → Sl) (C : Nat → List (Int × Int)) (lA : Option Addr) (ln lc : Nat), j ≤ n2 ∧ Std w u h g9 g10 TN s X pb R C lA ln lc j ∧ ∃ U : Nat → Value, a = ⟨#[U 0, .int .i64 (TN : Int), U 2, U 3, U 4, U 5, U 6, .pointer (some ⟨h, 0, none⟩), U 8, .slice (some ⟨g9, 0, none⟩) TN TN, .slice (some ⟨g10, 0, none⟩) TN TN, .slice lA ln lc, U 12, U 13, U 14, U 15, U 16, U 17, U 18, U 19, U 20, U 21, U 22, U 23, U 24, U 25, U 26, U 27, U 28, U 29, U 30, U 31, U 32, U 33, U 34, U 35, U 36, U 37, U 38, U 39, U 40, U 41, U 42, U 43, U 44, U 45, U 46, U 47, U 48, U 49, U 50, U 51, U 52, U 53, U 54, U 55, U 56, U 57, U 58, U 59, U 60, U 61, U 62, U 63, U 64, U 65, U 66, U 67, .slice A2 n2 c2, .int .i64 (n2 : Int), .int .i64 (j : Int), U 71, U 72, U 73, U 74, U 75, U 76, U 77, U 78, U 79, U 80, U 81, U 82, U 83, U 84, U 85, U 86, U 87, U 88, U 89, U 90, U 91, U 92, U 93, U 94, U 95, U 96, U 97, U 98, U 99, U 100, U 101, U 102, U 103, U 104, U 105, U 106, U 107, U 108, U 109, U 110, U 111, U 112, U 113, U 114, U 115, U 116, U 117, U 118, U 119, U 120, U 121, U 122, U 123, U 124, U 125, U 126, U 127, U 128, U 129, U 130, U 131, U 132, U 133, U 134, U 135, U 136, U 137, U 138, U 139, U 140, U 141, U 142, U 143, U 144, U 145, U 146, U 147, U 148, U 149, U 150, U 151, U 152, U 153, U 154, U 155, U 156, U 157, U 158, U 159, U 160, U 161, U 162, U 163, U 164, U 165, U 166, U 167, U 168, U 169, U 170, U 171, U 172, U 173, U 174, U 175, U 176, U 177, U 178, U 179, U 180, U 181, U 182, U 183, U 184, U 185, U 186, U 187, U 188, U 189, U 190, U 191, U 192, U 193, U 194, U 195, U 196, U 197, U 198, U 199, U 200, U 201, U 202, U 203, U 204, U 205, U 206, U 207, U 208, U 209, U 210, U 211, U 212, U 213, U 214, U 215, U 216, U 217, U 218, U 219, U 220, U 221, U 222, U 223, U 224, U 225, U 226, U 227, U 228, U 229, U 230, U 231, U 232, U 233, U 234, U 235, U 236, U 237, U 238, U 239, U 240, U 241, U 242, U 243, U 244, U 245, U 246, U 247], []⟩
theorem fr_mk {v0 v2 v3 v4 v5 v6 v8 v12 v13 v14 v15 v16 v17 v18 v19 v20 v21 v22 v23 v24 v25 v26 v27 v28 v29 v30 v31 v32 v33 v34 v35 v36 v37 v38 v39 v40 v41 v42 v43 v44 v45 v46 v47 v48 v49 v50 v51 v52 v53 v54 v55 v56 v57 v58 v59 v60 v61 v62 v63 v64 v65 v66 v67 v71 v72 v73 v74 v75 v76 v77 v78 v79 v80 v81 v82 v83 v84 v85 v86 v87 v88 v89 v90 v91 v92 v93 v94 v95 v96 v97 v98 v99 v100 v101 v102 v103 v104 v105 v106 v107 v108 v109 v110 v111 v112 v113 v114 v115 v116 v117 v118 v119 v120 v121 v122 v123 v124 v125 v126 v127 v128 v129 v130 v131 v132 v133 v134 v135 v136 v137 v138 v139 v140 v141 v142 v143 v144 v145 v146 v147 v148 v149 v150 v151 v152 v153 v154 v155 v156 v157 v158 v159 v160 v161 v162 v163 v164 v165 v166 v167 v168 v169 v170 v171 v172 v173 v174 v175 v176 v177 v178 v179 v180 v181 v182 v183 v184 v185 v186 v187 v188 v189 v190 v191 v192 v193 v194 v195 v196 v197 v198 v199 v200 v201 v202 v203 v204 v205 v206 v207 v208 v209 v210 v211 v212 v213 v214 v215 v216 v217 v218 v219 v220 v221 v222 v223 v224 v225 v226 v227 v228 v229 v230 v231 v232 v233 v234 v235 v236 v237 v238 v239 v240 v241 v242 v243 v244 v245 v246 v247 : Value} {h g9 g10 TN n2 c2 j ln lc : Nat} {A2 lA : Option Addr} : ∃ U : Nat → Value, (⟨#[v0, .int .i64 (TN : Int), v2, v3, v4, v5, v6, .pointer (some ⟨h, 0, none⟩), v8, .slice (some ⟨g9, 0, none⟩) TN TN, .slice (some ⟨g10, 0, none⟩) TN TN, .slice lA ln lc, v12, v13, v14, v15, v16, v17, v18, v19, v20, v21, v22, v23, v24, v25, v26, v27, v28, v29, v30, v31, v32, v33, v34, v35, v36, v37, v38, v39, v40, v41, v42, v43, v44, v45, v46, v47, v48, v49, v50, v51, v52, v53, v54, v55, v56, v57, v58, v59, v60, v61, v62, v63, v64, v65, v66, v67, .slice A2 n2 c2, .int .i64 (n2 : Int), .int .i64 (j : Int), v71, v72, v73, v74, v75, v76, v77, v78, v79, v80, v81, v82, v83, v84, v85, v86, v87, v88, v89, v90, v91, v92, v93, v94, v95, v96, v97, v98, v99, v100, v101, v102, v103, v104, v105, v106, v107, v108, v109, v110, v111, v112, v113, v114, v115, v116, v117, v118, v119, v120, v121, v122, v123, v124, v125, v126, v127, v128, v129, v130, v131, v132, v133, v134, v135, v136, v137, v138, v139, v140, v141, v142, v143, v144, v145, v146, v147, v148, v149, v150, v151, v152, v153, v154, v155, v156, v157, v158, v159, v160, v161, v162, v163, v164, v165, v166, v167, v168, v169, v170, v171, v172, v173, v174, v175, v176, v177, v178, v179, v180, v181, v182, v183, v184, v185, v186, v187, v188, v189, v190, v191, v192, v193, v194, v195, v196, v197, v198, v199, v200, v201, v202, v203, v204, v205, v206, v207, v208, v209, v210, v211, v212, v213, v214, v215, v216, v217, v218, v219, v220, v221, v222, v223, v224, v225, v226, v227, v228, v229, v230, v231, v232, v233, v234, v235, v236, v237, v238, v239, v240, v241, v242, v243, v244, v245, v246, v247], []⟩ : Act) = ⟨#[U 0, .int .i64 (TN : Int), U 2, U 3, U 4, U 5, U 6, .pointer (some ⟨h, 0, none⟩), U 8, .slice (some ⟨g9, 0, none⟩) TN TN, .slice (some ⟨g10, 0, none⟩) TN TN, .slice lA ln lc, U 12, U 13, U 14, U 15, U 16, U 17, U 18, U 19, U 20, U 21, U 22, U 23, U 24, U 25, U 26, U 27, U 28, U 29, U 30, U 31, U 32, U 33, U 34, U 35, U 36, U 37, U 38, U 39, U 40, U 41, U 42, U 43, U 44, U 45, U 46, U 47, U 48, U 49, U 50, U 51, U 52, U 53, U 54, U 55, U 56, U 57, U 58, U 59, U 60, U 61, U 62, U 63, U 64, U 65, U 66, U 67, .slice A2 n2 c2, .int .i64 (n2 : Int), .int .i64 (j : Int), U 71, U 72, U 73, U 74, U 75, U 76, U 77, U 78, U 79, U 80, U 81, U 82, U 83, U 84, U 85, U 86, U 87, U 88, U 89, U 90, U 91, U 92, U 93, U 94, U 95, U 96, U 97, U 98, U 99, U 100, U 101, U 102, U 103, U 104, U 105, U 106, U 107, U 108, U 109, U 110, U 111, U 112, U 113, U 114, U 115, U 116, U 117, U 118, U 119, U 120, U 121, U 122, U 123, U 124, U 125, U 126, U 127, U 128, U 129, U 130, U 131, U 132, U 133, U 134, U 135, U 136, U 137, U 138, U 139, U 140, U 141, U 142, U 143, U 144, U 145, U 146, U 147, U 148, U 149, U 150, U 151, U 152, U 153, U 154, U 155, U 156, U 157, U 158, U 159, U 160, U 161, U 162, U 163, U 164, U 165, U 166, U 167, U 168, U 169, U 170, U 171, U 172, U 173, U 174, U 175, U 176, U 177, U 178, U 179, U 180, U 181, U 182, U 183, U 184, U 185, U 186, U 187, U 188, U 189, U 190, U 191, U 192, U 193, U 194, U 195, U 196, U 197, U 198, U 199, U 200, U 201, U 202, U 203, U 204, U 205, U 206, U 207, U 208, U 209, U 210, U 211, U 212, U 213, U 214, U 215, U 216, U 217, U 218, U 219, U 220, U 221, U 222, U 223, U 224, U 225, U 226, U 227, U 228, U 229, U 230, U 231, U 232, U 233, U 234, U 235, U 236, U 237, U 238, U 239, U 240, U 241, U 242, U 243, U 244, U 245, U 246, U 247], []⟩ :=
  ⟨fun k => ([v0, undef, v2, v3, v4, v5, v6, undef, v8, undef, undef, undef, v12, v13, v14, v15, v16, v17, v18, v19, v20, v21, v22, v23, v24, v25, v26, v27, v28, v29, v30, v31, v32, v33, v34, v35, v36, v37, v38, v39, v40, v41, v42, v43, v44, v45, v46, v47, v48, v49, v50, v51, v52, v53, v54, v55, v56, v57, v58, v59, v60, v61, v62, v63, v64, v65, v66, v67, undef, undef, undef, v71, v72, v73, v74, v75, v76, v77, v78, v79, v80, v81, v82, v83, v84, v85, v86, v87, v88, v89, v90, v91, v92, v93, v94, v95, v96, v97, v98, v99, v100, v101, v102, v103, v104, v105, v106, v107, v108, v109, v110, v111, v112, v113, v114, v115, v116, v117, v118, v119, v120, v121, v122, v123, v124, v125, v126, v127, v128, v129, v130, v131, v132, v133, v134, v135, v136, v137, v138, v139, v140, v141, v142, v143, v144, v145, v146, v147, v148, v149, v150, v151, v152, v153, v154, v155, v156, v157, v158, v159, v160, v161, v162, v163, v164, v165, v166, v167, v168, v169, v170, v171, v172, v173, v174, v175, v176, v177, v178, v179, v180, v181, v182, v183, v184, v185, v186, v187, v188, v189, v190, v191, v192, v193, v194, v195, v196, v197, v198, v199, v200, v201, v202, v203, v204, v205, v206, v207, v208, v209, v210, v211, v212, v213, v214, v215, v216, v217, v218, v219, v220, v221, v222, v223, v224, v225, v226, v227, v228, v229, v230, v231, v232, v233, v234, v235, v236, v237, v238, v239, v240, v241, v242, v243, v244, v245, v246, v247] : List Value).getD k undef, by kernel_rfl⟩
section
variable {w u wr : World} {h g9 g10 TN : Nat} {s s' : Sh} {X X' : SL} {pb pb' : List Bool} {R R' : Nat → Sl} {C C' : Nat → List (Int × Int)} {lA : Option Addr} {ln lc j : Nat}
theorem std_mk {seen' : List (List (Int × Int))} {live' : List (Int × Int)} (S : Std w wr h g9 g10 TN s X pb R C lA ln lc j) (P : Pn w u h g9 g10 TN s' X' pb' R' C') (hR : R' 0 = R 0) (I : Inv X' pb' seen' live') (hs : seen' = (List.range TN).map fun i => C' (i + 1)) (hl : live' = C' 0) (hp : pb'.length = pb.length) (hc : ∀ i, (C' i).length ≤ j + 1) :
    Std w u h g9 g10 TN s' X' pb' R' C' lA ln lc (j + 1) := by
  subst hs hl
  exact ⟨hR.trans S.r0, P, I, I.lp.symm.trans (hp.trans (S.inv.lp.trans S.len)), hc⟩
theorem upd_zero {α : Type} (f : Nat → α) (t : Nat) (x : α) : upd f (t + 1) x 0 = f 0 := Pool.upd_other f x (by omega)
theorem seen_upd (C : Nat → List (Int × Int)) (TN t : Nat) (L : List (Int × Int)) : ((List.range TN).map fun i => C (i + 1)).set t L = (List.range TN).map fun i => upd C (t + 1) L (i + 1) := by
  apply List.ext_getElem?
  intro i
  rw [List.getElem?_set]
  by_cases hi : i < TN
  · by_cases e : t = i
    · subst e; simp [hi, upd]
    · have e' : ¬ i = t := fun x => e x.symm
      simp [hi, upd, e, e']
  · by_cases e : t = i
    · subst e; simp [hi]
    · simp [hi, e]
theorem few_upd (h : ∀ i, (C i).length ≤ j) (t : Nat) : ∀ i, (upd C (t + 1) [] i).length ≤ j + 1 := fun i => by
  unfold upd
  have := h i
  split
  · simp
  · omega
theorem Pn.pin_cell {t : Nat} (P : Pn w u h g9 g10 TN s X pb R C) (ht : t < pb.length) : ∃ v, u.cell? ⟨g10, t, none⟩ = some v := ⟨_, (cell_of_row u g10 t _ 4 (0, 0) P.pk).trans (by unfold bools; simp [ht]; rfl)⟩
theorem std_two {seen' : List (List (Int × Int))} {live' : List (Int × Int)} {lA' : Option Addr} {ln' lc' : Nat} (S : Std w wr h g9 g10 TN s X pb R C lA ln lc j) (P : Pn w u h g9 g10 TN s' X' pb' R' C') (hR : R' 0 = ⟨lA', ln', lc'⟩) (I : Inv X' pb' seen' live') (hs : seen' = (List.range TN).map fun i => C' (i + 1)) (hl : live' = C' 0) (hp : pb'.length = pb.length) (hc : ∀ i, (C' i).length ≤ j + 1) :
    Std w u h g9 g10 TN s' X' pb' R' C' lA' ln' lc' (j + 1) := by
  subst hs hl
  exact ⟨hR, P, I, I.lp.symm.trans (hp.trans (S.inv.lp.trans S.len)), hc⟩
theorem Pn.head_at {t : Nat} (P : Pn w u h g9 g10 TN s X pb R C) (ht : t < TN) : u.cell? ⟨g9, t, none⟩ = some (.slice (R (t + 1)).A (R (t + 1)).n (R (t + 1)).c) := (cell_of_row u g9 t _ 52 (0, 0) P.sb).trans (by unfold heads; simp [ht, Sl.val])
theorem Pn.pin_at {t : Nat} (P : Pn w u h g9 g10 TN s X pb R C) (ht : t < pb.length) : u.cell? ⟨g10, t, none⟩ = some (.bool (pb.getD t false)) := (cell_of_row u g10 t _ 4 (0, 0) P.pk).trans (by unfold bools; simp [ht, List.getD_eq_getElem?_getD])
theorem Pn.many {i : Nat} (P : Pn w u h g9 g10 TN s X pb R C) (hi : i < TN + 1) : (R i).n = (C i).length := by
  have h := (P.ls.own i hi).1
  unfold ints at h
  rw [List.length_map, flat_len] at h
  omega
theorem Pn.pair {i z : Nat} (P : Pn w u h g9 g10 TN s X pb R C) (hi : i < TN + 1) (hz : z < (R i).n) : ∃ (b : Nat) (p : Int × Int), (R i).A = some ⟨b, 0, none⟩ ∧ (C i)[z]? = some p ∧ b < u.heap.size ∧ u.cell? ⟨b, z * 2, none⟩ = some (.int .i64 p.1) ∧ u.cell? ⟨b, z * 2 + 1, none⟩ = some (.int .i64 p.2) := by
  have hm := P.many hi
  obtain ⟨hl, hc⟩ := P.ls.own i hi
  rcases hc with ⟨h1, h2⟩ | ⟨g, cap, cur, hv, hB, hg, hn, _, hs, ht⟩
  · omega
  · have hp : (C i)[z]? = some ((C i)[z]'(by omega)) := List.getElem?_eq_getElem _
    obtain ⟨e1, e2⟩ := flat_at (C i) z hp
    have hA : (R i).A = some ⟨g, 0, none⟩ := by unfold Sl.val at hv; injection hv
    have hat : ∀ (k : Nat) (x : Int), k < (R i).n * 2 → (flat (C i))[k]? = some x → cur[k]? = some (.int .i64 x) := fun k x hk hx => by
      have h := congrArg (fun l : List Value => l[k]?) ht
      simp only [List.getElem?_take, hk, if_true, Array.getElem?_toList] at h
      rw [h]
      unfold ints
      rw [List.getElem?_map, hx]
      rfl
    refine ⟨g, _, hA, hp, (Array.getElem?_eq_some_iff.1 hg).1, ?_, ?_⟩
    · rw [cell_of_row u g _ cur 54 (0, 0) hg]; exact hat _ _ (by omega) e1
    · rw [cell_of_row u g _ cur 54 (0, 0) hg]; exact hat _ _ (by omega) e2
theorem Pn.took {g' cap : Nat} {x y : Int} (P : Pn w u h g9 g10 TN s X pb R C) {u' : World} (hR : R 0 = ⟨lA, ln, lc⟩) (hown : u'.ownsRow w.heap.size 54 2 (.slice (some ⟨g', 0, none⟩) (ln + 1) cap) (ln + 1) (ints (flat (C 0)) ++ [.int .i64 x, .int .i64 y]))
    (hg : u.grownBy u' (Value.slice lA ln lc).ownBlock) (hl : (Value.slice lA ln lc).ownBlock = some g' ∨ g' = u.heap.size) : Pn w u' h g9 g10 TN s X pb (upd R 0 ⟨some ⟨g', 0, none⟩, ln + 1, cap⟩) (upd C 0 (C 0 ++ [(x, y)])) := by
  have e : ints (flat (C 0)) ++ [.int .i64 x, .int .i64 y] = ints (flat (C 0 ++ [(x, y)])) := by
    rw [flat_append]; unfold ints; rw [List.map_append]; rfl
  have hv : (R 0).val = Value.slice lA ln lc := by rw [hR]; rfl
  exact P.grow (by rw [← e]; exact hown) (by rw [hv]; exact hg) (by rw [hv]; exact hl)
theorem seen_zero (C : Nat → List (Int × Int)) (TN : Nat) (L : List (Int × Int)) : ((List.range TN).map fun i => C (i + 1)) = (List.range TN).map fun i => upd C 0 L (i + 1) := by simp [upd]
theorem seen_get (C : Nat → List (Int × Int)) {TN k : Nat} (hk : k < TN) : ((List.range TN).map fun i => C (i + 1)).getD k [] = C (k + 1) := by simp [List.getD_eq_getElem?_getD, hk]
theorem few_took (h : ∀ i, (C i).length ≤ j) (p : Int × Int) : ∀ i, (upd C 0 (C 0 ++ [p]) i).length ≤ j + 1 := fun i => by
  unfold upd
  have := h i
  have := h 0
  split
  · simp; omega
  · omega
theorem Pn.own0 (P : Pn w u h g9 g10 TN s X pb R C) (hR : R 0 = ⟨lA, ln, lc⟩) : u.ownsRow w.heap.size 54 2 (.slice lA ln lc) ln (ints (flat (C 0))) := by
  have h := P.ls.own 0 (by omega)
  rw [hR] at h
  exact h
theorem Pn.cap0 (P : Pn w u h g9 g10 TN s X pb R C) (hR : R 0 = ⟨lA, ln, lc⟩) : ln ≤ lc := by
  rcases (P.own0 hR).2 with ⟨h1, h2⟩ | ⟨g, cap, cur, h1, _, _, h3, _⟩
  · omega
  · injection h1 with _ _ e
    omega
/-- Some of what is live, to be copied. -/
theorem Pn.news0 {b : Nat} (P : Pn w u h g9 g10 TN s X pb R C) (hR : R 0 = ⟨some ⟨b, 0, none⟩, ln, lc⟩) (f m : Nat) (hfm : f + m ≤ ln) :
    (ints (flat (((C 0).drop f).take m))).length = m * 2 ∧ (∀ j v, (ints (flat (((C 0).drop f).take m)))[j]? = some v → u.drew.cell? ((⟨b, f * 2, none⟩ : Addr).add j) = some v) ∧ ∀ v ∈ ints (flat (((C 0).drop f).take m)), v.oneCell' = true := by
  have hm : ln = (C 0).length := by have h := P.many (i := 0) (by omega); rw [hR] at h; exact h
  refine ⟨by unfold ints; rw [List.length_map, flat_len]; simp; omega, fun j v hj => ?_, ints_oneCell .i64 _⟩
  rcases (P.own0 hR).2 with ⟨h1, _⟩ | ⟨g, cap, cur, h1, _, hg, _, _, _, ht⟩
  · cases h1
  · injection h1 with e1 _ _
    have eg : b = g := by injection e1 with e; injection e
    subst eg
    have hjl : j < m * 2 := by
      have h := (List.getElem?_eq_some_iff.1 hj).1
      unfold ints at h
      rw [List.length_map, flat_len] at h
      simp at h
      omega
    have hcur : cur[f * 2 + j]? = some v := by
      have h := congrArg (fun l : List Value => l[f * 2 + j]?) ht
      simp only [List.getElem?_take, show f * 2 + j < ln * 2 by omega, if_true, Array.getElem?_toList] at h
      rw [h, ← hj]
      unfold ints
      rw [List.getElem?_map, List.getElem?_map, flat_take, flat_drop, List.getElem?_take, if_pos hjl, List.getElem?_drop]
    rw [Addr.add_lit]
    exact (cell_of_row u b (f * 2 + j) cur 54 (0, 0) hg).trans hcur
theorem eq54 (a b c d : Int) (w : World) : (Op.equalIn 10000 54 (.agg #[.int .i64 a, .int .i64 b]) (.agg #[.int .i64 c, .int .i64 d])).run Try.prog w = .ok (a == c && b == d) w := by
  have u3 := Try.underlying3
  have a3 := Try.isAgg3
  have z3 := Try.sizeOf3
  rw [show (10000 : Nat) = 9999 + 1 from rfl, Op.equalIn]
  simp only [Sem.run_bind, run_underlying Try.underlying54, Result.andThen_ok]
  simp only [Std.Legacy.Range.forIn_eq_forIn_range', Std.Legacy.Range.size, Nat.sub_zero, Nat.add_sub_cancel, Nat.div_one, List.range'_succ, List.range'_zero, List.forIn_cons, List.forIn_nil]
  go_simp
  by_cases h1 : a = c <;> by_cases h2 : b = d <;> simp [h1, h2]
theorem info54 : (Try.prog.info? 54).map (fun i => (i.zero, i.size, i.bytes)) = some (some (.agg #[.int .i64 0, .int .i64 0]), 2, 16) := by kernel_rfl
theorem Pn.head_cell {t : Nat} (P : Pn w u h g9 g10 TN s X pb R C) (ht : t < TN) : ∃ v, u.cell? ⟨g9, t, none⟩ = some v := ⟨(R (t + 1)).val, (cell_of_row u g9 t _ 52 (0, 0) P.sb).trans (by unfold heads; simp [ht])⟩
end
theorem fr_mk6 {v0 v2 v3 v4 v5 v8 v12 v13 v14 v15 v16 v17 v18 v19 v20 v21 v22 v23 v24 v25 v26 v27 v28 v29 v30 v31 v32 v33 v34 v35 v36 v37 v38 v39 v40 v41 v42 v43 v44 v45 v46 v47 v48 v49 v50 v51 v52 v53 v54 v55 v56 v57 v58 v59 v60 v61 v62 v63 v64 v65 v66 v67 v71 v72 v73 v74 v75 v76 v77 v78 v79 v80 v81 v82 v83 v84 v85 v86 v87 v88 v89 v90 v91 v92 v93 v94 v95 v96 v97 v98 v99 v100 v101 v102 v103 v104 v105 v106 v107 v108 v109 v110 v111 v112 v113 v114 v115 v116 v117 v118 v119 v120 v121 v122 v123 v124 v125 v126 v127 v128 v129 v130 v131 v132 v133 v134 v135 v136 v137 v138 v139 v140 v141 v142 v143 v144 v145 v146 v147 v148 v149 v150 v151 v152 v153 v154 v155 v156 v157 v158 v159 v160 v161 v162 v163 v164 v165 v166 v167 v168 v169 v170 v171 v172 v173 v174 v175 v176 v177 v178 v179 v180 v181 v182 v183 v184 v185 v186 v187 v188 v189 v190 v191 v192 v193 v194 v195 v196 v197 v198 v199 v200 v201 v202 v203 v204 v205 v206 v207 v208 v209 v210 v211 v212 v213 v214 v215 v216 v217 v218 v219 v220 v221 v222 v223 v224 v225 v226 v227 v228 v229 v230 v231 v232 v233 v234 v235 v236 v237 v238 v239 v240 v241 v242 v243 v244 v245 v246 v247 : Value} {h g9 g10 TN n2 c2 j ln lc : Nat} {A2 lA : Option Addr} : ∃ U : Nat → Value, (⟨#[v0, .int .i64 (TN : Int), v2, v3, v4, v5, .bool true, .pointer (some ⟨h, 0, none⟩), v8, .slice (some ⟨g9, 0, none⟩) TN TN, .slice (some ⟨g10, 0, none⟩) TN TN, .slice lA ln lc, v12, v13, v14, v15, v16, v17, v18, v19, v20, v21, v22, v23, v24, v25, v26, v27, v28, v29, v30, v31, v32, v33, v34, v35, v36, v37, v38, v39, v40, v41, v42, v43, v44, v45, v46, v47, v48, v49, v50, v51, v52, v53, v54, v55, v56, v57, v58, v59, v60, v61, v62, v63, v64, v65, v66, v67, .slice A2 n2 c2, .int .i64 (n2 : Int), .int .i64 (j : Int), v71, v72, v73, v74, v75, v76, v77, v78, v79, v80, v81, v82, v83, v84, v85, v86, v87, v88, v89, v90, v91, v92, v93, v94, v95, v96, v97, v98, v99, v100, v101, v102, v103, v104, v105, v106, v107, v108, v109, v110, v111, v112, v113, v114, v115, v116, v117, v118, v119, v120, v121, v122, v123, v124, v125, v126, v127, v128, v129, v130, v131, v132, v133, v134, v135, v136, v137, v138, v139, v140, v141, v142, v143, v144, v145, v146, v147, v148, v149, v150, v151, v152, v153, v154, v155, v156, v157, v158, v159, v160, v161, v162, v163, v164, v165, v166, v167, v168, v169, v170, v171, v172, v173, v174, v175, v176, v177, v178, v179, v180, v181, v182, v183, v184, v185, v186, v187, v188, v189, v190, v191, v192, v193, v194, v195, v196, v197, v198, v199, v200, v201, v202, v203, v204, v205, v206, v207, v208, v209, v210, v211, v212, v213, v214, v215, v216, v217, v218, v219, v220, v221, v222, v223, v224, v225, v226, v227, v228, v229, v230, v231, v232, v233, v234, v235, v236, v237, v238, v239, v240, v241, v242, v243, v244, v245, v246, v247], []⟩ : Act) = ⟨#[U 0, .int .i64 (TN : Int), U 2, U 3, U 4, U 5, .bool true, .pointer (some ⟨h, 0, none⟩), U 8, .slice (some ⟨g9, 0, none⟩) TN TN, .slice (some ⟨g10, 0, none⟩) TN TN, .slice lA ln lc, U 12, U 13, U 14, U 15, U 16, U 17, U 18, U 19, U 20, U 21, U 22, U 23, U 24, U 25, U 26, U 27, U 28, U 29, U 30, U 31, U 32, U 33, U 34, U 35, U 36, U 37, U 38, U 39, U 40, U 41, U 42, U 43, U 44, U 45, U 46, U 47, U 48, U 49, U 50, U 51, U 52, U 53, U 54, U 55, U 56, U 57, U 58, U 59, U 60, U 61, U 62, U 63, U 64, U 65, U 66, U 67, .slice A2 n2 c2, .int .i64 (n2 : Int), .int .i64 (j : Int), U 71, U 72, U 73, U 74, U 75, U 76, U 77, U 78, U 79, U 80, U 81, U 82, U 83, U 84, U 85, U 86, U 87, U 88, U 89, U 90, U 91, U 92, U 93, U 94, U 95, U 96, U 97, U 98, U 99, U 100, U 101, U 102, U 103, U 104, U 105, U 106, U 107, U 108, U 109, U 110, U 111, U 112, U 113, U 114, U 115, U 116, U 117, U 118, U 119, U 120, U 121, U 122, U 123, U 124, U 125, U 126, U 127, U 128, U 129, U 130, U 131, U 132, U 133, U 134, U 135, U 136, U 137, U 138, U 139, U 140, U 141, U 142, U 143, U 144, U 145, U 146, U 147, U 148, U 149, U 150, U 151, U 152, U 153, U 154, U 155, U 156, U 157, U 158, U 159, U 160, U 161, U 162, U 163, U 164, U 165, U 166, U 167, U 168, U 169, U 170, U 171, U 172, U 173, U 174, U 175, U 176, U 177, U 178, U 179, U 180, U 181, U 182, U 183, U 184, U 185, U 186, U 187, U 188, U 189, U 190, U 191, U 192, U 193, U 194, U 195, U 196, U 197, U 198, U 199, U 200, U 201, U 202, U 203, U 204, U 205, U 206, U 207, U 208, U 209, U 210, U 211, U 212, U 213, U 214, U 215, U 216, U 217, U 218, U 219, U 220, U 221, U 222, U 223, U 224, U 225, U 226, U 227, U 228, U 229, U 230, U 231, U 232, U 233, U 234, U 235, U 236, U 237, U 238, U 239, U 240, U 241, U 242, U 243, U 244, U 245, U 246, U 247], []⟩ :=
  ⟨fun k => ([v0, undef, v2, v3, v4, v5, undef, undef, v8, undef, undef, undef, v12, v13, v14, v15, v16, v17, v18, v19, v20, v21, v22, v23, v24, v25, v26, v27, v28, v29, v30, v31, v32, v33, v34, v35, v36, v37, v38, v39, v40, v41, v42, v43, v44, v45, v46, v47, v48, v49, v50, v51, v52, v53, v54, v55, v56, v57, v58, v59, v60, v61, v62, v63, v64, v65, v66, v67, undef, undef, undef, v71, v72, v73, v74, v75, v76, v77, v78, v79, v80, v81, v82, v83, v84, v85, v86, v87, v88, v89, v90, v91, v92, v93, v94, v95, v96, v97, v98, v99, v100, v101, v102, v103, v104, v105, v106, v107, v108, v109, v110, v111, v112, v113, v114, v115, v116, v117, v118, v119, v120, v121, v122, v123, v124, v125, v126, v127, v128, v129, v130, v131, v132, v133, v134, v135, v136, v137, v138, v139, v140, v141, v142, v143, v144, v145, v146, v147, v148, v149, v150, v151, v152, v153, v154, v155, v156, v157, v158, v159, v160, v161, v162, v163, v164, v165, v166, v167, v168, v169, v170, v171, v172, v173, v174, v175, v176, v177, v178, v179, v180, v181, v182, v183, v184, v185, v186, v187, v188, v189, v190, v191, v192, v193, v194, v195, v196, v197, v198, v199, v200, v201, v202, v203, v204, v205, v206, v207, v208, v209, v210, v211, v212, v213, v214, v215, v216, v217, v218, v219, v220, v221, v222, v223, v224, v225, v226, v227, v228, v229, v230, v231, v232, v233, v234, v235, v236, v237, v238, v239, v240, v241, v242, v243, v244, v245, v246, v247] : List Value).getD k undef, by kernel_rfl⟩
/-- The numbers of a step, and where it is read. -/
structure Nm (u : World) (b0 o0 n2 j NV TN q t c m : Nat) : Prop where
  lt : j < n2
  le : n2 ≤ 120
  cell : u.cell? ⟨b0, o0 + j, none⟩ = some (.int .i64 (NV : Int))
  blk : b0 < u.heap.size
  eq : wrap64 ((NV : Int) / 6) = (q : Int)
  et : (q : Int).tmod (TN : Int) = (t : Int)
  ec : (q : Int).tmod 3 = (c : Int)
  em : (NV : Int).tmod 6 = (m : Int)
  em2 : (NV : Int) % 6 = (m : Int)
  tl : t < TN
  cl : c < 3
  ml : m < 6
  w : wrap64 ((c : Int) + 1) = (c : Int) + 1
  tn : 1 ≤ TN
  t6 : TN ≤ 6
  nv : (NV : Int) ≤ 9223372036854775807
  ql : q ≤ 9223372036854775807

end Go.Proofs.Ythficfmakbblkaa
