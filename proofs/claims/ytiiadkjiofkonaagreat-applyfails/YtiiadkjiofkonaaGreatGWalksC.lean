/- Whether two graphs are the same: the document's answer. -/
import Derived.Test.YtiiadkjiofkonaaGreatGWalksB
import Derived.WalkKit
import Derived.Below
import Derived.Deep.QuietTactic
import Derived.BigQuiet
import Derived.Deep.RegionHeld3
namespace Go.Proofs.YtiiadkjiofkonaaGreat
open Go.RowKit
set_option linter.unusedVariables false

theorem eq80 (a b c d e f : Int) (w : World) : (Op.equalIn 10000 79 (.agg #[.int .i64 a, .int .i64 b, .int .i64 c]) (.agg #[.int .i64 d, .int .i64 e, .int .i64 f])).run Tryz.prog w = .ok (a == d && b == e && c == f) w := by
  have u3 := Tryz.underlying3
  have a3 := Tryz.isAgg3
  have z3 := Tryz.sizeOf3
  rw [show (10000 : Nat) = 9999 + 1 from rfl, Op.equalIn]
  simp only [Sem.run_bind, run_underlying Tryz.underlying79, Result.andThen_ok]
  go_simp
  by_cases h1 : a = d <;> by_cases h2 : b = e <;> by_cases h3 : c = f <;> simp [h1, h2, h3]

/-- Two boxes of graphs. -/
structure Two (u : World) (g : Nat) (v v' : Gv) : Prop where
  one : u.heap[g]? = some (.cells v.cs 27 (0, 0))
  two : u.heap[g + 1]? = some (.cells v'.cs 27 (0, 0))
theorem Two.new (w : World) (v v' : Gv) : Two ((w.alloc (.cells v.cs 27)).alloc (.cells v'.cs 27)) w.heap.size v v' := ⟨heap_alloc2_old w _ _, heap_alloc2_new w _ _⟩
theorem Two.step {u u' : World} {g : Nat} {v v' : Gv} (t : Two u g v v') (b : Below u.heap.size u u') : Two u' g v v' := ⟨(b.block _ (Array.getElem?_eq_some_iff.1 t.one).1).trans t.one, (b.block _ (Array.getElem?_eq_some_iff.1 t.two).1).trans t.two⟩
theorem Two.c1 {u : World} {g : Nat} {v v' : Gv} (t : Two u g v v') (i : Nat) : u.cell? ⟨g, i, none⟩ = v.cs[i]? := cell_of_row u g i _ 27 (0, 0) t.one
theorem Two.c2 {u : World} {g : Nat} {v v' : Gv} (t : Two u g v v') (i : Nat) : u.cell? ⟨g + 1, i, none⟩ = v'.cs[i]? := cell_of_row u (g + 1) i _ 27 (0, 0) t.two
theorem boxed2 (w : World) (o o' : Obj) : Below w.heap.size w ((w.alloc o).alloc o') := ((Below.refl _ _).alloc (Nat.le_refl _) _).alloc (by simp) _

theorem nodes_ext {N N' : List Nd} (hl : N.length = N'.length) (h : ∀ i, i < N.length → N.getD i (0, []) = N'.getD i (0, [])) : N = N' :=
  List.ext_getElem hl fun i h1 h2 => by have := h i h1; simpa [h1, h2] using this
theorem edges_ext {N N' : List Ed} (hl : N.length = N'.length) (h : ∀ i, i < N.length → N.getD i (0, 0, 0) = N'.getD i (0, 0, 0)) : N = N' :=
  List.ext_getElem hl fun i h1 h2 => by have := h i h1; simpa [h1, h2] using this
theorem gl_ext {G G' : GL} (h1 : G.N = G'.N) (h2 : G.E = G'.E) (h3 : G.x = G'.x) (h4 : G.y = G'.y) : G = G' := by
  cases G; cases G'; simp_all

set_option maxRecDepth 100000 in
set_option maxHeartbeats 4000000 in
theorem same_graph (v v' : Gv) (G G' : GL) (q : Bool) (w : World) (S : Sees w w.heap.size v G) (S' : Sees w w.heap.size v' G') (hn : v.N.n ≤ 17592186044416) (he : v.E.n ≤ 17592186044416) (hn' : v'.N.n ≤ 17592186044416) (he' : v'.E.n ≤ 17592186044416)
    (hp : Hid (∀ j, j < G.N.length → (G.N.getD j (0, [])).2.length ≤ 17592186044416)) (hp' : Hid (∀ j, j < G'.N.length → (G'.N.getD j (0, [])).2.length ≤ 17592186044416)) (hq : Hid (q = true ↔ G = G')) :
    Calls Tryz.prog 13 #[v.val, v'.val] w (Drew (.bool q) w) := by
  have HF : G ≠ G' → Hid (q = false) := fun h => by
    cases q
    · rfl
    · exact absurd (hq.out.1 rfl) h
  have HT : G = G' → Hid (q = true) := fun h => hq.out.2 h
  obtain ⟨⟨nA, nn, nc⟩, ⟨eA, en, ec⟩, x, y⟩ := v
  obtain ⟨⟨nA', nn', nc'⟩, ⟨eA', en', ec'⟩, x', y'⟩ := v'
  show Calls Tryz.prog 13 #[.agg #[.slice nA nn nc, .slice eA en ec, .int .i64 x, .int .i64 y], .agg #[.slice nA' nn' nc', .slice eA' en' ec', .int .i64 x', .int .i64 y']] w _
  have SN := hide S.nodes
  have SN' := hide S'.nodes
  have SE := hide S.edges
  have SE' := hide S'.edges
  have LN := hide S.nodes.1
  have LN' := hide S'.nodes.1
  have LE := hide (edges_len S.edges)
  have LE' := hide (edges_len S'.edges)
  have ex := S.x
  have ex' := S'.x
  have ey := S.y
  have ey' := S'.y
  have TW := hide (Two.new w ⟨⟨nA, nn, nc⟩, ⟨eA, en, ec⟩, x, y⟩ ⟨⟨nA', nn', nc'⟩, ⟨eA', en', ec'⟩, x', y'⟩)
  dsimp only at hn he hn' he' LN LN' LE LE' ex ex' ey ey'
  clear S S'
  by_cases c1 : x = x'
  · by_cases c2 : y = y'
    · by_cases c3 : nn = nn'
      · by_cases c4 : en = en'
        · have EX : Hid (G.x = G'.x) := by show _ = _; omega
          have EY : Hid (G.y = G'.y) := by show _ = _; omega
          have HFN : (∃ j, j < nn ∧ G.N.getD j (0, []) ≠ G'.N.getD j (0, [])) → Hid (q = false) := fun ⟨j, _, h⟩ => HF fun e => h (by rw [e])
          have HFE : (∃ j, j < en ∧ G.E.getD j (0, 0, 0) ≠ G'.E.getD j (0, 0, 0)) → Hid (q = false) := fun ⟨j, _, h⟩ => HF fun e => h (by rw [e])
          subst c1 c2 c3 c4
          have d1 : (x != x) = false := by simp
          have d2 : (y != y) = false := by simp
          have d3 : ((nn : Int) != (nn : Int)) = false := by simp
          have d4 : ((en : Int) != (en : Int)) = false := by simp
          clear ex ex' ey ey' HF
          go_enter Tryz.func13, Tryz.ntmps13
          go_wp2
          go_loopw [40] (fun i wx => ∃ k : Nat, k ≤ nn ∧ i = .int .i64 k ∧ Hid (∀ j, j < k → G.N.getD j (0, []) = G'.N.getD j (0, [])) ∧ Hid (Two wx w.heap.size ⟨⟨nA, nn, nc⟩, ⟨eA, en, ec⟩, x, y⟩ ⟨⟨nA', nn, nc'⟩, ⟨eA', en, ec'⟩, x, y⟩) ∧ Hid (Below w.heap.size w wx)) (fun i _ => nn - (intOf i).toNat)
          case atStart => exact ⟨0, by omega, rfl, (fun j hj => by omega), TW, boxed2 w _ _⟩
          case round =>
            clear TW
            obtain ⟨k, hk, rfl, HS, TW, HB⟩ := hrel
            have hg : ∀ i, wr.cell? ⟨w.heap.size, i, none⟩ = (#[.slice nA nn nc, .slice eA en ec, .int .i64 x, .int .i64 y] : Array Value)[i]? := TW.out.c1
            have hg' : ∀ i, wr.cell? ⟨w.heap.size + 1, i, none⟩ = (#[.slice nA' nn nc', .slice eA' en ec', .int .i64 x, .int .i64 y] : Array Value)[i]? := TW.out.c2
            have hl : w.heap.size < wr.heap.size := (Array.getElem?_eq_some_iff.1 TW.out.one).1
            have hl' : w.heap.size + 1 < wr.heap.size := (Array.getElem?_eq_some_iff.1 TW.out.two).1
            by_cases hlt : k < nn
            · obtain ⟨b, off, e, hb, hc0, ⟨hA, hh, hcc⟩, hc1, hP⟩ := (SN.out.below HB.out (Nat.le_refl _)).at_ hlt
              obtain ⟨b', off', e', hb', hd0, ⟨hA', hh', hcc'⟩, hd1, hP'⟩ := (SN'.out.below HB.out (Nat.le_refl _)).at_ hlt
              dsimp only at e e' hc1 hd1
              subst e e'
              have i1 : (0 : Int) ≤ (k : Int) := by omega
              have i2 : (k : Int) < (nn : Int) := by omega
              have HP := hide (hP.more HB.out.size)
              have HP' := hide (hP'.more HB.out.size)
              have b1 : hh ≤ 17592186044416 := by have := hp.out k (by have := LN.out; omega); have := hP.len; dsimp only at this; omega
              have b2 : hh' ≤ 17592186044416 := by have := hp'.out k (by have := LN'.out; omega); have := hP'.len; dsimp only at this; omega
              clear hP hP'
              have hbw : b < wr.heap.size := Nat.lt_of_lt_of_le hb HB.out.size
              have hbw' : b' < wr.heap.size := Nat.lt_of_lt_of_le hb' HB.out.size
              by_cases e1 : (G.N.getD k (0, [])).1 = (G'.N.getD k (0, [])).1
              · by_cases e2 : (G.N.getD k (0, [])).2 = (G'.N.getD k (0, [])).2
                · have HS' : Hid (∀ j, j < k + 1 → G.N.getD j (0, []) = G'.N.getD j (0, [])) := fun j hj => by
                    by_cases ej : j = k
                    · subst ej; exact Prod.ext e1 e2
                    · exact HS.out j (by omega)
                  have HQ := hide e2
                  rw [e1] at hc0
                  clear e1 e2 HS HFN HFE
                  generalize (G'.N.getD k (0, [])).1 = z' at hc0 hd0
                  have t1 : (z' != z') = false := by simp
                  have RD : Hid (∀ u, Hid (Below wr.heap.size wr u) → (fun u => u.cell? ⟨w.heap.size, 0, none⟩ = some (.slice (some ⟨b, off, none⟩) nn nc) ∧ u.cell? ⟨w.heap.size + 1, 0, none⟩ = some (.slice (some ⟨b', off', none⟩) nn nc') ∧ u.cell? ⟨b, off + k * 2, none⟩ = some (.int .i64 z') ∧ u.cell? ⟨b, off + k * 2 + 1, none⟩ = some (.slice hA hh hcc) ∧ u.cell? ⟨b', off' + k * 2, none⟩ = some (.int .i64 z') ∧ u.cell? ⟨b', off' + k * 2 + 1, none⟩ = some (.slice hA' hh' hcc') ∧ Hid (Below wr.heap.size wr u)) u) := fun u hu => ⟨(hu.out.cell (p := ⟨_, _, none⟩) hl).trans (hg 0), (hu.out.cell (p := ⟨_, _, none⟩) hl').trans (hg' 0), (hu.out.cell (p := ⟨_, _, none⟩) hbw).trans hc0, (hu.out.cell (p := ⟨_, _, none⟩) hbw).trans hc1, (hu.out.cell (p := ⟨_, _, none⟩) hbw').trans hd0, (hu.out.cell (p := ⟨_, _, none⟩) hbw').trans hd1, hu⟩
                  have D0 := hide ((Below.refl wr.heap.size wr).drew)
                  go_wp2
                  go_region_held3 (fun u => u.cell? ⟨w.heap.size, 0, none⟩ = some (.slice (some ⟨b, off, none⟩) nn nc) ∧ u.cell? ⟨w.heap.size + 1, 0, none⟩ = some (.slice (some ⟨b', off', none⟩) nn nc') ∧ u.cell? ⟨b, off + k * 2, none⟩ = some (.int .i64 z') ∧ u.cell? ⟨b, off + k * 2 + 1, none⟩ = some (.slice hA hh hcc) ∧ u.cell? ⟨b', off' + k * 2, none⟩ = some (.int .i64 z') ∧ u.cell? ⟨b', off' + k * 2 + 1, none⟩ = some (.slice hA' hh' hcc') ∧ Hid (Below wr.heap.size wr u)) (first | exact RD.out _ D0 | exact RD.out _ (by assumption))
                    ((go_at_call 41; refine (samePairs_eq ⟨hA, hh, hcc⟩ ⟨hA', hh', hcc'⟩ _ _ _ _ wr.drew (HP.out.below D0.out (Nat.le_refl _)) (HP'.out.below D0.out (Nat.le_refl _)) b1 b2 HQ).mono ?_; rintro r u1 ⟨rfl, hu1⟩; have BU := hide (D0.out.trans hu1)))
                  have TW2 := hide (TW.out.step BU.out)
                  have BW := hide (HB.out.trans (BU.out.mono HB.out.size))
                  go_wp2
                  go_roundw
                  case rel => exact ⟨k + 1, by omega, by go_num, HS', TW2, BW⟩
                  case measure => simp [intOf]; omega
                · have HF := HFN ⟨k, hlt, fun e => e2 (by rw [e])⟩
                  have HQ : Hid ((G.N.getD k (0, [])).2 ≠ (G'.N.getD k (0, [])).2) := e2
                  rw [e1] at hc0
                  clear e1 e2 HS HFN HFE
                  generalize (G'.N.getD k (0, [])).1 = z' at hc0 hd0
                  have t1 : (z' != z') = false := by simp
                  have RD : Hid (∀ u, Hid (Below wr.heap.size wr u) → (fun u => u.cell? ⟨w.heap.size, 0, none⟩ = some (.slice (some ⟨b, off, none⟩) nn nc) ∧ u.cell? ⟨w.heap.size + 1, 0, none⟩ = some (.slice (some ⟨b', off', none⟩) nn nc') ∧ u.cell? ⟨b, off + k * 2, none⟩ = some (.int .i64 z') ∧ u.cell? ⟨b, off + k * 2 + 1, none⟩ = some (.slice hA hh hcc) ∧ u.cell? ⟨b', off' + k * 2, none⟩ = some (.int .i64 z') ∧ u.cell? ⟨b', off' + k * 2 + 1, none⟩ = some (.slice hA' hh' hcc') ∧ Hid (Below wr.heap.size wr u)) u) := fun u hu => ⟨(hu.out.cell (p := ⟨_, _, none⟩) hl).trans (hg 0), (hu.out.cell (p := ⟨_, _, none⟩) hl').trans (hg' 0), (hu.out.cell (p := ⟨_, _, none⟩) hbw).trans hc0, (hu.out.cell (p := ⟨_, _, none⟩) hbw).trans hc1, (hu.out.cell (p := ⟨_, _, none⟩) hbw').trans hd0, (hu.out.cell (p := ⟨_, _, none⟩) hbw').trans hd1, hu⟩
                  have D0 := hide ((Below.refl wr.heap.size wr).drew)
                  go_wp2
                  go_region_held3 (fun u => u.cell? ⟨w.heap.size, 0, none⟩ = some (.slice (some ⟨b, off, none⟩) nn nc) ∧ u.cell? ⟨w.heap.size + 1, 0, none⟩ = some (.slice (some ⟨b', off', none⟩) nn nc') ∧ u.cell? ⟨b, off + k * 2, none⟩ = some (.int .i64 z') ∧ u.cell? ⟨b, off + k * 2 + 1, none⟩ = some (.slice hA hh hcc) ∧ u.cell? ⟨b', off' + k * 2, none⟩ = some (.int .i64 z') ∧ u.cell? ⟨b', off' + k * 2 + 1, none⟩ = some (.slice hA' hh' hcc') ∧ Hid (Below wr.heap.size wr u)) (first | exact RD.out _ D0 | exact RD.out _ (by assumption))
                    ((go_at_call 41; refine (samePairs_ne ⟨hA, hh, hcc⟩ ⟨hA', hh', hcc'⟩ _ _ _ _ wr.drew (HP.out.below D0.out (Nat.le_refl _)) (HP'.out.below D0.out (Nat.le_refl _)) b1 b2 HQ).mono ?_; rintro r u1 ⟨rfl, hu1⟩; have BU := hide (D0.out.trans hu1)))
                  have TW2 := hide (TW.out.step BU.out)
                  have BW := hide (HB.out.trans (BU.out.mono HB.out.size))
                  go_wp2
                  go_ret
                  rw [HF.out]
                  exact ⟨rfl, BW.out⟩
              · have HF := HFN ⟨k, hlt, fun e => e1 (by rw [e])⟩
                have HNE : Hid ((G.N.getD k (0, [])).1 ≠ (G'.N.getD k (0, [])).1) := e1
                clear e1 HS HFN HFE
                generalize (G.N.getD k (0, [])).1 = z at hc0 HNE
                generalize (G'.N.getD k (0, [])).1 = z' at hd0 HNE
                have RD : Hid (∀ u, Hid (Below wr.heap.size wr u) → (fun u => u.cell? ⟨w.heap.size, 0, none⟩ = some (.slice (some ⟨b, off, none⟩) nn nc) ∧ u.cell? ⟨w.heap.size + 1, 0, none⟩ = some (.slice (some ⟨b', off', none⟩) nn nc') ∧ u.cell? ⟨b, off + k * 2, none⟩ = some (.int .i64 z) ∧ u.cell? ⟨b, off + k * 2 + 1, none⟩ = some (.slice hA hh hcc) ∧ u.cell? ⟨b', off' + k * 2, none⟩ = some (.int .i64 z') ∧ u.cell? ⟨b', off' + k * 2 + 1, none⟩ = some (.slice hA' hh' hcc') ∧ Hid (Below wr.heap.size wr u)) u) := fun u hu => ⟨(hu.out.cell (p := ⟨_, _, none⟩) hl).trans (hg 0), (hu.out.cell (p := ⟨_, _, none⟩) hl').trans (hg' 0), (hu.out.cell (p := ⟨_, _, none⟩) hbw).trans hc0, (hu.out.cell (p := ⟨_, _, none⟩) hbw).trans hc1, (hu.out.cell (p := ⟨_, _, none⟩) hbw').trans hd0, (hu.out.cell (p := ⟨_, _, none⟩) hbw').trans hd1, hu⟩
                have D0 := hide ((Below.refl wr.heap.size wr).drew)
                go_wp2
                have t1 : (z != z') = true := by simpa using HNE.out
                have t2 : (z == z') = false := by simpa using HNE.out
                go_quiet (fail)
                go_wp2
                go_ret
                rw [HF.out]
                exact ⟨rfl, Below.drewN HB.out _⟩
            · have EN : Hid (G.N = G'.N) := nodes_ext (by rw [LN.out, LN'.out]) fun j hj => HS.out j (by have := LN.out; omega)
              clear HS
              go_wp2
              go_loopw [76] (fun i wx => ∃ k : Nat, k ≤ en ∧ i = .int .i64 k ∧ Hid (∀ j, j < k → G.E.getD j (0, 0, 0) = G'.E.getD j (0, 0, 0)) ∧ Hid (Two wx w.heap.size ⟨⟨nA, nn, nc⟩, ⟨eA, en, ec⟩, x, y⟩ ⟨⟨nA', nn, nc'⟩, ⟨eA', en, ec'⟩, x, y⟩) ∧ Hid (Below w.heap.size w wx)) (fun i _ => en - (intOf i).toNat)
              case atStart => exact ⟨0, by omega, rfl, (fun j hj => by omega), TW, HB⟩
              case round =>
                clear TW HB hg hg' hl hl'
                obtain ⟨k, hk, rfl, HS, TW, HB⟩ := hrel
                have hg : ∀ i, wr.cell? ⟨w.heap.size, i, none⟩ = (#[.slice nA nn nc, .slice eA en ec, .int .i64 x, .int .i64 y] : Array Value)[i]? := TW.out.c1
                have hg' : ∀ i, wr.cell? ⟨w.heap.size + 1, i, none⟩ = (#[.slice nA' nn nc', .slice eA' en ec', .int .i64 x, .int .i64 y] : Array Value)[i]? := TW.out.c2
                by_cases hlt : k < en
                · obtain ⟨b, off, e, hb, hc0, hc1, hc2⟩ := edge_at (SE.out.below HB.out (Nat.le_refl _)) hlt
                  obtain ⟨b', off', e', hb', hd0, hd1, hd2⟩ := edge_at (SE'.out.below HB.out (Nat.le_refl _)) hlt
                  subst e e'
                  have i1 : (0 : Int) ≤ (k : Int) := by omega
                  have i2 : (k : Int) < (en : Int) := by omega
                  have TWd := fun d => hide (TW.out.step (Below.drewN (Below.refl wr.heap.size wr) d))
                  have HBd := fun d => hide (Below.drewN HB.out d)
                  by_cases e : G.E.getD k (0, 0, 0) = G'.E.getD k (0, 0, 0)
                  · have HS' : Hid (∀ j, j < k + 1 → G.E.getD j (0, 0, 0) = G'.E.getD j (0, 0, 0)) := fun j hj => by
                      by_cases ej : j = k
                      · subst ej; exact e
                      · exact HS.out j (by omega)
                    rw [e] at hc0 hc1 hc2
                    clear e HS HFN HFE
                    generalize (G'.E.getD k (0, 0, 0)).1 = z1 at hc0 hd0
                    generalize (G'.E.getD k (0, 0, 0)).2.1 = z2 at hc1 hd1
                    generalize (G'.E.getD k (0, 0, 0)).2.2 = z3 at hc2 hd2
                    have he : ∀ u : World, (Op.equalIn 10000 79 (.agg #[.int .i64 z1, .int .i64 z2, .int .i64 z3]) (.agg #[.int .i64 z1, .int .i64 z2, .int .i64 z3])).run Tryz.prog u = .ok true u := fun u => by rw [eq80]; simp
                    go_wp2
                    go_quiet (fail)
                    go_wp2
                    go_roundw
                    case rel => exact ⟨k + 1, by omega, by go_num, HS', TWd _, HBd _⟩
                    case measure => simp [intOf]; omega
                  · have HF := HFE ⟨k, hlt, e⟩
                    have he : ∀ u : World, (Op.equalIn 10000 79 (.agg #[.int .i64 (G.E.getD k (0, 0, 0)).1, .int .i64 (G.E.getD k (0, 0, 0)).2.1, .int .i64 (G.E.getD k (0, 0, 0)).2.2]) (.agg #[.int .i64 (G'.E.getD k (0, 0, 0)).1, .int .i64 (G'.E.getD k (0, 0, 0)).2.1, .int .i64 (G'.E.getD k (0, 0, 0)).2.2])).run Tryz.prog u = .ok false u := fun u => by
                      rw [eq80]
                      congr 1
                      cases hx : ((G.E.getD k (0, 0, 0)).1 == (G'.E.getD k (0, 0, 0)).1 && (G.E.getD k (0, 0, 0)).2.1 == (G'.E.getD k (0, 0, 0)).2.1 && (G.E.getD k (0, 0, 0)).2.2 == (G'.E.getD k (0, 0, 0)).2.2) with
                      | false => rfl
                      | true => exact absurd (by simp only [Bool.and_eq_true, beq_iff_eq] at hx; exact Prod.ext hx.1.1 (Prod.ext hx.1.2 hx.2)) e
                    clear e HS HFN HFE
                    generalize (G.E.getD k (0, 0, 0)).1 = y1 at hc0 he
                    generalize (G.E.getD k (0, 0, 0)).2.1 = y2 at hc1 he
                    generalize (G.E.getD k (0, 0, 0)).2.2 = y3 at hc2 he
                    generalize (G'.E.getD k (0, 0, 0)).1 = z1 at hd0 he
                    generalize (G'.E.getD k (0, 0, 0)).2.1 = z2 at hd1 he
                    generalize (G'.E.getD k (0, 0, 0)).2.2 = z3 at hd2 he
                    go_wp2
                    go_quiet (fail)
                    go_wp2
                    go_ret
                    rw [HF.out]
                    exact ⟨rfl, (HBd _).out⟩
                · have HT := HT (gl_ext EN.out (edges_ext (by rw [← LE.out, ← LE'.out]) fun j hj => HS.out j (by have := LE.out; omega)) EX.out EY.out)
                  go_wp2
                  go_ret
                  rw [HT.out]
                  exact ⟨rfl, HB.out⟩
        · have HF := HF fun e => c4 (by rw [LE.out, LE'.out, e])
          have d1 : (x != x') = false := by simpa using c1
          have d2 : (y != y') = false := by simpa using c2
          have d3 : ((nn : Int) != (nn' : Int)) = false := by simp; omega
          have d4 : ((en : Int) != (en' : Int)) = true := by simp; omega
          go_enter Tryz.func13, Tryz.ntmps13
          go_wp2
          go_ret
          rw [HF.out]
          exact ⟨rfl, boxed2 w _ _⟩
      · have HF := HF fun e => c3 (by rw [← LN.out, ← LN'.out, e])
        have d1 : (x != x') = false := by simpa using c1
        have d2 : (y != y') = false := by simpa using c2
        have d3 : ((nn : Int) != (nn' : Int)) = true := by simp; omega
        go_enter Tryz.func13, Tryz.ntmps13
        go_wp2
        go_ret
        rw [HF.out]
        exact ⟨rfl, boxed2 w _ _⟩
    · have HF := HF fun e => c2 (by rw [ey, ey', e])
      have d1 : (x != x') = false := by simpa using c1
      have d2 : (y != y') = true := by simpa using c2
      go_enter Tryz.func13, Tryz.ntmps13
      go_wp2
      go_ret
      rw [HF.out]
      exact ⟨rfl, boxed2 w _ _⟩
  · have HF := HF fun e => c1 (by rw [ex, ex', e])
    have d1 : (x != x') = true := by simpa using c1
    go_enter Tryz.func13, Tryz.ntmps13
    go_wp2
    go_ret
    rw [HF.out]
    exact ⟨rfl, boxed2 w _ _⟩

end Go.Proofs.YtiiadkjiofkonaaGreat
