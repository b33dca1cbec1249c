/- What the rows' frames share: the table of lengths out of what the program's text lays; a configuration, and an array of three numbers, opened. No conditions. -/
import Derived.Test.YtknbllhkifigbaaDoorRows
import Derived.Test.YtknbllhkifigbaaDoorTab
import Derived.ProofKit
import Derived.LaidMore
import Derived.OpenShut
import Derived.Stop.Joined
import Derived.Lib.SmallJoins
import Derived.Carry
namespace Go.Proofs.YtknbllhkifigbaaDoor
open Go.Joins Go.ChangeShapes Go.WideShapes Go.ChangeAt Go.RowKit Go.Deep

theorem own : ownKnob Tryd.prog.godebug = none := by kernel_rfl
/-- The table's name. -/
abbrev lensName : String := Rows.placeMakesRow.named.headD Rows.placeMakesRow.func
theorem gLens : Tryd.prog.globalNamed lensName = some 0 := by kernel_rfl
theorem tLens : (Tryd.prog.globals[0]?).map (·.type) = some 52 := by kernel_rfl
theorem cells3 : Tryd.prog.cellsOf 3 = 1 := by kernel_rfl
theorem cells23 : Tryd.prog.cellsOf 23 = 5 := by kernel_rfl
theorem cells41 : Tryd.prog.cellsOf 41 = 3 := by kernel_rfl
theorem laidOut : laidOutB Tryd.prog = true := by kernel_rfl

abbrev laid1 : List (String × DataW Unit) := [(lensName, Rows.laid_tendril_place_lengths)]

/-- The door's own heap meets the condition. -/
theorem door_met (os : Os) (args : Array Value) : laidMetH Tryd.prog laid1 ((World.doorLaid Tryd.prog 400 os).forCall (fun _ _ => 0) ⟨#[], args, []⟩).memory :=
  laidMetH_of_parts3 (fuel := 8) (laidMet_of_run' 8 (by kernel_rfl) (by kernel_rfl)) (by kernel_rfl) (by kernel_rfl)

theorem laid_at (k : Nat) (hk : k < 6) : ([.lit (.int .i64 1), .lit (.int .i64 4), .lit (.int .i64 5), .lit (.int .i64 3), .lit (.int .i64 1), .lit (.int .i64 1)] : List (DataW Unit))[k]? = some (.lit (.int .i64 (lens k))) :=
  six (P := fun k => ([.lit (.int .i64 1), .lit (.int .i64 4), .lit (.int .i64 5), .lit (.int .i64 3), .lit (.int .i64 1), .lit (.int .i64 1)] : List (DataW Unit))[k]? = some (.lit (.int .i64 (lens k)))) rfl rfl rfl rfl rfl rfl k hk

theorem of_laid {W : World} (h : laidMetH Tryd.prog laid1 W) : Tab W := by
  rw [MakeChecks.laidMetH_plain _ _ _ (by kernel_rfl)] at h
  obtain ⟨ps, ⟨g0, t0, cs0, f0, p0, q0, hg0, ht0, hv0, hd0, _, _⟩, _, _⟩ := h
  obtain rfl := Option.some.inj (gLens.symm.trans hg0)
  obtain rfl := Option.some.inj (tLens.symm.trans ht0)
  obtain ⟨xs, m1, rfl, hx1, hlen, hn, hel⟩ := DataW.trod_array Tryd.underlying52 hd0
  simp only [Prod.mk.injEq, Rows.laid_tendril_place_lengths, DataW.agg.injEq] at hx1
  have hcell : ∀ k, k < 6 → W.cell? ⟨0, k, none⟩ = some (.int .i64 (lens k)) := by
    intro k hk
    have h1 := hel k hk
    have h2 := laid_at k hk
    rw [hx1.1, List.getElem?_map] at h2
    cases hx : xs[k]? with
    | none => rw [hx] at h2; simp at h2
    | some x =>
      rw [hx] at h1 h2
      obtain ⟨z, ez, ex, _⟩ := DataW.trod_int Tryd.underlying3 h1
      rw [ex] at h2
      have hz : z = lens k := by simpa using h2
      subst hz
      rw [cells3, Nat.mul_one] at ez
      have hv := World.var?_cell hg0 hv0 k
      rw [hv]
      have : (cs0.toList.drop k)[0]? = some (Value.int .i64 (lens k)) := by
        have := congrArg (fun l => l[0]?) ez
        simpa [List.getElem?_take] using this
      simpa using this
  exact ⟨World.block_lt_of_cell? W ⟨0, 0, none⟩ (hcell 0 (by omega)), hcell⟩

section
variable {H : Type} {enc : TypeId × Value → H} {P : Program} {w : World} {base : Nat} {spare : Nat → Bool} {held : Bool}
/-- A configuration that came in. -/
theorem open_cfg {r : Reach} {b0 : Nat} {v : Value} {d : DataW H} {q : List MemPlace} (hv : Value.okWide Tryd.prog w r b0 23 v) (h : DataW.Trod enc Tryd.prog w base spare held 23 v d q) :
    ∃ n e p i j : Int, v = .agg #[.int .i64 n, .int .i64 e, .int .i64 p, .int .i64 i, .int .i64 j] ∧ q = [] := by
  obtain ⟨⟨l⟩, rfl, hsz⟩ := okWide_struct Tryd.underlying23 hv
  rw [cells23] at hsz
  match l, hsz with
  | [c0, c1, c2, c3, c4], _ =>
    obtain ⟨fuel, hf⟩ := h
    obtain ⟨xs, m, _, hx, _, hlen, hg⟩ := DataW.trod_struct Tryd.underlying23 hf
    match xs, hlen with
    | [y0, y1, y2, y3, y4], _ =>
      have g0 : DataW.trod enc Tryd.prog w base spare held m 3 ((((Value.agg #[c0, c1, c2, c3, c4]).cells.toList).drop 0).take (Tryd.prog.cellsOf 3)) = some y0 := hg 0 _ rfl
      have g1 : DataW.trod enc Tryd.prog w base spare held m 3 ((((Value.agg #[c0, c1, c2, c3, c4]).cells.toList).drop 1).take (Tryd.prog.cellsOf 3)) = some y1 := hg 1 _ rfl
      have g2 : DataW.trod enc Tryd.prog w base spare held m 3 ((((Value.agg #[c0, c1, c2, c3, c4]).cells.toList).drop 2).take (Tryd.prog.cellsOf 3)) = some y2 := hg 2 _ rfl
      have g3 : DataW.trod enc Tryd.prog w base spare held m 3 ((((Value.agg #[c0, c1, c2, c3, c4]).cells.toList).drop 3).take (Tryd.prog.cellsOf 3)) = some y3 := hg 3 _ rfl
      have g4 : DataW.trod enc Tryd.prog w base spare held m 3 ((((Value.agg #[c0, c1, c2, c3, c4]).cells.toList).drop 4).take (Tryd.prog.cellsOf 3)) = some y4 := hg 4 _ rfl
      rw [cells3] at g0 g1 g2 g3 g4
      obtain ⟨n, e0, f0, _⟩ := DataW.trod_int (x := y0) Tryd.underlying3 g0
      obtain ⟨e, e1, f1, _⟩ := DataW.trod_int (x := y1) Tryd.underlying3 g1
      obtain ⟨p, e2, f2, _⟩ := DataW.trod_int (x := y2) Tryd.underlying3 g2
      obtain ⟨i, e3, f3, _⟩ := DataW.trod_int (x := y3) Tryd.underlying3 g3
      obtain ⟨j, e4, f4, _⟩ := DataW.trod_int (x := y4) Tryd.underlying3 g4
      simp [Value.cells] at e0 e1 e2 e3 e4
      subst e0 e1 e2 e3 e4
      refine ⟨n, e, p, i, j, rfl, ?_⟩
      simp only [Prod.mk.injEq] at hx
      rw [hx.2, f0, f1, f2, f3, f4]
      rfl

/-- Three numbers that came in, as an array. -/
theorem open_three {r : Reach} {b0 : Nat} {v : Value} {d : DataW H} {p : List MemPlace} (hv : Value.okWide Tryd.prog w r b0 41 v) (h : DataW.Trod enc Tryd.prog w base spare held 41 v d p) :
    ∃ x0 x1 x2 : Int, v = .agg #[.int .i64 x0, .int .i64 x1, .int .i64 x2] ∧ p = [] := by
  have hcs : ∃ cs, v = .agg cs ∧ cs.size = Tryd.prog.cellsOf 41 := by
    simp only [Value.okWide, Tryd.underlying41] at hv
    obtain ⟨cs, h1, h2, _⟩ := hv
    exact ⟨cs, h1, h2⟩
  obtain ⟨cs, rfl, hsz⟩ := hcs
  obtain ⟨l⟩ := cs
  rw [cells41] at hsz
  match l, hsz with
  | [c0, c1, c2], _ =>
    obtain ⟨fuel, hf⟩ := h
    obtain ⟨xs, m, _, hx, _, hlen, hg⟩ := DataW.trod_array Tryd.underlying41 hf
    match xs, hlen with
    | [y0, y1, y2], _ =>
      have g0 := hg 0 (by omega)
      have g1 := hg 1 (by omega)
      have g2 := hg 2 (by omega)
      rw [cells3] at g0 g1 g2
      obtain ⟨x0, e0, f0, _⟩ := DataW.trod_int (x := y0) Tryd.underlying3 g0
      obtain ⟨x1, e1, f1, _⟩ := DataW.trod_int (x := y1) Tryd.underlying3 g1
      obtain ⟨x2, e2, f2, _⟩ := DataW.trod_int (x := y2) Tryd.underlying3 g2
      simp [Value.cells] at e0 e1 e2
      subst e0 e1 e2
      refine ⟨x0, x1, x2, rfl, ?_⟩
      simp only [Prod.mk.injEq] at hx
      rw [hx.2, f0, f1, f2]
      rfl
end
end Go.Proofs.YtknbllhkifigbaaDoor
