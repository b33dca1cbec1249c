/- The calls that are open, in a map by thread. No conditions. -/
import Derived.Test.YtfefkdedgceomaaCRows
import Derived.Maps.OwnOps
import Derived.Maps.OwnSet
namespace Go.Proofs.Ytfefkdedgceomaa
open Go.RowKit Go.Maps
set_option linter.unusedVariables false

abbrev key (x : Int) : Lit := .int .i64 x
abbrev num (x : Int) : DataW Unit := .lit (.int .i64 x)
theorem key_ne {x y : Int} (h : x ≠ y) : key x ≠ key y := fun e => h (by simpa using e)
/-- D says of each thread which of its calls is open. -/
structure MapIs (D : DataW Unit) (C : List Cl) : Prop where
  yes : ∀ t i, Open C t i → has D (key t) = true ∧ D.atKey (key t) (num 0) = num i
  no : ∀ t, (∀ i, ¬ Open C t i) → has D (key t) = false
theorem MapIs.nil : MapIs (.map []) [] := ⟨fun t i h => absurd h.1 (by simp), fun t _ => rfl⟩
theorem open_new {C : List Cl} {x : Ev} {n : Nat} (h : ∀ i, ¬ Open C x.t i) (t : Int) (i : Nat) : Open (C ++ [new x n]) t i ↔ Open C t i ∨ (t = x.t ∧ i = C.length) := by
  have old : ∀ j, j < C.length → (C ++ [new x n]).getD j noCl = C.getD j noCl := fun j hj => by simp [List.getD_eq_getElem?_getD, List.getElem?_append_left hj]
  have last : (C ++ [new x n]).getD C.length noCl = new x n := by simp [List.getD_eq_getElem?_getD]
  constructor
  · rintro ⟨h1, h2, h3⟩
    by_cases e : i < C.length
    · rw [old i e] at h2 h3
      exact .inl ⟨e, h2, h3⟩
    · obtain rfl : i = C.length := by simp at h1; omega
      rw [last] at h2
      exact .inr ⟨h2.symm, rfl⟩
  · rintro (⟨h1, h2, h3⟩ | ⟨rfl, rfl⟩)
    · exact ⟨by simp; omega, by rw [old i h1]; exact h2, by rw [old i h1]; exact h3⟩
    · exact ⟨by simp, by rw [last]; rfl, by rw [last]; rfl⟩
theorem open_done {C : List Cl} {i0 : Nat} {e : Int} {r : RL} (he : e ≠ -1) (t : Int) (i : Nat) : Open (C.set i0 { C.getD i0 noCl with e := e, r := r }) t i ↔ Open C t i ∧ i ≠ i0 := by
  constructor
  · rintro ⟨h1, h2, h3⟩
    simp only [List.length_set] at h1
    by_cases hi : i = i0
    · subst hi
      have e1 : (C.set i { C.getD i noCl with e := e, r := r }).getD i noCl = { C.getD i noCl with e := e, r := r } := by simp [List.getD_eq_getElem?_getD, h1]
      rw [e1] at h3
      exact absurd h3 he
    · have e1 : (C.set i0 { C.getD i0 noCl with e := e, r := r }).getD i noCl = C.getD i noCl := by simp [List.getD_eq_getElem?_getD, Ne.symm hi]
      rw [e1] at h2 h3
      exact ⟨⟨h1, h2, h3⟩, hi⟩
  · rintro ⟨⟨h1, h2, h3⟩, hi⟩
    have e1 : (C.set i0 { C.getD i0 noCl with e := e, r := r }).getD i noCl = C.getD i noCl := by simp [List.getD_eq_getElem?_getD, Ne.symm hi]
    exact ⟨by simpa using h1, by rw [e1]; exact h2, by rw [e1]; exact h3⟩
theorem MapIs.put {D : DataW Unit} {C : List Cl} {x : Ev} {n : Nat} (m : MapIs D C) (hD : IsMap D) (h : ∀ i, ¬ Open C x.t i) : MapIs (D.put (key x.t) (num C.length)) (C ++ [new x n]) := by
  refine ⟨fun t i ho => ?_, fun t hn => ?_⟩
  · rcases (open_new h t i).1 ho with h1 | ⟨rfl, rfl⟩
    · have hne : t ≠ x.t := fun e => h i (e ▸ h1)
      rw [has_put_other (key_ne hne), atKey_put_other (key_ne hne)]
      exact m.yes t i h1
    · exact ⟨has_put_same hD (show WideAt.IsKeyLit (key x.t) from trivial) _, atKey_put_same hD (show WideAt.IsKeyLit (key x.t) from trivial) _ _⟩
  · have hne : t ≠ x.t := fun e => hn C.length ((open_new h t _).2 (.inr ⟨e, rfl⟩))
    rw [has_put_other (key_ne hne)]
    exact m.no t fun i hi => hn i ((open_new h t i).2 (.inl hi))
theorem MapIs.del {D : DataW Unit} {C : List Cl} {t0 : Int} {i0 : Nat} {e : Int} {r : RL} (m : MapIs D C) (ho : Open C t0 i0) (hu : ∀ j, Open C t0 j → j = i0) (he : e ≠ -1) : MapIs (D.del (key t0)) (C.set i0 { C.getD i0 noCl with e := e, r := r }) := by
  refine ⟨fun t i h => ?_, fun t hn => ?_⟩
  · obtain ⟨h1, h2⟩ := (open_done he t i).1 h
    have hne : t ≠ t0 := fun e' => h2 (hu i (e' ▸ h1))
    rw [has_del_other (key_ne hne), atKey_del_other (key_ne hne)]
    exact m.yes t i h1
  · by_cases e1 : t = t0
    · subst e1; exact has_del_same
    · rw [has_del_other (key_ne e1)]
      refine m.no t fun i hi => hn i ((open_done he t i).2 ⟨hi, fun e' => e1 ?_⟩)
      rw [e'] at hi
      rw [← hi.2.1, ← ho.2.1]
theorem law3 : Keyed Try.prog 3 := int_keyed Try.underlying3
theorem zero3 (w : World) : (zeroValue 3).run Try.prog w = .ok (.int .i64 0) w := by kernel_rfl

/-- A map's block holds no cells. -/
theorem map_cells {w : World} {P : Program} {k : TypeId} {R : Value → Option (DataW Unit × List MemPlace)} {b n : Nat} {D : DataW Unit} (h : w.ownsMap P k R b n D) (i : Nat) : w.cell? ⟨b, i, none⟩ = none := by
  obtain ⟨es, clock, hb, _⟩ := h
  simp [World.cell?, hb]
theorem inB_no {u : World} {B g : Nat} {h : Sl} {l : List Pr} (p : Props u B h l) (hg : ∀ i, u.cell? ⟨g, i, none⟩ = none) : ¬ InB h g := by
  rintro ⟨hn, a, ha, rfl⟩
  obtain ⟨b, off, e, _, hc⟩ := p.1.2 hn
  rw [e] at ha
  cases ha
  have := hc 0 (by omega)
  rw [hg] at this
  cases this
theorem hasR_no {u : World} {B g : Nat} {s : S3} {r : RL} (p : RSee u B s r) (hg : ∀ i, u.cell? ⟨g, i, none⟩ = none) : ¬ HasR s g := by
  rintro (h | h | h)
  · exact inB_no p.1 hg h
  · exact inB_no p.2.1 hg h
  · exact inB_no p.2.2 hg h
theorem map_block {w : World} {P : Program} {k : TypeId} {R : Value → Option (DataW Unit × List MemPlace)} {b n : Nat} {D : DataW Unit} (h : w.ownsMap P k R b n D) : ∃ es clock, w.heap[b]? = some (.map es clock) := by
  obtain ⟨es, clock, hb, _⟩ := h
  exact ⟨es, clock, hb⟩
theorem Own.map {u u' : World} {B g : Nat} {s : Sl} {Z : List CZ} (o : Own u B s Z) (hg : u.grownBy u' (some g)) (hm : ∃ es clock, u.heap[g]? = some (.map es clock)) : Own u' B s Z := by
  obtain ⟨es, clock, hm⟩ := hm
  have hn : ∀ i, u.cell? ⟨g, i, none⟩ = none := fun i => by simp [World.cell?, hm]
  refine o.grown hg (fun b hb e => ?_) fun i hi b hb => ?_
  · cases hb
    rcases o.rows.2 with ⟨hv, _⟩ | ⟨k, cap, cur, hv, _, hk, _⟩
    · rw [hv] at e; cases e
    · rw [hv] at e
      simp only [Value.ownBlock, Option.some.injEq] at e
      subst e
      rw [hk] at hm
      cases hm
  · cases hb
    exact hasR_no (o.rd i hi) hn
end Go.Proofs.Ytfefkdedgceomaa
