/- Rows of calls that are the call's own: read, grown, written. No conditions. -/
import Derived.Test.YtfefkdedgceomaaWP
import Derived.Laws.OwnMore
import Derived.Deep.AppendLies
namespace Go.Proofs.Ytfefkdedgceomaa
open Go.RowKit
set_option linter.unusedVariables false
set_option maxRecDepth 100000

abbrev CZ := Cl × S3
def noCZ : CZ := (noCl, noS3)
/-- The cells of calls. -/
def cellsL (Z : List CZ) : List Value := Z.flatMap fun p => (cc p.1 p.2).toList
theorem cc_len (c : Cl) (s : S3) : (cc c s).toList.length = 13 := rfl
theorem cellsL_cons (p : CZ) (Z : List CZ) : cellsL (p :: Z) = (cc p.1 p.2).toList ++ cellsL Z := rfl
theorem cellsL_snoc (Z : List CZ) (p : CZ) : cellsL (Z ++ [p]) = cellsL Z ++ (cc p.1 p.2).toList := by simp [cellsL]
theorem cellsL_len (Z : List CZ) : (cellsL Z).length = Z.length * 13 := by
  induction Z with
  | nil => rfl
  | cons p Z ih => rw [cellsL_cons, List.length_append, ih, cc_len, List.length_cons]; omega
theorem cellsL_at : ∀ (Z : List CZ) (k j : Nat), k < Z.length → j < 13 → (cellsL Z)[k * 13 + j]? = (cc (Z.getD k noCZ).1 (Z.getD k noCZ).2)[j]?
  | [], k, j, h, _ => by simp at h
  | p :: Z, 0, j, _, hj => by
    rw [cellsL_cons, Nat.zero_mul, Nat.zero_add, List.getElem?_append_left (by rw [cc_len]; exact hj)]
    simp
  | p :: Z, k + 1, j, h, hj => by
    rw [cellsL_cons, List.getElem?_append_right (by rw [cc_len]; omega), cc_len, show (k + 1) * 13 + j - 13 = k * 13 + j by omega, cellsL_at Z k j (by simpa using h) hj]
    simp
/-- Cells from place o on are written. -/
def patchL (l : List Value) (o : Nat) : List Value → List Value
  | [] => l
  | v :: vs => patchL (l.set o v) (o + 1) vs
def putL (w : World) (g o : Nat) : List Value → World
  | [] => w
  | v :: vs => putL (w.setCell ⟨g, o, none⟩ v) g (o + 1) vs
theorem patchL_app (a : List Value) : ∀ (vs l : List Value) (o : Nat), patchL (a ++ l) (a.length + o) vs = a ++ patchL l o vs
  | [], l, o => rfl
  | v :: vs, l, o => by
    rw [patchL, patchL, List.set_append_right _ _ (by omega), show a.length + o - a.length = o by omega, Nat.add_assoc]
    exact patchL_app a vs _ _
/-- A call comes to its result. -/
def done1 (p : CZ) (e : Int) (r : RL) (s : S3) : CZ := ({ p.1 with e := e, r := r }, s)
theorem cellsL_done (e : Int) (r : RL) (s : S3) : ∀ (Z : List CZ) (k : Nat), k < Z.length → patchL ((cellsL Z).set (k * 13 + 7) (.int .i64 e)) (k * 13 + 8) (rc r s).toList = cellsL (Z.set k (done1 (Z.getD k noCZ) e r s))
  | [], k, h => by simp at h
  | p :: Z, 0, _ => by
    rw [cellsL_cons, List.set_cons_zero, cellsL_cons]
    rfl
  | p :: Z, k + 1, h => by
    have ih := cellsL_done e r s Z k (by simpa using h)
    have e1 : (k + 1) * 13 + 7 = (cc p.1 p.2).toList.length + (k * 13 + 7) := by rw [cc_len]; omega
    have e2 : (k + 1) * 13 + 8 = (cc p.1 p.2).toList.length + (k * 13 + 8) := by rw [cc_len]; omega
    rw [cellsL_cons, e1, List.set_append_right _ _ (by omega), Nat.add_sub_cancel_left, e2, patchL_app, ih, List.set_cons_succ, cellsL_cons]
    rfl

section
variable {w u u' : World} {base B e size g n cap : Nat} {xs : List Value}
theorem run_putL {P : Program} (off : Nat) : ∀ (vs : List Value) (i : Nat) (w : World) (xs : List Value), w.ownsRow base e size (.slice (some ⟨g, 0, none⟩) n cap) n xs → off + i + vs.length ≤ n * size → (∀ v ∈ vs, v.oneCell' = true) →
    (storeCells ⟨g, off, none⟩ vs i).run P w = .ok () (putL w g (off + i) vs)
  | [], i, w, xs, h, hl, _ => rfl
  | v :: vs, i, w, xs, h, hl, h1 => by
    have hadd : (⟨g, off, none⟩ : Addr).add i = ⟨g, off + i, none⟩ := by unfold Addr.add; split <;> simp_all
    have hlen := h.1
    simp only [List.length_cons] at hl
    have hcell : ∃ y, w.cell? ⟨g, off + i, none⟩ = some y := by
      rcases h.2 with ⟨h', _⟩ | ⟨g', cap', cur, h', _, hg, hnc, _, hcs, _⟩
      · cases h'
      · simp only [Value.slice.injEq, Option.some.injEq, Addr.mk.injEq, and_true, true_and] at h'
        obtain ⟨rfl, rfl⟩ := h'
        have : off + i < cur.size := by rw [hcs]; exact Nat.lt_of_lt_of_le (by omega) (Nat.mul_le_mul_right size hnc)
        exact ⟨cur[off + i], by simp [World.cell?, hg, this]⟩
    obtain ⟨y, hy⟩ := hcell
    have hst : (store ((⟨g, off, none⟩ : Addr).add i) v).run P w = .ok () (w.setCell ⟨g, off + i, none⟩ v) := by
      rw [hadd, run_store P w _ v _ (h1 v (by simp)), hy]
      simp [h.frozenAt]
    have ih := run_putL (P := P) off vs (i + 1) (w.setCell ⟨g, off + i, none⟩ v) (xs.set (off + i) v) (h.stored (off + i) v).1 (by omega) (fun x hx => h1 x (by simp [hx]))
    simp only [storeCells, Sem.run_bind, hst, Result.andThen_ok, ih]
    rfl
theorem own_putL : ∀ (vs : List Value) (o : Nat) (w : World) (xs : List Value), w.ownsRow base e size (.slice (some ⟨g, 0, none⟩) n cap) n xs → (putL w g o vs).ownsRow base e size (.slice (some ⟨g, 0, none⟩) n cap) n (patchL xs o vs)
  | [], o, w, xs, h => h
  | v :: vs, o, w, xs, h => own_putL vs (o + 1) _ _ (h.stored o v).1
theorem putL_below : ∀ (vs : List Value) (o : Nat) (u : World), Below B w u → B ≤ g → Below B w (putL u g o vs)
  | [], o, u, h, _ => h
  | v :: vs, o, u, h, hg => putL_below vs (o + 1) _ (h.setCell (p := ⟨g, o, none⟩) hg v) hg
theorem putL_see {s : S3} {r : RL} : ∀ (vs : List Value) (o : Nat) (u : World), RSee u B s r → ¬ HasR s g → RSee (putL u g o vs) B s r
  | [], o, u, h, _ => h
  | v :: vs, o, u, h, hg => putL_see vs (o + 1) _ (h.set hg o v) hg
theorem putL_size : ∀ (vs : List Value) (o : Nat) (u : World), (putL u g o vs).heap.size = u.heap.size
  | [], o, u => rfl
  | v :: vs, o, u => (putL_size vs (o + 1) _).trans (by simp)
theorem putL_other {k : Nat} (hk : k ≠ g) : ∀ (vs : List Value) (o : Nat) (u : World), (putL u g o vs).heap[k]? = u.heap[k]?
  | [], o, u => rfl
  | v :: vs, o, u => (putL_other hk vs (o + 1) _).trans (heap_setCell_other u ⟨g, o, none⟩ k v hk)
end

/-- A row of calls from block B on; what their slices read as, and that these are not in the row. -/
structure Own (u : World) (B : Nat) (s : Sl) (Z : List CZ) : Prop where
  rows : u.ownsRow B 39 13 (.slice s.A s.n s.c) s.n (cellsL Z)
  rd : ∀ i, i < Z.length → RSee u u.heap.size (Z.getD i noCZ).2 (Z.getD i noCZ).1.r
  off : ∀ i, i < Z.length → ∀ b, (Value.slice s.A s.n s.c).ownBlock = some b → ¬ HasR (Z.getD i noCZ).2 b

section
variable {w u u' : World} {B B' g : Nat} {s : Sl} {Z : List CZ} {q : S3} {r : RL}
theorem own_below2 {e n sz : Nat} {v : Value} {xs : List Value} (h : u.ownsRow B e sz v n xs) (hb : Below u.heap.size u u') : u'.ownsRow B e sz v n xs := own_below h hb
theorem Own.many (o : Own u B s Z) : s.n = Z.length := by
  have := o.rows.1
  rw [cellsL_len] at this
  omega
theorem Own.step (o : Own u B s Z) (b : Below u.heap.size u u') : Own u' B s Z := ⟨own_below o.rows b, fun i hi => (o.rd i hi).step b, o.off⟩
theorem Own.less (o : Own u B s Z) (h : B' ≤ B) : Own u B' s Z := ⟨own_less o.rows h, o.rd, o.off⟩
theorem Own.nil (u : World) (B : Nat) : Own u B noSl [] := ⟨World.ownsRow_nil _ _ _ _, (fun i h => by cases h), (fun i h => by cases h)⟩
theorem Own.cls (o : Own u B s Z) : Cls u u.heap.size s (Z.map (·.1)) := by
  have hm := o.many
  refine ⟨by simpa using hm.symm, own_nil_cap o.rows, fun hn => ?_⟩
  rcases o.rows.2 with ⟨_, h0⟩ | ⟨g, cap, cur, hv, hB, hg, _, _, _, ht⟩
  · omega
  · have hA : s.A = some ⟨g, 0, none⟩ := by injection hv
    refine ⟨g, 0, hA, (Array.getElem?_eq_some_iff.1 hg).1, fun i hi => ⟨(Z.getD i noCZ).2, fun j v hv => ?_, ?_⟩⟩
    · have hj : j < 13 := (List.getElem?_eq_some_iff.1 hv).1
      have e : (Z.map (·.1)).getD i noCl = (Z.getD i noCZ).1 := by simp [List.getD_eq_getElem?_getD, show i < Z.length by omega]
      rw [e] at hv
      rw [Nat.zero_add, cell_of_row u g _ cur 39 (0, 0) hg]
      have h := congrArg (fun l : List Value => l[i * 13 + j]?) ht
      simp only [List.getElem?_take, show i * 13 + j < s.n * 13 by omega, if_true, Array.getElem?_toList] at h
      rw [h, cellsL_at Z i j (by omega) hj]
      simpa using hv
    · have e : (Z.map (·.1)).getD i noCl = (Z.getD i noCZ).1 := by simp [List.getD_eq_getElem?_getD, show i < Z.length by omega]
      rw [e]
      exact o.rd i (by omega)
theorem Own.lt (o : Own u B s Z) {b : Nat} (h : (Value.slice s.A s.n s.c).ownBlock = some b) : B ≤ b ∧ b < u.heap.size := o.rows.lt b h
/-- Where a call of the row lies. -/
theorem Own.at_ {k : Nat} (o : Own u B s Z) (hk : k < Z.length) : ∃ g, s.A = some ⟨g, 0, none⟩ ∧ B ≤ g ∧ g < u.heap.size ∧ Lies u g (k * 13) (cc (Z.getD k noCZ).1 (Z.getD k noCZ).2) := by
  have hm := o.many
  obtain ⟨b, off, q, e, hb, _⟩ := o.cls.at_ (k := k) (by omega)
  rcases o.rows.2 with ⟨_, h0⟩ | ⟨g, cap, cur, hv, hB, hg, _, _, _, ht⟩
  · omega
  · have hA : s.A = some ⟨g, 0, none⟩ := by injection hv
    refine ⟨g, hA, hB, (Array.getElem?_eq_some_iff.1 hg).1, fun j v hv => ?_⟩
    have hj : j < 13 := (List.getElem?_eq_some_iff.1 hv).1
    rw [cell_of_row u g _ cur 39 (0, 0) hg]
    have h := congrArg (fun l : List Value => l[k * 13 + j]?) ht
    simp only [List.getElem?_take, show k * 13 + j < s.n * 13 by omega, if_true, Array.getElem?_toList] at h
    rw [h, cellsL_at Z k j hk hj]
    simpa using hv
/-- A call comes to its result. -/
theorem Own.put {n c k : Nat} {e : Int} (o : Own u B ⟨some ⟨g, 0, none⟩, n, c⟩ Z) (hk : k < Z.length) (R : RSee u u.heap.size q r) (hq : ¬ HasR q g) :
    Own (putL (u.setCell ⟨g, k * 13 + 7, none⟩ (.int .i64 e)) g (k * 13 + 8) (rc r q).toList) B ⟨some ⟨g, 0, none⟩, n, c⟩ (Z.set k (done1 (Z.getD k noCZ) e r q)) := by
  have hz : ∀ u : World, ∀ o (vs : List Value) (i : Nat) (v : Value), (putL (u.setCell ⟨g, i, none⟩ v) g o vs).heap.size = u.heap.size := fun u o vs i v => by rw [putL_size]; simp
  refine ⟨?_, fun i hi => ?_, fun i hi b hb => ?_⟩
  · have h := own_putL (rc r q).toList (k * 13 + 8) _ _ (o.rows.stored (k * 13 + 7) (.int .i64 e)).1
    rw [cellsL_done e r q Z k hk] at h
    exact h
  · rw [hz]
    simp only [List.length_set] at hi
    by_cases hik : i = k
    · subst hik
      have e1 : (Z.set i (done1 (Z.getD i noCZ) e r q)).getD i noCZ = done1 (Z.getD i noCZ) e r q := by simp [List.getD_eq_getElem?_getD, hi]
      rw [e1]
      exact putL_see _ _ _ (R.set hq _ _) hq
    · have e1 : (Z.set k (done1 (Z.getD k noCZ) e r q)).getD i noCZ = Z.getD i noCZ := by simp [List.getD_eq_getElem?_getD, Ne.symm hik]
      rw [e1]
      have hn := o.off i hi g rfl
      exact putL_see _ _ _ ((o.rd i hi).set hn _ _) hn
  · simp only [List.length_set] at hi
    by_cases hik : i = k
    · subst hik
      have e1 : (Z.set i (done1 (Z.getD i noCZ) e r q)).getD i noCZ = done1 (Z.getD i noCZ) e r q := by simp [List.getD_eq_getElem?_getD, hi]
      rw [e1]
      simp only [Value.ownBlock, Option.some.injEq] at hb
      subst hb
      exact hq
    · have e1 : (Z.set k (done1 (Z.getD k noCZ) e r q)).getD i noCZ = Z.getD i noCZ := by simp [List.getD_eq_getElem?_getD, Ne.symm hik]
      rw [e1]
      exact o.off i hi b hb
theorem props_same {h : Sl} {l : List Pr} (p : Props u B h l) (hc : ∀ b, InB h b → u'.heap[b]? = u.heap[b]?) : Props u' B h l :=
  ⟨⟨p.1.1, fun hn => by
    obtain ⟨b, off, e, hl, hx⟩ := p.1.2 hn
    refine ⟨b, off, e, hl, fun j hj => ?_⟩
    rw [← hx j hj]
    simp [World.cell?, hc b ⟨hn, _, e, rfl⟩]⟩, p.2⟩
theorem RSee.same (p : RSee u B q r) (hc : ∀ b, HasR q b → u'.heap[b]? = u.heap[b]?) : RSee u' B q r :=
  ⟨props_same p.1 fun b hb => hc b (.inl hb), props_same p.2.1 fun b hb => hc b (.inr (.inl hb)), props_same p.2.2 fun b hb => hc b (.inr (.inr hb))⟩
theorem RSee.grown {row : Option Nat} (p : RSee u u.heap.size q r) (hg : u.grownBy u' row) (hq : ∀ b, row = some b → ¬ HasR q b) : RSee u' u'.heap.size q r :=
  (p.same fun b hb => hg.block b (hasR_lt p hb) fun e => hq b e.symm hb).more hg.size
/-- One call more, behind the others. -/
theorem Own.app {x4 : World} {n c c4 H : Nat} {A : Option Addr} {cl : Cl} (o : Own u B ⟨A, n, c⟩ Z) (R : RSee u u.heap.size q cl.r) (hq : ∀ b, (Value.slice A n c).ownBlock = some b → ¬ HasR q b) (hqB : ∀ b, HasR q b → b < u.heap.size)
    (O4 : x4.ownsRow B 39 13 (.slice (some ⟨g, 0, none⟩) (n + 1) c4) (n + 1) (cellsL Z ++ (cc cl q).toList)) (G4 : u.grownBy x4 (Value.slice A n c).ownBlock) (hat : (Value.slice A n c).ownBlock = some g ∨ g = H) (hH : u.heap.size ≤ H) :
    Own x4 B ⟨some ⟨g, 0, none⟩, n + 1, c4⟩ (Z ++ [(cl, q)]) := by
  have hm := o.many
  dsimp only at hm
  have old : ∀ i, i < Z.length → (Z ++ [(cl, q)]).getD i noCZ = Z.getD i noCZ := fun i hi => by simp [List.getD_eq_getElem?_getD, List.getElem?_append_left hi]
  have last : (Z ++ [(cl, q)]).getD Z.length noCZ = (cl, q) := by simp [List.getD_eq_getElem?_getD]
  refine ⟨by rw [cellsL_snoc]; exact O4, fun i hi => ?_, fun i hi b hb => ?_⟩
  · by_cases h : i < Z.length
    · rw [old i h]
      exact (o.rd i h).grown G4 (o.off i h)
    · obtain rfl : i = Z.length := by simp at hi; omega
      rw [last]
      exact R.grown G4 hq
  · simp only [Value.ownBlock, Option.some.injEq] at hb
    subst hb
    by_cases h : i < Z.length
    · rw [old i h]
      rcases hat with h1 | h1
      · exact o.off i h _ h1
      · intro h2
        have := hasR_lt (o.rd i h) h2
        omega
    · obtain rfl : i = Z.length := by simp at hi; omega
      rw [last]
      rcases hat with h1 | h1
      · exact hq _ h1
      · intro h2
        have := hqB _ h2
        omega
/-- Another block is written that holds no cells of these. -/
theorem Own.grown {row : Option Nat} (o : Own u B s Z) (hg : u.grownBy u' row) (h1 : ∀ b, row = some b → (Value.slice s.A s.n s.c).ownBlock ≠ some b) (h2 : ∀ i, i < Z.length → ∀ b, row = some b → ¬ HasR (Z.getD i noCZ).2 b) : Own u' B s Z := by
  refine ⟨⟨o.rows.1, ?_⟩, fun i hi => (o.rd i hi).grown hg (h2 i hi), o.off⟩
  rcases o.rows.2 with h0 | ⟨k, cap, cur, hv, hB, hk, r2⟩
  · exact .inl h0
  · refine .inr ⟨k, cap, cur, hv, hB, (hg.block k (Array.getElem?_eq_some_iff.1 hk).1 fun e => ?_).trans hk, r2⟩
    exact h1 k e.symm (by rw [hv]; rfl)
end
end Go.Proofs.Ytfefkdedgceomaa
