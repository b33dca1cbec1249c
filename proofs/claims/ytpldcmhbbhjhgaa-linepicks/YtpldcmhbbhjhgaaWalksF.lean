/- What Ops tells, for every list of numbers: the loop over fives. -/
import Derived.Test.YtpldcmhbbhjhgaaWalksD
namespace Go.Proofs.Ytpldcmhbbhjhgaa
open Go.RowKit Go.Shelf
set_option linter.unusedVariables false
attribute [local go_sem] Oper.semAt_some

abbrev five5 (zs : List Int) (j : Nat) : List Int := pl5 (zs.getD (j * 5) 0) (zs.getD (j * 5 + 1) 0) (zs.getD (j * 5 + 2) 0) (zs.getD (j * 5 + 3) 0) (zs.getD (j * 5 + 4) 0)
/-- What has come of the fives so far. -/
def got {n : Nat} (zs : List Int) (pre : List (Ix n)) : List Int := pre.flatMap fun x => five5 zs x.1
theorem got_snoc {n : Nat} (zs : List Int) (pre : List (Ix n)) (x : Ix n) : got zs (pre ++ [x]) = got zs pre ++ five5 zs x.1 := by simp [got]
theorem got_range (zs : List Int) : ∀ k, k * 5 ≤ zs.length → (List.range k).flatMap (five5 zs) = flat (zs.take (k * 5))
  | 0, _ => rfl
  | k + 1, h => by rw [List.range_succ, List.flatMap_append, got_range zs k (by omega), flat_succ zs k (by omega)]; simp only [List.flatMap_cons, List.flatMap_nil, List.append_nil]
theorem got_all {n : Nat} (zs : List Int) (hz : zs.length = n) (ys : List (Ix n)) (h : ys.map (·.1) = List.range (n / 5)) : got zs ys = flat zs := by
  have e : got zs ys = (ys.map (·.1)).flatMap (five5 zs) := by simp [got]
  rw [e, h, got_range zs (n / 5) (by omega), flat_end zs (n / 5) (by omega) (by omega)]
theorem got_len {n : Nat} (zs : List Int) : ∀ pre : List (Ix n), ∃ m, (got zs pre).length = m * 5 ∧ m ≤ pre.length
  | [] => ⟨0, rfl, by simp⟩
  | x :: r => by
    obtain ⟨m, hm, hle⟩ := got_len zs r
    have e : got zs (x :: r) = five5 zs x.1 ++ got zs r := by simp [got]
    rw [e, List.length_append]
    rcases pl5_len (zs.getD (x.1 * 5) 0) (zs.getD (x.1 * 5 + 1) 0) (zs.getD (x.1 * 5 + 2) 0) (zs.getD (x.1 * 5 + 3) 0) (zs.getD (x.1 * 5 + 4) 0) with h | h
    · exact ⟨m, by rw [h]; omega, by simp; omega⟩
    · exact ⟨m + 1, by rw [h]; omega, by simp; omega⟩

theorem below_keeps {W u : World} (h : Below W.heap.size W u) : KeepsOthers W u := ⟨h.size, fun k o hk _ => (h.block k (Array.getElem?_eq_some_iff.1 hk).1).trans hk⟩
theorem below_boxed {W u : World} {B : Nat} {t : TypeId} {v : Value} (h : Boxed W B t v) (hb : Below W.heap.size W u) : Boxed u B t v := (hb.block B h.lt).trans h

theorem got_no {n : Nat} {zs : List Int} {pre : List (Ix n)} {x : Ix n} {p q r s t : Int} (hp : Pl (zs.getD (x.1 * 5) 0) (zs.getD (x.1 * 5 + 1) 0) (zs.getD (x.1 * 5 + 2) 0) (zs.getD (x.1 * 5 + 3) 0) (zs.getD (x.1 * 5 + 4) 0) p q r s t false) : got zs (pre ++ [x]) = got zs pre := by
  rw [got_snoc]
  rcases hp with ⟨e, _⟩ | ⟨_, e, _⟩
  · cases e
  · rw [show five5 zs x.1 = [] from e, List.append_nil]
theorem got_yes {n : Nat} {zs : List Int} {pre : List (Ix n)} {x : Ix n} {p q r s t : Int} (hp : Pl (zs.getD (x.1 * 5) 0) (zs.getD (x.1 * 5 + 1) 0) (zs.getD (x.1 * 5 + 2) 0) (zs.getD (x.1 * 5 + 3) 0) (zs.getD (x.1 * 5 + 4) 0) p q r s t true) : got zs (pre ++ [x]) = got zs pre ++ [p, q, r, s, t] := by
  rw [got_snoc]
  rcases hp with ⟨_, e⟩ | ⟨e, _⟩
  · rw [show five5 zs x.1 = _ from e]
  · cases e

theorem own_start {n : Nat} (W : World) (B : Nat) (zs : List Int) : W.ownsRow B 23 5 (.slice none 0 0) ((got (n := n) zs []).length / 5) (ints (got (n := n) zs [])) := by
  simpa [got] using World.ownsRow_nil W B 23 5

/-- The list so far, in its box. -/
abbrev Holds (w : World) (zs : List Int) {n : Nat} (pre : List (Ix n)) (W : World) : Prop :=
  (∃ v, Boxed W w.heap.size 30 v ∧ W.ownsRow w.heap.size 23 5 v ((got zs pre).length / 5) (ints (got zs pre)) ∧ True) ∧ Below w.heap.size w W

set_option maxRecDepth 100000 in
set_option maxHeartbeats 4000000 in
theorem ops_at (b off n c : Nat) (A : Option Addr) (zs : List Int) (w : World) (hc : n ≤ c) (hn : n ≤ 65536) (hz : Hid (zs.length = n)) (hA : Hid (5 ≤ n → A = some ⟨b, off, none⟩)) (hF : Hid (∀ j, j * 5 + 5 ≤ n → b < w.heap.size ∧ Five w b (off + j * 5) zs j)) :
    Calls Try.prog 15 #[.slice A n c] w (Told w 23 5 (flat zs)) := by
  obtain ⟨i0, hi0, hz0, hz1, hz2⟩ := info_parts Try.info23
  have H1 := hide hi0
  have H2 := hide hz0
  have H3 := hide hz1
  have H4 := hide hz2
  clear hi0 hz0 hz1 hz2
  have hro : Fence.wide.round = none := rfl
  refine (callsIn_wide (n := 5)).1 ?_
  refine callsIn_of_wp_marks Try.func15 rfl trivial ?_ hro
  simp only [Try.ntmps15, List.size_toArray, List.length_cons, List.length_nil, Nat.reduceAdd, Nat.reduceSub, Array.replicate_succ, Array.replicate_zero, List.push_toArray, List.append_toArray, List.nil_append, List.cons_append]
  gi_wp2_with (refine ⟨trivial, ?_⟩; gi_at_call 22; refine (fives_in Fence.wide _ trivial hro _ _ _ _).mono ?_; rintro e w' ⟨rfl, rfl⟩)
  have bO := Boxed.new w 30 (.slice none 0 0)
  have bN := Boxed.new (w.alloc (.cells #[.slice none 0 0] 30)) 24 (.slice A n c)
  rw [World.size_alloc] at bN
  have hB0 : Below w.heap.size w ((w.alloc (.cells #[.slice none 0 0] 30)).alloc (.cells #[.slice A n c] 24)) := ((Below.refl _ w).alloc (Nat.le_refl _) _).alloc (by simp) _
  refine wpIn_rangeFunc_ownG (n := 5) hro (by omega) (gf := 23) (lb := #[.pointer (some ⟨w.heap.size + 1, 0, none⟩)]) rfl trivial (enters_of Try.func23 (by kernel_rfl) rfl)
    (fives_stops Fence.wide _ trivial hro (by omega) (w.heap.size + 1) w.heap.size b off n c A hc hn hA.out _ (by simp) bN.cell) belowK_t (belowK_b (by simp; omega)) (Below.refl _ _) (fun _ => rfl)
    (Holds w zs)
    (fun _ _ _ => False)
    (OwnFrom.and (Own.from (holdsRow_own w.heap.size w.heap.size 30 23 5 (fun pre => (got zs pre).length / 5) (fun pre => ints (got zs pre)) (fun pre v => True)) _) (ownFrom_below (Nat.le_refl _) (by simp; omega)))
    (fun _ _ _ _ _ hs _ _ => hs)
    ⟨⟨_, bO.alloc _, own_start _ _ _, trivial⟩, hB0⟩
    (fun x => { tmps := #[.slice A n c, undef, .slice none 0 0, .pointer (some ⟨w.heap.size, 0, none⟩), fiveAt b off c x.1, undef, undef, .slice A n c, .func (.func 23) #[] #[.pointer (some ⟨w.heap.size + 1, 0, none⟩)], fiveAt b off c x.1, undef, undef, undef, undef, undef, undef, undef, undef, undef, undef, undef], defers := [] }) ?assign ?body ?done ?stop
  case assign =>
    intro l x W K hK
    gi_wp2
    exact hK
  case body =>
    rintro l pre x W ⟨⟨v, hv, hrow, -⟩, hB⟩ hlt
    obtain ⟨hbw, e0, e1, e2, e3, e4⟩ := hF.out x.1 x.2
    have hcl : ∀ i, W.cell? ⟨b, i, none⟩ = w.cell? ⟨b, i, none⟩ := fun i => hB.cell (p := ⟨b, i, none⟩) hbw
    obtain ⟨p, q, r, s, t, ok, hp⟩ := Pl.some_ (zs.getD (x.1 * 5) 0) (zs.getD (x.1 * 5 + 1) 0) (zs.getD (x.1 * 5 + 2) 0) (zs.getD (x.1 * 5 + 3) 0) (zs.getD (x.1 * 5 + 4) 0)
    have HC : Hid (Calls Try.prog 12 #[fiveAt b off c x.1] W (Drew (.tuple #[O5 p q r s t, .bool ok]) W)) :=
      op_yes b (off + x.1 * 5) (c - x.1 * 5) _ _ _ _ _ p q r s t ok W (by have := hB.size; omega) ((hcl _).trans e0) ((hcl _).trans e1) ((hcl _).trans e2) ((hcl _).trans e3) ((hcl _).trans e4) (hide hp)
    have HP := hide hp
    have HR := hide hrow
    have HV := hide hv
    have HB := hide hB
    clear hp hrow hv hB hcl e0 e1 e2 e3 e4
    cases ok
    · gi_wp2_with (refine ⟨trivial, ?_⟩; gi_at_call 12; refine (CallsIn.inRound l (callsIn_wide.2 HC.out)).mono ?_; rintro e u1 ⟨rfl, hu1⟩)
      exact ⟨((below_keeps hu1).trans (KeepsOthers.alloc _ _)).from _, (hu1.mono HB.out.size).alloc (Nat.le_trans HB.out.size hu1.size) _,
        ⟨v, (below_boxed HV.out hu1).alloc _, by rw [got_no HP.out]; exact (own_below HR.out hu1).alloc _, trivial⟩, (HB.out.trans (hu1.mono HB.out.size)).alloc (Nat.le_trans HB.out.size hu1.size) _⟩
    · obtain ⟨m, hm, hml⟩ := got_len zs pre
      have hml' : m ≤ 65536 := by omega
      have HM : Hid ((got zs pre).length / 5 = m ∧ (got zs (pre ++ [x])).length / 5 = m + 1) := by
        refine ⟨by omega, ?_⟩
        rw [got_yes HP.out, List.length_append, hm]
        simp
      have HR' : Hid (W.ownsRow w.heap.size 23 5 v m (ints (got zs pre))) := by
        have := HR.out
        rwa [HM.out.1] at this
      clear hm hml
      gi_wp2_with (first
        | (refine ⟨trivial, ?_⟩; gi_at_call 12; refine (CallsIn.inRound l (callsIn_wide.2 HC.out)).mono ?_; rintro e u1 ⟨rfl, hu1⟩; have HU := hide hu1; have HVu := hide (below_boxed HV.out hu1); have HRu := hide (own_below HR'.out hu1); have hcu := HVu.out.cell; have hltu := HVu.out.lt; clear hu1)
        | (gi_at_builtin; refine wpListIn_append_own _ rfl _ _ 30 rfl w.heap.size 23 i0 (.agg zeros5) 5 40 Try.underlying30 H1.out H2.out H3.out H4.out rfl (by decide) _ m _ rfl ((HRu.out.alloc _).alloc _) ⟨u1.heap.size + 1, 0, none⟩ 1 1 [.int .i64 p, .int .i64 q, .int .i64 r, .int .i64 s, .int .i64 t] rfl rfl (cells_new _ _ _ _ (by simp)) (five_cells _ _ _ _ _) (by simp only [maxLen]; omega) (by omega) (by have := HB.out.size; have := HU.out.size; simp; omega) ?_; intro v' w1 hown' hgrow _; obtain ⟨g', cap', rfl⟩ := ownsRow_succ hown'; obtain ⟨hv1, hv2, hr2, hk2, hb2⟩ := (HVu.out.alloc _).appended (by decide) (HRu.out.alloc _) (by have := HB.out.size; have := HU.out.size; simp; omega) (Nat.le_refl _) hown' hgrow; clear hcu; have hc1 := hv1.cell; have hf1 := hv1.frozen))
      exact ⟨(((below_keeps HU.out).trans (KeepsOthers.alloc _ _)).trans hk2).from _, ((HU.out.mono HB.out.size).alloc (Nat.le_trans HB.out.size HU.out.size) _).trans hb2,
        ⟨_, hv2, by rw [HM.out.2, got_yes HP.out]; simpa using hr2, trivial⟩, ((HB.out.trans (HU.out.mono HB.out.size)).alloc (Nat.le_trans HB.out.size HU.out.size) _).trans hb2⟩
  case done =>
    rintro D ys W hD hS ⟨⟨v, hv, hrow, -⟩, hB⟩ hK
    rw [got_all zs hz.out ys hS] at hrow
    obtain ⟨m, hm⟩ : ∃ m, (flat zs).length / 5 = m := ⟨_, rfl⟩
    rw [hm] at hrow
    obtain ⟨A', c', rfl, hA'⟩ := own_form hrow
    have hcc := hv.cell
    clear hm hS
    gi_wp2
    refine ⟨by simp, .inl ⟨_, _, rfl, run_takeDeferred hK, ?_⟩⟩
    exact ⟨_, results_tmp rfl _ _ _, A', _, c', rfl, hA', ownsRow_putObj hrow _ hK rfl, hB.trans (belowK_b (w := w) (Nat.le_refl _) W D _ _ (by simp at hD; omega) hK rfl rfl)⟩
  case stop =>
    rintro D c pre W _ _ h _
    exact h.elim

theorem ops_any (A : Option Addr) (n c B : Nat) (zs : List Int) (w : World) (h : Nums w B 1 A n zs) (hc : n ≤ c) (hB : B ≤ w.heap.size) (hn : n ≤ 65536) :
    Calls Try.prog 15 #[.slice A n c] w (Told w 23 5 (flat zs)) := by
  have hl : zs.length = n := by have := h.1; omega
  rcases Nat.eq_zero_or_pos n with h0 | h0
  · exact ops_at 0 0 n c A zs w hc hn hl (fun h => absurd h (by omega)) (fun j hj => absurd hj (by omega))
  · obtain ⟨b, off, rfl, hlt, hcell⟩ := h.2 h0
    refine ops_at b off n c _ zs w hc hn hl (fun _ => rfl) (fun j hj => ⟨by omega, ?_⟩)
    exact ⟨hcell _ (by omega), hcell (j * 5 + 1) (by omega), hcell (j * 5 + 2) (by omega), hcell (j * 5 + 3) (by omega), hcell (j * 5 + 4) (by omega)⟩
end Go.Proofs.Ytpldcmhbbhjhgaa
