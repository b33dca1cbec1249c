/- What comes of a graph that may be may be, as long as there are records for it; numbers never go back. (The statement tendrillaw10.GraphStays.) -/
import Derived.Test.YtiiadkjiofkonaaRows
import Derived.Test.YtiiadkjiofkonaaSMath
import Derived.Test.YtiiadkjiofkonaaRDel
import Derived.Test.YtiiadkjiofkonaaLMath
import Derived.Test.YtiiadkjiofkonaaGMay
import Derived.Test.YtiiadkjiofkonaaGLive
import Derived.Test.YtiiadkjiofkonaaGFuse
import Derived.Test.YtiiadkjiofkonaaFrame
import Derived.WalkKit
import Derived.Below
import Derived.Deep.QuietTactic
import Derived.BigQuiet
import Derived.Deep.DeepCutAuto
import Derived.Deep.AppendLies
import Derived.Shelf.Abstract
namespace Go.Proofs.Ytiiadkjiofkonaa.graphStays
open Go.Joins Go.ChangeShapes Go.WideShapes Go.ChangeAt Go.RowKit Go.Deep
set_option linter.unusedVariables false

open Go.Proofs.Ytiiadkjiofkonaa
theorem prs_any {G : GL} {c0 c1 c2 c3 c4 a : Int} (o : Okg c0 c1 c2 c3 c4 G) : Rise (fun z : Pr => z.1) (0, 0) (prsAt G (posN G a)) := by
  by_cases h : posN G a < G.N.length
  · exact o.pr _ h
  · intro i hi
    have e : prsAt G (posN G a) = [] := by unfold prsAt; rw [List.getD_eq_getElem?_getD, List.getElem?_eq_none (by omega)]; rfl
    rw [e] at hi
    simp at hi
theorem prs_small {G : GL} (h : Small G) (i : Nat) : (prsAt G i).length ≤ 300 := by
  by_cases hi : i < G.N.length
  · exact h.p i hi
  · have : G.N[i]? = none := List.getElem?_eq_none (by omega)
    simp [prsAt, List.getD_eq_getElem?_getD, this]
theorem prs_few {G : GL} (h : FewG G) (i : Nat) : (prsAt G i).length ≤ 100 := by
  by_cases hi : i < G.N.length
  · exact h.1 i hi
  · have : G.N[i]? = none := List.getElem?_eq_none (by omega)
    simp [prsAt, List.getD_eq_getElem?_getD, this]
/-- How much there is at the most. -/
structure FitM (G : GL) : Prop where
  n : G.N.length ≤ 1000
  e : G.E.length ≤ 1000
  p : ∀ z ∈ G.N, z.2.length ≤ 1000
theorem FitM.big {G : GL} (h : FitM G) : Hid (∀ j, j < G.N.length → (G.N.getD j (0, [])).2.length ≤ 17592186044416) := fun j hj => by
  have := h.p (G.N.getD j (0, [])) (by rw [getD_get hj]; exact List.getElem_mem hj)
  omega
theorem fitm_no : FitM noG := ⟨by simp [noG], by simp [noG], fun z hz => absurd hz (by simp [noG])⟩
structure Fit3 (G : GL) : Prop where
  n : G.N.length ≤ 300
  e : G.E.length ≤ 300
  p : ∀ z ∈ G.N, z.2.length ≤ 300
theorem fitm_small {G : GL} (h : Small G) : FitM G ∧ Fit3 G := by
  have h3 : ∀ z ∈ G.N, z.2.length ≤ 300 := fun z hz => by
    obtain ⟨i, hi, rfl⟩ := List.getElem_of_mem hz
    have := h.p i hi
    rwa [getD_get hi] at this
  exact ⟨⟨by have := h.n; omega, by have := h.e; omega, fun z hz => by have := h3 z hz; omega⟩, ⟨h.n, h.e, h3⟩⟩
theorem fitm_add {G R : GL} {c i e : Int} (h : FitM G ∧ Fit3 G) (hr : addR c G = (i, e, R)) : FitM R := by
  unfold addR at hr
  split at hr
  · simp only [Prod.mk.injEq] at hr; rw [← hr.2.2]; exact fitm_no
  · simp only [Prod.mk.injEq] at hr; rw [← hr.2.2]
    refine ⟨by simp [addG]; have := h.2.n; omega, h.1.e, fun z hz => ?_⟩
    rcases List.mem_append.1 hz with h1 | h1
    · exact h.1.p z h1
    · simp only [List.mem_singleton] at h1; rw [h1]; simp
theorem fitm_link {G R : GL} {c a b i e : Int} (h : FitM G ∧ Fit3 G) (hr : linkR c G a b = (i, e, R)) : FitM R := by
  unfold linkR at hr
  split at hr
  · simp only [Prod.mk.injEq] at hr; rw [← hr.2.2]; exact fitm_no
  · split at hr
    · simp only [Prod.mk.injEq] at hr; rw [← hr.2.2]; exact fitm_no
    · simp only [Prod.mk.injEq] at hr; rw [← hr.2.2]
      exact ⟨h.1.n, by simp [linkG]; have := h.2.e; omega, h.1.p⟩
theorem fitm_cut {G R : GL} {a e : Int} (h : FitM G ∧ Fit3 G) (hr : cutR G a = (e, R)) : FitM R := by
  unfold cutR at hr
  split at hr
  · simp only [Prod.mk.injEq] at hr; rw [← hr.2]; exact fitm_no
  · simp only [Prod.mk.injEq] at hr; rw [← hr.2]
    exact ⟨h.1.n, by have := List.length_filter_le (fun d : Ed => d.1 != a) G.E; have := h.1.e; simp only [cutG]; omega, h.1.p⟩
theorem fitm_drop {G R : GL} {a e : Int} (h : FitM G ∧ Fit3 G) (hr : dropR G a = (e, R)) : FitM R := by
  unfold dropR at hr
  split at hr
  · simp only [Prod.mk.injEq] at hr; rw [← hr.2]; exact fitm_no
  · simp only [Prod.mk.injEq] at hr; rw [← hr.2]
    exact ⟨by have := List.length_filter_le (fun d : Nd => d.1 != a) G.N; have := h.1.n; simp only [dropG]; omega, by have := List.length_filter_le (fun d : Ed => d.2.1 != a && d.2.2 != a) G.E; have := h.1.e; simp only [dropG]; omega, fun z hz => h.1.p z (List.mem_filter.1 hz).1⟩
theorem fitm_fuse {G R : GL} {a b e : Int} {M : List Pr} (h : FitM G ∧ Fit3 G) (hM : M.length ≤ 1000) (hr : fuseR G a b M = (e, R)) : FitM R := by
  unfold fuseR at hr
  split at hr
  · simp only [Prod.mk.injEq] at hr; rw [← hr.2]; exact fitm_no
  · split at hr
    · simp only [Prod.mk.injEq] at hr; rw [← hr.2]; exact fitm_no
    · simp only [Prod.mk.injEq] at hr; rw [← hr.2]
      refine ⟨by have h1 := List.length_filter_le (fun d : Nd => d.1 != b) (setN G (posN G a) M).N; have h2 := setN_len G (posN G a) M; have := h.1.n; simp only [fuseG]; omega, by simp only [fuseG, List.length_map]; exact h.1.e, fun z hz => ?_⟩
      have hz' := (List.mem_filter.1 hz).1
      simp only [setN] at hz'
      rcases List.mem_or_eq_of_mem_set hz' with h1 | h1
      · exact h.1.p z h1
      · rw [h1]; exact hM

theorem fitm_setN {G : GL} {i : Nat} {l : List Pr} (h : FitM G ∧ Fit3 G) (hl : l.length ≤ 1000) : FitM (setN G i l) := by
  refine ⟨by rw [setN_len]; exact h.1.n, h.1.e, fun z hz => ?_⟩
  rcases List.mem_or_eq_of_mem_set hz with h1 | h1
  · exact h.1.p z h1
  · rw [h1]; exact hl
theorem fit3_prs {G : GL} (h : Fit3 G) (i : Nat) : (prsAt G i).length ≤ 300 := by
  by_cases hi : i < G.N.length
  · have := h.p (G.N.getD i (0, [])) (by rw [getD_get hi]; exact List.getElem_mem hi)
    exact this
  · have : G.N[i]? = none := List.getElem?_eq_none (by omega)
    simp [prsAt, List.getD_eq_getElem?_getD, this]
theorem fitm_set {G R : GL} {a k v e : Int} (h : FitM G ∧ Fit3 G) (hr : setR G a k v = (e, R)) : FitM R := by
  unfold setR at hr
  split at hr
  · simp only [Prod.mk.injEq] at hr; rw [← hr.2]; exact fitm_no
  · simp only [Prod.mk.injEq] at hr; rw [← hr.2]
    refine fitm_setN h ?_
    have h1 := fit3_prs h.2 (posN G a)
    unfold putP
    have h2 := List.length_filter_le (fun p : Pr => decide (p.1 < k)) (prsAt G (posN G a))
    have h3 := List.length_filter_le (fun p : Pr => decide (k < p.1)) (prsAt G (posN G a))
    simp only [List.length_append, List.length_cons, List.length_nil]
    omega
theorem fitm_del {G R : GL} {a k e : Int} (h : FitM G ∧ Fit3 G) (hr : delR G a k = (e, R)) : FitM R := by
  unfold delR at hr
  split at hr
  · simp only [Prod.mk.injEq] at hr; rw [← hr.2]; exact fitm_no
  · simp only [Prod.mk.injEq] at hr; rw [← hr.2]
    refine fitm_setN h ?_
    have h1 := fit3_prs h.2 (posN G a)
    have h2 := List.length_filter_le (fun q : Pr => q.1 != k) (prsAt G (posN G a))
    omega
theorem FitM.big1000 {G : GL} (h : FitM G) : ∀ j, j < G.N.length → (G.N.getD j (0, [])).2.length ≤ 1000 := fun j hj => h.p (G.N.getD j (0, [])) (by rw [getD_get hj]; exact List.getElem_mem hj)
theorem propsN_le1000 {N : List Nd} (h : ∀ j, j < N.length → (N.getD j (0, [])).2.length ≤ 1000) : ∀ k, k ≤ N.length → propsN N k ≤ 1000 * k
  | 0, _ => by simp [propsN]
  | k + 1, hk => by
    have h1 := propsN_le1000 h k (by omega)
    have h2 := h k (by omega)
    rw [propsN_succ (show k < N.length by omega)]
    omega
theorem propsN_get {N : List Nd} : ∀ k, k ≤ N.length → ∀ j, j < k → (N.getD j (0, [])).2.length ≤ propsN N k
  | 0, _, j, hj => by omega
  | k + 1, hk, j, hj => by
    rw [propsN_succ (show k < N.length by omega)]
    by_cases e : j = k
    · subst e; omega
    · have := propsN_get (N := N) k (by omega) j (by omega); omega
theorem few_of {R : GL} (h1 : R.N.length ≤ 64) (h2 : R.E.length ≤ 64) (h3 : propsN R.N R.N.length ≤ 64) : FewG R := ⟨fun j hj => by have := propsN_get _ (Nat.le_refl _) j hj; omega, by omega, by omega⟩
theorem one_list2 {X : List Pr} (hd : (X.map fun z : Pr => z.1).Nodup) : ∃ M : List Pr, M.Perm X ∧ (M.Pairwise fun p q => ¬ q.1 < p.1) ∧ ∀ l : List Pr, l.Perm X → (l.Pairwise fun p q => ¬ q.1 < p.1) → l = M := by
  obtain ⟨M, h1, h2⟩ := one_list hd
  have h3 := List.mergeSort_perm X (fun p q : Pr => decide (p.1 ≤ q.1))
  have h4 : (X.mergeSort fun p q : Pr => decide (p.1 ≤ q.1)).Pairwise fun p q => ¬ q.1 < p.1 := by
    have := List.pairwise_mergeSort (le := fun p q : Pr => decide (p.1 ≤ q.1)) (fun a b c h1 h2 => by simp only [decide_eq_true_iff] at *; omega) (fun a b => by simp only [Bool.or_eq_true, decide_eq_true_iff]; omega) X
    exact this.imp fun h => by simp only [decide_eq_true_iff] at h; omega
  have h5 := h2 _ h3 h4
  exact ⟨M, h1, by rw [← h5]; exact h4, h2⟩
def cellsG (vs : List Gv) : List Value := vs.flatMap fun v => v.cs.toList
theorem infoG : (Try.prog.info? 27).map (fun i => (i.zero, i.size, i.bytes)) = some (some (.agg #[.slice none 0 0, .slice none 0 0, .int .i64 0, .int .i64 0]), 4, 64) := by kernel_rfl
theorem four_one (A : Option Addr) (n c : Nat) (A' : Option Addr) (n' c' : Nat) (x y : Int) : ∀ u ∈ ([.slice A n c, .slice A' n' c', .int .i64 x, .int .i64 y] : List Value), u.oneCell' = true := by
  intro u hu
  simp at hu
  rcases hu with rfl | rfl | rfl | rfl <;> rfl
theorem cellsG_more {u : World} {B e s m : Nat} {h : Value} {vs : List Gv} {v : Gv} (r : u.ownsRow B e s h m (cellsG vs ++ [.slice v.N.A v.N.n v.N.c, .slice v.E.A v.E.n v.E.c, .int .i64 v.x, .int .i64 v.y])) : u.ownsRow B e s h m (cellsG (vs ++ [v])) := by
  have e1 : cellsG (vs ++ [v]) = cellsG vs ++ [.slice v.N.A v.N.n v.N.c, .slice v.E.A v.E.n v.E.c, .int .i64 v.x, .int .i64 v.y] := by simp [cellsG]
  rw [e1]
  exact r
theorem cellsG_at : ∀ (vs : List Gv) (k j : Nat), k < vs.length → j < 4 → (cellsG vs)[k * 4 + j]? = (vs.getD k noGv).cs[j]?
  | [], k, j, h, _ => by simp at h
  | v :: vs, 0, j, _, hj => by
    have : cellsG (v :: vs) = v.cs.toList ++ cellsG vs := by simp [cellsG]
    rw [this, List.getElem?_append_left (by simp; omega)]
    simp
  | v :: vs, k + 1, j, h, hj => by
    have h1 := cellsG_at vs k j (by simpa using h) hj
    have : cellsG (v :: vs) = v.cs.toList ++ cellsG vs := by simp [cellsG]
    rw [this, List.getElem?_append_right (by simp; omega)]
    have e : (k + 1) * 4 + j - v.cs.toList.length = k * 4 + j := by simp; omega
    rw [e, h1]
    simp
theorem cellsG_len (vs : List Gv) : (cellsG vs).length = vs.length * 4 := by
  induction vs with
  | nil => rfl
  | cons v vs ih => simp [cellsG] at ih ⊢; omega
theorem row_at {u : World} {B m c k : Nat} {A : Option Addr} {vs : List Gv} (h : u.ownsRow B 27 4 (.slice A m c) m (cellsG vs)) (hk : k < m) : ∃ g, A = some ⟨g, 0, none⟩ ∧ g < u.heap.size ∧ k < vs.length ∧ ∀ j, j < 4 → u.cell? ⟨g, k * 4 + j, none⟩ = (vs.getD k noGv).cs[j]? := by
  have hl : (cellsG vs).length = m * 4 := h.1
  rw [cellsG_len] at hl
  obtain ⟨g, cap, hv, hb, hlt⟩ := h.form (by omega)
  injection hv with h1
  subst h1
  refine ⟨g, rfl, hlt, by omega, fun j hj => ?_⟩
  rw [← cellsG_at vs k j (by omega) hj]
  rcases h.2 with ⟨h1, _⟩ | ⟨k', cap', cur, hv', _, hk', _, _, _, htk⟩
  · cases h1
  · injection hv' with e1
    simp only [Option.some.injEq, Addr.mk.injEq, and_true] at e1
    subst e1
    rw [cell_of_row u g (k * 4 + j) cur 27 (0, 0) hk', ← htk, List.getElem?_take, if_pos (by omega)]
    simp
theorem own_grow27 {U w2 : World} {B B' n c : Nat} {A : Option Addr} {xs : List Value} {ob : Obj} {v : Gv} {G : GL} {L : List (Int × Sl)} (o : Own U B v G L) (R : U.ownsRow B' 27 4 (.slice A n c) n xs) (hg : (U.alloc ob).grownBy w2 (Value.slice A n c).ownBlock) : Own w2 B v G L :=
  ⟨grow_row R hg o.rows (by decide), o.len, o.ids, fun i hi => grow_row R hg (o.prs i hi) (by decide), grow_row R hg o.edg (by decide), o.x, o.y⟩
/-- Graphs of the call's own, each of which may be. -/
def Bag (u : World) (B : Nat) (vs : List Gv) (c3 c4 : Int) (G : GL) : Prop := ∀ v ∈ vs, ∃ R L, Own u B v R L ∧ Good c3 c4 G R ∧ FitM R
section
variable {u u' : World} {B : Nat} {vs : List Gv} {c3 c4 : Int} {G : GL}
theorem Bag.step (h : Bag u B vs c3 c4 G) (b : Below u.heap.size u u') : Bag u' B vs c3 c4 G := fun v hv => by
  obtain ⟨R, L, h1, h2, h3⟩ := h v hv
  exact ⟨R, L, h1.step b, h2, h3⟩
theorem Bag.grow {B' n c : Nat} {A : Option Addr} {xs : List Value} {ob : Obj} (h : Bag u B vs c3 c4 G) (R : u.ownsRow B' 27 4 (.slice A n c) n xs) (hg : (u.alloc ob).grownBy u' (Value.slice A n c).ownBlock) : Bag u' B vs c3 c4 G := fun v hv => by
  obtain ⟨R1, L, h1, h2, h3⟩ := h v hv
  exact ⟨R1, L, own_grow27 h1 R hg, h2, h3⟩
theorem Bag.snoc {v : Gv} {R : GL} {L : List (Int × Sl)} (h : Bag u B vs c3 c4 G) (o : Own u B v R L) (g : Good c3 c4 G R) (f : FitM R) : Bag u B (vs ++ [v]) c3 c4 G := fun x hx => by
  rcases List.mem_append.1 hx with h1 | h1
  · exact h x h1
  · simp only [List.mem_singleton] at h1
    rw [h1]
    exact ⟨R, L, o, g, f⟩
theorem Bag.cell {g t : Nat} {cs : Array Value} (h : Bag u B vs c3 c4 G) (hg : u.heap[g]? = some (.cells cs t (0, 0))) (h1 : t ≠ 58) (h2 : t ≠ 54) (h3 : t ≠ 80) (i : Nat) (x : Value) : Bag (u.setCell ⟨g, i, none⟩ x) B vs c3 c4 G := fun v hv => by
  obtain ⟨R, L, o, g1, f⟩ := h v hv
  exact ⟨R, L, o.cell hg h1 h2 h3 i x, g1, f⟩
end
theorem bag_push {U w2 u2 : World} {B m c g1 q1 : Nat} {A : Option Addr} {vs : List Gv} {v : Gv} {R : GL} {L : List (Int × Sl)} {c3 c4 : Int} {G : GL} {ob : Obj} (RW : U.ownsRow B 27 4 (.slice A m c) m (cellsG vs)) (BG : Bag U B vs c3 c4 G) (O : Own U B v R L) (H : Hid (Good c3 c4 G R ∧ FitM R)) (BX : Below B u2 U) (LB : B ≤ U.heap.size)
    (hown : w2.ownsRow B 27 4 (.slice (some ⟨g1, 0, none⟩) (m + 1) q1) (m + 1) (cellsG vs ++ [.slice v.N.A v.N.n v.N.c, .slice v.E.A v.E.n v.E.c, .int .i64 v.x, .int .i64 v.y])) (hgr : (U.alloc ob).grownBy w2 (Value.slice A m c).ownBlock) (hlt : g1 < w2.heap.size) :
    Hid (w2.ownsRow B 27 4 (.slice (some ⟨g1, 0, none⟩) (m + 1) q1) (m + 1) (cellsG (vs ++ [v]))) ∧ Hid (Bag w2 B (vs ++ [v]) c3 c4 G) ∧ Hid (Below B u2 w2) ∧ Hid (B ≤ w2.heap.size) := by
  refine ⟨cellsG_more hown, (BG.grow RW hgr).snoc (own_grow27 O RW hgr) H.out.1 H.out.2, grow_below RW hgr BX LB, ?_⟩
  have h1 := hgr.size
  show B ≤ _
  simp at h1
  omega
theorem bx2_stepB {w u u1 : World} {ca cg : Array Value} {B : Nat} (b : Bx2 w u ca cg) (h : Below B u u1) (hB : w.heap.size + 1 < B) : Bx2 w u1 ca cg :=
  ⟨b.bel.trans (h.mono (by omega)), (h.block _ (by omega)).trans b.cfg, (h.block _ (by omega)).trans b.gr⟩

set_option maxRecDepth 100000 in
set_option maxHeartbeats 8000000 in
theorem walk (n0 e0 p0 i0 j0 : Int) (v1 : Gv) (G1 : GL) (a2 : Int) (a3 : Int) (a4 : Int) (a5 : Int) (w : World) (w1 : Sees w w.heap.size v1 G1) (s1 : v1.N.n ≤ 9223372036854775807) (t1 : v1.E.n ≤ 9223372036854775807) (u1 : ∀ j, j < G1.N.length → (G1.N.getD j (0, [])).2.length ≤ 9223372036854775807) (w2 : (Lit.int .i64 a2).wf = true) (w3 : (Lit.int .i64 a3).wf = true) (w4 : (Lit.int .i64 a4).wf = true) (w5 : (Lit.int .i64 a5).wf = true) :
    Calls Try.prog 6 #[.agg #[.int .i64 n0, .int .i64 e0, .int .i64 p0, .int .i64 i0, .int .i64 j0], v1.val, .int .i64 a2, .int .i64 a3, .int .i64 a4, .int .i64 a5] w (Drew (.bool true) w) := by
  obtain ⟨⟨nA, nn, nc⟩, ⟨eA, en, ec⟩, x, y⟩ := v1
  have SW := hide w1
  have HN := hide s1
  have HE := hide t1
  have HP := hide u1
  clear w1 s1 t1 u1
  show Calls Try.prog 6 #[.agg #[.int .i64 n0, .int .i64 e0, .int .i64 p0, .int .i64 i0, .int .i64 j0], .agg #[.slice nA nn nc, .slice eA en ec, .int .i64 x, .int .i64 y], .int .i64 a2, .int .i64 a3, .int .i64 a4, .int .i64 a5] w _
  obtain ⟨W, hW⟩ : ∃ W, Hid ((w.alloc (.cells #[.int .i64 n0, .int .i64 e0, .int .i64 p0, .int .i64 i0, .int .i64 j0] 23)).alloc (.cells #[.slice nA nn nc, .slice eA en ec, .int .i64 x, .int .i64 y] 27) = W) := ⟨_, rfl⟩
  have BB : Hid (Bx2 w W #[.int .i64 n0, .int .i64 e0, .int .i64 p0, .int .i64 i0, .int .i64 j0] #[.slice nA nn nc, .slice eA en ec, .int .i64 x, .int .i64 y]) := by show Bx2 _ _ _ _; rw [← hW.out]; exact ⟨boxed2 w _ _, heap_alloc2_old w _ _, heap_alloc2_new w _ _⟩
  obtain ⟨q, hq⟩ := bool_of (FewG G1 ∧ Okg n0 e0 p0 i0 j0 G1)
  have HQ := hide hq
  clear hq w2 w3 w4 w5
  go_enter Try.func6, Try.ntmps6
  go_upto_region 1 with fail
  have hW' := hW.out
  rw [hW']
  clear hW hW'
  go_wp2_with fail
  refine (live_any W).mono ?_
  rintro e u1 ⟨rfl, hu⟩
  have BB1 := hide (BB.out.step hu)
  clear hu BB
  obtain ⟨hc, hg, lc, lg⟩ := BB1.out.cells
  go_wp2_with fail
  refine (may_any n0 e0 p0 i0 j0 ⟨⟨nA, nn, nc⟩, ⟨eA, en, ec⟩, x, y⟩ G1 q u1 ((SW.out.below BB1.out.bel (Nat.le_refl _)).more BB1.out.bel.size) HN.out HE.out HP.out HQ).mono ?_
  rintro e u2 ⟨rfl, hu⟩
  have BB2 := hide (BB1.out.step hu)
  clear hu BB1 hc hg lc lg
  cases q
  · go_wp2
    go_ret
    exact ⟨rfl, BB2.out.bel⟩
  ·
    have HF : Hid (FewG G1) := (HQ.out.1 rfl).1
    have HO : Hid (Okg n0 e0 p0 i0 j0 G1) := (HQ.out.1 rfl).2
    have HS : Hid (Small G1) := HO.out.small HF.out
    have FM := hide (fitm_small HS.out)
    obtain ⟨M, hMp, hMs, hMu⟩ := one_list2 (both_apart (prs_any HO.out (a := a2)) (prs_any HO.out (a := a3)))
    have HMU : Hid (∀ l : List Pr, l.Perm (prsAt G1 (posN G1 a2) ++ missing (prsAt G1 (posN G1 a2)) (prsAt G1 (posN G1 a3))) → (l.Pairwise fun p q => ¬ q.1 < p.1) → l = M) := hMu
    have HMW := hide (both_pw (prs_any HO.out (a := a2)) (prs_any HO.out (a := a3)) hMp hMs)
    have HML : Hid (M.length ≤ 1000) := by show _ ≤ _; have e := hMp.length_eq; rw [List.length_append] at e; have := prs_small HS.out (posN G1 a2); have := prs_small HS.out (posN G1 a3); have h5 : (missing (prsAt G1 (posN G1 a2)) (prsAt G1 (posN G1 a3))).length ≤ (prsAt G1 (posN G1 a3)).length := List.length_filter_le _ _; omega
    clear hMp hMu hMs
    have EX : Hid (x = G1.x) := SW.out.x
    have EY : Hid (y = G1.y) := SW.out.y
    obtain ⟨B, hB⟩ : ∃ B, Hid (u2.heap.size = B) := ⟨_, rfl⟩
    have BX : Hid (Below B u2 u2) := Below.refl _ _
    have LB : Hid (B ≤ u2.heap.size) := by show _ ≤ _; rw [hB.out]; exact Nat.le_refl _
    have WB : Hid (w.heap.size + 1 < B) := by show _ < _; rw [← hB.out]; exact BB2.out.cells.2.2.2
    have HU2 := BB2
    obtain ⟨i0', hi0, hz0, hz1, hz2⟩ := info_parts infoG
    have H1 := hide hi0
    have H2 := hide hz0
    have H3 := hide hz1
    have H4 := hide hz2
    have RW : Hid (u2.ownsRow B 27 4 (.slice none 0 0) 0 (cellsG [])) := World.ownsRow_nil _ _ _ _
    have BG : Hid (Bag u2 B [] i0 j0 G1) := fun v hv => absurd hv (by simp)
    clear HN HE HP HQ BB2 hi0 hz0 hz1 hz2 hB
    obtain ⟨ia, ea, Ra, ha⟩ : ∃ i e R, Hid (addR i0 G1 = (i, e, R)) := ⟨_, _, _, rfl⟩
    obtain ⟨il, el, Rl, hl⟩ : ∃ i e R, Hid (linkR j0 G1 a2 a3 = (i, e, R)) := ⟨_, _, _, rfl⟩
    obtain ⟨ec', Rc, hc'⟩ : ∃ e R, Hid (cutR G1 a2 = (e, R)) := ⟨_, _, rfl⟩
    obtain ⟨es, Rs, hs⟩ : ∃ e R, Hid (setR G1 a2 a4 a5 = (e, R)) := ⟨_, _, rfl⟩
    obtain ⟨ed, Rd, hd⟩ : ∃ e R, Hid (delR G1 a2 a4 = (e, R)) := ⟨_, _, rfl⟩
    obtain ⟨eo, Ro, ho⟩ : ∃ e R, Hid (dropR G1 a2 = (e, R)) := ⟨_, _, rfl⟩
    obtain ⟨ef, Rf, hf⟩ : ∃ e R, Hid (fuseR G1 a2 a3 M = (e, R)) := ⟨_, _, rfl⟩
    have BB := hide (bx2_stepB HU2.out BX.out WB.out)
    obtain ⟨hc, hg0, lc, lg⟩ := BB.out.cells
    go_wp2_with fail
    refine (add_any n0 e0 p0 i0 j0 ⟨⟨nA, nn, nc⟩, ⟨eA, en, ec⟩, x, y⟩ G1 Ra ia ea _ ((SW.out.below (bx2_stepB HU2.out BX.out WB.out).bel (Nat.le_refl _)).more (bx2_stepB HU2.out BX.out WB.out).bel.size) HS.out ha).mono ?_
    rintro e u3 ⟨⟨⟨sA1, sm1, sc1⟩, ⟨tA1, tn1, tc1⟩, sx1, sy1⟩, rfl, hm, hb⟩
    clear hc hg0 lc lg BB
    obtain ⟨LL, O1⟩ := hm.out
    have O1 := hide (O1.less LB.out)
    have RW := hide (own_below RW.out hb.out)
    have BG := hide (BG.out.step hb.out)
    have BX := hide (BX.out.trans (hb.out.mono LB.out))
    have LB : Hid (B ≤ u3.heap.size) := Nat.le_trans LB.out hb.out.size
    clear hm hb
    obtain ⟨X1, hX⟩ : ∃ X, Hid (u3.alloc (.cells #[.slice sA1 sm1 sc1, .slice tA1 tn1 tc1, .int .i64 sx1, .int .i64 sy1] 27) = X) := ⟨_, rfl⟩
    obtain ⟨g1, hg⟩ : ∃ g, Hid (u3.heap.size = g) := ⟨_, rfl⟩
    have BY : Hid (Below u3.heap.size u3 X1) := by show Below _ _ _; rw [← hX.out]; exact (Below.refl _ _).alloc (Nat.le_refl _) _
    have HG : Hid (X1.heap[g1]? = some (.cells #[.slice sA1 sm1 sc1, .slice tA1 tn1 tc1, .int .i64 sx1, .int .i64 sy1] 27 (0, 0))) := by show _ = _; rw [← hX.out, ← hg.out]; exact heap_alloc_new _ _
    have O1 := hide (O1.out.step BY.out)
    have RW := hide (own_below RW.out BY.out)
    have BG := hide (BG.out.step BY.out)
    have BX := hide (BX.out.trans (BY.out.mono LB.out))
    have LB : Hid (B ≤ X1.heap.size) := Nat.le_trans LB.out BY.out.size
    go_upto_if 50 with (fail)
    have hX' := hX.out
    have hg' := hg.out
    rw [hX', hg']
    clear hX hg hX' hg' BY
    go_cut [13] (fun p wx => ∃ (A : Option Addr) (m c : Nat) (vs : List Gv), p = .slice A m c ∧ m ≤ 1 ∧ Hid (wx.ownsRow B 27 4 (.slice A m c) m (cellsG vs)) ∧ Hid (Bag wx B vs i0 j0 G1) ∧ Hid (Below B u2 wx) ∧ Hid (B ≤ wx.heap.size))
    case first =>
      obtain ⟨cb, -, lb⟩ := bx_all HG.out
      by_cases he : ea = 0
      · have t1 : (ea == 0) = true := by simpa using he
        have HBN : Hid (Good i0 j0 G1 Ra ∧ FitM Ra) := ⟨good_add HO.out (by have := ha.out; rw [he] at this; exact this), fitm_add FM.out ha.out⟩
        clear he
        go_wp2_with (at_builtin; refine wpList_append_lies _ rfl _ _ 56 rfl B 27 i0' (.agg #[.slice none 0 0, .slice none 0 0, .int .i64 0, .int .i64 0]) 4 64 Try.underlying56 H1.out H2.out H3.out H4.out rfl (by decide) (.slice none 0 0) 0 _ rfl (RW.out.alloc _) ⟨X1.heap.size, 0, none⟩ 1 1 [.slice sA1 sm1 sc1, .slice tA1 tn1 tc1, .int .i64 sx1, .int .i64 sy1] rfl rfl (cells_new _ _ _ _ (by simp)) (four_one _ _ _ _ _ _ _ _) (by decide) (by simp only [maxLen]; omega) (by omega) (by have := LB.out; simp; omega) _ rfl ?_; intro g1 q1 w2 hown hgr hat hlt2; have PU := bag_push (vs := []) (v := ⟨⟨sA1, sm1, sc1⟩, ⟨tA1, tn1, tc1⟩, sx1, sy1⟩) RW.out BG.out O1.out HBN BX.out LB.out hown hgr hlt2; clear hown hgr hat)
        go_meet
        exact ⟨some ⟨g1, 0, none⟩, 0 + 1, q1, [] ++ [⟨⟨sA1, sm1, sc1⟩, ⟨tA1, tn1, tc1⟩, sx1, sy1⟩], rfl, by omega, PU.1, PU.2.1, PU.2.2.1, PU.2.2.2⟩
      · have t1 : (ea == 0) = false := by simpa using he
        clear he
        go_wp2_with fail
        go_meet
        exact ⟨none, 0, 0, [], rfl, by omega, RW, BG, BX, LB⟩
    case rest =>
      clear HG O1 RW BG BX LB
      obtain ⟨A1, m1, c1, vs1, rfl, hm1, RW, BG, BX, LB⟩ := hcut
      have BB := hide (bx2_stepB HU2.out BX.out WB.out)
      obtain ⟨hc, hg0, lc, lg⟩ := BB.out.cells
      go_wp2_with fail
      refine (link_any n0 e0 p0 i0 j0 ⟨⟨nA, nn, nc⟩, ⟨eA, en, ec⟩, x, y⟩ G1 Rl a2 a3 il el _ ((SW.out.below (bx2_stepB HU2.out BX.out WB.out).bel (Nat.le_refl _)).more (bx2_stepB HU2.out BX.out WB.out).bel.size) HS.out hl).mono ?_
      rintro e u3 ⟨⟨⟨sA2, sm2, sc2⟩, ⟨tA2, tn2, tc2⟩, sx2, sy2⟩, rfl, hm, hb⟩
      clear hc hg0 lc lg BB
      obtain ⟨LL, O1⟩ := hm.out
      have O1 := hide (O1.less LB.out)
      have RW := hide (own_below RW.out hb.out)
      have BG := hide (BG.out.step hb.out)
      have BX := hide (BX.out.trans (hb.out.mono LB.out))
      have LB : Hid (B ≤ u3.heap.size) := Nat.le_trans LB.out hb.out.size
      clear hm hb
      obtain ⟨X2, hX⟩ : ∃ X, Hid (u3.alloc (.cells #[.slice sA2 sm2 sc2, .slice tA2 tn2 tc2, .int .i64 sx2, .int .i64 sy2] 27) = X) := ⟨_, rfl⟩
      obtain ⟨g2, hg⟩ : ∃ g, Hid (u3.heap.size = g) := ⟨_, rfl⟩
      have BY : Hid (Below u3.heap.size u3 X2) := by show Below _ _ _; rw [← hX.out]; exact (Below.refl _ _).alloc (Nat.le_refl _) _
      have HG : Hid (X2.heap[g2]? = some (.cells #[.slice sA2 sm2 sc2, .slice tA2 tn2 tc2, .int .i64 sx2, .int .i64 sy2] 27 (0, 0))) := by show _ = _; rw [← hX.out, ← hg.out]; exact heap_alloc_new _ _
      have O1 := hide (O1.out.step BY.out)
      have RW := hide (own_below RW.out BY.out)
      have BG := hide (BG.out.step BY.out)
      have BX := hide (BX.out.trans (BY.out.mono LB.out))
      have LB : Hid (B ≤ X2.heap.size) := Nat.le_trans LB.out BY.out.size
      go_upto_if 65 with (fail)
      have hX' := hX.out
      have hg' := hg.out
      rw [hX', hg']
      clear hX hg hX' hg' BY
      go_cut [13] (fun p wx => ∃ (A : Option Addr) (m c : Nat) (vs : List Gv), p = .slice A m c ∧ m ≤ 2 ∧ Hid (wx.ownsRow B 27 4 (.slice A m c) m (cellsG vs)) ∧ Hid (Bag wx B vs i0 j0 G1) ∧ Hid (Below B u2 wx) ∧ Hid (B ≤ wx.heap.size))
      case first =>
        obtain ⟨cb, -, lb⟩ := bx_all HG.out
        by_cases he : el = 0
        · have t1 : (el == 0) = true := by simpa using he
          have HBN : Hid (Good i0 j0 G1 Rl ∧ FitM Rl) := ⟨good_link HO.out (by have := hl.out; rw [he] at this; exact this), fitm_link FM.out hl.out⟩
          clear he
          go_wp2_with (at_builtin; refine wpList_append_lies _ rfl _ _ 56 rfl B 27 i0' (.agg #[.slice none 0 0, .slice none 0 0, .int .i64 0, .int .i64 0]) 4 64 Try.underlying56 H1.out H2.out H3.out H4.out rfl (by decide) (.slice A1 m1 c1) m1 _ rfl (RW.out.alloc _) ⟨X2.heap.size, 0, none⟩ 1 1 [.slice sA2 sm2 sc2, .slice tA2 tn2 tc2, .int .i64 sx2, .int .i64 sy2] rfl rfl (cells_new _ _ _ _ (by simp)) (four_one _ _ _ _ _ _ _ _) (by decide) (by simp only [maxLen]; omega) (by omega) (by have := LB.out; simp; omega) _ rfl ?_; intro g1 q1 w2 hown hgr hat hlt2; have PU := bag_push (vs := vs1) (v := ⟨⟨sA2, sm2, sc2⟩, ⟨tA2, tn2, tc2⟩, sx2, sy2⟩) RW.out BG.out O1.out HBN BX.out LB.out hown hgr hlt2; clear hown hgr hat)
          go_meet
          exact ⟨some ⟨g1, 0, none⟩, m1 + 1, q1, vs1 ++ [⟨⟨sA2, sm2, sc2⟩, ⟨tA2, tn2, tc2⟩, sx2, sy2⟩], rfl, by omega, PU.1, PU.2.1, PU.2.2.1, PU.2.2.2⟩
        · have t1 : (el == 0) = false := by simpa using he
          clear he
          go_wp2_with fail
          go_meet
          exact ⟨A1, m1, c1, vs1, rfl, by omega, RW, BG, BX, LB⟩
      case rest =>
        clear HG O1 RW BG BX LB
        obtain ⟨A2, m2, c2, vs2, rfl, hm2, RW, BG, BX, LB⟩ := hcut
        have BB := hide (bx2_stepB HU2.out BX.out WB.out)
        obtain ⟨hc, hg0, lc, lg⟩ := BB.out.cells
        go_wp2_with fail
        refine (cut_any ⟨⟨nA, nn, nc⟩, ⟨eA, en, ec⟩, x, y⟩ G1 Rc a2 ec' _ ((SW.out.below (bx2_stepB HU2.out BX.out WB.out).bel (Nat.le_refl _)).more (bx2_stepB HU2.out BX.out WB.out).bel.size) HS.out hc').mono ?_
        rintro e u3 ⟨⟨⟨sA3, sm3, sc3⟩, ⟨tA3, tn3, tc3⟩, sx3, sy3⟩, rfl, hm, hb⟩
        clear hc hg0 lc lg BB
        obtain ⟨LL, O1⟩ := hm.out
        have O1 := hide (O1.less LB.out)
        have RW := hide (own_below RW.out hb.out)
        have BG := hide (BG.out.step hb.out)
        have BX := hide (BX.out.trans (hb.out.mono LB.out))
        have LB : Hid (B ≤ u3.heap.size) := Nat.le_trans LB.out hb.out.size
        clear hm hb
        obtain ⟨X3, hX⟩ : ∃ X, Hid (u3.alloc (.cells #[.slice sA3 sm3 sc3, .slice tA3 tn3 tc3, .int .i64 sx3, .int .i64 sy3] 27) = X) := ⟨_, rfl⟩
        obtain ⟨g3, hg⟩ : ∃ g, Hid (u3.heap.size = g) := ⟨_, rfl⟩
        have BY : Hid (Below u3.heap.size u3 X3) := by show Below _ _ _; rw [← hX.out]; exact (Below.refl _ _).alloc (Nat.le_refl _) _
        have HG : Hid (X3.heap[g3]? = some (.cells #[.slice sA3 sm3 sc3, .slice tA3 tn3 tc3, .int .i64 sx3, .int .i64 sy3] 27 (0, 0))) := by show _ = _; rw [← hX.out, ← hg.out]; exact heap_alloc_new _ _
        have O1 := hide (O1.out.step BY.out)
        have RW := hide (own_below RW.out BY.out)
        have BG := hide (BG.out.step BY.out)
        have BX := hide (BX.out.trans (BY.out.mono LB.out))
        have LB : Hid (B ≤ X3.heap.size) := Nat.le_trans LB.out BY.out.size
        go_upto_if 77 with (fail)
        have hX' := hX.out
        have hg' := hg.out
        rw [hX', hg']
        clear hX hg hX' hg' BY
        go_cut [13] (fun p wx => ∃ (A : Option Addr) (m c : Nat) (vs : List Gv), p = .slice A m c ∧ m ≤ 3 ∧ Hid (wx.ownsRow B 27 4 (.slice A m c) m (cellsG vs)) ∧ Hid (Bag wx B vs i0 j0 G1) ∧ Hid (Below B u2 wx) ∧ Hid (B ≤ wx.heap.size))
        case first =>
          obtain ⟨cb, -, lb⟩ := bx_all HG.out
          by_cases he : ec' = 0
          · have t1 : (ec' == 0) = true := by simpa using he
            have HBN : Hid (Good i0 j0 G1 Rc ∧ FitM Rc) := ⟨good_cut HO.out (by have := hc'.out; rw [he] at this; exact this), fitm_cut FM.out hc'.out⟩
            clear he
            go_wp2_with (at_builtin; refine wpList_append_lies _ rfl _ _ 56 rfl B 27 i0' (.agg #[.slice none 0 0, .slice none 0 0, .int .i64 0, .int .i64 0]) 4 64 Try.underlying56 H1.out H2.out H3.out H4.out rfl (by decide) (.slice A2 m2 c2) m2 _ rfl (RW.out.alloc _) ⟨X3.heap.size, 0, none⟩ 1 1 [.slice sA3 sm3 sc3, .slice tA3 tn3 tc3, .int .i64 sx3, .int .i64 sy3] rfl rfl (cells_new _ _ _ _ (by simp)) (four_one _ _ _ _ _ _ _ _) (by decide) (by simp only [maxLen]; omega) (by omega) (by have := LB.out; simp; omega) _ rfl ?_; intro g1 q1 w2 hown hgr hat hlt2; have PU := bag_push (vs := vs2) (v := ⟨⟨sA3, sm3, sc3⟩, ⟨tA3, tn3, tc3⟩, sx3, sy3⟩) RW.out BG.out O1.out HBN BX.out LB.out hown hgr hlt2; clear hown hgr hat)
            go_meet
            exact ⟨some ⟨g1, 0, none⟩, m2 + 1, q1, vs2 ++ [⟨⟨sA3, sm3, sc3⟩, ⟨tA3, tn3, tc3⟩, sx3, sy3⟩], rfl, by omega, PU.1, PU.2.1, PU.2.2.1, PU.2.2.2⟩
          · have t1 : (ec' == 0) = false := by simpa using he
            clear he
            go_wp2_with fail
            go_meet
            exact ⟨A2, m2, c2, vs2, rfl, by omega, RW, BG, BX, LB⟩
        case rest =>
          clear HG O1 RW BG BX LB
          obtain ⟨A3, m3, c3, vs3, rfl, hm3, RW, BG, BX, LB⟩ := hcut
          have BB := hide (bx2_stepB HU2.out BX.out WB.out)
          obtain ⟨hc, hg0, lc, lg⟩ := BB.out.cells
          go_wp2_with fail
          refine (set_any ⟨⟨nA, nn, nc⟩, ⟨eA, en, ec⟩, x, y⟩ G1 Rs a2 a4 a5 es _ ((SW.out.below (bx2_stepB HU2.out BX.out WB.out).bel (Nat.le_refl _)).more (bx2_stepB HU2.out BX.out WB.out).bel.size) HS.out hs).mono ?_
          rintro e u3 ⟨⟨⟨sA4, sm4, sc4⟩, ⟨tA4, tn4, tc4⟩, sx4, sy4⟩, rfl, hm, hb⟩
          clear hc hg0 lc lg BB
          obtain ⟨LL, O1⟩ := hm.out
          have O1 := hide (O1.less LB.out)
          have RW := hide (own_below RW.out hb.out)
          have BG := hide (BG.out.step hb.out)
          have BX := hide (BX.out.trans (hb.out.mono LB.out))
          have LB : Hid (B ≤ u3.heap.size) := Nat.le_trans LB.out hb.out.size
          clear hm hb
          obtain ⟨X4, hX⟩ : ∃ X, Hid (u3.alloc (.cells #[.slice sA4 sm4 sc4, .slice tA4 tn4 tc4, .int .i64 sx4, .int .i64 sy4] 27) = X) := ⟨_, rfl⟩
          obtain ⟨g4, hg⟩ : ∃ g, Hid (u3.heap.size = g) := ⟨_, rfl⟩
          have BY : Hid (Below u3.heap.size u3 X4) := by show Below _ _ _; rw [← hX.out]; exact (Below.refl _ _).alloc (Nat.le_refl _) _
          have HG : Hid (X4.heap[g4]? = some (.cells #[.slice sA4 sm4 sc4, .slice tA4 tn4 tc4, .int .i64 sx4, .int .i64 sy4] 27 (0, 0))) := by show _ = _; rw [← hX.out, ← hg.out]; exact heap_alloc_new _ _
          have O1 := hide (O1.out.step BY.out)
          have RW := hide (own_below RW.out BY.out)
          have BG := hide (BG.out.step BY.out)
          have BX := hide (BX.out.trans (BY.out.mono LB.out))
          have LB : Hid (B ≤ X4.heap.size) := Nat.le_trans LB.out BY.out.size
          go_upto_if 91 with (fail)
          have hX' := hX.out
          have hg' := hg.out
          rw [hX', hg']
          clear hX hg hX' hg' BY
          go_cut [13] (fun p wx => ∃ (A : Option Addr) (m c : Nat) (vs : List Gv), p = .slice A m c ∧ m ≤ 4 ∧ Hid (wx.ownsRow B 27 4 (.slice A m c) m (cellsG vs)) ∧ Hid (Bag wx B vs i0 j0 G1) ∧ Hid (Below B u2 wx) ∧ Hid (B ≤ wx.heap.size))
          case first =>
            obtain ⟨cb, -, lb⟩ := bx_all HG.out
            by_cases he : es = 0
            · have t1 : (es == 0) = true := by simpa using he
              have HBN : Hid (Good i0 j0 G1 Rs ∧ FitM Rs) := ⟨good_set HO.out (by have := hs.out; rw [he] at this; exact this), fitm_set FM.out hs.out⟩
              clear he
              go_wp2_with (at_builtin; refine wpList_append_lies _ rfl _ _ 56 rfl B 27 i0' (.agg #[.slice none 0 0, .slice none 0 0, .int .i64 0, .int .i64 0]) 4 64 Try.underlying56 H1.out H2.out H3.out H4.out rfl (by decide) (.slice A3 m3 c3) m3 _ rfl (RW.out.alloc _) ⟨X4.heap.size, 0, none⟩ 1 1 [.slice sA4 sm4 sc4, .slice tA4 tn4 tc4, .int .i64 sx4, .int .i64 sy4] rfl rfl (cells_new _ _ _ _ (by simp)) (four_one _ _ _ _ _ _ _ _) (by decide) (by simp only [maxLen]; omega) (by omega) (by have := LB.out; simp; omega) _ rfl ?_; intro g1 q1 w2 hown hgr hat hlt2; have PU := bag_push (vs := vs3) (v := ⟨⟨sA4, sm4, sc4⟩, ⟨tA4, tn4, tc4⟩, sx4, sy4⟩) RW.out BG.out O1.out HBN BX.out LB.out hown hgr hlt2; clear hown hgr hat)
              go_meet
              exact ⟨some ⟨g1, 0, none⟩, m3 + 1, q1, vs3 ++ [⟨⟨sA4, sm4, sc4⟩, ⟨tA4, tn4, tc4⟩, sx4, sy4⟩], rfl, by omega, PU.1, PU.2.1, PU.2.2.1, PU.2.2.2⟩
            · have t1 : (es == 0) = false := by simpa using he
              clear he
              go_wp2_with fail
              go_meet
              exact ⟨A3, m3, c3, vs3, rfl, by omega, RW, BG, BX, LB⟩
          case rest =>
            clear HG O1 RW BG BX LB
            obtain ⟨A4, m4, c4, vs4, rfl, hm4, RW, BG, BX, LB⟩ := hcut
            have BB := hide (bx2_stepB HU2.out BX.out WB.out)
            obtain ⟨hc, hg0, lc, lg⟩ := BB.out.cells
            go_wp2_with fail
            refine (del_any ⟨⟨nA, nn, nc⟩, ⟨eA, en, ec⟩, x, y⟩ G1 Rd a2 a4 ed _ ((SW.out.below (bx2_stepB HU2.out BX.out WB.out).bel (Nat.le_refl _)).more (bx2_stepB HU2.out BX.out WB.out).bel.size) HS.out hd).mono ?_
            rintro e u3 ⟨⟨⟨sA5, sm5, sc5⟩, ⟨tA5, tn5, tc5⟩, sx5, sy5⟩, rfl, hm, hb⟩
            clear hc hg0 lc lg BB
            obtain ⟨LL, O1⟩ := hm.out
            have O1 := hide (O1.less LB.out)
            have RW := hide (own_below RW.out hb.out)
            have BG := hide (BG.out.step hb.out)
            have BX := hide (BX.out.trans (hb.out.mono LB.out))
            have LB : Hid (B ≤ u3.heap.size) := Nat.le_trans LB.out hb.out.size
            clear hm hb
            obtain ⟨X5, hX⟩ : ∃ X, Hid (u3.alloc (.cells #[.slice sA5 sm5 sc5, .slice tA5 tn5 tc5, .int .i64 sx5, .int .i64 sy5] 27) = X) := ⟨_, rfl⟩
            obtain ⟨g5, hg⟩ : ∃ g, Hid (u3.heap.size = g) := ⟨_, rfl⟩
            have BY : Hid (Below u3.heap.size u3 X5) := by show Below _ _ _; rw [← hX.out]; exact (Below.refl _ _).alloc (Nat.le_refl _) _
            have HG : Hid (X5.heap[g5]? = some (.cells #[.slice sA5 sm5 sc5, .slice tA5 tn5 tc5, .int .i64 sx5, .int .i64 sy5] 27 (0, 0))) := by show _ = _; rw [← hX.out, ← hg.out]; exact heap_alloc_new _ _
            have O1 := hide (O1.out.step BY.out)
            have RW := hide (own_below RW.out BY.out)
            have BG := hide (BG.out.step BY.out)
            have BX := hide (BX.out.trans (BY.out.mono LB.out))
            have LB : Hid (B ≤ X5.heap.size) := Nat.le_trans LB.out BY.out.size
            go_upto_if 104 with (fail)
            have hX' := hX.out
            have hg' := hg.out
            rw [hX', hg']
            clear hX hg hX' hg' BY
            go_cut [13] (fun p wx => ∃ (A : Option Addr) (m c : Nat) (vs : List Gv), p = .slice A m c ∧ m ≤ 5 ∧ Hid (wx.ownsRow B 27 4 (.slice A m c) m (cellsG vs)) ∧ Hid (Bag wx B vs i0 j0 G1) ∧ Hid (Below B u2 wx) ∧ Hid (B ≤ wx.heap.size))
            case first =>
              obtain ⟨cb, -, lb⟩ := bx_all HG.out
              by_cases he : ed = 0
              · have t1 : (ed == 0) = true := by simpa using he
                have HBN : Hid (Good i0 j0 G1 Rd ∧ FitM Rd) := ⟨good_del HO.out (by have := hd.out; rw [he] at this; exact this), fitm_del FM.out hd.out⟩
                clear he
                go_wp2_with (at_builtin; refine wpList_append_lies _ rfl _ _ 56 rfl B 27 i0' (.agg #[.slice none 0 0, .slice none 0 0, .int .i64 0, .int .i64 0]) 4 64 Try.underlying56 H1.out H2.out H3.out H4.out rfl (by decide) (.slice A4 m4 c4) m4 _ rfl (RW.out.alloc _) ⟨X5.heap.size, 0, none⟩ 1 1 [.slice sA5 sm5 sc5, .slice tA5 tn5 tc5, .int .i64 sx5, .int .i64 sy5] rfl rfl (cells_new _ _ _ _ (by simp)) (four_one _ _ _ _ _ _ _ _) (by decide) (by simp only [maxLen]; omega) (by omega) (by have := LB.out; simp; omega) _ rfl ?_; intro g1 q1 w2 hown hgr hat hlt2; have PU := bag_push (vs := vs4) (v := ⟨⟨sA5, sm5, sc5⟩, ⟨tA5, tn5, tc5⟩, sx5, sy5⟩) RW.out BG.out O1.out HBN BX.out LB.out hown hgr hlt2; clear hown hgr hat)
                go_meet
                exact ⟨some ⟨g1, 0, none⟩, m4 + 1, q1, vs4 ++ [⟨⟨sA5, sm5, sc5⟩, ⟨tA5, tn5, tc5⟩, sx5, sy5⟩], rfl, by omega, PU.1, PU.2.1, PU.2.2.1, PU.2.2.2⟩
              · have t1 : (ed == 0) = false := by simpa using he
                clear he
                go_wp2_with fail
                go_meet
                exact ⟨A4, m4, c4, vs4, rfl, by omega, RW, BG, BX, LB⟩
            case rest =>
              clear HG O1 RW BG BX LB
              obtain ⟨A5, m5, c5, vs5, rfl, hm5, RW, BG, BX, LB⟩ := hcut
              have BB := hide (bx2_stepB HU2.out BX.out WB.out)
              obtain ⟨hc, hg0, lc, lg⟩ := BB.out.cells
              go_wp2_with fail
              refine (drop_any ⟨⟨nA, nn, nc⟩, ⟨eA, en, ec⟩, x, y⟩ G1 Ro a2 eo _ ((SW.out.below (bx2_stepB HU2.out BX.out WB.out).bel (Nat.le_refl _)).more (bx2_stepB HU2.out BX.out WB.out).bel.size) HS.out ho).mono ?_
              rintro e u3 ⟨⟨⟨sA6, sm6, sc6⟩, ⟨tA6, tn6, tc6⟩, sx6, sy6⟩, rfl, hm, hb⟩
              clear hc hg0 lc lg BB
              obtain ⟨LL, O1⟩ := hm.out
              have O1 := hide (O1.less LB.out)
              have RW := hide (own_below RW.out hb.out)
              have BG := hide (BG.out.step hb.out)
              have BX := hide (BX.out.trans (hb.out.mono LB.out))
              have LB : Hid (B ≤ u3.heap.size) := Nat.le_trans LB.out hb.out.size
              clear hm hb
              obtain ⟨X6, hX⟩ : ∃ X, Hid (u3.alloc (.cells #[.slice sA6 sm6 sc6, .slice tA6 tn6 tc6, .int .i64 sx6, .int .i64 sy6] 27) = X) := ⟨_, rfl⟩
              obtain ⟨g6, hg⟩ : ∃ g, Hid (u3.heap.size = g) := ⟨_, rfl⟩
              have BY : Hid (Below u3.heap.size u3 X6) := by show Below _ _ _; rw [← hX.out]; exact (Below.refl _ _).alloc (Nat.le_refl _) _
              have HG : Hid (X6.heap[g6]? = some (.cells #[.slice sA6 sm6 sc6, .slice tA6 tn6 tc6, .int .i64 sx6, .int .i64 sy6] 27 (0, 0))) := by show _ = _; rw [← hX.out, ← hg.out]; exact heap_alloc_new _ _
              have O1 := hide (O1.out.step BY.out)
              have RW := hide (own_below RW.out BY.out)
              have BG := hide (BG.out.step BY.out)
              have BX := hide (BX.out.trans (BY.out.mono LB.out))
              have LB : Hid (B ≤ X6.heap.size) := Nat.le_trans LB.out BY.out.size
              go_upto_if 116 with (fail)
              have hX' := hX.out
              have hg' := hg.out
              rw [hX', hg']
              clear hX hg hX' hg' BY
              go_cut [13] (fun p wx => ∃ (A : Option Addr) (m c : Nat) (vs : List Gv), p = .slice A m c ∧ m ≤ 6 ∧ Hid (wx.ownsRow B 27 4 (.slice A m c) m (cellsG vs)) ∧ Hid (Bag wx B vs i0 j0 G1) ∧ Hid (Below B u2 wx) ∧ Hid (B ≤ wx.heap.size))
              case first =>
                obtain ⟨cb, -, lb⟩ := bx_all HG.out
                by_cases he : eo = 0
                · have t1 : (eo == 0) = true := by simpa using he
                  have HBN : Hid (Good i0 j0 G1 Ro ∧ FitM Ro) := ⟨good_drop HO.out (by have := ho.out; rw [he] at this; exact this), fitm_drop FM.out ho.out⟩
                  clear he
                  go_wp2_with (at_builtin; refine wpList_append_lies _ rfl _ _ 56 rfl B 27 i0' (.agg #[.slice none 0 0, .slice none 0 0, .int .i64 0, .int .i64 0]) 4 64 Try.underlying56 H1.out H2.out H3.out H4.out rfl (by decide) (.slice A5 m5 c5) m5 _ rfl (RW.out.alloc _) ⟨X6.heap.size, 0, none⟩ 1 1 [.slice sA6 sm6 sc6, .slice tA6 tn6 tc6, .int .i64 sx6, .int .i64 sy6] rfl rfl (cells_new _ _ _ _ (by simp)) (four_one _ _ _ _ _ _ _ _) (by decide) (by simp only [maxLen]; omega) (by omega) (by have := LB.out; simp; omega) _ rfl ?_; intro g1 q1 w2 hown hgr hat hlt2; have PU := bag_push (vs := vs5) (v := ⟨⟨sA6, sm6, sc6⟩, ⟨tA6, tn6, tc6⟩, sx6, sy6⟩) RW.out BG.out O1.out HBN BX.out LB.out hown hgr hlt2; clear hown hgr hat)
                  go_meet
                  exact ⟨some ⟨g1, 0, none⟩, m5 + 1, q1, vs5 ++ [⟨⟨sA6, sm6, sc6⟩, ⟨tA6, tn6, tc6⟩, sx6, sy6⟩], rfl, by omega, PU.1, PU.2.1, PU.2.2.1, PU.2.2.2⟩
                · have t1 : (eo == 0) = false := by simpa using he
                  clear he
                  go_wp2_with fail
                  go_meet
                  exact ⟨A5, m5, c5, vs5, rfl, by omega, RW, BG, BX, LB⟩
              case rest =>
                clear HG O1 RW BG BX LB
                obtain ⟨A6, m6, c6, vs6, rfl, hm6, RW, BG, BX, LB⟩ := hcut
                have BB := hide (bx2_stepB HU2.out BX.out WB.out)
                obtain ⟨hc, hg0, lc, lg⟩ := BB.out.cells
                go_wp2_with fail
                refine (fuse_any ⟨⟨nA, nn, nc⟩, ⟨eA, en, ec⟩, x, y⟩ G1 Rf a2 a3 ef M _ ((SW.out.below (bx2_stepB HU2.out BX.out WB.out).bel (Nat.le_refl _)).more (bx2_stepB HU2.out BX.out WB.out).bel.size) HS.out (hide (fun l h1 h2 => HMU.out l h1 (h2.imp (fun h => by omega)))) hf).mono ?_
                rintro e u3 ⟨⟨⟨sA7, sm7, sc7⟩, ⟨tA7, tn7, tc7⟩, sx7, sy7⟩, rfl, hm, hb⟩
                clear hc hg0 lc lg BB
                obtain ⟨LL, O1⟩ := hm.out
                have O1 := hide (O1.less LB.out)
                have RW := hide (own_below RW.out hb.out)
                have BG := hide (BG.out.step hb.out)
                have BX := hide (BX.out.trans (hb.out.mono LB.out))
                have LB : Hid (B ≤ u3.heap.size) := Nat.le_trans LB.out hb.out.size
                clear hm hb
                obtain ⟨X7, hX⟩ : ∃ X, Hid (u3.alloc (.cells #[.slice sA7 sm7 sc7, .slice tA7 tn7 tc7, .int .i64 sx7, .int .i64 sy7] 27) = X) := ⟨_, rfl⟩
                obtain ⟨g7, hg⟩ : ∃ g, Hid (u3.heap.size = g) := ⟨_, rfl⟩
                have BY : Hid (Below u3.heap.size u3 X7) := by show Below _ _ _; rw [← hX.out]; exact (Below.refl _ _).alloc (Nat.le_refl _) _
                have HG : Hid (X7.heap[g7]? = some (.cells #[.slice sA7 sm7 sc7, .slice tA7 tn7 tc7, .int .i64 sx7, .int .i64 sy7] 27 (0, 0))) := by show _ = _; rw [← hX.out, ← hg.out]; exact heap_alloc_new _ _
                have O1 := hide (O1.out.step BY.out)
                have RW := hide (own_below RW.out BY.out)
                have BG := hide (BG.out.step BY.out)
                have BX := hide (BX.out.trans (BY.out.mono LB.out))
                have LB : Hid (B ≤ X7.heap.size) := Nat.le_trans LB.out BY.out.size
                go_upto_if 129 with (fail)
                have hX' := hX.out
                have hg' := hg.out
                rw [hX', hg']
                clear hX hg hX' hg' BY
                go_cut [13] (fun p wx => ∃ (A : Option Addr) (m c : Nat) (vs : List Gv), p = .slice A m c ∧ m ≤ 7 ∧ Hid (wx.ownsRow B 27 4 (.slice A m c) m (cellsG vs)) ∧ Hid (Bag wx B vs i0 j0 G1) ∧ Hid (Below B u2 wx) ∧ Hid (B ≤ wx.heap.size))
                case first =>
                  obtain ⟨cb, -, lb⟩ := bx_all HG.out
                  by_cases he : ef = 0
                  · have t1 : (ef == 0) = true := by simpa using he
                    have HBN : Hid (Good i0 j0 G1 Rf ∧ FitM Rf) := ⟨good_fuse HO.out HMW.out (by have := hf.out; rw [he] at this; exact this), fitm_fuse FM.out HML.out hf.out⟩
                    clear he
                    go_wp2_with (at_builtin; refine wpList_append_lies _ rfl _ _ 56 rfl B 27 i0' (.agg #[.slice none 0 0, .slice none 0 0, .int .i64 0, .int .i64 0]) 4 64 Try.underlying56 H1.out H2.out H3.out H4.out rfl (by decide) (.slice A6 m6 c6) m6 _ rfl (RW.out.alloc _) ⟨X7.heap.size, 0, none⟩ 1 1 [.slice sA7 sm7 sc7, .slice tA7 tn7 tc7, .int .i64 sx7, .int .i64 sy7] rfl rfl (cells_new _ _ _ _ (by simp)) (four_one _ _ _ _ _ _ _ _) (by decide) (by simp only [maxLen]; omega) (by omega) (by have := LB.out; simp; omega) _ rfl ?_; intro g1 q1 w2 hown hgr hat hlt2; have PU := bag_push (vs := vs6) (v := ⟨⟨sA7, sm7, sc7⟩, ⟨tA7, tn7, tc7⟩, sx7, sy7⟩) RW.out BG.out O1.out HBN BX.out LB.out hown hgr hlt2; clear hown hgr hat)
                    go_meet
                    exact ⟨some ⟨g1, 0, none⟩, m6 + 1, q1, vs6 ++ [⟨⟨sA7, sm7, sc7⟩, ⟨tA7, tn7, tc7⟩, sx7, sy7⟩], rfl, by omega, PU.1, PU.2.1, PU.2.2.1, PU.2.2.2⟩
                  · have t1 : (ef == 0) = false := by simpa using he
                    clear he
                    go_wp2_with fail
                    go_meet
                    exact ⟨A6, m6, c6, vs6, rfl, by omega, RW, BG, BX, LB⟩
                case rest =>
                  clear HG O1 RW BG BX LB
                  obtain ⟨A7, m7, c7, vs7, rfl, hm7, RW, BG, BX, LB⟩ := hcut
                  as_aux_lemma =>
                    have BB := hide (bx2_stepB HU2.out BX.out WB.out)
                    obtain ⟨hc, hg0, lc, lg⟩ := BB.out.cells
                    go_upto_region 28 with fail
                    obtain ⟨Y, hY⟩ : ∃ X, Hid (wc.alloc (.cells #[.int .i64 n0, .int .i64 e0, .int .i64 p0, .int .i64 i0, .int .i64 j0] 23) = X) := ⟨_, rfl⟩
                    obtain ⟨gr, hgr⟩ : ∃ g, Hid (wc.heap.size = g) := ⟨_, rfl⟩
                    have BY : Hid (Below wc.heap.size wc Y) := by show Below _ _ _; rw [← hY.out]; exact (Below.refl _ _).alloc (Nat.le_refl _) _
                    have HR0 : Hid (Y.heap[gr]? = some (.cells #[.int .i64 n0, .int .i64 e0, .int .i64 p0, .int .i64 i0, .int .i64 j0] 23 (0, 0))) := by show _ = _; rw [← hY.out, ← hgr.out]; exact heap_alloc_new _ _
                    have GB : Hid (B ≤ gr) := by show _ ≤ _; rw [← hgr.out]; exact LB.out
                    have RW := hide (own_below RW.out BY.out)
                    have BG := hide (BG.out.step BY.out)
                    have BX := hide (BX.out.trans (BY.out.mono LB.out))
                    have LB : Hid (B ≤ Y.heap.size) := Nat.le_trans LB.out BY.out.size
                    have hY' := hY.out
                    have hg' := hgr.out
                    rw [hY', hg']
                    clear hY hgr hY' hg' BY hc hg0 lc lg BB
                    obtain ⟨Z, hZ⟩ : ∃ X, Hid (((Y.setCell ⟨gr, 0, none⟩ (.int .i64 64)).setCell ⟨gr, 1, none⟩ (.int .i64 64)).setCell ⟨gr, 2, none⟩ (.int .i64 64) = X) := ⟨_, rfl⟩
                    have HR1 : Hid (Z.heap[gr]? = some (.cells #[.int .i64 64, .int .i64 64, .int .i64 64, .int .i64 i0, .int .i64 j0] 23 (0, 0))) := by show _ = _; rw [← hZ.out]; exact heap_setCell_same _ gr 2 _ 23 _ (heap_setCell_same _ gr 1 _ 23 _ (heap_setCell_same Y gr 0 _ 23 _ HR0.out))
                    have RZ : Hid (Z.ownsRow B 27 4 (.slice A7 m7 c7) m7 (cellsG vs7)) := by show Z.ownsRow _ _ _ _ _ _; rw [← hZ.out]; exact own_cell (own_cell (own_cell RW.out HR0.out (by decide) 0 _) (heap_setCell_same Y gr 0 _ 23 _ HR0.out) (by decide) 1 _) (heap_setCell_same _ gr 1 _ 23 _ (heap_setCell_same Y gr 0 _ 23 _ HR0.out)) (by decide) 2 _
                    have BZ : Hid (Bag Z B vs7 i0 j0 G1) := by show Bag _ _ _ _ _ _; rw [← hZ.out]; exact ((BG.out.cell HR0.out (by decide) (by decide) (by decide) 0 _).cell (heap_setCell_same Y gr 0 _ 23 _ HR0.out) (by decide) (by decide) (by decide) 1 _).cell (heap_setCell_same _ gr 1 _ 23 _ (heap_setCell_same Y gr 0 _ 23 _ HR0.out)) (by decide) (by decide) (by decide) 2 _
                    have XZ : Hid (Below B u2 Z) := by show Below _ _ _; rw [← hZ.out]; exact ((BX.out.setCell (p := ⟨gr, 0, none⟩) GB.out _).setCell (p := ⟨gr, 1, none⟩) GB.out _).setCell (p := ⟨gr, 2, none⟩) GB.out _
                    have q1 := heap_setCell_same Y gr 0 _ 23 (.int .i64 64) HR0.out
                    have q2 := heap_setCell_same _ gr 1 _ 23 (.int .i64 64) q1
                    obtain ⟨ca, fa, la⟩ := bx_all HR0.out
                    obtain ⟨cb, fb, lb⟩ := bx_all q1
                    obtain ⟨cd, fd, ld⟩ := bx_all q2
                    go_upto_region 31 with fail
                    have LZ : Hid (B ≤ Z.heap.size) := by show _ ≤ _; rw [← hZ.out]; simpa using LB.out
                    clear q1 q2 ca fa la cb fb lb cd fd ld HR0 RW BG BX LB
                    have hZ' := hZ.out
                    rw [hZ']
                    clear hZ hZ'
                    go_wp2
                    go_loopw [140] (fun i wx => ∃ k : Nat, k ≤ m7 ∧ i = .int .i64 k ∧ Hid (Below Z.heap.size Z wx)) (fun i _ => m7 - (intOf i).toNat)
                    case atStart => exact ⟨0, by omega, rfl, Below.refl _ _⟩
                    case round =>
                      obtain ⟨k, hk, rfl, HBk⟩ := hrel
                      by_cases hlt : k < m7
                      · obtain ⟨gq, eA, lq, hvn, hcs⟩ := row_at RZ.out hlt
                        subst eA
                        obtain ⟨R, LL, OR0, GD0, FT0⟩ := BZ.out (vs7.getD k noGv) (by rw [getD_get hvn]; exact List.getElem_mem hvn)
                        obtain ⟨⟨⟨sA, sm, sc⟩, ⟨tA, tn, tc⟩, sx, sy⟩, hv⟩ : ∃ v, Hid (vs7.getD k noGv = v) := ⟨_, rfl⟩
                        have hv' := hv.out
                        rw [hv'] at OR0 hcs
                        clear hv hv'
                        have GD := hide GD0
                        have FT := hide FT0
                        have d0 := (HBk.out.cell (p := ⟨gq, k * 4 + 0, none⟩) lq).trans (hcs 0 (by omega))
                        have d1 := (HBk.out.cell (p := ⟨gq, k * 4 + 1, none⟩) lq).trans (hcs 1 (by omega))
                        have d2 := (HBk.out.cell (p := ⟨gq, k * 4 + 2, none⟩) lq).trans (hcs 2 (by omega))
                        have d3 := (HBk.out.cell (p := ⟨gq, k * 4 + 3, none⟩) lq).trans (hcs 3 (by omega))
                        simp only [Nat.add_zero] at d0
                        obtain ⟨U, hU⟩ : ∃ U, Hid (wr.alloc (.cells #[.slice sA sm sc, .slice tA tn tc, .int .i64 sx, .int .i64 sy] 27) = U) := ⟨_, rfl⟩
                        obtain ⟨gn, hgn⟩ : ∃ g, Hid (wr.heap.size = g) := ⟨_, rfl⟩
                        have BU0 : Hid (Below wr.heap.size wr U) := by show Below _ _ _; rw [← hU.out]; exact (Below.refl _ _).alloc (Nat.le_refl _) _
                        have HX : Hid (U.heap[gn]? = some (.cells #[.slice sA sm sc, .slice tA tn tc, .int .i64 sx, .int .i64 sy] 27 (0, 0))) := by show _ = _; rw [← hU.out, ← hgn.out]; exact heap_alloc_new _ _
                        have BU := hide (HBk.out.trans (BU0.out.mono HBk.out.size))
                        have OR := hide (OR0.step BU.out)
                        have HXR := hide (bx_step HR1.out BU.out)
                        have AB := hide (bx2_stepB HU2.out (XZ.out.trans (BU.out.mono (show B ≤ Z.heap.size by have := XZ.out.size; have := LZ.out; omega))) WB.out)
                        have LN : Hid (sm = R.N.length) := OR.out.many
                        have LE : Hid (tn = R.E.length) := edges_len OR.out.sees.edges
                        have hsm : sm ≤ 1000 := by have := LN.out; have := FT.out.n; omega
                        have htn : tn ≤ 1000 := by have := LE.out; have := FT.out.e; omega
                        have SXx : Hid (sx = R.x) := OR.out.x
                        have SYy : Hid (sy = R.y) := OR.out.y
                        go_upto_region 34 with fail
                        have hU' := hU.out
                        have hg' := hgn.out
                        rw [hU', hg']
                        clear hU hgn hU' hg' d0 d1 d2 d3 hcs BU0 OR0 GD0 FT0 HBk
                        obtain ⟨m0, -, n0⟩ := bx_all HX.out
                        go_wp2
                        clear m0 n0
                        go_loopw [33, 147] (fun p i wx => ∃ j : Nat, j ≤ sm ∧ i = .int .i64 j ∧ p = .int .i64 (propsN R.N j : Nat) ∧ Hid (Below U.heap.size U wx)) (fun _ i _ => sm - (intOf i).toNat)
                        case atStart => exact ⟨0, by omega, rfl, rfl, Below.refl _ _⟩
                        case round =>
                          obtain ⟨j, hj, rfl, rfl, HBj⟩ := hrel
                          by_cases hjl : j < sm
                          · obtain ⟨b1, off, e, hb1, f0, ⟨hA, hh, hcc⟩, f1, hP⟩ := OR.out.sees.nodes.at_ hjl
                            dsimp only at e f1
                            subst e
                            have HK : Hid (j < R.N.length) := by have := LN.out; show _ < _; omega
                            have hhb : hh ≤ 1000 := by have h := FT.out.big1000 j HK.out; have := hP.len; dsimp only at this; omega
                            have hpb : propsN R.N j ≤ 1000 * j := propsN_le1000 FT.out.big1000 j (Nat.le_of_lt HK.out)
                            have HPS : Hid (propsN R.N (j + 1) = propsN R.N j + hh) := by
                              show _ = _
                              have e := hP.len
                              dsimp only at e
                              rw [propsN_succ HK.out, e]
                            generalize (R.N.getD j (0, [])).1 = z at f0
                            have k0 := (HBj.out.cell (p := ⟨b1, _, none⟩) hb1).trans f0
                            have k1 := (HBj.out.cell (p := ⟨b1, _, none⟩) hb1).trans f1
                            clear f0 f1 hP
                            obtain ⟨pk, HPK⟩ : ∃ p, Hid (propsN R.N j = p) := ⟨_, rfl⟩
                            have HPK' := HPK.out
                            rw [HPK'] at hpb HPS ⊢
                            clear HPK'
                            have hpb2 : pk ≤ 1000000 := by have : 1000 * j ≤ 1000 * 1000 := Nat.mul_le_mul (Nat.le_refl _) (by omega); omega
                            have BJ := fun o => hide (HBj.out.alloc HBj.out.size o)
                            go_wp2
                            go_roundw
                            case rel => exact ⟨j + 1, by omega, by go_num, by rw [HPS.out]; go_num, BJ _⟩
                            case measure => simp [intOf]; omega
                          · obtain rfl : sm = j := by omega
                            have HPA : Hid (propsN R.N sm = propsN R.N R.N.length) := by show _ = _; rw [LN.out]
                            obtain ⟨pk, HPK⟩ : ∃ p, Hid (propsN R.N sm = p) := ⟨_, rfl⟩
                            have HPK' := HPK.out
                            rw [HPK'] at HPA ⊢
                            clear HPK HPK'
                            have BN := hide (BU.out.trans (HBj.out.mono BU.out.size))
                            have HXj := hide (bx_step HX.out HBj.out)
                            have HRj := hide (bx_step HXR.out HBj.out)
                            have ABj := hide (AB.out.step HBj.out)
                            obtain ⟨m0, -, n0⟩ := bx_all HXj.out
                            by_cases v1 : (64 : Int) < (pk : Int)
                            · have t1 : decide ((64 : Int) < (pk : Int)) = true := by simpa using v1
                              clear v1
                              go_wp2
                              go_roundw
                              case rel => exact ⟨k + 1, by omega, by go_num, BN⟩
                              case measure => simp [intOf]; omega
                            · have t1 : decide ((64 : Int) < (pk : Int)) = false := by simpa using v1
                              by_cases v2 : (64 : Int) < (sm : Int)
                              · have t2 : decide ((64 : Int) < (sm : Int)) = true := by simpa using v2
                                clear v1 v2
                                go_wp2
                                go_roundw
                                case rel => exact ⟨k + 1, by omega, by go_num, BN⟩
                                case measure => simp [intOf]; omega
                              · have t2 : decide ((64 : Int) < (sm : Int)) = false := by simpa using v2
                                by_cases v3 : (64 : Int) < (tn : Int)
                                · have t3 : decide ((64 : Int) < (tn : Int)) = true := by simpa using v3
                                  clear v1 v2 v3
                                  go_wp2
                                  go_roundw
                                  case rel => exact ⟨k + 1, by omega, by go_num, BN⟩
                                  case measure => simp [intOf]; omega
                                · have t3 : decide ((64 : Int) < (tn : Int)) = false := by simpa using v3
                                  have OKR : Hid (Okg 64 64 64 i0 j0 R) := GD.out.may HO.out (by have := LN.out; omega) (by have := LE.out; omega) (by have := HPA.out; omega)
                                  have FWR : Hid (FewG R) := few_of (by have := LN.out; omega) (by have := LE.out; omega) (by have := HPA.out; omega)
                                  have tx : decide (sx < x) = false := by have := GD.out.x.1; have := SXx.out; have := EX.out; simp; omega
                                  have ty : decide (sy < y) = false := by have := GD.out.y.1; have := SYy.out; have := EY.out; simp; omega
                                  have CK : Hid (Calls Try.prog 12 #[.agg #[.int .i64 64, .int .i64 64, .int .i64 64, .int .i64 i0, .int .i64 j0], .agg #[.slice sA sm sc, .slice tA tn tc, .int .i64 sx, .int .i64 sy]] wr (Drew (.int .i64 0) wr)) := check_any 64 64 64 i0 j0 ⟨⟨sA, sm, sc⟩, ⟨tA, tn, tc⟩, sx, sy⟩ R true wr (OR.out.step HBj.out).sees FWR.out ⟨fun _ => OKR.out, fun _ => rfl⟩
                                  clear v1 v2 v3
                                  obtain ⟨r0, -, s0⟩ := bx_all HRj.out
                                  go_wp2_with fail
                                  refine CK.out.mono ?_
                                  clear CK m0 n0 r0 s0
                                  rintro e u5 ⟨rfl, hb⟩
                                  obtain ⟨m0, -, n0⟩ := bx_all (bx_step HXj.out hb)
                                  obtain ⟨hc, hg0, lc, lg⟩ := (ABj.out.step hb).cells
                                  have BN2 := hide (BN.out.trans (hb.mono BN.out.size))
                                  clear hb
                                  go_wp2
                                  go_roundw
                                  case rel => exact ⟨k + 1, by omega, by go_num, BN2⟩
                                  case measure => simp [intOf]; omega
                      · go_wp2
                        go_ret
                        exact ⟨rfl, (bx2_stepB HU2.out (XZ.out.trans (HBk.out.mono (show B ≤ Z.heap.size by have := LZ.out; omega))) WB.out).bel⟩

set_option maxRecDepth 100000 in
theorem lifted (os : Os) (started : os.Started) (H : Type) (enc : TypeId × Value → H) :
    ReturnsInHanded {} Try.checked os 6 .any (Rows.graphStaysSpec.pre6 enc Try.prog Try.f6 Rows.graphStaysRow.domain false) (Rows.graphStaysSpec.post enc Try.prog Try.f6 false true false false) := by
  refine returnsInHanded_of_change (C := Try.checked) own started (by kernel_rfl) Try.func6
    (ChangeSpec.witness6 (enc := enc) (C := Try.checked) false ⟨#[], #[.agg #[.int .i64 0, .int .i64 0, .int .i64 0, .int .i64 0, .int .i64 0], .agg #[.slice none 0 0, .slice none 0 0, .int .i64 0, .int .i64 0], .int .i64 0, .int .i64 0, .int .i64 0, .int .i64 0], []⟩ 8 (by kernel_rfl) (by kernel_rfl) (by kernel_rfl) (by kernel_rfl)) ?_
  intro W base args ds gs before hval0 hW hcnd _
  have hval : ∀ (j : Nat) t v, Try.f6.params[j]? = some t → args[j]? = some v → Value.okWide Try.prog W .any base t v := hval0
  have hW' := hW
  obtain ⟨p, q, hA0, hV, rfl, hfz, hnd⟩ := hW
  have hA : DataW.TrodAll enc Try.prog W 0 (fun _ => true) true Try.f6.params.toList args.toList ds p := hA0
  rw [Try.params6] at hA hval
  obtain ⟨x0, vs0, d0, ds0, p0_, q0, hargs, rfl, rfl, h0, r0⟩ := trodAll_cons hA
  obtain ⟨x1, vs1, d1, ds1, p1_, q1, rfl, rfl, rfl, h1, r1⟩ := trodAll_cons r0
  obtain ⟨x2, vs2, d2, ds2, p2_, q2, rfl, rfl, rfl, h2, r2⟩ := trodAll_cons r1
  obtain ⟨x3, vs3, d3, ds3, p3_, q3, rfl, rfl, rfl, h3, r3⟩ := trodAll_cons r2
  obtain ⟨x4, vs4, d4, ds4, p4_, q4, rfl, rfl, rfl, h4, r4⟩ := trodAll_cons r3
  obtain ⟨x5, vs5, d5, ds5, p5_, q5, rfl, rfl, rfl, h5, r5⟩ := trodAll_cons r4
  obtain ⟨rfl, rfl, rfl⟩ := trodAll_nil r5
  obtain rfl : args = #[x0, x1, x2, x3, x4, x5] := by cases args; simp_all
  obtain ⟨rfl, rfl⟩ := trodVars_none hV
  have lt0 : ∀ x ∈ p0_, x.block < W.heap.size := by obtain ⟨m, hm⟩ := h0; exact DataW.trod_lt m _ _ _ hm
  have lt1 : ∀ x ∈ p1_, x.block < W.heap.size := by obtain ⟨m, hm⟩ := h1; exact DataW.trod_lt m _ _ _ hm
  obtain ⟨n0, e0, p0, i0, j0, rfl⟩ := open_cfg (hval 0 23 x0 rfl rfl) h0
  obtain ⟨v1, G1, rfl, w1, s1, t1, u1, -, -⟩ := open_graph (hval 1 27 x1 rfl rfl) h1
  obtain ⟨a2, rfl, rfl, rfl, w2⟩ := open_int Try.underlying3 (hval 2 3 x2 rfl rfl) h2
  obtain ⟨a3, rfl, rfl, rfl, w3⟩ := open_int Try.underlying3 (hval 3 3 x3 rfl rfl) h3
  obtain ⟨a4, rfl, rfl, rfl, w4⟩ := open_int Try.underlying3 (hval 4 3 x4 rfl rfl) h4
  obtain ⟨a5, rfl, rfl, rfl, w5⟩ := open_int Try.underlying3 (hval 5 3 x5 rfl rfl) h5
  clear hA0 hval0
  refine (walk n0 e0 p0 i0 j0 v1 G1 a2 a3 a4 a5 W w1 s1 t1 u1 w2 w3 w4 w5).mono fun e W' ⟨he, bel⟩ => ?_
  subst he
  exact ⟨_, rfl, _, _, _, [], _, [], hW', trodAll_mk1 (shut_bool Try.underlying4 _), (trodAll_cons_mk (Below.trod laidOut (by kernel_rfl) (of_decide_eq_true (by kernel_rfl)) h0 bel lt0) (trodAll_cons_mk (Below.trod laidOut (by kernel_rfl) (of_decide_eq_true (by kernel_rfl)) h1 bel lt1) (trodAll_cons_mk (shut_int Try.underlying3 w2) (trodAll_cons_mk (shut_int Try.underlying3 w3) (trodAll_cons_mk (shut_int Try.underlying3 w4) (trodAll_cons_mk (shut_int Try.underlying3 w5) trodAll_mk0)))))), rfl, bel.frame _, fun h => by cases h⟩

theorem over : Rows.graphStaysRow.holds Try.pinned (OpenSpec.ofChange Rows.graphStaysSpec) :=
  OpenClaim.holds_of_wide 6 Try.f6 rfl rfl rfl rfl rfl rfl rfl ⟨rfl, rfl, rfl, rfl, rfl⟩ rfl rfl rfl rfl rfl (by kernel_rfl) Try.func6 (by kernel_rfl)
    (of_decide_eq_true (by kernel_rfl)) (by unfold Func.isWrapper; first | (rw [if_pos (by decide +kernel)]; kernel_rfl) | (rw [if_neg (by decide +kernel)]; exact ⟨rfl, rfl⟩))
    (fun os started H enc _ => lifted os started H enc)

end Go.Proofs.Ytiiadkjiofkonaa.graphStays

namespace Go.Proofs.Ytiiadkjiofkonaa
/-- The statement. -/
theorem graphStays_holds : Rows.GraphStaysSaid := graphStays.over
#print axioms graphStays_holds
end Go.Proofs.Ytiiadkjiofkonaa
