/- Whether a node has a property: the document's answer. Plain mathematics of two nodes that are fused. -/
import Derived.Test.YtiiadkjiofkonaaGreatGNear
import Derived.WalkKit
import Derived.Below
import Derived.Deep.QuietTactic
import Derived.BigQuiet
import Derived.Shelf.Abstract
import Derived.Test.YtiiadkjiofkonaaGreatLMath
import Derived.Test.YtiiadkjiofkonaaGreatGFuse
namespace Go.Proofs.YtiiadkjiofkonaaGreat
open Go.RowKit
set_option linter.unusedVariables false

/-- Has node n the property k? -/
def hasR (G : GL) (n k : Int) : Bool := isN G n && decide (0 ≤ atf (fun z : Pr => z.1) (prsAt G (posN G n)) k)

set_option maxRecDepth 100000 in
set_option maxHeartbeats 4000000 in
theorem has_any (v : Gv) (G : GL) (a ky : Int) (q : Bool) (w : World) (S : Sees w w.heap.size v G) (HS : Small G) (hq : Hid (hasR G a ky = q)) :
    Calls Tryz.prog 44 #[v.val, .int .i64 a, .int .i64 ky] w (Drew (.bool q) w) := by
  obtain ⟨⟨nA, nn, nc⟩, ⟨eA, en, ec⟩, x, y⟩ := v
  show Calls Tryz.prog 44 #[.agg #[.slice nA nn nc, .slice eA en ec, .int .i64 x, .int .i64 y], .int .i64 a, .int .i64 ky] w _
  have SW := hide S
  have HSM := hide HS
  have ln := S.nodes.1
  have le := edges_len S.edges
  dsimp only at ln le
  have hnn : nn ≤ 1000 := by have := HS.n; omega
  have hen : en ≤ 1000 := by have := HS.e; omega
  have LN := hide ln
  clear S HS ln le
  obtain ⟨r, Hr⟩ : ∃ r, Hid (atf (fun z : Nd => z.1) G.N a = r) := ⟨_, rfl⟩
  obtain ⟨W, hW⟩ : ∃ W, Hid (w.alloc (.cells #[.slice nA nn nc, .slice eA en ec, .int .i64 x, .int .i64 y] 27) = W) := ⟨_, rfl⟩
  have BW : Hid (Below w.heap.size w W) := by show Below _ _ _; rw [← hW.out]; exact (Below.refl _ _).alloc (Nat.le_refl _) _
  have HZ : Hid (W.heap.size = w.heap.size + 1) := by show _ = _; rw [← hW.out]; simp
  have Harg : Hid (W.heap[w.heap.size]? = some (.cells #[.slice nA nn nc, .slice eA en ec, .int .i64 x, .int .i64 y] 27 (0, 0))) := by show _ = _; rw [← hW.out]; exact heap_alloc_new w _
  have SW := hide ((SW.out.below BW.out (Nat.le_refl _)).more BW.out.size)
  go_enter Tryz.func44, Tryz.ntmps44
  go_wp2_with fail
  have hW' := hW.out
  rw [hW']
  clear hW hW'
  refine (at_any ⟨⟨nA, nn, nc⟩, ⟨eA, en, ec⟩, x, y⟩ G a r _ SW.out (by dsimp only; omega) Hr).mono ?_
  rintro e u1 ⟨rfl, hb1⟩
  have Harg := hide (bx_step Harg.out hb1)
  have SW := hide ((SW.out.below hb1 (Nat.le_refl _)).more (hb1).size)
  have BW := hide (BW.out.trans (hb1.mono BW.out.size))
  clear hb1
  by_cases t : r < 0
  ·
    have t1 : decide (0 ≤ r) = false := by simp; omega
    have HQ : Hid (q = false) := by show _ = _; rw [← hq.out]; unfold hasR isN; rw [Hr.out, t1]; rfl
    clear t
    go_wp2
    go_ret
    rw [HQ.out]
    exact ⟨rfl, BW.out⟩
  ·
    have t1 : decide (0 ≤ r) = true := by simp; omega
    have HI : Hid (isN G a = true) := by show _ = _; unfold isN; rw [Hr.out, t1]
    obtain ⟨p, hp0, hp1, hp2⟩ := atf_pos Hr.out t
    subst hp0
    clear t
    have HPP : Hid (posN G a = p) := hp2
    have hpn : p < nn := by have := LN.out; omega
    clear hp2 hp1
    obtain ⟨b0, off, e0, hb0, d0, ⟨hA, hh, hcc⟩, d1, hP⟩ := SW.out.nodes.at_ (k := p) hpn
    dsimp only at e0 d1
    subst e0
    have HP := hide hP
    have hhb : hh ≤ 300 := by have := HSM.out.p p (by have := LN.out; omega); have := hP.len; dsimp only at this; omega
    have HL : Hid (hh = (G.N.getD p (0, [])).2.length) := hP.len
    clear hP d0
    have i1 : (0 : Int) ≤ (p : Int) := by omega
    have i2 : (p : Int) < (nn : Int) := by omega
    have HQ : Hid (q = decide (0 ≤ atf (fun z : Pr => z.1) (G.N.getD p (0, [])).2 ky)) := by show _ = _; rw [← hq.out]; unfold hasR; rw [HI.out, HPP.out]; rfl
    obtain ⟨carg, farg, larg⟩ := bx_all Harg.out
    go_wp2
    clear carg farg larg
    go_loopw [22] (fun i wx => ∃ m : Nat, m ≤ hh ∧ i = .int .i64 m ∧ Hid (∀ j, j < m → ((G.N.getD p (0, [])).2.getD j (0, 0)).1 ≠ ky) ∧ Hid (Below u1.heap.size u1 wx)) (fun i _ => hh - (intOf i).toNat)
    case atStart => exact ⟨0, by omega, rfl, (fun j hj => by omega), Below.refl _ _⟩
    case round =>
      obtain ⟨m, hm, rfl, HS, HB⟩ := hrel
      by_cases hlt : m < hh
      · obtain ⟨b1, o1, e1, -, c0, c1⟩ := (HP.out.below HB.out (Nat.le_refl _)).at_ (k := m) hlt
        dsimp only at e1
        subst e1
        generalize ((G.N.getD p (0, [])).2.getD m (0, 0)).2 = vv at c1
        by_cases e : ((G.N.getD p (0, [])).2.getD m (0, 0)).1 = ky
        · have HR : Hid (q = true) := by
            show _ = _
            rw [HQ.out, atf_here (d := (0, 0)) (by have := HL.out; omega) HS.out e]
            simp
          rw [e] at c0
          clear e HS
          go_wp2
          go_ret
          rw [HR.out]
          exact ⟨rfl, BW.out.trans ((HB.out.alloc HB.out.size _).mono BW.out.size)⟩
        · have HS' : Hid (∀ j, j < m + 1 → ((G.N.getD p (0, [])).2.getD j (0, 0)).1 ≠ ky) := fun j hj => by
            by_cases ej : j = m
            · subst ej; exact e
            · exact HS.out j (by omega)
          have t2 : (((G.N.getD p (0, [])).2.getD m (0, 0)).1 == ky) = false := by simpa using e
          generalize ((G.N.getD p (0, [])).2.getD m (0, 0)).1 = z at c0 t2
          clear e HS
          go_wp2
          go_roundw
          case rel => exact ⟨m + 1, by omega, by go_num, HS', hide (HB.out.alloc HB.out.size _)⟩
          case measure => simp [intOf]; omega
      · have HR : Hid (q = false) := by
          show _ = _
          rw [HQ.out, atf_none (d := (0, 0)) fun j hj => HS.out j (by have := HL.out; omega)]
          rfl
        go_wp2
        go_ret
        rw [HR.out]
        exact ⟨rfl, BW.out.trans (HB.out.mono BW.out.size)⟩

end Go.Proofs.YtiiadkjiofkonaaGreat

namespace Go.Proofs.YtiiadkjiofkonaaGreat
open Go.RowKit
set_option linter.unusedVariables false

section
variable {α : Type} {f : α → Int} {l : List α} {x : Int}
theorem findIdx_le (l : List α) (p : α → Bool) : l.findIdx p ≤ l.length := List.findIdx_le_length
theorem atf_mem : 0 ≤ atf f l x ↔ x ∈ l.map f := by
  unfold atf
  by_cases h : l.findIdx (fun d => f d == x) < l.length
  · rw [if_pos h]
    refine ⟨fun _ => ?_, fun _ => by omega⟩
    have := List.findIdx_getElem (w := h)
    rw [List.mem_map]
    exact ⟨_, List.getElem_mem h, by simpa using this⟩
  · rw [if_neg h]
    refine ⟨fun h => by omega, fun hm => ?_⟩
    obtain ⟨y, hy, rfl⟩ := List.mem_map.1 hm
    exact absurd (List.findIdx_lt_length_of_exists ⟨y, hy, by simp⟩) h
end
theorem isN_iff {G : GL} {x : Int} : isN G x = true ↔ x ∈ G.N.map fun z : Nd => z.1 := by
  unfold isN
  rw [decide_eq_true_iff, atf_mem]
theorem same_id {N : List Nd} (hd : (N.map fun z : Nd => z.1).Nodup) {d e : Nd} (h1 : d ∈ N) (h2 : e ∈ N) (h : d.1 = e.1) : d = e := by
  induction N with
  | nil => cases h1
  | cons a N ih =>
    rw [List.map_cons, List.nodup_cons] at hd
    rcases List.mem_cons.1 h1 with rfl | k1
    · rcases List.mem_cons.1 h2 with rfl | h2
      · rfl
      · exact absurd (by rw [h]; exact List.mem_map_of_mem h2) hd.1
    · rcases List.mem_cons.1 h2 with rfl | h2
      · exact absurd (by rw [← h]; exact List.mem_map_of_mem k1) hd.1
      · exact ih hd.2 k1 h2
theorem posN_lt {G : GL} {x : Int} (h : isN G x = true) : posN G x < G.N.length ∧ (G.N.getD (posN G x) (0, [])).1 = x := by
  obtain ⟨d, hd, e⟩ := List.mem_map.1 (isN_iff.1 h)
  have hl : posN G x < G.N.length := List.findIdx_lt_length_of_exists ⟨d, hd, by simpa using e⟩
  refine ⟨hl, ?_⟩
  have : (fun d : Nd => d.1 == x) (G.N[posN G x]) = true := List.findIdx_getElem (w := hl)
  rw [List.getD_eq_getElem?_getD, List.getElem?_eq_getElem hl]
  simpa using this
theorem prsAt_mem {G : GL} {x : Int} {l : List Pr} (hd : (G.N.map fun z : Nd => z.1).Nodup) (h : (x, l) ∈ G.N) : prsAt G (posN G x) = l := by
  have hi : isN G x = true := isN_iff.2 (List.mem_map_of_mem (f := fun z : Nd => z.1) h)
  obtain ⟨hl, he⟩ := posN_lt hi
  have hm : G.N.getD (posN G x) (0, []) ∈ G.N := by rw [List.getD_eq_getElem?_getD, List.getElem?_eq_getElem hl]; exact List.getElem_mem hl
  have := same_id hd hm h he
  unfold prsAt
  rw [this]
theorem keys_missing {P Q : List Pr} {k : Int} : k ∈ (missing P Q).map (fun z : Pr => z.1) ↔ k ∈ Q.map (fun z : Pr => z.1) ∧ k ∉ P.map (fun z : Pr => z.1) := by
  unfold missing
  constructor
  · intro h
    obtain ⟨d, hd, rfl⟩ := List.mem_map.1 h
    rw [List.mem_filter, decide_eq_true_iff] at hd
    refine ⟨List.mem_map_of_mem hd.1, fun hm => ?_⟩
    have := atf_mem.2 hm
    omega
  · rintro ⟨h, hn⟩
    obtain ⟨d, hd, rfl⟩ := List.mem_map.1 h
    refine List.mem_map_of_mem (f := fun z : Pr => z.1) (List.mem_filter.2 ⟨hd, ?_⟩)
    rw [decide_eq_true_iff]
    have : ¬ 0 ≤ atf (fun z : Pr => z.1) P d.1 := fun h => hn (atf_mem.1 h)
    omega
theorem both_apart {P Q : List Pr} (hP : Rise (fun z : Pr => z.1) (0, 0) P) (hQ : Rise (fun z : Pr => z.1) (0, 0) Q) : ((P ++ missing P Q).map fun z : Pr => z.1).Nodup := by
  rw [List.map_append, List.nodup_append]
  refine ⟨hP.apart, ?_, ?_⟩
  · have : ((missing P Q).map fun z : Pr => z.1).Sublist (Q.map fun z : Pr => z.1) := List.Sublist.map _ List.filter_sublist
    exact this.nodup hQ.apart
  · intro a ha b hb e
    subst e
    exact (keys_missing.1 hb).2 ha
theorem same_key : ∀ {l : List Pr}, (l.map fun z : Pr => z.1).Nodup → ∀ {d e : Pr}, d ∈ l → e ∈ l → d.1 = e.1 → d = e
  | [], _, _, _, h1, _, _ => by cases h1
  | a :: N, hd, d, e, h1, h2, h => by
    rw [List.map_cons, List.nodup_cons] at hd
    rcases List.mem_cons.1 h1 with rfl | k1
    · rcases List.mem_cons.1 h2 with rfl | h2
      · rfl
      · exact absurd (by rw [h]; exact List.mem_map_of_mem h2) hd.1
    · rcases List.mem_cons.1 h2 with rfl | k2
      · exact absurd (by rw [← h]; exact List.mem_map_of_mem k1) hd.1
      · exact same_key hd.2 k1 k2 h
/-- The properties of both, in order: there is one such list. -/
theorem one_list {X : List Pr} (hd : (X.map fun z : Pr => z.1).Nodup) : ∃ M : List Pr, M.Perm X ∧ ∀ l : List Pr, l.Perm X → (l.Pairwise fun p q => ¬ q.1 < p.1) → l = M := by
  refine ⟨X.mergeSort fun p q => decide (p.1 ≤ q.1), List.mergeSort_perm _ _, fun l hl hs => ?_⟩
  have h1 := List.pairwise_mergeSort (le := fun p q : Pr => decide (p.1 ≤ q.1)) (by intro a b c h1 h2; simp only [decide_eq_true_iff] at *; omega) (by intro a b; simp only [Bool.or_eq_true, decide_eq_true_iff]; omega) X
  refine List.Perm.eq_of_pairwise (le := fun p q : Pr => ¬ q.1 < p.1) ?_ hs (h1.imp fun h => by simp only [decide_eq_true_iff] at h; omega) (hl.trans (List.mergeSort_perm _ _).symm)
  intro a b ha hb h1 h2
  exact same_key hd (hl.subset ha) ((List.mergeSort_perm _ _).subset hb) (by omega)
section
variable {G : GL} {c0 c1 c2 c3 c4 a b : Int} {M : List Pr}
theorem prs_rise (o : Okg c0 c1 c2 c3 c4 G) (h : isN G a = true) : Rise (fun z : Pr => z.1) (0, 0) (prsAt G (posN G a)) := o.pr _ (posN_lt h).1
theorem fuse_ids (h : isN G a = true) : (fuseG a b M G).N.map (fun z : Nd => z.1) = (G.N.map fun z : Nd => z.1).filter fun z => z != b := by
  show (((setN G (posN G a) M).N.filter fun d => d.1 != b).map fun z : Nd => z.1) = _
  have e : (setN G (posN G a) M).N.map (fun z : Nd => z.1) = G.N.map fun z : Nd => z.1 := by
    unfold setN
    simp only [List.map_set]
    obtain ⟨hl, he⟩ := posN_lt h
    have : (G.N.getD (posN G a) (0, [])).1 = (G.N.map fun z : Nd => z.1)[posN G a]'(by simpa using hl) := by
      rw [List.getElem_map, List.getD_eq_getElem?_getD, List.getElem?_eq_getElem hl]
      rfl
    rw [this, List.set_getElem_self]
  rw [← e, List.filter_map]
  rfl
theorem fuse_apart (o : Okg c0 c1 c2 c3 c4 G) (h : isN G a = true) : ((fuseG a b M G).N.map fun z : Nd => z.1).Nodup := by
  rw [fuse_ids h]
  exact List.Sublist.nodup List.filter_sublist o.ids
theorem fuse_in (h : isN G a = true) (hab : a ≠ b) : isN (fuseG a b M G) a = true := by
  rw [isN_iff, fuse_ids h, List.mem_filter]
  exact ⟨isN_iff.1 h, by simpa using hab⟩
theorem fuse_out (h : isN G a = true) : isN (fuseG a b M G) b = false := by
  rw [Bool.eq_false_iff]
  intro hb
  rw [isN_iff, fuse_ids h, List.mem_filter] at hb
  simp at hb
theorem filter_ne_len : ∀ {l : List Int}, l.Nodup → b ∈ l → (l.filter fun z => z != b).length + 1 = l.length
  | [], _, h => by cases h
  | x :: l, hd, h => by
    rw [List.nodup_cons] at hd
    by_cases e : x = b
    · subst e
      have : l.filter (fun z => z != x) = l := by
        rw [List.filter_eq_self]
        intro y hy
        simp only [bne_iff_ne]
        rintro rfl
        exact hd.1 hy
      simp [this]
    · have := filter_ne_len hd.2 (by rcases List.mem_cons.1 h with h | h; · exact absurd h.symm e
                                     · exact h)
      simp [e, this]
theorem fuse_nodes (o : Okg c0 c1 c2 c3 c4 G) (h : isN G a = true) (hb : isN G b = true) : (fuseG a b M G).N.length + 1 = G.N.length := by
  have h1 := congrArg List.length (fuse_ids (b := b) (M := M) h)
  have h2 := filter_ne_len o.ids (isN_iff.1 hb)
  simp only [List.length_map] at h1 h2
  omega
theorem fuse_edges : (fuseG a b M G).E.length = G.E.length := by unfold fuseG; simp
theorem fuse_prs (o : Okg c0 c1 c2 c3 c4 G) (h : isN G a = true) (hab : a ≠ b) : prsAt (fuseG a b M G) (posN (fuseG a b M G) a) = M := by
  refine prsAt_mem (fuse_apart o h) ?_
  show (a, M) ∈ (setN G (posN G a) M).N.filter fun d => d.1 != b
  rw [List.mem_filter]
  obtain ⟨hl, he⟩ := posN_lt h
  refine ⟨?_, by simpa using hab⟩
  unfold setN
  show (a, M) ∈ G.N.set (posN G a) ((G.N.getD (posN G a) (0, [])).1, M)
  rw [he]
  exact List.mem_set hl _
theorem two_kinds {p q r : Ed → Bool} (h : ∀ d, (if p d then 1 else 0 : Nat) = (if q d then 1 else 0) + (if r d then 1 else 0)) : ∀ l : List Ed, (l.filter p).length = (l.filter q).length + (l.filter r).length
  | [] => rfl
  | d :: l => by
    have h1 := two_kinds h l
    have h2 := h d
    simp only [List.filter_cons]
    cases hp : p d <;> cases hq : q d <;> cases hr : r d <;> simp only [hp, hq, hr] at h2 <;> simp at h2 ⊢ <;> omega
theorem fuse_outs (hab : a ≠ b) : (outs (fuseG a b M G) a).length = (outs G a).length + (outs G b).length := by
  unfold outs fuseG
  simp only [List.length_map, List.filter_map]
  refine two_kinds (fun d => ?_) G.E
  have hm : (mvE b a d).2.1 = if d.2.1 = b then a else d.2.1 := rfl
  simp only [Function.comp_apply, hm, beq_iff_eq]
  by_cases e1 : d.2.1 = b
  · have : ¬ b = a := fun e => hab e.symm
    simp [e1, this]
  · simp [e1]
theorem fuse_ins (hab : a ≠ b) : (ins (fuseG a b M G) a).length = (ins G a).length + (ins G b).length := by
  unfold ins fuseG
  simp only [List.length_map, List.filter_map]
  refine two_kinds (fun d => ?_) G.E
  have hm : (mvE b a d).2.2 = if d.2.2 = b then a else d.2.2 := rfl
  simp only [Function.comp_apply, hm, beq_iff_eq]
  by_cases e1 : d.2.2 = b
  · have : ¬ b = a := fun e => hab e.symm
    simp [e1, this]
  · simp [e1]
theorem fuse_has (o : Okg c0 c1 c2 c3 c4 G) (ha : isN G a = true) (hb : isN G b = true) (hab : a ≠ b) (hM : M.Perm (prsAt G (posN G a) ++ missing (prsAt G (posN G a)) (prsAt G (posN G b)))) (k : Int) :
    hasR (fuseG a b M G) a k = (hasR G a k || hasR G b k) := by
  unfold hasR
  rw [fuse_in ha hab, fuse_prs o ha hab, ha, hb, Bool.true_and, Bool.true_and, Bool.true_and, Bool.eq_iff_iff, Bool.or_eq_true, decide_eq_true_iff, decide_eq_true_iff, decide_eq_true_iff, atf_mem, atf_mem, atf_mem, (hM.map _).mem_iff, List.map_append, List.mem_append, keys_missing]
  constructor
  · rintro (h | h)
    · exact .inl h
    · exact .inr h.1
  · rintro (h | h)
    · exact .inl h
    · by_cases hk : k ∈ (prsAt G (posN G a)).map fun z : Pr => z.1
      · exact .inl hk
      · exact .inr ⟨h, hk⟩
theorem fuse_small (o : Okg c0 c1 c2 c3 c4 G) (hF : FewG G) (ha : isN G a = true) (hb : isN G b = true) (hM : M.Perm (prsAt G (posN G a) ++ missing (prsAt G (posN G a)) (prsAt G (posN G b)))) : Small (fuseG a b M G) := by
  have hS := o.small hF
  have hl : M.length ≤ 200 := by
    have h1 := hM.length_eq
    have h2 := hF.1 _ (posN_lt ha).1
    have h3 := hF.1 _ (posN_lt hb).1
    have h4 : (missing (prsAt G (posN G a)) (prsAt G (posN G b))).length ≤ (prsAt G (posN G b)).length := List.length_filter_le _ _
    rw [List.length_append] at h1
    unfold prsAt at *
    omega
  refine ⟨by have := fuse_nodes (M := M) o ha hb; have := hS.n; omega, by rw [fuse_edges]; exact hS.e, fun j hj => ?_, hS.x, hS.y⟩
  have hm : (fuseG a b M G).N.getD j (0, []) ∈ (fuseG a b M G).N := by rw [List.getD_eq_getElem?_getD, List.getElem?_eq_getElem hj]; exact List.getElem_mem hj
  have hm2 : (fuseG a b M G).N.getD j (0, []) ∈ G.N.set (posN G a) ((G.N.getD (posN G a) (0, [])).1, M) := (List.mem_filter.1 hm).1
  rcases List.mem_or_eq_of_mem_set hm2 with h | h
  · obtain ⟨i, hi, e⟩ := List.getElem_of_mem h
    have := hF.1 i hi
    rw [List.getD_eq_getElem?_getD, List.getElem?_eq_getElem hi] at this
    rw [← e]
    simpa using Nat.le_trans this (by omega)
  · rw [h]
    show M.length ≤ 300
    omega
end
end Go.Proofs.YtiiadkjiofkonaaGreat
