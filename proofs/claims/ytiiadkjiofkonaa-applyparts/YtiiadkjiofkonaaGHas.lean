/- Whether a node has a property: the document's answer. -/
import Derived.Test.YtiiadkjiofkonaaGNear
import Derived.WalkKit
import Derived.Below
import Derived.Deep.QuietTactic
import Derived.BigQuiet
import Derived.Shelf.Abstract
namespace Go.Proofs.Ytiiadkjiofkonaa
open Go.RowKit
set_option linter.unusedVariables false

/-- Has node n the property k? -/
def hasR (G : GL) (n k : Int) : Bool := isN G n && decide (0 ≤ atf (fun z : Pr => z.1) (prsAt G (posN G n)) k)

set_option maxRecDepth 100000 in
set_option maxHeartbeats 4000000 in
theorem has_any (v : Gv) (G : GL) (a ky : Int) (q : Bool) (w : World) (S : Sees w w.heap.size v G) (HS : Small G) (hq : Hid (hasR G a ky = q)) :
    Calls Try.prog 40 #[v.val, .int .i64 a, .int .i64 ky] w (Drew (.bool q) w) := by
  obtain ⟨⟨nA, nn, nc⟩, ⟨eA, en, ec⟩, x, y⟩ := v
  show Calls Try.prog 40 #[.agg #[.slice nA nn nc, .slice eA en ec, .int .i64 x, .int .i64 y], .int .i64 a, .int .i64 ky] w _
  have SW := hide S
  have HSM := hide HS
  have ln := S.nodes.1
  have le := edges_len S.edges
  dsimp only at ln le
  have hnn : nn ≤ 1000 := by have := HS.n; omega
  have hen : en ≤ 1000 := by have := HS.e; omega
  have LN := hide ln
  clear S HS ln le
  obtain ⟨r, Hr⟩ : ∃ r, Hid (atf (fun z : Nd => z.1) G.N a = r) := ⟨_, rfl⟩
  obtain ⟨W, hW⟩ : ∃ W, Hid (w.alloc (.cells #[.slice nA nn nc, .slice eA en ec, .int .i64 x, .int .i64 y] 27) = W) := ⟨_, rfl⟩
  have BW : Hid (Below w.heap.size w W) := by show Below _ _ _; rw [← hW.out]; exact (Below.refl _ _).alloc (Nat.le_refl _) _
  have HZ : Hid (W.heap.size = w.heap.size + 1) := by show _ = _; rw [← hW.out]; simp
  have Harg : Hid (W.heap[w.heap.size]? = some (.cells #[.slice nA nn nc, .slice eA en ec, .int .i64 x, .int .i64 y] 27 (0, 0))) := by show _ = _; rw [← hW.out]; exact heap_alloc_new w _
  have SW := hide ((SW.out.below BW.out (Nat.le_refl _)).more BW.out.size)
  go_enter Try.func40, Try.ntmps40
  go_wp2_with fail
  have hW' := hW.out
  rw [hW']
  clear hW hW'
  refine (at_any ⟨⟨nA, nn, nc⟩, ⟨eA, en, ec⟩, x, y⟩ G a r _ SW.out (by dsimp only; omega) Hr).mono ?_
  rintro e u1 ⟨rfl, hb1⟩
  have Harg := hide (bx_step Harg.out hb1)
  have SW := hide ((SW.out.below hb1 (Nat.le_refl _)).more (hb1).size)
  have BW := hide (BW.out.trans (hb1.mono BW.out.size))
  clear hb1
  by_cases t : r < 0
  ·
    have t1 : decide (0 ≤ r) = false := by simp; omega
    have HQ : Hid (q = false) := by show _ = _; rw [← hq.out]; unfold hasR isN; rw [Hr.out, t1]; rfl
    clear t
    go_wp2
    go_ret
    rw [HQ.out]
    exact ⟨rfl, BW.out⟩
  ·
    have t1 : decide (0 ≤ r) = true := by simp; omega
    have HI : Hid (isN G a = true) := by show _ = _; unfold isN; rw [Hr.out, t1]
    obtain ⟨p, hp0, hp1, hp2⟩ := atf_pos Hr.out t
    subst hp0
    clear t
    have HPP : Hid (posN G a = p) := hp2
    have hpn : p < nn := by have := LN.out; omega
    clear hp2 hp1
    obtain ⟨b0, off, e0, hb0, d0, ⟨hA, hh, hcc⟩, d1, hP⟩ := SW.out.nodes.at_ (k := p) hpn
    dsimp only at e0 d1
    subst e0
    have HP := hide hP
    have hhb : hh ≤ 300 := by have := HSM.out.p p (by have := LN.out; omega); have := hP.len; dsimp only at this; omega
    have HL : Hid (hh = (G.N.getD p (0, [])).2.length) := hP.len
    clear hP d0
    have i1 : (0 : Int) ≤ (p : Int) := by omega
    have i2 : (p : Int) < (nn : Int) := by omega
    have HQ : Hid (q = decide (0 ≤ atf (fun z : Pr => z.1) (G.N.getD p (0, [])).2 ky)) := by show _ = _; rw [← hq.out]; unfold hasR; rw [HI.out, HPP.out]; rfl
    obtain ⟨carg, farg, larg⟩ := bx_all Harg.out
    go_wp2
    clear carg farg larg
    go_loopw [22] (fun i wx => ∃ m : Nat, m ≤ hh ∧ i = .int .i64 m ∧ Hid (∀ j, j < m → ((G.N.getD p (0, [])).2.getD j (0, 0)).1 ≠ ky) ∧ Hid (Below u1.heap.size u1 wx)) (fun i _ => hh - (intOf i).toNat)
    case atStart => exact ⟨0, by omega, rfl, (fun j hj => by omega), Below.refl _ _⟩
    case round =>
      obtain ⟨m, hm, rfl, HS, HB⟩ := hrel
      by_cases hlt : m < hh
      · obtain ⟨b1, o1, e1, -, c0, c1⟩ := (HP.out.below HB.out (Nat.le_refl _)).at_ (k := m) hlt
        dsimp only at e1
        subst e1
        generalize ((G.N.getD p (0, [])).2.getD m (0, 0)).2 = vv at c1
        by_cases e : ((G.N.getD p (0, [])).2.getD m (0, 0)).1 = ky
        · have HR : Hid (q = true) := by
            show _ = _
            rw [HQ.out, atf_here (d := (0, 0)) (by have := HL.out; omega) HS.out e]
            simp
          rw [e] at c0
          clear e HS
          go_wp2
          go_ret
          rw [HR.out]
          exact ⟨rfl, BW.out.trans ((HB.out.alloc HB.out.size _).mono BW.out.size)⟩
        · have HS' : Hid (∀ j, j < m + 1 → ((G.N.getD p (0, [])).2.getD j (0, 0)).1 ≠ ky) := fun j hj => by
            by_cases ej : j = m
            · subst ej; exact e
            · exact HS.out j (by omega)
          have t2 : (((G.N.getD p (0, [])).2.getD m (0, 0)).1 == ky) = false := by simpa using e
          generalize ((G.N.getD p (0, [])).2.getD m (0, 0)).1 = z at c0 t2
          clear e HS
          go_wp2
          go_roundw
          case rel => exact ⟨m + 1, by omega, by go_num, HS', hide (HB.out.alloc HB.out.size _)⟩
          case measure => simp [intOf]; omega
      · have HR : Hid (q = false) := by
          show _ = _
          rw [HQ.out, atf_none (d := (0, 0)) fun j hj => HS.out j (by have := HL.out; omega)]
          rfl
        go_wp2
        go_ret
        rw [HR.out]
        exact ⟨rfl, BW.out.trans (HB.out.mono BW.out.size)⟩

end Go.Proofs.Ytiiadkjiofkonaa
