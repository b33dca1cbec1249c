/- What Plain tells, for every operation: the code's and the document's. -/
import Derived.Test.YtpldcmhbbhjhgaaRows
import Derived.Test.YtpldcmhbbhjhgaaMath
import Derived.Laws.Rows
import Derived.WalkKit
namespace Go.Proofs.Ytpldcmhbbhjhgaa
open Go.RowKit
set_option linter.unusedVariables false

abbrev O5 (k a b c v : Int) : Value := .agg #[.int .i64 k, .int .i64 a, .int .i64 b, .int .i64 c, .int .i64 v]

theorem Try.size23 : (Try.prog.info? 23).map (·.size) = some 5 := by kernel_rfl

/-- A struct result and another one. -/
theorem results_row_tmp {P : Program} {fn : Func} {p u : Tmp} {ty : TypeId} (h : fn.results = #[.cell p ty, .tmp u]) (tmps : Array Value) (w : World) (g : Nat) (t : TypeId) (cs : Array Value) (fr : Nat × Nat) (d : TypeDesc)
    (hp : tmps.getD p undef = .pointer (some ⟨g, 0, none⟩)) (hg : w.heap[g]? = some (.cells cs t fr))
    (hu : P.underlying ty = some d) (hd : (match d with | .struct _ | .array _ _ => true | _ => false) = true) (hi : (P.info? ty).map (·.size) = some cs.size) :
    (results fn tmps).run P w = .ok (.tuple #[.agg cs, tmps.getD u undef]) w := by
  have hp' : tmps[p]?.getD undef = .pointer (some ⟨g, 0, none⟩) := by simpa using hp
  simp [results, h, hp', asAddr, run_loadVar_row w g t ty cs fr d hg hu hd hi]


theorem two_blocks (w : World) (o o' : Obj) : Below w.heap.size w ((w.alloc o).alloc o') := ((Below.refl _ _).alloc (Nat.le_refl _) _).alloc (by simp) _

set_option maxHeartbeats 400000 in
theorem plain_1 (a b c v : Int) (w : World) : Calls Try.prog 10 #[O5 1 a b c v] w (Drew (.tuple #[O5 1 0 0 0 0, .bool true]) w) := by
  go_enter Try.func10, Try.ntmps10
  go_wp2
  refine bodyPost_ret (results_row_tmp rfl _ _ (w.heap.size + 1) 23 _ (0, 0) _ rfl (heap_alloc2_new _ _ _) Try.underlying23 rfl Try.size23) rfl ⟨rfl, two_blocks _ _ _⟩

set_option maxHeartbeats 400000 in
theorem plain_2 (a b c v : Int) (w : World) : Calls Try.prog 10 #[O5 2 a b c v] w (Drew (.tuple #[O5 2 a b 0 0, .bool true]) w) := by
  go_enter Try.func10, Try.ntmps10
  go_wp2
  refine bodyPost_ret (results_row_tmp rfl _ _ (w.heap.size + 1) 23 _ (0, 0) _ rfl (heap_alloc2_new _ _ _) Try.underlying23 rfl Try.size23) rfl ⟨rfl, two_blocks _ _ _⟩

set_option maxHeartbeats 400000 in
theorem plain_3 (a b c v : Int) (w : World) : Calls Try.prog 10 #[O5 3 a b c v] w (Drew (.tuple #[O5 3 a 0 0 0, .bool true]) w) := by
  go_enter Try.func10, Try.ntmps10
  go_wp2
  refine bodyPost_ret (results_row_tmp rfl _ _ (w.heap.size + 1) 23 _ (0, 0) _ rfl (heap_alloc2_new _ _ _) Try.underlying23 rfl Try.size23) rfl ⟨rfl, two_blocks _ _ _⟩

set_option maxHeartbeats 400000 in
theorem plain_4 (a b c v : Int) (w : World) : Calls Try.prog 10 #[O5 4 a b c v] w (Drew (.tuple #[O5 4 a 0 c v, .bool true]) w) := by
  go_enter Try.func10, Try.ntmps10
  go_wp2
  refine bodyPost_ret (results_row_tmp rfl _ _ (w.heap.size + 1) 23 _ (0, 0) _ rfl (heap_alloc2_new _ _ _) Try.underlying23 rfl Try.size23) rfl ⟨rfl, two_blocks _ _ _⟩

set_option maxHeartbeats 400000 in
theorem plain_5 (a b c v : Int) (w : World) : Calls Try.prog 10 #[O5 5 a b c v] w (Drew (.tuple #[O5 5 a 0 c 0, .bool true]) w) := by
  go_enter Try.func10, Try.ntmps10
  go_wp2
  refine bodyPost_ret (results_row_tmp rfl _ _ (w.heap.size + 1) 23 _ (0, 0) _ rfl (heap_alloc2_new _ _ _) Try.underlying23 rfl Try.size23) rfl ⟨rfl, two_blocks _ _ _⟩

set_option maxHeartbeats 400000 in
theorem plain_6 (a b c v : Int) (w : World) : Calls Try.prog 10 #[O5 6 a b c v] w (Drew (.tuple #[O5 6 a 0 0 0, .bool true]) w) := by
  go_enter Try.func10, Try.ntmps10
  go_wp2
  refine bodyPost_ret (results_row_tmp rfl _ _ (w.heap.size + 1) 23 _ (0, 0) _ rfl (heap_alloc2_new _ _ _) Try.underlying23 rfl Try.size23) rfl ⟨rfl, two_blocks _ _ _⟩

set_option maxHeartbeats 400000 in
theorem plain_7 (a b c v : Int) (w : World) : Calls Try.prog 10 #[O5 7 a b c v] w (Drew (.tuple #[O5 7 a 0 0 0, .bool true]) w) := by
  go_enter Try.func10, Try.ntmps10
  go_wp2
  refine bodyPost_ret (results_row_tmp rfl _ _ (w.heap.size + 1) 23 _ (0, 0) _ rfl (heap_alloc2_new _ _ _) Try.underlying23 rfl Try.size23) rfl ⟨rfl, two_blocks _ _ _⟩

set_option maxHeartbeats 400000 in
theorem plain_8 (a b c v : Int) (w : World) : Calls Try.prog 10 #[O5 8 a b c v] w (Drew (.tuple #[O5 8 a 0 0 0, .bool true]) w) := by
  go_enter Try.func10, Try.ntmps10
  go_wp2
  refine bodyPost_ret (results_row_tmp rfl _ _ (w.heap.size + 1) 23 _ (0, 0) _ rfl (heap_alloc2_new _ _ _) Try.underlying23 rfl Try.size23) rfl ⟨rfl, two_blocks _ _ _⟩

set_option maxHeartbeats 400000 in
theorem plain_9 (a b c v : Int) (w : World) : Calls Try.prog 10 #[O5 9 a b c v] w (Drew (.tuple #[O5 9 a b 0 0, .bool true]) w) := by
  go_enter Try.func10, Try.ntmps10
  go_wp2
  refine bodyPost_ret (results_row_tmp rfl _ _ (w.heap.size + 1) 23 _ (0, 0) _ rfl (heap_alloc2_new _ _ _) Try.underlying23 rfl Try.size23) rfl ⟨rfl, two_blocks _ _ _⟩

set_option maxHeartbeats 400000 in
theorem plain_no (k a b c v : Int) (w : World) (h1 : (k == 1) = false) (h2 : (k == 2) = false) (h3 : (k == 3) = false) (h4 : (k == 4) = false) (h5 : (k == 5) = false) (h6 : (k == 6) = false) (h7 : (k == 7) = false) (h8 : (k == 8) = false) (h9 : (k == 9) = false) :
    Calls Try.prog 10 #[O5 k a b c v] w (Drew (.tuple #[O5 0 0 0 0 0, .bool false]) w) := by
  go_enter Try.func10, Try.ntmps10
  go_wp2
  refine bodyPost_ret (results_row_tmp rfl _ _ (w.heap.size + 1) 23 _ (0, 0) _ rfl (heap_alloc2_new _ _ _) Try.underlying23 rfl Try.size23) rfl ⟨rfl, two_blocks _ _ _⟩

theorem plain_any (k a b c v p q r s t : Int) (ok : Bool) (w : World) (h : Hid (Pl k a b c v p q r s t ok)) : Calls Try.prog 10 #[O5 k a b c v] w (Drew (.tuple #[O5 p q r s t, .bool ok]) w) := by
  have h' := h.out
  unfold Pl pl5 at h'
  by_cases e1 : k = 1
  · subst e1
    simp at h'
    obtain ⟨rfl, rfl, rfl, rfl, rfl, rfl⟩ := h'
    exact plain_1 _ _ _ _ w
  by_cases e2 : k = 2
  · subst e2
    simp at h'
    obtain ⟨rfl, rfl, rfl, rfl, rfl, rfl⟩ := h'
    exact plain_2 _ _ _ _ w
  by_cases e3 : k = 3
  · subst e3
    simp at h'
    obtain ⟨rfl, rfl, rfl, rfl, rfl, rfl⟩ := h'
    exact plain_3 _ _ _ _ w
  by_cases e4 : k = 4
  · subst e4
    simp at h'
    obtain ⟨rfl, rfl, rfl, rfl, rfl, rfl⟩ := h'
    exact plain_4 _ _ _ _ w
  by_cases e5 : k = 5
  · subst e5
    simp at h'
    obtain ⟨rfl, rfl, rfl, rfl, rfl, rfl⟩ := h'
    exact plain_5 _ _ _ _ w
  by_cases e6 : k = 6
  · subst e6
    simp at h'
    obtain ⟨rfl, rfl, rfl, rfl, rfl, rfl⟩ := h'
    exact plain_6 _ _ _ _ w
  by_cases e7 : k = 7
  · subst e7
    simp at h'
    obtain ⟨rfl, rfl, rfl, rfl, rfl, rfl⟩ := h'
    exact plain_7 _ _ _ _ w
  by_cases e8 : k = 8
  · subst e8
    simp at h'
    obtain ⟨rfl, rfl, rfl, rfl, rfl, rfl⟩ := h'
    exact plain_8 _ _ _ _ w
  by_cases e9 : k = 9
  · subst e9
    simp at h'
    obtain ⟨rfl, rfl, rfl, rfl, rfl, rfl⟩ := h'
    exact plain_9 _ _ _ _ w
  simp [e1, e2, e3, e4, e5, e6, e7, e8, e9] at h'
  obtain ⟨rfl, rfl, rfl, rfl, rfl, rfl⟩ := h'
  exact plain_no k _ _ _ _ w (by simpa using e1) (by simpa using e2) (by simpa using e3) (by simpa using e4) (by simpa using e5) (by simpa using e6) (by simpa using e7) (by simpa using e8) (by simpa using e9)

set_option maxHeartbeats 400000 in
theorem rplain_1 (a b c v : Int) (w : World) : Calls Try.prog 11 #[O5 1 a b c v] w (Drew (.tuple #[O5 1 0 0 0 0, .bool true]) w) := by
  go_enter Try.func11, Try.ntmps11
  go_wp2
  refine bodyPost_ret (results_row_tmp rfl _ _ (w.heap.size + 1) 23 _ (0, 0) _ rfl (heap_alloc2_new _ _ _) Try.underlying23 rfl Try.size23) rfl ⟨rfl, two_blocks _ _ _⟩

set_option maxHeartbeats 400000 in
theorem rplain_2 (a b c v : Int) (w : World) : Calls Try.prog 11 #[O5 2 a b c v] w (Drew (.tuple #[O5 2 a b 0 0, .bool true]) w) := by
  go_enter Try.func11, Try.ntmps11
  go_wp2
  refine bodyPost_ret (results_row_tmp rfl _ _ (w.heap.size + 1) 23 _ (0, 0) _ rfl (heap_alloc2_new _ _ _) Try.underlying23 rfl Try.size23) rfl ⟨rfl, two_blocks _ _ _⟩

set_option maxHeartbeats 400000 in
theorem rplain_3 (a b c v : Int) (w : World) : Calls Try.prog 11 #[O5 3 a b c v] w (Drew (.tuple #[O5 3 a 0 0 0, .bool true]) w) := by
  go_enter Try.func11, Try.ntmps11
  go_wp2
  refine bodyPost_ret (results_row_tmp rfl _ _ (w.heap.size + 1) 23 _ (0, 0) _ rfl (heap_alloc2_new _ _ _) Try.underlying23 rfl Try.size23) rfl ⟨rfl, two_blocks _ _ _⟩

set_option maxHeartbeats 400000 in
theorem rplain_4 (a b c v : Int) (w : World) : Calls Try.prog 11 #[O5 4 a b c v] w (Drew (.tuple #[O5 4 a 0 c v, .bool true]) w) := by
  go_enter Try.func11, Try.ntmps11
  go_wp2
  refine bodyPost_ret (results_row_tmp rfl _ _ (w.heap.size + 1) 23 _ (0, 0) _ rfl (heap_alloc2_new _ _ _) Try.underlying23 rfl Try.size23) rfl ⟨rfl, two_blocks _ _ _⟩

set_option maxHeartbeats 400000 in
theorem rplain_5 (a b c v : Int) (w : World) : Calls Try.prog 11 #[O5 5 a b c v] w (Drew (.tuple #[O5 5 a 0 c 0, .bool true]) w) := by
  go_enter Try.func11, Try.ntmps11
  go_wp2
  refine bodyPost_ret (results_row_tmp rfl _ _ (w.heap.size + 1) 23 _ (0, 0) _ rfl (heap_alloc2_new _ _ _) Try.underlying23 rfl Try.size23) rfl ⟨rfl, two_blocks _ _ _⟩

set_option maxHeartbeats 400000 in
theorem rplain_6 (a b c v : Int) (w : World) : Calls Try.prog 11 #[O5 6 a b c v] w (Drew (.tuple #[O5 6 a 0 0 0, .bool true]) w) := by
  go_enter Try.func11, Try.ntmps11
  go_wp2
  refine bodyPost_ret (results_row_tmp rfl _ _ (w.heap.size + 1) 23 _ (0, 0) _ rfl (heap_alloc2_new _ _ _) Try.underlying23 rfl Try.size23) rfl ⟨rfl, two_blocks _ _ _⟩

set_option maxHeartbeats 400000 in
theorem rplain_7 (a b c v : Int) (w : World) : Calls Try.prog 11 #[O5 7 a b c v] w (Drew (.tuple #[O5 7 a 0 0 0, .bool true]) w) := by
  go_enter Try.func11, Try.ntmps11
  go_wp2
  refine bodyPost_ret (results_row_tmp rfl _ _ (w.heap.size + 1) 23 _ (0, 0) _ rfl (heap_alloc2_new _ _ _) Try.underlying23 rfl Try.size23) rfl ⟨rfl, two_blocks _ _ _⟩

set_option maxHeartbeats 400000 in
theorem rplain_8 (a b c v : Int) (w : World) : Calls Try.prog 11 #[O5 8 a b c v] w (Drew (.tuple #[O5 8 a 0 0 0, .bool true]) w) := by
  go_enter Try.func11, Try.ntmps11
  go_wp2
  refine bodyPost_ret (results_row_tmp rfl _ _ (w.heap.size + 1) 23 _ (0, 0) _ rfl (heap_alloc2_new _ _ _) Try.underlying23 rfl Try.size23) rfl ⟨rfl, two_blocks _ _ _⟩

set_option maxHeartbeats 400000 in
theorem rplain_9 (a b c v : Int) (w : World) : Calls Try.prog 11 #[O5 9 a b c v] w (Drew (.tuple #[O5 9 a b 0 0, .bool true]) w) := by
  go_enter Try.func11, Try.ntmps11
  go_wp2
  refine bodyPost_ret (results_row_tmp rfl _ _ (w.heap.size + 1) 23 _ (0, 0) _ rfl (heap_alloc2_new _ _ _) Try.underlying23 rfl Try.size23) rfl ⟨rfl, two_blocks _ _ _⟩

set_option maxHeartbeats 400000 in
theorem rplain_no (k a b c v : Int) (w : World) (h1 : (k == 1) = false) (h2 : (k == 2) = false) (h3 : (k == 3) = false) (h4 : (k == 4) = false) (h5 : (k == 5) = false) (h6 : (k == 6) = false) (h7 : (k == 7) = false) (h8 : (k == 8) = false) (h9 : (k == 9) = false) :
    Calls Try.prog 11 #[O5 k a b c v] w (Drew (.tuple #[O5 0 0 0 0 0, .bool false]) w) := by
  go_enter Try.func11, Try.ntmps11
  go_wp2
  refine bodyPost_ret (results_row_tmp rfl _ _ (w.heap.size + 1) 23 _ (0, 0) _ rfl (heap_alloc2_new _ _ _) Try.underlying23 rfl Try.size23) rfl ⟨rfl, two_blocks _ _ _⟩

theorem rplain_any (k a b c v p q r s t : Int) (ok : Bool) (w : World) (h : Hid (Pl k a b c v p q r s t ok)) : Calls Try.prog 11 #[O5 k a b c v] w (Drew (.tuple #[O5 p q r s t, .bool ok]) w) := by
  have h' := h.out
  unfold Pl pl5 at h'
  by_cases e1 : k = 1
  · subst e1
    simp at h'
    obtain ⟨rfl, rfl, rfl, rfl, rfl, rfl⟩ := h'
    exact rplain_1 _ _ _ _ w
  by_cases e2 : k = 2
  · subst e2
    simp at h'
    obtain ⟨rfl, rfl, rfl, rfl, rfl, rfl⟩ := h'
    exact rplain_2 _ _ _ _ w
  by_cases e3 : k = 3
  · subst e3
    simp at h'
    obtain ⟨rfl, rfl, rfl, rfl, rfl, rfl⟩ := h'
    exact rplain_3 _ _ _ _ w
  by_cases e4 : k = 4
  · subst e4
    simp at h'
    obtain ⟨rfl, rfl, rfl, rfl, rfl, rfl⟩ := h'
    exact rplain_4 _ _ _ _ w
  by_cases e5 : k = 5
  · subst e5
    simp at h'
    obtain ⟨rfl, rfl, rfl, rfl, rfl, rfl⟩ := h'
    exact rplain_5 _ _ _ _ w
  by_cases e6 : k = 6
  · subst e6
    simp at h'
    obtain ⟨rfl, rfl, rfl, rfl, rfl, rfl⟩ := h'
    exact rplain_6 _ _ _ _ w
  by_cases e7 : k = 7
  · subst e7
    simp at h'
    obtain ⟨rfl, rfl, rfl, rfl, rfl, rfl⟩ := h'
    exact rplain_7 _ _ _ _ w
  by_cases e8 : k = 8
  · subst e8
    simp at h'
    obtain ⟨rfl, rfl, rfl, rfl, rfl, rfl⟩ := h'
    exact rplain_8 _ _ _ _ w
  by_cases e9 : k = 9
  · subst e9
    simp at h'
    obtain ⟨rfl, rfl, rfl, rfl, rfl, rfl⟩ := h'
    exact rplain_9 _ _ _ _ w
  simp [e1, e2, e3, e4, e5, e6, e7, e8, e9] at h'
  obtain ⟨rfl, rfl, rfl, rfl, rfl, rfl⟩ := h'
  exact rplain_no k _ _ _ _ w (by simpa using e1) (by simpa using e2) (by simpa using e3) (by simpa using e4) (by simpa using e5) (by simpa using e6) (by simpa using e7) (by simpa using e8) (by simpa using e9)

end Go.Proofs.Ytpldcmhbbhjhgaa
