/- For a statement that leaves its order open, beside calls: what the configuration's box holds, in every world behind it. -/
import Derived.Test.YtknbllhkifigbaaDoorSteps
namespace Go.Proofs.YtknbllhkifigbaaDoor
open Go.RowKit

section
variable {w u : World} {n e p i j : Int}
theorem box_reads (h : Boxed w u n e p i j) : u.cell? ⟨w.heap.size, 0, none⟩ = some (.int .i64 n) ∧ u.cell? ⟨w.heap.size, 1, none⟩ = some (.int .i64 e) ∧ u.cell? ⟨w.heap.size, 2, none⟩ = some (.int .i64 p) ∧ u.cell? ⟨w.heap.size, 3, none⟩ = some (.int .i64 i) ∧ u.cell? ⟨w.heap.size, 4, none⟩ = some (.int .i64 j) ∧ Boxed w u n e p i j :=
  ⟨boxed_cells h 0 |>.trans (by simp), boxed_cells h 1 |>.trans (by simp), boxed_cells h 2 |>.trans (by simp), boxed_cells h 3 |>.trans (by simp), boxed_cells h 4 |>.trans (by simp), h⟩
theorem reads_box (h : u.cell? ⟨w.heap.size, 0, none⟩ = some (.int .i64 n) ∧ u.cell? ⟨w.heap.size, 1, none⟩ = some (.int .i64 e) ∧ u.cell? ⟨w.heap.size, 2, none⟩ = some (.int .i64 p) ∧ u.cell? ⟨w.heap.size, 3, none⟩ = some (.int .i64 i) ∧ u.cell? ⟨w.heap.size, 4, none⟩ = some (.int .i64 j) ∧ Boxed w u n e p i j) : Boxed w u n e p i j := h.2.2.2.2.2
theorem boxed_drew (h : Boxed w u n e p i j) : Boxed w u.drew n e p i j := h.out.drew
end
end Go.Proofs.YtknbllhkifigbaaDoor
