/- Steps that the laws' walks share: the configuration's box and the table of lengths, carried behind each call. -/
import Derived.Test.YtknbllhkifigbaaDoorWalksF
namespace Go.Proofs.YtknbllhkifigbaaDoor
open Go.RowKit

theorem boxed_tab {w wr : World} {n e p i j : Int} (T : Hid (Tab w)) (h : Boxed w wr n e p i j) : Hid (Tab wr) := (T.out.alloc _).below h.out
theorem boxed_step {w wr w' : World} {n e p i j : Int} (h : Boxed w wr n e p i j) (hb : Below wr.heap.size wr w') : Boxed w w' n e p i j := bstep h.out hb h.out.size
theorem boxed_cells {w wr : World} {n e p i j : Int} (h : Boxed w wr n e p i j) : ∀ k, wr.cell? ⟨w.heap.size, k, none⟩ = (w.alloc (.cells #[.int .i64 n, .int .i64 e, .int .i64 p, .int .i64 i, .int .i64 j] 23)).cell? ⟨w.heap.size, k, none⟩ := box_cells (u := w) h.out

end Go.Proofs.YtknbllhkifigbaaDoor
