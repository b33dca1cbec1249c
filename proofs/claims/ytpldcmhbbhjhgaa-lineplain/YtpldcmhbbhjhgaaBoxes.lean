/- An operation's box, in every world behind it. -/
import Derived.Test.YtpldcmhbbhjhgaaWalksB
namespace Go.Proofs.Ytpldcmhbbhjhgaa
open Go.RowKit

/-- Block g is the box of an operation. -/
def Box (u : World) (g : Nat) (k a b c v : Int) : Prop := u.heap[g]? = some (.cells #[.int .i64 k, .int .i64 a, .int .i64 b, .int .i64 c, .int .i64 v] 23 (0, 0))

section
variable {u u' : World} {g : Nat} {k a b c v : Int}
theorem Box.lt (h : Box u g k a b c v) : g < u.heap.size := (Array.getElem?_eq_some_iff.1 h).1
theorem Box.cells (h : Box u g k a b c v) : ∀ i, u.cell? ⟨g, i, none⟩ = (#[.int .i64 k, .int .i64 a, .int .i64 b, .int .i64 c, .int .i64 v] : Array Value)[i]? := fun i => cell_of_row u g i _ 23 (0, 0) h
theorem Box.below {B : Nat} (h : Box u g k a b c v) (hb : Below B u u') (hg : g < B) : Box u' g k a b c v := (hb.block g hg).trans h
theorem Box.alloc (h : Box u g k a b c v) (o : Obj) : Box (u.alloc o) g k a b c v := (Below.heap_alloc u o g h.lt).trans h
theorem Box.new (u : World) (k a b c v : Int) : Box (u.alloc (.cells #[.int .i64 k, .int .i64 a, .int .i64 b, .int .i64 c, .int .i64 v] 23)) u.heap.size k a b c v := heap_alloc_new u _
/-- Behind a call. -/
theorem Box.step (h : Box u g k a b c v) (hb : Below u.heap.size u u') : Box u' g k a b c v := h.below hb h.lt
end
end Go.Proofs.Ytpldcmhbbhjhgaa
