/- A slice that was told, or that came in, behind a further call. -/
import Derived.Test.YtpldcmhbbhjhgaaWalksH
namespace Go.Proofs.Ytpldcmhbbhjhgaa
open Go.RowKit

section
variable {u u' : World} {s n : Nat} {A : Option Addr} {zs : List Int}
theorem Nums.step (h : Nums u u.heap.size s A n zs) (hb : Below u.heap.size u u') : Nums u' u'.heap.size s A n zs := (h.below hb (Nat.le_refl _)).more hb.size
theorem Nums.all {B : Nat} (h : Nums u B s A n zs) (hB : B ≤ u.heap.size) : Nums u u.heap.size s A n zs := h.more hB
end
end Go.Proofs.Ytpldcmhbbhjhgaa
