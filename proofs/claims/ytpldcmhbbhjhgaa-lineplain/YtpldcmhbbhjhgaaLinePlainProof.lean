/- Whatever the operation: a plain one is plain already, it is one just if its kind is known, and it keeps what its kind looks at; no conditions. (The statement tendrillaw04.LinePlain.) -/
import Derived.Test.YtpldcmhbbhjhgaaRows
import Derived.Test.YtpldcmhbbhjhgaaWalksH
import Derived.Test.YtpldcmhbbhjhgaaBoxes
import Derived.Test.YtpldcmhbbhjhgaaFrame
import Derived.WalkKit
namespace Go.Proofs.Ytpldcmhbbhjhgaa.linePlain
open Go.Joins Go.ChangeShapes Go.WideShapes Go.ChangeAt Go.RowKit Go.Deep
set_option linter.unusedVariables false

set_option maxRecDepth 100000 in
set_option maxHeartbeats 1000000 in
theorem kind_1 (a b c v : Int) (w : World) : Calls Try.prog 6 #[O5 1 a b c v] w (Drew (.bool true) w) := by
  have H0 : Hid (Calls Try.prog 9 #[] (w.alloc (.cells #[.int .i64 1, .int .i64 a, .int .i64 b, .int .i64 c, .int .i64 v] 23)) (Drew (.bool true) (w.alloc (.cells #[.int .i64 1, .int .i64 a, .int .i64 b, .int .i64 c, .int .i64 v] 23)))) := live_yes _
  have he := eq23
  go_enter Try.func6, Try.ntmps6
  go_wp2_with fail
  refine H0.out.mono ?_
  rintro e u1 ⟨rfl, hb1⟩
  have X1 := hide ((Box.new w 1 a b c v).step hb1)
  have B1 := hide (((Below.refl w.heap.size w).alloc (Nat.le_refl _) (.cells #[.int .i64 1, .int .i64 a, .int .i64 b, .int .i64 c, .int .i64 v] 23)).trans (hb1.mono (by simp)))
  clear hb1
  have hc1 := X1.out.cells
  go_wp2_with fail
  refine (plain_1 _ _ _ _ _).mono ?_
  rintro e u2 ⟨rfl, hb2⟩
  have X2 := hide (X1.out.step hb2)
  have B2 := hide (B1.out.trans (hb2.mono B1.out.size))
  clear hb2 hc1 X1
  have Y2 := hide (Box.new u2 1 0 0 0 0)
  have C2 := hide (B2.out.alloc B2.out.size (.cells #[.int .i64 1, .int .i64 0, .int .i64 0, .int .i64 0, .int .i64 0] 23))
  go_wp2_with fail
  refine (plain_1 _ _ _ _ _).mono ?_
  rintro e u3 ⟨rfl, hb3⟩
  have X3 := hide ((X2.out.alloc _).step hb3)
  have Y3 := hide (Y2.out.step hb3)
  have B3 := hide (C2.out.trans (hb3.mono C2.out.size))
  have C3 := hide (B3.out.alloc B3.out.size (.cells #[.int .i64 1, .int .i64 0, .int .i64 0, .int .i64 0, .int .i64 0] 23))
  clear hb3 X2 Y2 C2
  have hx := X3.out.cells
  have hxl := X3.out.lt
  have hy := Y3.out.cells
  have hyl := Y3.out.lt
  go_wp2
  all_goals (go_ret; exact ⟨rfl, B3.out.alloc B3.out.size _⟩)

set_option maxRecDepth 100000 in
set_option maxHeartbeats 1000000 in
theorem kind_2 (a b c v : Int) (w : World) : Calls Try.prog 6 #[O5 2 a b c v] w (Drew (.bool true) w) := by
  have H0 : Hid (Calls Try.prog 9 #[] (w.alloc (.cells #[.int .i64 2, .int .i64 a, .int .i64 b, .int .i64 c, .int .i64 v] 23)) (Drew (.bool true) (w.alloc (.cells #[.int .i64 2, .int .i64 a, .int .i64 b, .int .i64 c, .int .i64 v] 23)))) := live_yes _
  have he := eq23
  go_enter Try.func6, Try.ntmps6
  go_wp2_with fail
  refine H0.out.mono ?_
  rintro e u1 ⟨rfl, hb1⟩
  have X1 := hide ((Box.new w 2 a b c v).step hb1)
  have B1 := hide (((Below.refl w.heap.size w).alloc (Nat.le_refl _) (.cells #[.int .i64 2, .int .i64 a, .int .i64 b, .int .i64 c, .int .i64 v] 23)).trans (hb1.mono (by simp)))
  clear hb1
  have hc1 := X1.out.cells
  go_wp2_with fail
  refine (plain_2 _ _ _ _ _).mono ?_
  rintro e u2 ⟨rfl, hb2⟩
  have X2 := hide (X1.out.step hb2)
  have B2 := hide (B1.out.trans (hb2.mono B1.out.size))
  clear hb2 hc1 X1
  have Y2 := hide (Box.new u2 2 a b 0 0)
  have C2 := hide (B2.out.alloc B2.out.size (.cells #[.int .i64 2, .int .i64 a, .int .i64 b, .int .i64 0, .int .i64 0] 23))
  go_wp2_with fail
  refine (plain_2 _ _ _ _ _).mono ?_
  rintro e u3 ⟨rfl, hb3⟩
  have X3 := hide ((X2.out.alloc _).step hb3)
  have Y3 := hide (Y2.out.step hb3)
  have B3 := hide (C2.out.trans (hb3.mono C2.out.size))
  have C3 := hide (B3.out.alloc B3.out.size (.cells #[.int .i64 2, .int .i64 a, .int .i64 b, .int .i64 0, .int .i64 0] 23))
  clear hb3 X2 Y2 C2
  have hx := X3.out.cells
  have hxl := X3.out.lt
  have hy := Y3.out.cells
  have hyl := Y3.out.lt
  go_wp2
  all_goals (go_ret; exact ⟨rfl, B3.out.alloc B3.out.size _⟩)

set_option maxRecDepth 100000 in
set_option maxHeartbeats 1000000 in
theorem kind_3 (a b c v : Int) (w : World) : Calls Try.prog 6 #[O5 3 a b c v] w (Drew (.bool true) w) := by
  have H0 : Hid (Calls Try.prog 9 #[] (w.alloc (.cells #[.int .i64 3, .int .i64 a, .int .i64 b, .int .i64 c, .int .i64 v] 23)) (Drew (.bool true) (w.alloc (.cells #[.int .i64 3, .int .i64 a, .int .i64 b, .int .i64 c, .int .i64 v] 23)))) := live_yes _
  have he := eq23
  go_enter Try.func6, Try.ntmps6
  go_wp2_with fail
  refine H0.out.mono ?_
  rintro e u1 ⟨rfl, hb1⟩
  have X1 := hide ((Box.new w 3 a b c v).step hb1)
  have B1 := hide (((Below.refl w.heap.size w).alloc (Nat.le_refl _) (.cells #[.int .i64 3, .int .i64 a, .int .i64 b, .int .i64 c, .int .i64 v] 23)).trans (hb1.mono (by simp)))
  clear hb1
  have hc1 := X1.out.cells
  go_wp2_with fail
  refine (plain_3 _ _ _ _ _).mono ?_
  rintro e u2 ⟨rfl, hb2⟩
  have X2 := hide (X1.out.step hb2)
  have B2 := hide (B1.out.trans (hb2.mono B1.out.size))
  clear hb2 hc1 X1
  have Y2 := hide (Box.new u2 3 a 0 0 0)
  have C2 := hide (B2.out.alloc B2.out.size (.cells #[.int .i64 3, .int .i64 a, .int .i64 0, .int .i64 0, .int .i64 0] 23))
  go_wp2_with fail
  refine (plain_3 _ _ _ _ _).mono ?_
  rintro e u3 ⟨rfl, hb3⟩
  have X3 := hide ((X2.out.alloc _).step hb3)
  have Y3 := hide (Y2.out.step hb3)
  have B3 := hide (C2.out.trans (hb3.mono C2.out.size))
  have C3 := hide (B3.out.alloc B3.out.size (.cells #[.int .i64 3, .int .i64 a, .int .i64 0, .int .i64 0, .int .i64 0] 23))
  clear hb3 X2 Y2 C2
  have hx := X3.out.cells
  have hxl := X3.out.lt
  have hy := Y3.out.cells
  have hyl := Y3.out.lt
  go_wp2
  all_goals (go_ret; exact ⟨rfl, B3.out.alloc B3.out.size _⟩)

set_option maxRecDepth 100000 in
set_option maxHeartbeats 1000000 in
theorem kind_4 (a b c v : Int) (w : World) : Calls Try.prog 6 #[O5 4 a b c v] w (Drew (.bool true) w) := by
  have H0 : Hid (Calls Try.prog 9 #[] (w.alloc (.cells #[.int .i64 4, .int .i64 a, .int .i64 b, .int .i64 c, .int .i64 v] 23)) (Drew (.bool true) (w.alloc (.cells #[.int .i64 4, .int .i64 a, .int .i64 b, .int .i64 c, .int .i64 v] 23)))) := live_yes _
  have he := eq23
  go_enter Try.func6, Try.ntmps6
  go_wp2_with fail
  refine H0.out.mono ?_
  rintro e u1 ⟨rfl, hb1⟩
  have X1 := hide ((Box.new w 4 a b c v).step hb1)
  have B1 := hide (((Below.refl w.heap.size w).alloc (Nat.le_refl _) (.cells #[.int .i64 4, .int .i64 a, .int .i64 b, .int .i64 c, .int .i64 v] 23)).trans (hb1.mono (by simp)))
  clear hb1
  have hc1 := X1.out.cells
  go_wp2_with fail
  refine (plain_4 _ _ _ _ _).mono ?_
  rintro e u2 ⟨rfl, hb2⟩
  have X2 := hide (X1.out.step hb2)
  have B2 := hide (B1.out.trans (hb2.mono B1.out.size))
  clear hb2 hc1 X1
  have Y2 := hide (Box.new u2 4 a 0 c v)
  have C2 := hide (B2.out.alloc B2.out.size (.cells #[.int .i64 4, .int .i64 a, .int .i64 0, .int .i64 c, .int .i64 v] 23))
  go_wp2_with fail
  refine (plain_4 _ _ _ _ _).mono ?_
  rintro e u3 ⟨rfl, hb3⟩
  have X3 := hide ((X2.out.alloc _).step hb3)
  have Y3 := hide (Y2.out.step hb3)
  have B3 := hide (C2.out.trans (hb3.mono C2.out.size))
  have C3 := hide (B3.out.alloc B3.out.size (.cells #[.int .i64 4, .int .i64 a, .int .i64 0, .int .i64 c, .int .i64 v] 23))
  clear hb3 X2 Y2 C2
  have hx := X3.out.cells
  have hxl := X3.out.lt
  have hy := Y3.out.cells
  have hyl := Y3.out.lt
  go_wp2
  all_goals (go_ret; exact ⟨rfl, B3.out.alloc B3.out.size _⟩)

set_option maxRecDepth 100000 in
set_option maxHeartbeats 1000000 in
theorem kind_5 (a b c v : Int) (w : World) : Calls Try.prog 6 #[O5 5 a b c v] w (Drew (.bool true) w) := by
  have H0 : Hid (Calls Try.prog 9 #[] (w.alloc (.cells #[.int .i64 5, .int .i64 a, .int .i64 b, .int .i64 c, .int .i64 v] 23)) (Drew (.bool true) (w.alloc (.cells #[.int .i64 5, .int .i64 a, .int .i64 b, .int .i64 c, .int .i64 v] 23)))) := live_yes _
  have he := eq23
  go_enter Try.func6, Try.ntmps6
  go_wp2_with fail
  refine H0.out.mono ?_
  rintro e u1 ⟨rfl, hb1⟩
  have X1 := hide ((Box.new w 5 a b c v).step hb1)
  have B1 := hide (((Below.refl w.heap.size w).alloc (Nat.le_refl _) (.cells #[.int .i64 5, .int .i64 a, .int .i64 b, .int .i64 c, .int .i64 v] 23)).trans (hb1.mono (by simp)))
  clear hb1
  have hc1 := X1.out.cells
  go_wp2_with fail
  refine (plain_5 _ _ _ _ _).mono ?_
  rintro e u2 ⟨rfl, hb2⟩
  have X2 := hide (X1.out.step hb2)
  have B2 := hide (B1.out.trans (hb2.mono B1.out.size))
  clear hb2 hc1 X1
  have Y2 := hide (Box.new u2 5 a 0 c 0)
  have C2 := hide (B2.out.alloc B2.out.size (.cells #[.int .i64 5, .int .i64 a, .int .i64 0, .int .i64 c, .int .i64 0] 23))
  go_wp2_with fail
  refine (plain_5 _ _ _ _ _).mono ?_
  rintro e u3 ⟨rfl, hb3⟩
  have X3 := hide ((X2.out.alloc _).step hb3)
  have Y3 := hide (Y2.out.step hb3)
  have B3 := hide (C2.out.trans (hb3.mono C2.out.size))
  have C3 := hide (B3.out.alloc B3.out.size (.cells #[.int .i64 5, .int .i64 a, .int .i64 0, .int .i64 c, .int .i64 0] 23))
  clear hb3 X2 Y2 C2
  have hx := X3.out.cells
  have hxl := X3.out.lt
  have hy := Y3.out.cells
  have hyl := Y3.out.lt
  go_wp2
  all_goals (go_ret; exact ⟨rfl, B3.out.alloc B3.out.size _⟩)

set_option maxRecDepth 100000 in
set_option maxHeartbeats 1000000 in
theorem kind_6 (a b c v : Int) (w : World) : Calls Try.prog 6 #[O5 6 a b c v] w (Drew (.bool true) w) := by
  have H0 : Hid (Calls Try.prog 9 #[] (w.alloc (.cells #[.int .i64 6, .int .i64 a, .int .i64 b, .int .i64 c, .int .i64 v] 23)) (Drew (.bool true) (w.alloc (.cells #[.int .i64 6, .int .i64 a, .int .i64 b, .int .i64 c, .int .i64 v] 23)))) := live_yes _
  have he := eq23
  go_enter Try.func6, Try.ntmps6
  go_wp2_with fail
  refine H0.out.mono ?_
  rintro e u1 ⟨rfl, hb1⟩
  have X1 := hide ((Box.new w 6 a b c v).step hb1)
  have B1 := hide (((Below.refl w.heap.size w).alloc (Nat.le_refl _) (.cells #[.int .i64 6, .int .i64 a, .int .i64 b, .int .i64 c, .int .i64 v] 23)).trans (hb1.mono (by simp)))
  clear hb1
  have hc1 := X1.out.cells
  go_wp2_with fail
  refine (plain_6 _ _ _ _ _).mono ?_
  rintro e u2 ⟨rfl, hb2⟩
  have X2 := hide (X1.out.step hb2)
  have B2 := hide (B1.out.trans (hb2.mono B1.out.size))
  clear hb2 hc1 X1
  have Y2 := hide (Box.new u2 6 a 0 0 0)
  have C2 := hide (B2.out.alloc B2.out.size (.cells #[.int .i64 6, .int .i64 a, .int .i64 0, .int .i64 0, .int .i64 0] 23))
  go_wp2_with fail
  refine (plain_6 _ _ _ _ _).mono ?_
  rintro e u3 ⟨rfl, hb3⟩
  have X3 := hide ((X2.out.alloc _).step hb3)
  have Y3 := hide (Y2.out.step hb3)
  have B3 := hide (C2.out.trans (hb3.mono C2.out.size))
  have C3 := hide (B3.out.alloc B3.out.size (.cells #[.int .i64 6, .int .i64 a, .int .i64 0, .int .i64 0, .int .i64 0] 23))
  clear hb3 X2 Y2 C2
  have hx := X3.out.cells
  have hxl := X3.out.lt
  have hy := Y3.out.cells
  have hyl := Y3.out.lt
  go_wp2
  all_goals (go_ret; exact ⟨rfl, B3.out.alloc B3.out.size _⟩)

set_option maxRecDepth 100000 in
set_option maxHeartbeats 1000000 in
theorem kind_7 (a b c v : Int) (w : World) : Calls Try.prog 6 #[O5 7 a b c v] w (Drew (.bool true) w) := by
  have H0 : Hid (Calls Try.prog 9 #[] (w.alloc (.cells #[.int .i64 7, .int .i64 a, .int .i64 b, .int .i64 c, .int .i64 v] 23)) (Drew (.bool true) (w.alloc (.cells #[.int .i64 7, .int .i64 a, .int .i64 b, .int .i64 c, .int .i64 v] 23)))) := live_yes _
  have he := eq23
  go_enter Try.func6, Try.ntmps6
  go_wp2_with fail
  refine H0.out.mono ?_
  rintro e u1 ⟨rfl, hb1⟩
  have X1 := hide ((Box.new w 7 a b c v).step hb1)
  have B1 := hide (((Below.refl w.heap.size w).alloc (Nat.le_refl _) (.cells #[.int .i64 7, .int .i64 a, .int .i64 b, .int .i64 c, .int .i64 v] 23)).trans (hb1.mono (by simp)))
  clear hb1
  have hc1 := X1.out.cells
  go_wp2_with fail
  refine (plain_7 _ _ _ _ _).mono ?_
  rintro e u2 ⟨rfl, hb2⟩
  have X2 := hide (X1.out.step hb2)
  have B2 := hide (B1.out.trans (hb2.mono B1.out.size))
  clear hb2 hc1 X1
  have Y2 := hide (Box.new u2 7 a 0 0 0)
  have C2 := hide (B2.out.alloc B2.out.size (.cells #[.int .i64 7, .int .i64 a, .int .i64 0, .int .i64 0, .int .i64 0] 23))
  go_wp2_with fail
  refine (plain_7 _ _ _ _ _).mono ?_
  rintro e u3 ⟨rfl, hb3⟩
  have X3 := hide ((X2.out.alloc _).step hb3)
  have Y3 := hide (Y2.out.step hb3)
  have B3 := hide (C2.out.trans (hb3.mono C2.out.size))
  have C3 := hide (B3.out.alloc B3.out.size (.cells #[.int .i64 7, .int .i64 a, .int .i64 0, .int .i64 0, .int .i64 0] 23))
  clear hb3 X2 Y2 C2
  have hx := X3.out.cells
  have hxl := X3.out.lt
  have hy := Y3.out.cells
  have hyl := Y3.out.lt
  go_wp2
  all_goals (go_ret; exact ⟨rfl, B3.out.alloc B3.out.size _⟩)

set_option maxRecDepth 100000 in
set_option maxHeartbeats 1000000 in
theorem kind_8 (a b c v : Int) (w : World) : Calls Try.prog 6 #[O5 8 a b c v] w (Drew (.bool true) w) := by
  have H0 : Hid (Calls Try.prog 9 #[] (w.alloc (.cells #[.int .i64 8, .int .i64 a, .int .i64 b, .int .i64 c, .int .i64 v] 23)) (Drew (.bool true) (w.alloc (.cells #[.int .i64 8, .int .i64 a, .int .i64 b, .int .i64 c, .int .i64 v] 23)))) := live_yes _
  have he := eq23
  go_enter Try.func6, Try.ntmps6
  go_wp2_with fail
  refine H0.out.mono ?_
  rintro e u1 ⟨rfl, hb1⟩
  have X1 := hide ((Box.new w 8 a b c v).step hb1)
  have B1 := hide (((Below.refl w.heap.size w).alloc (Nat.le_refl _) (.cells #[.int .i64 8, .int .i64 a, .int .i64 b, .int .i64 c, .int .i64 v] 23)).trans (hb1.mono (by simp)))
  clear hb1
  have hc1 := X1.out.cells
  go_wp2_with fail
  refine (plain_8 _ _ _ _ _).mono ?_
  rintro e u2 ⟨rfl, hb2⟩
  have X2 := hide (X1.out.step hb2)
  have B2 := hide (B1.out.trans (hb2.mono B1.out.size))
  clear hb2 hc1 X1
  have Y2 := hide (Box.new u2 8 a 0 0 0)
  have C2 := hide (B2.out.alloc B2.out.size (.cells #[.int .i64 8, .int .i64 a, .int .i64 0, .int .i64 0, .int .i64 0] 23))
  go_wp2_with fail
  refine (plain_8 _ _ _ _ _).mono ?_
  rintro e u3 ⟨rfl, hb3⟩
  have X3 := hide ((X2.out.alloc _).step hb3)
  have Y3 := hide (Y2.out.step hb3)
  have B3 := hide (C2.out.trans (hb3.mono C2.out.size))
  have C3 := hide (B3.out.alloc B3.out.size (.cells #[.int .i64 8, .int .i64 a, .int .i64 0, .int .i64 0, .int .i64 0] 23))
  clear hb3 X2 Y2 C2
  have hx := X3.out.cells
  have hxl := X3.out.lt
  have hy := Y3.out.cells
  have hyl := Y3.out.lt
  go_wp2
  all_goals (go_ret; exact ⟨rfl, B3.out.alloc B3.out.size _⟩)

set_option maxRecDepth 100000 in
set_option maxHeartbeats 1000000 in
theorem kind_9 (a b c v : Int) (w : World) : Calls Try.prog 6 #[O5 9 a b c v] w (Drew (.bool true) w) := by
  have H0 : Hid (Calls Try.prog 9 #[] (w.alloc (.cells #[.int .i64 9, .int .i64 a, .int .i64 b, .int .i64 c, .int .i64 v] 23)) (Drew (.bool true) (w.alloc (.cells #[.int .i64 9, .int .i64 a, .int .i64 b, .int .i64 c, .int .i64 v] 23)))) := live_yes _
  have he := eq23
  go_enter Try.func6, Try.ntmps6
  go_wp2_with fail
  refine H0.out.mono ?_
  rintro e u1 ⟨rfl, hb1⟩
  have X1 := hide ((Box.new w 9 a b c v).step hb1)
  have B1 := hide (((Below.refl w.heap.size w).alloc (Nat.le_refl _) (.cells #[.int .i64 9, .int .i64 a, .int .i64 b, .int .i64 c, .int .i64 v] 23)).trans (hb1.mono (by simp)))
  clear hb1
  have hc1 := X1.out.cells
  go_wp2_with fail
  refine (plain_9 _ _ _ _ _).mono ?_
  rintro e u2 ⟨rfl, hb2⟩
  have X2 := hide (X1.out.step hb2)
  have B2 := hide (B1.out.trans (hb2.mono B1.out.size))
  clear hb2 hc1 X1
  have Y2 := hide (Box.new u2 9 a b 0 0)
  have C2 := hide (B2.out.alloc B2.out.size (.cells #[.int .i64 9, .int .i64 a, .int .i64 b, .int .i64 0, .int .i64 0] 23))
  go_wp2_with fail
  refine (plain_9 _ _ _ _ _).mono ?_
  rintro e u3 ⟨rfl, hb3⟩
  have X3 := hide ((X2.out.alloc _).step hb3)
  have Y3 := hide (Y2.out.step hb3)
  have B3 := hide (C2.out.trans (hb3.mono C2.out.size))
  have C3 := hide (B3.out.alloc B3.out.size (.cells #[.int .i64 9, .int .i64 a, .int .i64 b, .int .i64 0, .int .i64 0] 23))
  clear hb3 X2 Y2 C2
  have hx := X3.out.cells
  have hxl := X3.out.lt
  have hy := Y3.out.cells
  have hyl := Y3.out.lt
  go_wp2
  all_goals (go_ret; exact ⟨rfl, B3.out.alloc B3.out.size _⟩)

set_option maxRecDepth 100000 in
set_option maxHeartbeats 1000000 in
theorem none_lo (k a b c v : Int) (w : World) (h : decide (k < 1) = true) (hp : Hid (Pl k a b c v 0 0 0 0 0 false)) : Calls Try.prog 6 #[O5 k a b c v] w (Drew (.bool true) w) := by
  have hz : Hid (Pl 0 0 0 0 0 0 0 0 0 0 false) := .inr ⟨rfl, rfl, rfl, rfl, rfl, rfl, rfl⟩
  have H0 : Hid (Calls Try.prog 9 #[] (w.alloc (.cells #[.int .i64 k, .int .i64 a, .int .i64 b, .int .i64 c, .int .i64 v] 23)) (Drew (.bool true) (w.alloc (.cells #[.int .i64 k, .int .i64 a, .int .i64 b, .int .i64 c, .int .i64 v] 23)))) := live_yes _
  have he := eq23
  go_enter Try.func6, Try.ntmps6
  go_wp2_with fail
  refine H0.out.mono ?_
  rintro e u1 ⟨rfl, hb1⟩
  have X1 := hide ((Box.new w k a b c v).step hb1)
  have B1 := hide (((Below.refl w.heap.size w).alloc (Nat.le_refl _) (.cells #[.int .i64 k, .int .i64 a, .int .i64 b, .int .i64 c, .int .i64 v] 23)).trans (hb1.mono (by simp)))
  clear hb1
  have hc1 := X1.out.cells
  go_wp2_with fail
  refine (plain_any _ _ _ _ _ _ _ _ _ _ _ _ hp).mono ?_
  rintro e u2 ⟨rfl, hb2⟩
  have X2 := hide (X1.out.step hb2)
  have B2 := hide (B1.out.trans (hb2.mono B1.out.size))
  clear hb2 hc1 X1
  have Y2 := hide (Box.new u2 0 0 0 0 0)
  have C2 := hide (B2.out.alloc B2.out.size (.cells #[.int .i64 0, .int .i64 0, .int .i64 0, .int .i64 0, .int .i64 0] 23))
  go_wp2_with fail
  refine (plain_any _ _ _ _ _ _ _ _ _ _ _ _ hz).mono ?_
  rintro e u3 ⟨rfl, hb3⟩
  have X3 := hide ((X2.out.alloc _).step hb3)
  have Y3 := hide (Y2.out.step hb3)
  have B3 := hide (C2.out.trans (hb3.mono C2.out.size))
  have C3 := hide (B3.out.alloc B3.out.size (.cells #[.int .i64 0, .int .i64 0, .int .i64 0, .int .i64 0, .int .i64 0] 23))
  clear hb3 X2 Y2 C2
  have hx := X3.out.cells
  have hxl := X3.out.lt
  have hy := Y3.out.cells
  have hyl := Y3.out.lt
  go_wp2
  all_goals (go_ret; exact ⟨rfl, B3.out.alloc B3.out.size _⟩)

set_option maxRecDepth 100000 in
set_option maxHeartbeats 1000000 in
theorem none_hi (k a b c v : Int) (w : World) (h : decide (k < 1) = false) (h' : decide ((9 : Int) < k) = true) (hp : Hid (Pl k a b c v 0 0 0 0 0 false)) : Calls Try.prog 6 #[O5 k a b c v] w (Drew (.bool true) w) := by
  have hz : Hid (Pl 0 0 0 0 0 0 0 0 0 0 false) := .inr ⟨rfl, rfl, rfl, rfl, rfl, rfl, rfl⟩
  have H0 : Hid (Calls Try.prog 9 #[] (w.alloc (.cells #[.int .i64 k, .int .i64 a, .int .i64 b, .int .i64 c, .int .i64 v] 23)) (Drew (.bool true) (w.alloc (.cells #[.int .i64 k, .int .i64 a, .int .i64 b, .int .i64 c, .int .i64 v] 23)))) := live_yes _
  have he := eq23
  go_enter Try.func6, Try.ntmps6
  go_wp2_with fail
  refine H0.out.mono ?_
  rintro e u1 ⟨rfl, hb1⟩
  have X1 := hide ((Box.new w k a b c v).step hb1)
  have B1 := hide (((Below.refl w.heap.size w).alloc (Nat.le_refl _) (.cells #[.int .i64 k, .int .i64 a, .int .i64 b, .int .i64 c, .int .i64 v] 23)).trans (hb1.mono (by simp)))
  clear hb1
  have hc1 := X1.out.cells
  go_wp2_with fail
  refine (plain_any _ _ _ _ _ _ _ _ _ _ _ _ hp).mono ?_
  rintro e u2 ⟨rfl, hb2⟩
  have X2 := hide (X1.out.step hb2)
  have B2 := hide (B1.out.trans (hb2.mono B1.out.size))
  clear hb2 hc1 X1
  have Y2 := hide (Box.new u2 0 0 0 0 0)
  have C2 := hide (B2.out.alloc B2.out.size (.cells #[.int .i64 0, .int .i64 0, .int .i64 0, .int .i64 0, .int .i64 0] 23))
  go_wp2_with fail
  refine (plain_any _ _ _ _ _ _ _ _ _ _ _ _ hz).mono ?_
  rintro e u3 ⟨rfl, hb3⟩
  have X3 := hide ((X2.out.alloc _).step hb3)
  have Y3 := hide (Y2.out.step hb3)
  have B3 := hide (C2.out.trans (hb3.mono C2.out.size))
  have C3 := hide (B3.out.alloc B3.out.size (.cells #[.int .i64 0, .int .i64 0, .int .i64 0, .int .i64 0, .int .i64 0] 23))
  clear hb3 X2 Y2 C2
  have hx := X3.out.cells
  have hxl := X3.out.lt
  have hy := Y3.out.cells
  have hyl := Y3.out.lt
  go_wp2
  all_goals (go_ret; exact ⟨rfl, B3.out.alloc B3.out.size _⟩)

set_option maxHeartbeats 2000000 in
theorem walk (k0 a0 b0 c0 v0 : Int) (w : World)  :
    Calls Try.prog 6 #[O5 k0 a0 b0 c0 v0] w (Drew (.bool true) w) := by
  by_cases e1 : k0 = 1
  · subst e1
    exact kind_1 _ _ _ _ w
  by_cases e2 : k0 = 2
  · subst e2
    exact kind_2 _ _ _ _ w
  by_cases e3 : k0 = 3
  · subst e3
    exact kind_3 _ _ _ _ w
  by_cases e4 : k0 = 4
  · subst e4
    exact kind_4 _ _ _ _ w
  by_cases e5 : k0 = 5
  · subst e5
    exact kind_5 _ _ _ _ w
  by_cases e6 : k0 = 6
  · subst e6
    exact kind_6 _ _ _ _ w
  by_cases e7 : k0 = 7
  · subst e7
    exact kind_7 _ _ _ _ w
  by_cases e8 : k0 = 8
  · subst e8
    exact kind_8 _ _ _ _ w
  by_cases e9 : k0 = 9
  · subst e9
    exact kind_9 _ _ _ _ w
  have hp : Hid (Pl k0 a0 b0 c0 v0 0 0 0 0 0 false) := .inr ⟨rfl, by simp [pl5, e1, e2, e3, e4, e5, e6, e7, e8, e9], rfl, rfl, rfl, rfl, rfl⟩
  by_cases hlo : k0 < 1
  · exact none_lo _ _ _ _ _ w (by simpa using hlo) hp
  · exact none_hi _ _ _ _ _ w (by simpa using hlo) (by simp; omega) hp


theorem lifted (os : Os) (started : os.Started) (H : Type) (enc : TypeId × Value → H) :
    ReturnsInHanded {} Try.checked os 6 .any (Rows.linePlainSpec.pre6 enc Try.prog Try.f6 Rows.linePlainRow.domain false) (Rows.linePlainSpec.post enc Try.prog Try.f6 false true false false) := by
  refine returnsInHanded_of_change (C := Try.checked) own started (by kernel_rfl) Try.func6
    (ChangeSpec.witness6 (enc := enc) (C := Try.checked) false ⟨#[], #[.agg #[.int .i64 0, .int .i64 0, .int .i64 0, .int .i64 0, .int .i64 0]], []⟩ 8 (by kernel_rfl) (by kernel_rfl) (by kernel_rfl) (by kernel_rfl)) ?_
  intro W base args ds gs before hval0 hW hcnd _
  have hval : ∀ (j : Nat) t v, Try.f6.params[j]? = some t → args[j]? = some v → Value.okWide Try.prog W .any base t v := hval0
  have hW' := hW
  obtain ⟨p, q, hA0, hV, rfl, hfz, hnd⟩ := hW
  have hA : DataW.TrodAll enc Try.prog W 0 (fun _ => true) true Try.f6.params.toList args.toList ds p := hA0
  rw [Try.params6] at hA hval
  obtain ⟨x0, vs0, d0, ds0, p0, q0, hargs, rfl, rfl, h0, r0⟩ := trodAll_cons hA
  obtain ⟨rfl, rfl, rfl⟩ := trodAll_nil r0
  obtain rfl : args = #[x0] := by cases args; simp_all
  obtain ⟨rfl, rfl⟩ := trodVars_none hV
  have lt0 : ∀ x ∈ p0, x.block < W.heap.size := by obtain ⟨m, hm⟩ := h0; exact DataW.trod_lt m _ _ _ hm
  obtain ⟨k0, a0, b0, c0, v0, rfl⟩ := open_op (hval 0 23 x0 rfl rfl) h0
  clear hA0 hval0
  refine (walk k0 a0 b0 c0 v0 W ).mono fun e W' ⟨he, bel⟩ => ?_
  subst he
  exact ⟨_, rfl, _, _, _, [], _, [], hW', trodAll_mk1 (shut_bool Try.underlying4 _), (trodAll_cons_mk (Below.trod laidOut (by kernel_rfl) (of_decide_eq_true (by kernel_rfl)) h0 bel lt0) trodAll_mk0), rfl, bel.frame _, fun h => by cases h⟩

theorem over : Rows.linePlainRow.holds Try.pinned (OpenSpec.ofChange Rows.linePlainSpec) :=
  OpenClaim.holds_of_wide 6 Try.f6 rfl rfl rfl rfl rfl rfl rfl ⟨rfl, rfl, rfl, rfl, rfl⟩ rfl rfl rfl rfl rfl (by kernel_rfl) Try.func6 (by kernel_rfl)
    (of_decide_eq_true (by kernel_rfl)) (by unfold Func.isWrapper; first | (rw [if_pos (by decide +kernel)]; kernel_rfl) | (rw [if_neg (by decide +kernel)]; exact ⟨rfl, rfl⟩))
    (fun os started H enc _ => lifted os started H enc)

end Go.Proofs.Ytpldcmhbbhjhgaa.linePlain

namespace Go.Proofs.Ytpldcmhbbhjhgaa
/-- The statement. -/
theorem linePlain_holds : Rows.LinePlainSaid := linePlain.over
#print axioms linePlain_holds
end Go.Proofs.Ytpldcmhbbhjhgaa
