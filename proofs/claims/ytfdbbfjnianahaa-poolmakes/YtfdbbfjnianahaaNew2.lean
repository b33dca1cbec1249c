/- What the document's New tells. -/
import Derived.Test.YtfdbbfjnianahaaGrown
import Derived.Deep.DeepCutAuto
namespace Go.Proofs.Ytfdbbfjnianahaa
open Go.RowKit
set_option linter.unusedVariables false

/-- What its first statement makes: a pool of three rows, each in a block of its own. -/
structure Made3 (w wx : World) (Z : Array Value) (g g0 g1 g2 n : Nat) : Prop where
  box : PBox wx g (C4 (some ⟨g0, 0, none⟩) (some ⟨g1, 0, none⟩) (some ⟨g2, 0, none⟩) none n n n 0 n n n 0)
  r0 : wx.heap[g0]? = some (.cells Z 3 (0, 0))
  r1 : wx.heap[g1]? = some (.cells Z 3 (0, 0))
  r2 : wx.heap[g2]? = some (.cells Z 3 (0, 0))
  res : PBox wx w.heap.size zeros4
  bel : Below w.heap.size w wx
  ne : w.heap.size < g ∧ w.heap.size < g0 ∧ w.heap.size < g1 ∧ w.heap.size < g2 ∧ g ≠ g0 ∧ g ≠ g1 ∧ g ≠ g2 ∧ g0 ≠ g1 ∧ g0 ≠ g2 ∧ g1 ≠ g2

abbrev mk4 (n k g : Nat) : Value := if k = 3 then .pointer (some ⟨g, 0, none⟩) else .slice (some ⟨g, 0, none⟩) n n
abbrev ob4 (Z : Array Value) (k : Nat) : Obj := if k = 3 then .cells zeros4 24 else .cells Z 3
abbrev ls4 (b : Nat → Bool) : Array Bool := #[true, b 0, true, b 1, true, b 2, false, b 3, false]
abbrev fl4 (b : Nat → Bool) : Bool := b 0 && b 1 && b 2
def rd4 (b0 b1 b2 b3 : Bool) : List Nat :=
  (if b0 then [] else [1]) ++ (if b1 then [] else [3]) ++ (if b2 then [] else [5]) ++ (if b0 && b1 && b2 then [6] else []) ++ (if b3 then [] else [7])

theorem ready4 {md : Region.Mode} {ops : Array Oper} (h : ∀ b0 b1 b2 b3 : Bool, Region.ready md ops #[true, b0, true, b1, true, b2, false, b3, false] = rd4 b0 b1 b2 b3) (b : Nat → Bool) (hb : fl4 b = false) :
    Region.ready md ops (ls4 b) ≠ [] ∧ ∀ i ∈ Region.ready md ops (ls4 b), ∃ k, k < 4 ∧ b k = false ∧ i = op5 k := by
  have e := h (b 0) (b 1) (b 2) (b 3)
  have e' : Region.ready md ops (ls4 b) = rd4 (b 0) (b 1) (b 2) (b 3) := e
  rw [e']
  have hf : (b 0 && b 1 && b 2) = false := hb
  unfold rd4
  rw [hf]
  constructor
  · intro h0
    cases h0' : b 0 <;> cases h1' : b 1 <;> cases h2' : b 2 <;> simp [h0', h1', h2'] at h0 hf
  · intro i hi
    simp only [List.mem_append] at hi
    rcases hi with (((h | h) | h) | h) | h
    · cases h0 : b 0 <;> simp [h0] at h; exact ⟨0, by omega, h0, h⟩
    · cases h0 : b 1 <;> simp [h0] at h; exact ⟨1, by omega, h0, h⟩
    · cases h0 : b 2 <;> simp [h0] at h; exact ⟨2, by omega, h0, h⟩
    · simp at h
    · cases h0 : b 3 <;> simp [h0] at h; exact ⟨3, by omega, h0, h⟩

theorem set4l (b : Nat → Bool) (k : Nat) (hk : k < 4) : (ls4 b).setIfInBounds (op5 k) true = ls4 (upd b k true) := by
  match k, hk with
  | 0, _ => rfl
  | 1, _ => rfl
  | 2, _ => rfl
  | 3, _ => rfl

abbrev fr4 (n r : Nat) (x4 x14 x16 x18 x19 : Value) : Act :=
  ⟨#[.int .i64 (n : Int), undef, .pointer (some ⟨r, 0, none⟩), .int .i64 0, x4, undef, .int .i64 (n : Int), .bool false, .bool false, .int .i64 (n : Int), .bool false, .bool false, undef, .int .i64 (n : Int), x14, .int .i64 (n : Int), x16, .int .i64 (n : Int), x18, x19,
    undef, undef, undef, undef, undef, undef, undef, undef, undef, undef, undef, undef], []⟩

theorem made3_new {w u : World} {Z : Array Value} {n g0 g1 g2 : Nat} (hb : Below w.heap.size w u) (hx : PBox u w.heap.size zeros4) (r0 : u.heap[g0]? = some (.cells Z 3 (0, 0))) (r1 : u.heap[g1]? = some (.cells Z 3 (0, 0))) (r2 : u.heap[g2]? = some (.cells Z 3 (0, 0)))
    (l : w.heap.size < g0 ∧ w.heap.size < g1 ∧ w.heap.size < g2 ∧ g0 ≠ g1 ∧ g0 ≠ g2 ∧ g1 ≠ g2) :
    Made3 w (u.alloc (.cells (C4 (some ⟨g0, 0, none⟩) (some ⟨g1, 0, none⟩) (some ⟨g2, 0, none⟩) none n n n 0 n n n 0) 24)) Z u.heap.size g0 g1 g2 n := by
  have q0 := (Array.getElem?_eq_some_iff.1 r0).1
  have q1 := (Array.getElem?_eq_some_iff.1 r1).1
  have q2 := (Array.getElem?_eq_some_iff.1 r2).1
  refine ⟨PBox.new u _, (Below.heap_alloc u _ _ q0).trans r0, (Below.heap_alloc u _ _ q1).trans r1, (Below.heap_alloc u _ _ q2).trans r2, hx.alloc _, hb.alloc hb.size _, ?_⟩
  omega
theorem made3_old {w u : World} {Z : Array Value} {n g g0 g1 g2 : Nat} (hb : Below w.heap.size w u) (hx : PBox u w.heap.size zeros4) (hg : PBox u g zeros4) (r0 : u.heap[g0]? = some (.cells Z 3 (0, 0))) (r1 : u.heap[g1]? = some (.cells Z 3 (0, 0))) (r2 : u.heap[g2]? = some (.cells Z 3 (0, 0)))
    (l : w.heap.size < g ∧ w.heap.size < g0 ∧ w.heap.size < g1 ∧ w.heap.size < g2 ∧ g ≠ g0 ∧ g ≠ g1 ∧ g ≠ g2 ∧ g0 ≠ g1 ∧ g0 ≠ g2 ∧ g1 ≠ g2) :
    Made3 w ((((u.setCell ⟨g, 0, none⟩ (.slice (some ⟨g0, 0, none⟩) n n)).setCell ⟨g, 1, none⟩ (.slice (some ⟨g1, 0, none⟩) n n)).setCell ⟨g, 2, none⟩ (.slice (some ⟨g2, 0, none⟩) n n)).setCell ⟨g, 3, none⟩ (.slice none 0 0)) Z g g0 g1 g2 n := by
  obtain ⟨l0, l1, l2, l3, l4, l5, l6, l7⟩ := l
  refine ⟨set4_heap hg _ _ _ _, heap_free r0 l4 _ _ _ _, heap_free r1 l5 _ _ _ _, heap_free r2 l6 _ _ _ _, heap_free hx (by omega) _ _ _ _, set4_below hb (by omega) _ _ _ _, ?_⟩
  omega

def upN (k : Nat) : List Int := (List.range k).map fun i : Nat => (i : Int)
theorem upN_next (k : Nat) : upN (k + 1) = upN k ++ [(k : Int)] := by simp [upN, List.range_succ]

/-- What stands while Free is laid. -/
structure Lay (w u : World) (t gG gS gT : Nat) (A3 : Option Addr) (n k c : Nat) : Prop where
  bel : Below w.heap.size w u
  res : PBox u w.heap.size zeros4
  own : Owns u (w.heap.size + 1) ⟨some ⟨gG, 0, none⟩, some ⟨gS, 0, none⟩, some ⟨gT, 0, none⟩, A3, n, n, n, k, n, n, n, c⟩ ⟨List.replicate n 0, List.replicate n 0, List.replicate n 0, upN k⟩
  box : PBox u t (C4 (some ⟨gG, 0, none⟩) (some ⟨gS, 0, none⟩) (some ⟨gT, 0, none⟩) A3 n n n k n n n c)
  off : Off ⟨some ⟨gG, 0, none⟩, some ⟨gS, 0, none⟩, some ⟨gT, 0, none⟩, A3, n, n, n, k, n, n, n, c⟩ t
  ge : w.heap.size + 1 ≤ t

theorem Lay.first {w u : World} {Z : Array Value} {g g0 g1 g2 n : Nat} (h : Made3 w u Z g g0 g1 g2 n) (hZ : Z = (List.replicate n (Value.int .i64 0)).toArray) (hn : n ≤ 200) : Lay w u g g0 g1 g2 none n 0 0 := by
  have e : Z = (ints (List.replicate n 0)).toArray := by rw [hZ]; simp [ints]
  obtain ⟨a, b, c, d, r, i, l⟩ := h
  rw [e] at b c d
  obtain ⟨l0, l1, l2, l3, l4, l5, l6, l7, l8, l9⟩ := l
  refine ⟨i, r, ⟨own_of b (by simp) hn (by omega), own_of c (by simp) hn (by omega), own_of d (by simp) hn (by omega), World.ownsRow_nil _ _ _ _, (fun h => by cases h), (fun h => by cases h), (fun h => by cases h), (fun _ => rfl), ?_, ?_, (fun _ _ _ h => by cases h), ?_, (fun _ _ _ h => by cases h), (fun _ _ _ h => by cases h)⟩, a, ⟨?_, ?_, ?_, (fun _ h => by cases h)⟩, by omega⟩
  · intro x y hx hy
    simp only [Option.some.injEq] at hx hy
    subst hx
    subst hy
    exact l7
  · intro x y hx hy
    simp only [Option.some.injEq] at hx hy
    subst hx
    subst hy
    exact l8
  · intro x y hx hy
    simp only [Option.some.injEq] at hx hy
    subst hx
    subst hy
    exact l9
  · intro x hx
    simp only [Option.some.injEq] at hx
    subst hx
    exact l4.symm
  · intro x hx
    simp only [Option.some.injEq] at hx
    subst hx
    exact l5.symm
  · intro x hx
    simp only [Option.some.injEq] at hx
    subst hx
    exact l6.symm

theorem Lay.alloc {w u : World} {t gG gS gT : Nat} {A3 : Option Addr} {n k c : Nat} (h : Lay w u t gG gS gT A3 n k c) (o : Obj) : Lay w (u.alloc o) t gG gS gT A3 n k c :=
  ⟨h.bel.alloc h.bel.size _, h.res.alloc _, h.own.alloc _, h.box.alloc _, h.off, h.ge⟩

theorem Lay.grown {w u w2 : World} {t gG gS gT : Nat} {A3 : Option Addr} {n k c g' cap : Nat} (h : Lay w u t gG gS gT A3 n k c) (hown : w2.ownsRow (w.heap.size + 1) 3 1 (.slice (some ⟨g', 0, none⟩) (k + 1) cap) (k + 1) (ints (upN k) ++ [.int .i64 (k : Int)]))
    (hg : u.grownBy w2 (Value.slice A3 k c).ownBlock) (hl : (Value.slice A3 k c).ownBlock = some g' ∨ g' = u.heap.size) :
    PBox w2 t (C4 (some ⟨gG, 0, none⟩) (some ⟨gS, 0, none⟩) (some ⟨gT, 0, none⟩) A3 n n n k n n n c) ∧
    Lay w (w2.setCell ⟨t, 3, none⟩ (.slice (some ⟨g', 0, none⟩) (k + 1) cap)) t gG gS gT (some ⟨g', 0, none⟩) n (k + 1) cap := by
  have hb : PBox w2 t (C4 (some ⟨gG, 0, none⟩) (some ⟨gS, 0, none⟩) (some ⟨gT, 0, none⟩) A3 n n n k n n n c) := h.box.grown hg h.off.2.2.2
  have ho : Off ⟨some ⟨gG, 0, none⟩, some ⟨gS, 0, none⟩, some ⟨gT, 0, none⟩, some ⟨g', 0, none⟩, n, n, n, k + 1, n, n, n, cap⟩ t := by
    refine ⟨h.off.1, h.off.2.1, h.off.2.2.1, fun a ha => ?_⟩
    dsimp only at ha
    simp only [Option.some.injEq] at ha
    subst ha
    dsimp only
    rcases hl with h1 | rfl
    · obtain ⟨x, hx, hy⟩ := own_block_addr h1
      have := h.off.2.2.2 x hx
      omega
    · have := h.box.lt
      omega
  have hA : ∀ a, A3 = some a → w.heap.size + 1 ≤ a.block := fun a ha => (own_addr h.own.f a ha).1
  refine ⟨hb, ⟨(h.bel.grown hg h.bel.size fun j hj => ?_).setCell (by have := h.ge; simp; omega) _, (h.res.grown hg fun a ha => ?_).other (by have := h.ge; omega) _, ?_, hb.set 3 _, ho, h.ge⟩⟩
  · obtain ⟨a, ha, hb⟩ := own_block_addr hj
    have := hA a ha
    omega
  · have := hA a ha
    omega
  · rw [upN_next]
    exact (h.own.grown hown hg hl).box ho _ _

theorem cells_one (w : World) (k : Nat) (g : Nat) (hg : g = w.heap.size) : ∀ j u, ([.int .i64 (k : Int)] : List Value)[j]? = some u → (w.alloc (.cells #[.int .i64 (k : Int)] 3)).cell? ((⟨g, 0, none⟩ : Addr).add j) = some u := by
  intro j u hu
  subst hg
  rw [Addr.add_lit, Nat.zero_add, cell_of_row _ w.heap.size j _ 3 (0, 0) (heap_alloc_new w _)]
  simpa using hu

set_option maxHeartbeats 4000000 in
theorem rnew_ok (n : Nat) (w : World) (h1 : 1 ≤ n) (h2 : n ≤ 64) :
    Calls Try.prog 12 #[.int .i64 (n : Int)] w (TellE w (newP n) 0) := by
  obtain ⟨Z, HZ, hmk⟩ := make_ints n (by omega)
  go_enter Try.func12, Try.ntmps12
  have t1 : decide ((n : Int) < 1) = false := by simp; omega
  have t2 : decide ((64 : Int) < (n : Int)) = false := by simp; omega
  go_upto_region 3 with (fail)
  go_cut [4] (fun v wx => ∃ g g0 g1 g2, v = .pointer (some ⟨g, 0, none⟩) ∧ Hid (Made3 w wx Z g g0 g1 g2 n))
  case first =>
    refine wp_region_any (by kernel_rfl) ?_
    change wpAny _ _ _ _ _ _ _ (World.drew _)
    refine wpAny_take (i := 0) (v := .int .i64 (n : Int)) rfl (by kernel_rfl) (by kernel_rfl) (by kernel_rfl) (fun _ _ _ h => h) (Or.inl ⟨by rfl, by intro w; go_simp⟩) ?_
    refine wpAny_take (i := 2) (v := .int .i64 (n : Int)) rfl (by kernel_rfl) (by kernel_rfl) (by kernel_rfl) (fun _ _ _ h => h) (Or.inl ⟨by rfl, by intro w; go_simp⟩) ?_
    refine wpAny_take (i := 4) (v := .int .i64 (n : Int)) rfl (by kernel_rfl) (by kernel_rfl) (by kernel_rfl) (fun _ _ _ h => h) (Or.inl ⟨by rfl, by intro w; go_simp⟩) ?_
    refine makers w 4 (fun x => fr4 n w.heap.size (x 3) (x 0) (x 1) (x 2) undef) op5 (mk4 n) (ob4 Z) ls4 fl4 set4l (ready4 ?_) ?_ ?_ 4 (fun _ => false) (fun _ => undef) _ rfl ?_
    · intro b0 b1 b2 b3
      cases b0 <;> cases b1 <;> cases b2 <;> cases b3 <;> kernel_rfl
    · intro k hk x u K hK
      match k, hk with
      | 0, _ =>
        refine wpOp_step rfl (fun K' hK' => ?_)
        go_simp
        exact hK' _ _ hK
      | 1, _ =>
        refine wpOp_step rfl (fun K' hK' => ?_)
        go_simp
        exact hK' _ _ hK
      | 2, _ =>
        refine wpOp_step rfl (fun K' hK' => ?_)
        go_simp
        exact hK' _ _ hK
      | 3, _ =>
        refine wpOp_step rfl (fun K' hK' => ?_)
        go_simp
        exact hK' _ _ hK
    · intro b x u hf hd
      obtain ⟨hb, hx, γ, h3, h4⟩ := hd
      have hf' : b 0 = true ∧ b 1 = true ∧ b 2 = true := by simpa [fl4, and_assoc] using hf
      obtain ⟨b0, b1, b2⟩ := hf'
      obtain ⟨e0, r0, l0⟩ := h3 0 (by omega) b0
      obtain ⟨e1, r1, l1⟩ := h3 1 (by omega) b1
      obtain ⟨e2, r2, l2⟩ := h3 2 (by omega) b2
      have d01 := h4 0 1 (by omega) (by omega) (by omega) b0 b1
      have d02 := h4 0 2 (by omega) (by omega) (by omega) b0 b2
      have d12 := h4 1 2 (by omega) (by omega) (by omega) b1 b2
      show wpAny _ _ _ _ (2 + pend b 4) (ls4 b) (fr4 n w.heap.size (x 3) (x 0) (x 1) (x 2) undef) u
      rw [show x 0 = Value.slice (some ⟨γ 0, 0, none⟩) n n from e0, show x 1 = Value.slice (some ⟨γ 1, 0, none⟩) n n from e1, show x 2 = Value.slice (some ⟨γ 2, 0, none⟩) n n from e2]
      cases b3 : b 3 with
      | false =>
        rw [show pend b 4 = 1 by simp [pend, b0, b1, b2, b3], show ls4 b = #[true, true, true, true, true, true, false, false, false] by simp [ls4, b0, b1, b2, b3]]
        generalize x 3 = x4
        generalize γ 0 = g0 at *
        generalize γ 1 = g1 at *
        generalize γ 2 = g2 at *
        have HM := hide (made3_new (n := n) hb hx r0 r1 r2 ⟨l0, l1, l2, d01, d02, d12⟩)
        clear h3 h4 e0 e1 e2 b0 b1 b2 b3 r0 r1 r2 hb hf
        refine wpAny_take (i := 6) (v := .agg (C4 (some ⟨g0, 0, none⟩) (some ⟨g1, 0, none⟩) (some ⟨g2, 0, none⟩) none n n n 0 n n n 0)) rfl (by kernel_rfl) (by kernel_rfl) (by kernel_rfl) (fun _ _ _ h => h) (Or.inl ⟨by rfl, by intro w; go_simp⟩) ?_
        refine wpAny_ready (rs := [7]) (by kernel_rfl) (by simp) ?_
        refine AllReady.cons rfl (fun K hK => ?_) AllReady.nil
        go_simp
        refine hK _ _ ?_
        clear hK K
        refine wpAny_ready (rs := [8]) (by kernel_rfl) (by simp) ?_
        refine AllReady.cons rfl (fun K hK => ?_) AllReady.nil
        go_simp
        refine hK _ _ ?_
        clear hK K
        refine wpAny_done (by kernel_rfl) ?_ _
        go_wp2_with fail
        go_meet
        exact ⟨_, _, _, _, rfl, HM⟩
      | true =>
        obtain ⟨e4, r4, l4⟩ := h3 3 (by omega) b3
        have d04 := h4 3 0 (by omega) (by omega) (by omega) b3 b0
        have d14 := h4 3 1 (by omega) (by omega) (by omega) b3 b1
        have d24 := h4 3 2 (by omega) (by omega) (by omega) b3 b2
        rw [show x 3 = Value.pointer (some ⟨γ 3, 0, none⟩) from e4, show pend b 4 = 0 by simp [pend, b0, b1, b2, b3], show ls4 b = #[true, true, true, true, true, true, false, true, false] by simp [ls4, b0, b1, b2, b3]]
        generalize γ 0 = g0 at *
        generalize γ 1 = g1 at *
        generalize γ 2 = g2 at *
        generalize γ 3 = g4 at *
        have HM := hide (made3_old (n := n) hb hx r4 r0 r1 r2 ⟨l4, l0, l1, l2, d04, d14, d24, d01, d02, d12⟩)
        obtain ⟨y0, f0, y1, f1, y2, f2, y3, f3⟩ := zero_cells r4
        clear h3 h4 e0 e1 e2 e4 b0 b1 b2 b3 r0 r1 r2 r4 hb hf
        refine wpAny_take (i := 6) (v := .agg (C4 (some ⟨g0, 0, none⟩) (some ⟨g1, 0, none⟩) (some ⟨g2, 0, none⟩) none n n n 0 n n n 0)) rfl (by kernel_rfl) (by kernel_rfl) (by kernel_rfl) (fun _ _ _ h => h) (Or.inl ⟨by rfl, by intro w; go_simp⟩) ?_
        refine wpAny_ready (rs := [8]) (by kernel_rfl) (by simp) ?_
        refine AllReady.cons rfl (fun K hK => ?_) AllReady.nil
        go_simp
        refine hK _ _ ?_
        clear hK K
        refine wpAny_done (by kernel_rfl) ?_ _
        go_wp2_with fail
        go_meet
        exact ⟨_, _, _, _, rfl, HM⟩
    · exact ⟨((Below.refl _ _).alloc (Nat.le_refl _) _).drew, PBox.new w zeros4, fun _ => 0, fun k _ h => by simp at h, fun i j _ _ _ h => by simp at h⟩
  case rest =>
    obtain ⟨i0, hi0, hz0, hz1, hz2⟩ := info_parts Try.info3
    have H1 := hide hi0
    have H2 := hide hz0
    have H3 := hide hz1
    have H4 := hide hz2
    clear hi0 hz0 hz1 hz2
    obtain ⟨g, g0, g1, g2, rfl, HM⟩ := hcut
    have HL := hide (Lay.first HM.out HZ.out (by omega))
    clear HM hmk HZ t1 t2
    go_wp2
    go_loopw [21] (fun i wr => ∃ (k : Nat) (A : Option Addr) (c : Nat), k ≤ n ∧ i = .int .i64 k ∧ Hid (Lay w wr g g0 g1 g2 A n k c)) (fun i _ => n - (intOf i).toNat)
    case atStart => exact ⟨0, none, 0, by omega, rfl, HL⟩
    case round =>
      obtain ⟨k, A, c, hk, rfl, HK⟩ := hrel
      clear HL
      have hc := HK.out.box.cells
      have hl := HK.out.box.lt
      by_cases hlt : k < n
      · have HKA := hide (HK.out.alloc (.cells #[.int .i64 (k : Int)] 3))
        have HSz : Hid (w.heap.size + 1 ≤ (wr.alloc (.cells #[.int .i64 (k : Int)] 3)).heap.size) := by have := HK.out.bel.size; show _ ≤ _; simp; omega
        go_wp2_with (at_builtin; refine wpList_append_lies _ rfl _ _ 22 rfl (w.heap.size + 1) 3 i0 (.int .i64 0) 1 8 Try.underlying22 H1.out H2.out H3.out H4.out rfl (by decide) _ k _ rfl HKA.out.own.f ⟨wr.heap.size, 0, none⟩ 1 1 [.int .i64 (k : Int)] rfl rfl (cells_one _ _ _ rfl) (ints_oneCell .i64 [(k : Int)]) (by decide) (by simp only [maxLen]; omega) (by omega) HSz.out _ rfl ?_; intro g' cap w2 hown hg hl2 hlt2; have HGr := hide (HKA.out.grown hown hg hl2); have hcb := HGr.out.1.cells; have hlb := HGr.out.1.lt; have hfb := HGr.out.1.frozen; clear hown hg hl2)
        go_roundw
        case rel => exact ⟨k + 1, some ⟨g', 0, none⟩, cap, by omega, by go_num, HGr.out.2⟩
        case measure => simp [intOf]; omega
      · obtain ⟨y0, f0, y1, f1, y2, f2, y3, f3⟩ := zero_cells HK.out.res
        obtain rfl : k = n := by omega
        have HT := hide ((HK.out.own.set4 (k := w.heap.size) (by omega) (.slice (some ⟨g0, 0, none⟩) k k) (.slice (some ⟨g1, 0, none⟩) k k) (.slice (some ⟨g2, 0, none⟩) k k) (.slice A k c)).less (by omega : w.heap.size ≤ w.heap.size + 1))
        go_wp2
        refine bodyPost_ret (results_row_tmp rfl _ _ w.heap.size 24 _ (0, 0) _ rfl (set4_heap HK.out.res _ _ _ _) Try.underlying24 rfl Try.size24) rfl ⟨⟨some ⟨g0, 0, none⟩, some ⟨g1, 0, none⟩, some ⟨g2, 0, none⟩, A, k, k, k, k, k, k, k, c⟩, rfl, HT.out, set4_below HK.out.bel (Nat.le_refl _) _ _ _ _⟩

set_option maxHeartbeats 400000 in
theorem rnew_no (n : Int) (w : World) (h : Hid (n < 1 ∨ 64 < n)) : Calls Try.prog 12 #[.int .i64 n] w (TellE w noP 1) := by
  by_cases c1 : n < 1
  · have d1 : decide (n < 1) = true := by simpa using c1
    go_enter Try.func12, Try.ntmps12
    go_wp2
    refine bodyPost_ret (results_row_tmp rfl _ _ w.heap.size 24 _ (0, 0) _ rfl (heap_alloc_new _ _) Try.underlying24 rfl Try.size24) rfl ⟨noPl, rfl, owns_none _ _, (Below.refl _ _).alloc (Nat.le_refl _) _⟩
  · have d1 : decide (n < 1) = false := by simpa using c1
    have d2 : decide (64 < n) = true := by have := h.out; simp; omega
    go_enter Try.func12, Try.ntmps12
    go_wp2
    refine bodyPost_ret (results_row_tmp rfl _ _ w.heap.size 24 _ (0, 0) _ rfl (heap_alloc_new _ _) Try.underlying24 rfl Try.size24) rfl ⟨noPl, rfl, owns_none _ _, (Below.refl _ _).alloc (Nat.le_refl _) _⟩

end Go.Proofs.Ytfdbbfjnianahaa
