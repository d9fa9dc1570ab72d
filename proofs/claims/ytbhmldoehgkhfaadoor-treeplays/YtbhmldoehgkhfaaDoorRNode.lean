/-
  The document's trees in memory; what its least and above return: condition: the nodes lie in memory. They only make memory of their own.
-/
import Derived.Test.YtbhmldoehgkhfaaDoorFindA
namespace Go.Proofs.YtbhmldoehgkhfaaDoor
open Go.RowKit
open Tr

/-- Block b is the document's node of tree t. -/
structure RHas (w : World) (B : Nat) (t : T) (b : Nat) (A : Option Addr) (n c : Nat) (A' : Option Addr) (n' c' : Nat) (x y : Option Nat) : Prop where
  lt : b < B
  whole : Whole w b 62 #[.slice A n c, .slice A' n' c', .int .i64 t.h, .int .u64 t.n, ptr x, ptr y]
  key : Rd w B A n t.key
  knc : n ≤ c
  kle : n ≤ 2000
  val : Rd w B A' n' t.val
  vnc : n' ≤ c'
  vle : n' ≤ 2000
def RIn (w : World) (B : Nat) : T → Nat → Prop
  | .leaf k v, b => ∃ A n c A' n' c', RHas w B (.leaf k v) b A n c A' n' c' none none
  | .node l r, b => ∃ A n c A' n' c' x y, RHas w B (.node l r) b A n c A' n' c' (some x) (some y) ∧ RIn w B l x ∧ RIn w B r y
section
variable {w w' : World} {B B' b n c n' c' : Nat} {t : T} {A A' : Option Addr} {x y : Option Nat}
theorem RHas.below (h : RHas w B t b A n c A' n' c' x y) (hb : Below B' w w') (hB : B ≤ B') : RHas w' B t b A n c A' n' c' x y :=
  ⟨h.lt, h.whole.below hb (Nat.lt_of_lt_of_le h.lt hB), h.key.below hb hB, h.knc, h.kle, h.val.below hb hB, h.vnc, h.vle⟩
theorem RHas.more (h : RHas w B t b A n c A' n' c' x y) (hB : B ≤ B') : RHas w B' t b A n c A' n' c' x y :=
  ⟨Nat.lt_of_lt_of_le h.lt hB, h.whole, h.key.more hB, h.knc, h.kle, h.val.more hB, h.vnc, h.vle⟩
theorem RHas.cells (h : RHas w B t b A n c A' n' c' x y) :
    w.cell? ⟨b, 0, none⟩ = some (.slice A n c) ∧ w.cell? ⟨b, 1, none⟩ = some (.slice A' n' c') ∧ w.cell? ⟨b, 2, none⟩ = some (.int .i64 t.h) ∧
    w.cell? ⟨b, 3, none⟩ = some (.int .u64 t.n) ∧ w.cell? ⟨b, 4, none⟩ = some (ptr x) ∧ w.cell? ⟨b, 5, none⟩ = some (ptr y) :=
  ⟨h.whole.at_ rfl, h.whole.at_ rfl, h.whole.at_ rfl, h.whole.at_ rfl, h.whole.at_ rfl, h.whole.at_ rfl⟩
end
theorem RIn.below {w w' : World} {B B' : Nat} (hb : Below B' w w') (hB : B ≤ B') : ∀ {t : T} {b : Nat}, RIn w B t b → RIn w' B t b
  | .leaf _ _, _, ⟨A, n, c, A', n', c', h⟩ => ⟨A, n, c, A', n', c', h.below hb hB⟩
  | .node _ _, _, ⟨A, n, c, A', n', c', x, y, h, h1, h2⟩ => ⟨A, n, c, A', n', c', x, y, h.below hb hB, RIn.below hb hB h1, RIn.below hb hB h2⟩
theorem RIn.more {w : World} {B B' : Nat} (hB : B ≤ B') : ∀ {t : T} {b : Nat}, RIn w B t b → RIn w B' t b
  | .leaf _ _, _, ⟨A, n, c, A', n', c', h⟩ => ⟨A, n, c, A', n', c', h.more hB⟩
  | .node _ _, _, ⟨A, n, c, A', n', c', x, y, h, h1, h2⟩ => ⟨A, n, c, A', n', c', x, y, h.more hB, RIn.more hB h1, RIn.more hB h2⟩
theorem RIn.has {w : World} {B : Nat} : ∀ {t : T} {b : Nat}, RIn w B t b → ∃ A n c A' n' c' x y, RHas w B t b A n c A' n' c' x y
  | .leaf _ _, _, ⟨A, n, c, A', n', c', h⟩ => ⟨A, n, c, A', n', c', none, none, h⟩
  | .node _ _, _, ⟨A, n, c, A', n', c', x, y, h, _, _⟩ => ⟨A, n, c, A', n', c', some x, some y, h⟩
theorem RIn.lt {w : World} {B : Nat} {t : T} {b : Nat} (h : RIn w B t b) : b < B := by
  obtain ⟨_, _, _, _, _, _, _, _, h⟩ := h.has
  exact h.lt
theorem RIn.on {w w' : World} {t : T} {b : Nat} (h : RIn w w.heap.size t b) (hb : Below w.heap.size w w') : RIn w' w'.heap.size t b := (h.below hb (Nat.le_refl _)).more hb.size
theorem RIn.high {w w' : World} {B b : Nat} {t : T} (h : RIn w B t b) (hb : Below B w w') : w'.cell? ⟨b, 2, none⟩ = some (.int .i64 t.h) := by
  obtain ⟨A, n, c, A', n', c', x, y, hh⟩ := (h.below hb (Nat.le_refl _)).has
  exact hh.cells.2.2.1
theorem RIn.wide {w w' : World} {B b : Nat} {t : T} (h : RIn w B t b) (hb : Below B w w') : w'.cell? ⟨b, 3, none⟩ = some (.int .u64 t.n) := by
  obtain ⟨A, n, c, A', n', c', x, y, hh⟩ := (h.below hb (Nat.le_refl _)).has
  exact hh.cells.2.2.2.1
theorem RHas.sides {w w' : World} {B b n c n' c' x y : Nat} {t : T} {A A' : Option Addr} (h : RHas w B t b A n c A' n' c' (some x) (some y)) (hb : Below B w w') :
    w'.cell? ⟨b, 4, none⟩ = some (.pointer (some ⟨x, 0, none⟩)) ∧ w'.cell? ⟨b, 5, none⟩ = some (.pointer (some ⟨y, 0, none⟩)) := by
  obtain ⟨_, _, _, _, c4, c5⟩ := (h.below hb (Nat.le_refl _)).cells
  exact ⟨c4, c5⟩
/-- A node, or none. -/
def RPIn (w : World) (B : Nat) : Option T → Option Nat → Prop
  | none, p => p = none
  | some t, p => ∃ b, p = some b ∧ RIn w B t b
theorem RPIn.on {w w' : World} {o : Option T} {p : Option Nat} (h : RPIn w w.heap.size o p) (hb : Below w.heap.size w w') : RPIn w' w'.heap.size o p := by
  cases o with
  | none => exact h
  | some t => obtain ⟨b, e, h⟩ := h; exact ⟨b, e, h.on hb⟩

def RLeastPost (w : World) (B : Nat) (t : T) (e : Ending) (w' : World) : Prop := ∃ A n c, e = .returned (.slice A n c) ∧ Rd w B A n t.least ∧ n ≤ c ∧ n ≤ 2000 ∧ w = w'
set_option maxRecDepth 100000 in
theorem rleast_any (t : T) (b B : Nat) (w : World) (h : RIn w B t b) : Calls Tryd.prog 66 #[ptr (some b)] w (RLeastPost w B t) := by
  have HN := Lib.hid h
  rw [ptr_some]
  clear h
  go_enter Tryd.func66, Tryd.ntmps66
  go_wp2_with fail
  go_loopg [0] t.h (fun gk v wx => ∃ s b', gk = s.h ∧ v = ptr (some b') ∧ RIn w B s b' ∧ s.least = t.least ∧ wx = w)
  case atStart => exact ⟨t, b, rfl, rfl, HN.out, rfl, rfl⟩
  case round =>
    clear HN
    obtain ⟨s, b', rfl, rfl, hs, hl, rfl⟩ := hrel
    cases s with
    | leaf k v =>
      obtain ⟨A, n, c, A', n', c', hh⟩ := hs
      have hc := hh.cells.1
      have hc2 : wr.cell? ⟨b', 2, none⟩ = some (.int .i64 0) := hh.cells.2.2.1
      have HH := Lib.hid hh
      have HL := Lib.hid hl
      clear hh hl
      rw [ptr_some]
      go_wp2_with fail
      go_ret
      exact ⟨A, n, c, rfl, by rw [← HL.out]; exact HH.out.key, HH.out.knc, HH.out.kle, rfl⟩
    | node l r =>
      obtain ⟨A, n, c, A', n', c', x, y, hh, hx, hy⟩ := hs
      have hc := hh.cells.2.2.2.2.1
      have hc2 := hh.cells.2.2.1
      have hpos : 0 < (T.node l r).h := by have := h_ne l r; omega
      have HX := Lib.hid hx
      have HL := Lib.hid hl
      have HM : Hid (l.h < (T.node l r).h) := Lib.hid (by show l.h < 1 + max l.h r.h; omega)
      clear hh hl hx hy
      rw [ptr_some] at hc ⊢
      generalize (T.node l r).h = H at *
      go_wp2_with fail
      go_roundg l.h
      case measure => exact HM.out
      case rel => exact ⟨l, x, rfl, rfl, HX.out, HL.out, rfl⟩

def RNodePost (t : T) (w : World) (e : Ending) (w' : World) : Prop := ∃ b, e = .returned (ptr (some b)) ∧ RIn w' w'.heap.size t b ∧ Below w.heap.size w w'
def z62 : Array Value := #[.slice none 0 0, .slice none 0 0, .int .i64 0, .int .u64 0, .pointer none, .pointer none]
theorem zero62 : ∀ w, (zeroValue 62).run Tryd.prog w = .ok (.agg z62) w := (zero_of_info (P := Tryd.prog) (t := 62) (v := .agg z62) (n := 6) (by kernel_rfl)).1
set_option maxRecDepth 100000 in
set_option maxHeartbeats 1000000 in
theorem rabove_any (l r : T) (bl br : Nat) (w : World) (hl : RIn w w.heap.size l bl) (hr : RIn w w.heap.size r br) (hn : l.n + r.n ≤ 4294967296) : Calls Tryd.prog 42 #[ptr (some bl), ptr (some br)] w (RNodePost (.node l r) w) := by
  have cl := hl.high (Below.refl _ _)
  have cr := hr.high (Below.refl _ _)
  have h1 := T.h_lt l
  have h2 := T.h_lt r
  have HL := Lib.hid hl
  have HR := Lib.hid hr
  have hu := u64_node l r hn
  have hS0 : w.drew.cell? ⟨bl, 3, none⟩ = some (.int .u64 l.n) ∧ w.drew.cell? ⟨br, 3, none⟩ = some (.int .u64 r.n) := ⟨hl.wide (Below.refl _ _).drew, hr.wide (Below.refl _ _).drew⟩
  have HN : Hid ((T.node l r).n = l.n + r.n) := Lib.hid rfl
  obtain ⟨H, hH⟩ : ∃ H, (T.node l r).h = H := ⟨_, rfl⟩
  have hHe : H = 1 + max l.h r.h := by rw [← hH]; rfl
  clear hl hr
  rw [ptr_some, ptr_some]
  have HHH := Lib.hid hH
  have hHb : H ≤ 4294967296 := by omega
  clear hH
  by_cases hlt : l.h < r.h
  · have hw1 : IntKind.i64.wrap ((r.h : Int) + 1) = (H : Int) := by rw [IntWalk.i64_in _ (by omega)]; omega
    clear hHe
    generalize l.h = lh at *
    generalize r.h = rh at *
    go_enter Tryd.func42, Tryd.ntmps42
    go_upto_region 4 with (fail)
    refine wp_region_held_drew (S := fun w' => w'.cell? ⟨bl, 3, none⟩ = some (.int .u64 l.n) ∧ w'.cell? ⟨br, 3, none⟩ = some (.int .u64 r.n)) (by kernel_rfl) hS0 (fun hHeld => ?_)
    refine wpAnyH_take (i := 0) (oi := { dst := some 20, op := Op.move (Operand.tmp 1), type := 26, pos := "ref.go:59", after := #[], guard := none }) (v := ?_) rfl (by kernel_rfl) (by kernel_rfl) (by kernel_rfl) (fun _ _ _ h => h) (Or.inl ⟨by rfl, ?_⟩) (by assumption) ?_
    rotate_left
    · first | (intro w hSw; (try dsimp only at hSw); go_simp; done) | (intro w hSw; (try dsimp only at hSw); go_simp; with_reducible rfl)
    simp only [Act.put, List.setIfInBounds_toArray, List.set_cons_zero, List.set_cons_succ]
    refine wpAnyH_take (i := 2) (oi := { dst := some 22, op := Op.move (Operand.tmp 5), type := 3, pos := "ref.go:59", after := #[], guard := none }) (v := ?_) rfl (by kernel_rfl) (by kernel_rfl) (by kernel_rfl) (fun _ _ _ h => h) (Or.inl ⟨by rfl, ?_⟩) (by assumption) ?_
    rotate_left
    · first | (intro w hSw; (try dsimp only at hSw); go_simp; done) | (intro w hSw; (try dsimp only at hSw); go_simp; with_reducible rfl)
    simp only [Act.put, List.setIfInBounds_toArray, List.set_cons_zero, List.set_cons_succ]
    refine wpAnyH_take (i := 3) (oi := { dst := some 23, op := Op.binOp BinOp.add 3 (Operand.tmp 22) (Operand.const (Value.int IntKind.i64 1)) 3, type := 3, pos := "ref.go:59", after := #[{ on := 2, ground := Ground.data }], guard := none }) (v := ?_) rfl (by kernel_rfl) (by kernel_rfl) (by kernel_rfl) (fun _ _ _ h => h) (Or.inl ⟨by rfl, ?_⟩) (by assumption) ?_
    rotate_left
    · first | (intro w hSw; (try dsimp only at hSw); go_simp; done) | (intro w hSw; (try dsimp only at hSw); go_simp; with_reducible rfl)
    simp only [Act.put, List.setIfInBounds_toArray, List.set_cons_zero, List.set_cons_succ]
    refine wpAnyH_take (i := 4) (oi := { dst := some 24, op := Op.move (Operand.tmp 0), type := 26, pos := "ref.go:59", after := #[], guard := none }) (v := ?_) rfl (by kernel_rfl) (by kernel_rfl) (by kernel_rfl) (fun _ _ _ h => h) (Or.inl ⟨by rfl, ?_⟩) (by assumption) ?_
    rotate_left
    · first | (intro w hSw; (try dsimp only at hSw); go_simp; done) | (intro w hSw; (try dsimp only at hSw); go_simp; with_reducible rfl)
    simp only [Act.put, List.setIfInBounds_toArray, List.set_cons_zero, List.set_cons_succ]
    refine wpAnyH_take (i := 5) (oi := { dst := some 25, op := Op.nilCheck (Operand.tmp 24), type := 0, pos := "ref.go:59", after := #[{ on := 4, ground := Ground.data }], guard := none }) (v := ?_) rfl (by kernel_rfl) (by kernel_rfl) (by kernel_rfl) (fun _ _ _ h => h) (Or.inl ⟨by rfl, ?_⟩) (by assumption) ?_
    rotate_left
    · first | (intro w hSw; (try dsimp only at hSw); go_simp; done) | (intro w hSw; (try dsimp only at hSw); go_simp; with_reducible rfl)
    simp only [Act.put, List.setIfInBounds_toArray, List.set_cons_zero, List.set_cons_succ]
    refine wpAnyH_take (i := 6) (oi := { dst := some 26, op := Op.fieldAddr 62 (Operand.tmp 25) 3, type := 0, pos := "ref.go:59", after := #[{ on := 5, ground := Ground.data }], guard := none }) (v := ?_) rfl (by kernel_rfl) (by kernel_rfl) (by kernel_rfl) (fun _ _ _ h => h) (Or.inl ⟨by rfl, ?_⟩) (by assumption) ?_
    rotate_left
    · first | (intro w hSw; (try dsimp only at hSw); go_simp; done) | (intro w hSw; (try dsimp only at hSw); go_simp; with_reducible rfl)
    simp only [Act.put, List.setIfInBounds_toArray, List.set_cons_zero, List.set_cons_succ]
    refine wpAnyH_take (i := 7) (oi := { dst := some 27, op := Op.load 60 (Operand.tmp 26), type := 60, pos := "ref.go:59", after := #[{ on := 6, ground := Ground.data }], guard := none }) (v := ?_) rfl (by kernel_rfl) (by kernel_rfl) (by kernel_rfl) (fun _ _ _ h => h) (Or.inl ⟨by rfl, ?_⟩) (by assumption) ?_
    rotate_left
    · first | (intro w hSw; (try dsimp only at hSw); go_simp; done) | (intro w hSw; (try dsimp only at hSw); go_simp; with_reducible rfl)
    simp only [Act.put, List.setIfInBounds_toArray, List.set_cons_zero, List.set_cons_succ]
    refine wpAnyH_take (i := 8) (oi := { dst := some 28, op := Op.move (Operand.tmp 1), type := 26, pos := "ref.go:59", after := #[], guard := none }) (v := ?_) rfl (by kernel_rfl) (by kernel_rfl) (by kernel_rfl) (fun _ _ _ h => h) (Or.inl ⟨by rfl, ?_⟩) (by assumption) ?_
    rotate_left
    · first | (intro w hSw; (try dsimp only at hSw); go_simp; done) | (intro w hSw; (try dsimp only at hSw); go_simp; with_reducible rfl)
    simp only [Act.put, List.setIfInBounds_toArray, List.set_cons_zero, List.set_cons_succ]
    refine wpAnyH_take (i := 9) (oi := { dst := some 29, op := Op.nilCheck (Operand.tmp 28), type := 0, pos := "ref.go:59", after := #[{ on := 8, ground := Ground.data }], guard := none }) (v := ?_) rfl (by kernel_rfl) (by kernel_rfl) (by kernel_rfl) (fun _ _ _ h => h) (Or.inl ⟨by rfl, ?_⟩) (by assumption) ?_
    rotate_left
    · first | (intro w hSw; (try dsimp only at hSw); go_simp; done) | (intro w hSw; (try dsimp only at hSw); go_simp; with_reducible rfl)
    simp only [Act.put, List.setIfInBounds_toArray, List.set_cons_zero, List.set_cons_succ]
    refine wpAnyH_take (i := 10) (oi := { dst := some 30, op := Op.fieldAddr 62 (Operand.tmp 29) 3, type := 0, pos := "ref.go:59", after := #[{ on := 9, ground := Ground.data }], guard := none }) (v := ?_) rfl (by kernel_rfl) (by kernel_rfl) (by kernel_rfl) (fun _ _ _ h => h) (Or.inl ⟨by rfl, ?_⟩) (by assumption) ?_
    rotate_left
    · first | (intro w hSw; (try dsimp only at hSw); go_simp; done) | (intro w hSw; (try dsimp only at hSw); go_simp; with_reducible rfl)
    simp only [Act.put, List.setIfInBounds_toArray, List.set_cons_zero, List.set_cons_succ]
    refine wpAnyH_take (i := 11) (oi := { dst := some 31, op := Op.load 60 (Operand.tmp 30), type := 60, pos := "ref.go:59", after := #[{ on := 10, ground := Ground.data }], guard := none }) (v := ?_) rfl (by kernel_rfl) (by kernel_rfl) (by kernel_rfl) (fun _ _ _ h => h) (Or.inl ⟨by rfl, ?_⟩) (by assumption) ?_
    rotate_left
    · first | (intro w hSw; (try dsimp only at hSw); go_simp; done) | (intro w hSw; (try dsimp only at hSw); go_simp; with_reducible rfl)
    simp only [Act.put, List.setIfInBounds_toArray, List.set_cons_zero, List.set_cons_succ]
    refine wpAnyH_take (i := 12) (oi := { dst := some 32, op := Op.binOp BinOp.add 60 (Operand.tmp 27) (Operand.tmp 31) 60, type := 60, pos := "ref.go:59", after := #[{ on := 7, ground := Ground.data }, { on := 11, ground := Ground.data }], guard := none }) (v := ?_) rfl (by kernel_rfl) (by kernel_rfl) (by kernel_rfl) (fun _ _ _ h => h) (Or.inl ⟨by rfl, ?_⟩) (by assumption) ?_
    rotate_left
    · first | (intro w hSw; (try dsimp only at hSw); go_simp; done) | (intro w hSw; (try dsimp only at hSw); go_simp; with_reducible rfl)
    simp only [Act.put, List.setIfInBounds_toArray, List.set_cons_zero, List.set_cons_succ]
    refine wpAnyH_take (i := 13) (oi := { dst := some 33, op := Op.move (Operand.tmp 0), type := 26, pos := "ref.go:59", after := #[], guard := none }) (v := ?_) rfl (by kernel_rfl) (by kernel_rfl) (by kernel_rfl) (fun _ _ _ h => h) (Or.inl ⟨by rfl, ?_⟩) (by assumption) ?_
    rotate_left
    · first | (intro w hSw; (try dsimp only at hSw); go_simp; done) | (intro w hSw; (try dsimp only at hSw); go_simp; with_reducible rfl)
    simp only [Act.put, List.setIfInBounds_toArray, List.set_cons_zero, List.set_cons_succ]
    refine wpAnyH_take (i := 14) (oi := { dst := some 34, op := Op.move (Operand.tmp 1), type := 26, pos := "ref.go:59", after := #[], guard := none }) (v := ?_) rfl (by kernel_rfl) (by kernel_rfl) (by kernel_rfl) (fun _ _ _ h => h) (Or.inl ⟨by rfl, ?_⟩) (by assumption) ?_
    rotate_left
    · first | (intro w hSw; (try dsimp only at hSw); go_simp; done) | (intro w hSw; (try dsimp only at hSw); go_simp; with_reducible rfl)
    simp only [Act.put, List.setIfInBounds_toArray, List.set_cons_zero, List.set_cons_succ]
    clear cl cr hu hw1 hHeld
    have HL1 : Hid (RIn w.drew w.heap.size l bl) := Lib.hid (HL.out.below (Below.refl _ _).drew (Nat.le_refl _))
    have HR1 : Hid (RIn w.drew w.heap.size r br) := Lib.hid (HR.out.below (Below.refl _ _).drew (Nat.le_refl _))
    have HB1 : Hid (Below w.heap.size w w.drew) := Lib.hid (Below.refl _ _).drew
    have hsz : w.drew.heap.size = w.heap.size := rfl
    generalize w.drew = w1 at *
    have HC := Lib.hid (rleast_any r br w.heap.size w1 HR1.out)
    rw [ptr_some] at HC
    refine wpAnyH_ready (rs := [1]) (by kernel_rfl) (by simp) ?_
    refine AllReadyH.cons rfl (fun K hK => ?_) AllReadyH.nil
    go_simp
    refine HC.out.mono ?_
    rintro e w2 ⟨A, n, c, rfl, hrd, hnc, hle, rfl⟩
    refine hK.out _ _ hS0 (fun hHeld => ?_)
    clear hK K HC
    have hz62 : ∀ w, (zeroValue 62).run Tryd.prog w = .ok (.agg #[.slice none 0 0, .slice none 0 0, .int .i64 0, .int .u64 0, .pointer none, .pointer none]) w := zero62
    refine wpAnyH_take (i := 15) (oi := { dst := some 35, op := Op.build 62 #[(0, Operand.tmp 21), (2, Operand.tmp 23), (3, Operand.tmp 32), (4, Operand.tmp 33), (5, Operand.tmp 34)], type := 62, pos := "ref.go:59", after := #[{ on := 1, ground := Ground.data }, { on := 3, ground := Ground.data }, { on := 12, ground := Ground.data }, { on := 13, ground := Ground.data }, { on := 14, ground := Ground.data }], guard := none }) (v := ?_) rfl (by kernel_rfl) (by kernel_rfl) (by kernel_rfl) (fun _ _ _ h => h) (Or.inl ⟨by rfl, ?_⟩) (by assumption) ?_
    rotate_left
    · first | (intro w hSw; (try dsimp only at hSw); go_simp; done) | (intro w hSw; (try dsimp only at hSw); go_simp; with_reducible rfl)
    simp only [Act.put, List.setIfInBounds_toArray, List.set_cons_zero, List.set_cons_succ]
    clear hz62
    refine wpAnyH_ready (rs := [16]) (by kernel_rfl) (by simp) ?_
    refine AllReadyH.cons rfl (fun K hK => ?_) AllReadyH.nil
    go_simp
    have hw3 := Whole.made w1 62 #[.slice A n c, .slice none 0 0, .int .i64 H, .int .u64 (T.node l r).n, .pointer (some ⟨bl, 0, none⟩), .pointer (some ⟨br, 0, none⟩)]
    have hb3 : Below w1.heap.size w1 (w1.alloc (.cells #[.slice A n c, .slice none 0 0, .int .i64 H, .int .u64 (T.node l r).n, .pointer (some ⟨bl, 0, none⟩), .pointer (some ⟨br, 0, none⟩)] 62)) := (Below.refl _ _).alloc (Nat.le_refl _) _
    generalize w1.alloc (.cells #[.slice A n c, .slice none 0 0, .int .i64 H, .int .u64 (T.node l r).n, .pointer (some ⟨bl, 0, none⟩), .pointer (some ⟨br, 0, none⟩)] 62) = w3 at *
    have hS3 : w3.cell? ⟨bl, 3, none⟩ = some (.int .u64 l.n) ∧ w3.cell? ⟨br, 3, none⟩ = some (.int .u64 r.n) := ⟨HL1.out.wide (hb3.mono (by omega)), HR1.out.wide (hb3.mono (by omega))⟩
    have hlt3 := hw3.lt
    rw [hsz] at hw3 hb3 hlt3
    have HP : Hid (RNodePost (.node l r) w (.returned (ptr (some w.heap.size))) w3) := Lib.hid (by
      refine ⟨w.heap.size, rfl, ⟨A, n, c, none, 0, 0, bl, br, ⟨hlt3, by rw [HHH.out]; exact hw3, (hrd.below hb3 (Nat.le_refl _)).more (Nat.le_of_lt hlt3), hnc, hle, Rd.nil, Nat.le_refl _, by omega⟩, (HL1.out.below hb3 (Nat.le_refl _)).more (Nat.le_of_lt hlt3), (HR1.out.below hb3 (Nat.le_refl _)).more (Nat.le_of_lt hlt3)⟩, HB1.out.trans hb3⟩)
    refine hK.out _ _ hS3 (fun hHeld => ?_)
    clear hK K hw3 hb3 hrd HL1 HR1 HB1
    refine wpAnyH_take (i := 17) (oi := { dst := some 4, op := Op.assign (Operand.tmp 36), type := 26, pos := "ref.go:59", after := #[{ on := 16, ground := Ground.data }, { on := 1, ground := Ground.chain }, { on := 0, ground := Ground.phase }, { on := 1, ground := Ground.phase }, { on := 2, ground := Ground.phase }, { on := 3, ground := Ground.phase }, { on := 4, ground := Ground.phase }, { on := 5, ground := Ground.phase }, { on := 6, ground := Ground.phase }, { on := 7, ground := Ground.phase }, { on := 8, ground := Ground.phase }, { on := 9, ground := Ground.phase }, { on := 10, ground := Ground.phase }, { on := 11, ground := Ground.phase }, { on := 12, ground := Ground.phase }, { on := 13, ground := Ground.phase }, { on := 14, ground := Ground.phase }, { on := 15, ground := Ground.phase }, { on := 16, ground := Ground.phase }], guard := none }) (v := ?_) rfl (by kernel_rfl) (by kernel_rfl) (by kernel_rfl) (fun _ _ _ h => h) (Or.inl ⟨by rfl, ?_⟩) (by assumption) ?_
    rotate_left
    · first | (intro w hSw; (try dsimp only at hSw); go_simp; done) | (intro w hSw; (try dsimp only at hSw); go_simp; with_reducible rfl)
    simp only [Act.put, List.setIfInBounds_toArray, List.set_cons_zero, List.set_cons_succ]
    clear hHeld hS3
    refine wpAnyH_done (by kernel_rfl) ?_ _
    go_wp2_with fail
    go_ret
    exact HP.out
  · have hw1 : IntKind.i64.wrap ((l.h : Int) + 1) = (H : Int) := by rw [IntWalk.i64_in _ (by omega)]; omega
    clear hHe
    generalize l.h = lh at *
    generalize r.h = rh at *
    go_enter Tryd.func42, Tryd.ntmps42
    go_upto_region 4 with (fail)
    refine wp_region_held_drew (S := fun w' => w'.cell? ⟨bl, 3, none⟩ = some (.int .u64 l.n) ∧ w'.cell? ⟨br, 3, none⟩ = some (.int .u64 r.n)) (by kernel_rfl) hS0 (fun hHeld => ?_)
    refine wpAnyH_take (i := 0) (oi := { dst := some 20, op := Op.move (Operand.tmp 1), type := 26, pos := "ref.go:59", after := #[], guard := none }) (v := ?_) rfl (by kernel_rfl) (by kernel_rfl) (by kernel_rfl) (fun _ _ _ h => h) (Or.inl ⟨by rfl, ?_⟩) (by assumption) ?_
    rotate_left
    · first | (intro w hSw; (try dsimp only at hSw); go_simp; done) | (intro w hSw; (try dsimp only at hSw); go_simp; with_reducible rfl)
    simp only [Act.put, List.setIfInBounds_toArray, List.set_cons_zero, List.set_cons_succ]
    refine wpAnyH_take (i := 2) (oi := { dst := some 22, op := Op.move (Operand.tmp 5), type := 3, pos := "ref.go:59", after := #[], guard := none }) (v := ?_) rfl (by kernel_rfl) (by kernel_rfl) (by kernel_rfl) (fun _ _ _ h => h) (Or.inl ⟨by rfl, ?_⟩) (by assumption) ?_
    rotate_left
    · first | (intro w hSw; (try dsimp only at hSw); go_simp; done) | (intro w hSw; (try dsimp only at hSw); go_simp; with_reducible rfl)
    simp only [Act.put, List.setIfInBounds_toArray, List.set_cons_zero, List.set_cons_succ]
    refine wpAnyH_take (i := 3) (oi := { dst := some 23, op := Op.binOp BinOp.add 3 (Operand.tmp 22) (Operand.const (Value.int IntKind.i64 1)) 3, type := 3, pos := "ref.go:59", after := #[{ on := 2, ground := Ground.data }], guard := none }) (v := ?_) rfl (by kernel_rfl) (by kernel_rfl) (by kernel_rfl) (fun _ _ _ h => h) (Or.inl ⟨by rfl, ?_⟩) (by assumption) ?_
    rotate_left
    · first | (intro w hSw; (try dsimp only at hSw); go_simp; done) | (intro w hSw; (try dsimp only at hSw); go_simp; with_reducible rfl)
    simp only [Act.put, List.setIfInBounds_toArray, List.set_cons_zero, List.set_cons_succ]
    refine wpAnyH_take (i := 4) (oi := { dst := some 24, op := Op.move (Operand.tmp 0), type := 26, pos := "ref.go:59", after := #[], guard := none }) (v := ?_) rfl (by kernel_rfl) (by kernel_rfl) (by kernel_rfl) (fun _ _ _ h => h) (Or.inl ⟨by rfl, ?_⟩) (by assumption) ?_
    rotate_left
    · first | (intro w hSw; (try dsimp only at hSw); go_simp; done) | (intro w hSw; (try dsimp only at hSw); go_simp; with_reducible rfl)
    simp only [Act.put, List.setIfInBounds_toArray, List.set_cons_zero, List.set_cons_succ]
    refine wpAnyH_take (i := 5) (oi := { dst := some 25, op := Op.nilCheck (Operand.tmp 24), type := 0, pos := "ref.go:59", after := #[{ on := 4, ground := Ground.data }], guard := none }) (v := ?_) rfl (by kernel_rfl) (by kernel_rfl) (by kernel_rfl) (fun _ _ _ h => h) (Or.inl ⟨by rfl, ?_⟩) (by assumption) ?_
    rotate_left
    · first | (intro w hSw; (try dsimp only at hSw); go_simp; done) | (intro w hSw; (try dsimp only at hSw); go_simp; with_reducible rfl)
    simp only [Act.put, List.setIfInBounds_toArray, List.set_cons_zero, List.set_cons_succ]
    refine wpAnyH_take (i := 6) (oi := { dst := some 26, op := Op.fieldAddr 62 (Operand.tmp 25) 3, type := 0, pos := "ref.go:59", after := #[{ on := 5, ground := Ground.data }], guard := none }) (v := ?_) rfl (by kernel_rfl) (by kernel_rfl) (by kernel_rfl) (fun _ _ _ h => h) (Or.inl ⟨by rfl, ?_⟩) (by assumption) ?_
    rotate_left
    · first | (intro w hSw; (try dsimp only at hSw); go_simp; done) | (intro w hSw; (try dsimp only at hSw); go_simp; with_reducible rfl)
    simp only [Act.put, List.setIfInBounds_toArray, List.set_cons_zero, List.set_cons_succ]
    refine wpAnyH_take (i := 7) (oi := { dst := some 27, op := Op.load 60 (Operand.tmp 26), type := 60, pos := "ref.go:59", after := #[{ on := 6, ground := Ground.data }], guard := none }) (v := ?_) rfl (by kernel_rfl) (by kernel_rfl) (by kernel_rfl) (fun _ _ _ h => h) (Or.inl ⟨by rfl, ?_⟩) (by assumption) ?_
    rotate_left
    · first | (intro w hSw; (try dsimp only at hSw); go_simp; done) | (intro w hSw; (try dsimp only at hSw); go_simp; with_reducible rfl)
    simp only [Act.put, List.setIfInBounds_toArray, List.set_cons_zero, List.set_cons_succ]
    refine wpAnyH_take (i := 8) (oi := { dst := some 28, op := Op.move (Operand.tmp 1), type := 26, pos := "ref.go:59", after := #[], guard := none }) (v := ?_) rfl (by kernel_rfl) (by kernel_rfl) (by kernel_rfl) (fun _ _ _ h => h) (Or.inl ⟨by rfl, ?_⟩) (by assumption) ?_
    rotate_left
    · first | (intro w hSw; (try dsimp only at hSw); go_simp; done) | (intro w hSw; (try dsimp only at hSw); go_simp; with_reducible rfl)
    simp only [Act.put, List.setIfInBounds_toArray, List.set_cons_zero, List.set_cons_succ]
    refine wpAnyH_take (i := 9) (oi := { dst := some 29, op := Op.nilCheck (Operand.tmp 28), type := 0, pos := "ref.go:59", after := #[{ on := 8, ground := Ground.data }], guard := none }) (v := ?_) rfl (by kernel_rfl) (by kernel_rfl) (by kernel_rfl) (fun _ _ _ h => h) (Or.inl ⟨by rfl, ?_⟩) (by assumption) ?_
    rotate_left
    · first | (intro w hSw; (try dsimp only at hSw); go_simp; done) | (intro w hSw; (try dsimp only at hSw); go_simp; with_reducible rfl)
    simp only [Act.put, List.setIfInBounds_toArray, List.set_cons_zero, List.set_cons_succ]
    refine wpAnyH_take (i := 10) (oi := { dst := some 30, op := Op.fieldAddr 62 (Operand.tmp 29) 3, type := 0, pos := "ref.go:59", after := #[{ on := 9, ground := Ground.data }], guard := none }) (v := ?_) rfl (by kernel_rfl) (by kernel_rfl) (by kernel_rfl) (fun _ _ _ h => h) (Or.inl ⟨by rfl, ?_⟩) (by assumption) ?_
    rotate_left
    · first | (intro w hSw; (try dsimp only at hSw); go_simp; done) | (intro w hSw; (try dsimp only at hSw); go_simp; with_reducible rfl)
    simp only [Act.put, List.setIfInBounds_toArray, List.set_cons_zero, List.set_cons_succ]
    refine wpAnyH_take (i := 11) (oi := { dst := some 31, op := Op.load 60 (Operand.tmp 30), type := 60, pos := "ref.go:59", after := #[{ on := 10, ground := Ground.data }], guard := none }) (v := ?_) rfl (by kernel_rfl) (by kernel_rfl) (by kernel_rfl) (fun _ _ _ h => h) (Or.inl ⟨by rfl, ?_⟩) (by assumption) ?_
    rotate_left
    · first | (intro w hSw; (try dsimp only at hSw); go_simp; done) | (intro w hSw; (try dsimp only at hSw); go_simp; with_reducible rfl)
    simp only [Act.put, List.setIfInBounds_toArray, List.set_cons_zero, List.set_cons_succ]
    refine wpAnyH_take (i := 12) (oi := { dst := some 32, op := Op.binOp BinOp.add 60 (Operand.tmp 27) (Operand.tmp 31) 60, type := 60, pos := "ref.go:59", after := #[{ on := 7, ground := Ground.data }, { on := 11, ground := Ground.data }], guard := none }) (v := ?_) rfl (by kernel_rfl) (by kernel_rfl) (by kernel_rfl) (fun _ _ _ h => h) (Or.inl ⟨by rfl, ?_⟩) (by assumption) ?_
    rotate_left
    · first | (intro w hSw; (try dsimp only at hSw); go_simp; done) | (intro w hSw; (try dsimp only at hSw); go_simp; with_reducible rfl)
    simp only [Act.put, List.setIfInBounds_toArray, List.set_cons_zero, List.set_cons_succ]
    refine wpAnyH_take (i := 13) (oi := { dst := some 33, op := Op.move (Operand.tmp 0), type := 26, pos := "ref.go:59", after := #[], guard := none }) (v := ?_) rfl (by kernel_rfl) (by kernel_rfl) (by kernel_rfl) (fun _ _ _ h => h) (Or.inl ⟨by rfl, ?_⟩) (by assumption) ?_
    rotate_left
    · first | (intro w hSw; (try dsimp only at hSw); go_simp; done) | (intro w hSw; (try dsimp only at hSw); go_simp; with_reducible rfl)
    simp only [Act.put, List.setIfInBounds_toArray, List.set_cons_zero, List.set_cons_succ]
    refine wpAnyH_take (i := 14) (oi := { dst := some 34, op := Op.move (Operand.tmp 1), type := 26, pos := "ref.go:59", after := #[], guard := none }) (v := ?_) rfl (by kernel_rfl) (by kernel_rfl) (by kernel_rfl) (fun _ _ _ h => h) (Or.inl ⟨by rfl, ?_⟩) (by assumption) ?_
    rotate_left
    · first | (intro w hSw; (try dsimp only at hSw); go_simp; done) | (intro w hSw; (try dsimp only at hSw); go_simp; with_reducible rfl)
    simp only [Act.put, List.setIfInBounds_toArray, List.set_cons_zero, List.set_cons_succ]
    clear cl cr hu hw1 hHeld
    have HL1 : Hid (RIn w.drew w.heap.size l bl) := Lib.hid (HL.out.below (Below.refl _ _).drew (Nat.le_refl _))
    have HR1 : Hid (RIn w.drew w.heap.size r br) := Lib.hid (HR.out.below (Below.refl _ _).drew (Nat.le_refl _))
    have HB1 : Hid (Below w.heap.size w w.drew) := Lib.hid (Below.refl _ _).drew
    have hsz : w.drew.heap.size = w.heap.size := rfl
    generalize w.drew = w1 at *
    have HC := Lib.hid (rleast_any r br w.heap.size w1 HR1.out)
    rw [ptr_some] at HC
    refine wpAnyH_ready (rs := [1]) (by kernel_rfl) (by simp) ?_
    refine AllReadyH.cons rfl (fun K hK => ?_) AllReadyH.nil
    go_simp
    refine HC.out.mono ?_
    rintro e w2 ⟨A, n, c, rfl, hrd, hnc, hle, rfl⟩
    refine hK.out _ _ hS0 (fun hHeld => ?_)
    clear hK K HC
    have hz62 : ∀ w, (zeroValue 62).run Tryd.prog w = .ok (.agg #[.slice none 0 0, .slice none 0 0, .int .i64 0, .int .u64 0, .pointer none, .pointer none]) w := zero62
    refine wpAnyH_take (i := 15) (oi := { dst := some 35, op := Op.build 62 #[(0, Operand.tmp 21), (2, Operand.tmp 23), (3, Operand.tmp 32), (4, Operand.tmp 33), (5, Operand.tmp 34)], type := 62, pos := "ref.go:59", after := #[{ on := 1, ground := Ground.data }, { on := 3, ground := Ground.data }, { on := 12, ground := Ground.data }, { on := 13, ground := Ground.data }, { on := 14, ground := Ground.data }], guard := none }) (v := ?_) rfl (by kernel_rfl) (by kernel_rfl) (by kernel_rfl) (fun _ _ _ h => h) (Or.inl ⟨by rfl, ?_⟩) (by assumption) ?_
    rotate_left
    · first | (intro w hSw; (try dsimp only at hSw); go_simp; done) | (intro w hSw; (try dsimp only at hSw); go_simp; with_reducible rfl)
    simp only [Act.put, List.setIfInBounds_toArray, List.set_cons_zero, List.set_cons_succ]
    clear hz62
    refine wpAnyH_ready (rs := [16]) (by kernel_rfl) (by simp) ?_
    refine AllReadyH.cons rfl (fun K hK => ?_) AllReadyH.nil
    go_simp
    have hw3 := Whole.made w1 62 #[.slice A n c, .slice none 0 0, .int .i64 H, .int .u64 (T.node l r).n, .pointer (some ⟨bl, 0, none⟩), .pointer (some ⟨br, 0, none⟩)]
    have hb3 : Below w1.heap.size w1 (w1.alloc (.cells #[.slice A n c, .slice none 0 0, .int .i64 H, .int .u64 (T.node l r).n, .pointer (some ⟨bl, 0, none⟩), .pointer (some ⟨br, 0, none⟩)] 62)) := (Below.refl _ _).alloc (Nat.le_refl _) _
    generalize w1.alloc (.cells #[.slice A n c, .slice none 0 0, .int .i64 H, .int .u64 (T.node l r).n, .pointer (some ⟨bl, 0, none⟩), .pointer (some ⟨br, 0, none⟩)] 62) = w3 at *
    have hS3 : w3.cell? ⟨bl, 3, none⟩ = some (.int .u64 l.n) ∧ w3.cell? ⟨br, 3, none⟩ = some (.int .u64 r.n) := ⟨HL1.out.wide (hb3.mono (by omega)), HR1.out.wide (hb3.mono (by omega))⟩
    have hlt3 := hw3.lt
    rw [hsz] at hw3 hb3 hlt3
    have HP : Hid (RNodePost (.node l r) w (.returned (ptr (some w.heap.size))) w3) := Lib.hid (by
      refine ⟨w.heap.size, rfl, ⟨A, n, c, none, 0, 0, bl, br, ⟨hlt3, by rw [HHH.out]; exact hw3, (hrd.below hb3 (Nat.le_refl _)).more (Nat.le_of_lt hlt3), hnc, hle, Rd.nil, Nat.le_refl _, by omega⟩, (HL1.out.below hb3 (Nat.le_refl _)).more (Nat.le_of_lt hlt3), (HR1.out.below hb3 (Nat.le_refl _)).more (Nat.le_of_lt hlt3)⟩, HB1.out.trans hb3⟩)
    refine hK.out _ _ hS3 (fun hHeld => ?_)
    clear hK K hw3 hb3 hrd HL1 HR1 HB1
    refine wpAnyH_take (i := 17) (oi := { dst := some 4, op := Op.assign (Operand.tmp 36), type := 26, pos := "ref.go:59", after := #[{ on := 16, ground := Ground.data }, { on := 1, ground := Ground.chain }, { on := 0, ground := Ground.phase }, { on := 1, ground := Ground.phase }, { on := 2, ground := Ground.phase }, { on := 3, ground := Ground.phase }, { on := 4, ground := Ground.phase }, { on := 5, ground := Ground.phase }, { on := 6, ground := Ground.phase }, { on := 7, ground := Ground.phase }, { on := 8, ground := Ground.phase }, { on := 9, ground := Ground.phase }, { on := 10, ground := Ground.phase }, { on := 11, ground := Ground.phase }, { on := 12, ground := Ground.phase }, { on := 13, ground := Ground.phase }, { on := 14, ground := Ground.phase }, { on := 15, ground := Ground.phase }, { on := 16, ground := Ground.phase }], guard := none }) (v := ?_) rfl (by kernel_rfl) (by kernel_rfl) (by kernel_rfl) (fun _ _ _ h => h) (Or.inl ⟨by rfl, ?_⟩) (by assumption) ?_
    rotate_left
    · first | (intro w hSw; (try dsimp only at hSw); go_simp; done) | (intro w hSw; (try dsimp only at hSw); go_simp; with_reducible rfl)
    simp only [Act.put, List.setIfInBounds_toArray, List.set_cons_zero, List.set_cons_succ]
    clear hHeld hS3
    refine wpAnyH_done (by kernel_rfl) ?_ _
    go_wp2_with fail
    go_ret
    exact HP.out
end Go.Proofs.YtbhmldoehgkhfaaDoor
