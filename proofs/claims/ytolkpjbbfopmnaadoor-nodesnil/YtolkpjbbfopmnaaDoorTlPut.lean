/-
  What bytes.Clone, tlv.appendPiece, tlv.Put and the document's Put return; conditions: what is handed over is read, and no longer than memory can be. They only make memory of their own.
-/
import Derived.Test.YtolkpjbbfopmnaaDoorTlMem
import Derived.Test.YtolkpjbbfopmnaaDoorTlPure
import Derived.Lib.SliceRun
namespace Go.Proofs.YtolkpjbbfopmnaaDoor.Tl
open Go.RowKit

/-- A new slice that reads as bytes. -/
def BytesPost (w : World) (bs : List UInt8) (e : Ending) (w' : World) : Prop :=
  ∃ A n c, e = .returned (.slice A n c) ∧ Rd w' w'.heap.size A n bs ∧ n ≤ c ∧ Below w.heap.size w w'

theorem rd_zero {w : World} {B : Nat} {A : Option Addr} {n : Nat} {bs : List UInt8} (h : Rd w B A n bs) (hA : A = none) : n = 0 ∧ bs = [] := by
  subst hA
  have hl := h.len
  rcases Nat.eq_zero_or_pos n with h0 | h0
  · exact ⟨h0, List.eq_nil_of_length_eq_zero (by omega)⟩
  · obtain ⟨_, _, e, _⟩ := h.2 h0
    cases e

/-- A clone: bytes in a block that was not there. -/
def ClonePost (w : World) (bs : List UInt8) (e : Ending) (w' : World) : Prop :=
  ∃ A n c, e = .returned (.slice A n c) ∧ Rd w' w'.heap.size A n bs ∧ n ≤ c ∧ Fresh w.heap.size w' A ∧ Below w.heap.size w w'

theorem clone_new (A : Option Addr) (n c : Nat) (bs : List UInt8) (w : World) (hr : Rd w w.heap.size A n bs) (hn : n ≤ 70368744177664) :
    Calls Tryd.prog 44 #[.slice A n c] w (ClonePost w bs) := by
  have HR := Lib.hid hr
  clear hr
  have heq := fun w : World => Lib.run_eql_slice_nil (P := Tryd.prog) w 31 5 A n c 0 0 Tryd.underlying31
  cases A with
  | none =>
    go_enter Tryd.func44, Tryd.ntmps44
    go_wp2_with fail
    go_ret
    obtain ⟨rfl, rfl⟩ := rd_zero HR.out rfl
    exact ⟨none, 0, 0, rfl, Rd.nil, Nat.le_refl _, (fun _ _ h => by cases h), Below.refl _ _⟩
  | some ad =>
    go_enter Tryd.func44, Tryd.ntmps44
    go_upto_region 3 with (fail)
    refine wp_region_lit ?_
    iterate 6 go_step
    have hb0 : Below w.heap.size w (w.alloc (.cells #[] 5)) := (Below.refl _ _).alloc (Nat.le_refl _) _
    refine wpList_append_b rfl (.tmp 5) (.tmp 6) rfl w.heap.size _ 0 [] rfl (World.ownsRow_lit w #[] 0 (Nat.le_refl _) (by unfold maxLen; omega) rfl) _ (some ad) n c bs rfl (HR.out.below hb0 (Nat.le_refl _)) (by omega) (by simp) ?_
    intro v1 w1 hown hb1
    have hb : Below w.heap.size w w1 := hb0.trans hb1
    rw [Nat.zero_add, List.nil_append] at hown
    obtain ⟨A', c', rfl, hnc, _⟩ := own_form hown
    have hr := Rd.of_own hown
    have hnew : Fresh w.heap.size w1 A' := Fresh.own hown
    have HH := Lib.hid (And.intro hb (And.intro hr hnew))
    clear hb hr hown hb0 hb1 heq hnew
    go_simp
    go_wp2_with fail
    go_ret
    obtain ⟨hb, hr, hnew⟩ := HH.out
    exact ⟨A', n, c', rfl, hr, hnc, hnew, hb⟩

theorem clone_any (A : Option Addr) (n c : Nat) (bs : List UInt8) (w : World) (hr : Rd w w.heap.size A n bs) (hn : n ≤ 70368744177664) :
    Calls Tryd.prog 44 #[.slice A n c] w (BytesPost w bs) :=
  (clone_new A n c bs w hr hn).mono fun _ _ ⟨A', n', c', h1, h2, h3, _, h5⟩ => ⟨A', n', c', h1, h2, h3, h5⟩

/-- A row of the call's own, that reads as bytes. -/
def OwnPost (base : Nat) (w : World) (bs : List UInt8) (e : Ending) (w' : World) : Prop :=
  ∃ v' n, e = .returned v' ∧ w'.ownsRow base 5 1 v' n (bs.map V8) ∧ Below base w w'

theorem hi_lo (vs : List UInt8) (m : Nat) (hl : vs.length = m) (hm : m ≤ 65535) : #[Value.int .u8 ((m : Int) / 256), Value.int .u8 ((m : Int) % 256)] = ([Tlv.hi vs.length, Tlv.lo vs.length].map V8).toArray := by
  subst hl
  simp only [List.map_cons, List.map_nil, V8, Tlv.hi, Tlv.lo, UInt8.toNat_ofNat']
  have h1 : ((vs.length / 256 % 2 ^ 8 : Nat) : Int) = (vs.length : Int) / 256 := by omega
  have h2 : ((vs.length % 2 ^ 8 : Nat) : Int) = (vs.length : Int) % 256 := by omega
  rw [h1, h2]

set_option maxRecDepth 100000 in
theorem appendPiece_any (base : Nat) (v : Value) (n : Nat) (bs : List UInt8) (w : World) (hown : w.ownsRow base 5 1 v n (bs.map V8)) (A : Option Addr) (m c : Nat) (vs : List UInt8) (hr : Rd w base A m vs)
    (hn : n ≤ 70368744177664) (hm : m ≤ 65535) (hbase : base ≤ w.heap.size) :
    Calls Tryd.prog 86 #[v, .slice A m c] w (OwnPost base w (bs ++ Tlv.pieceb vs)) := by
  obtain ⟨A0, c0, rfl, hnc, hcm⟩ := own_form hown
  have HO := Lib.hid hown
  have HR := Lib.hid hr
  clear hown hr
  go_enter Tryd.func86, Tryd.ntmps86
  go_upto_region 1 with (fail)
  refine wp_region_lit ?_
  iterate 27 go_step
  have hb0 : Below base w (w.alloc (.cells #[.int .u8 ((m : Int) / 256), .int .u8 ((m : Int) % 256)] 5)) := (Below.refl _ _).alloc hbase _
  refine wpList_append_b rfl (.tmp 5) (.tmp 13) rfl base _ n bs rfl (HO.out.alloc _) _ _ 2 2 [Tlv.hi vs.length, Tlv.lo vs.length] rfl (rd_new w 5 _ 2 rfl _ (hi_lo vs m HR.out.len hm)) (by omega) (by simp; omega) ?_
  intro v1 w1 hown hb1
  have hb : Below base w w1 := hb0.trans hb1
  obtain ⟨A1, c1, rfl, hnc1, _⟩ := own_form hown
  have hbw : base ≤ w1.heap.size := by have := hb.size; omega
  have HB := Lib.hid hb
  have HO1 := Lib.hid hown
  clear hb hown hb0 hb1 HO hnc hcm
  go_simp
  go_upto_region 2 with (fail)
  refine wp_region_lit ?_
  iterate 6 go_step
  refine wpList_append_b rfl (.tmp 15) (.tmp 16) rfl base _ (n + 2) _ rfl HO1.out _ A m c vs rfl (HR.out.below HB.out (Nat.le_refl _)) (by omega) hbw ?_
  intro v2 w2 hown hb2
  obtain ⟨A2, c2, rfl, _, _⟩ := own_form hown
  have hown' : w2.ownsRow base 5 1 (.slice A2 (n + 2 + m) c2) (n + 2 + m) ((bs ++ Tlv.pieceb vs).map V8) := by
    rw [show bs ++ Tlv.pieceb vs = bs ++ [Tlv.hi vs.length, Tlv.lo vs.length] ++ vs by simp [Tlv.pieceb]]
    exact hown
  have HH := Lib.hid (And.intro hown' (HB.out.trans hb2))
  clear hown hown' hb2 HB HO1 HR
  go_simp
  go_wp2_with fail
  go_ret
  obtain ⟨h1, h2⟩ := HH.out
  exact ⟨_, _, rfl, h1, h2⟩

/-- A field's answer: bytes, no error. -/
def PutPost (w : World) (bs : List UInt8) (e : Ending) (w' : World) : Prop :=
  ∃ A n c, e = .returned (.tuple #[.slice A n c, .int .i64 0]) ∧ Rd w' w'.heap.size A n bs ∧ n ≤ c ∧ Fresh w.heap.size w' A ∧ Below w.heap.size w w'

theorem put_long (A : Option Addr) (n c : Nat) (tag : UInt8) (A2 : Option Addr) (m c2 : Nat) (w : World) (hm : 65535 < m) :
    Calls Tryd.prog 67 #[.slice A n c, .int .u8 tag.toNat, .slice A2 m c2] w fun e w' => e = .returned (.tuple #[.slice none 0 0, .int .i64 3]) ∧ w = w' := by
  go_enter Tryd.func67, Tryd.ntmps67
  go_wp2_with fail
  go_ret2
  exact ⟨rfl, rfl⟩

set_option maxRecDepth 100000 in
theorem put_none (A : Option Addr) (n c : Nat) (bs : List UInt8) (tag : UInt8) (A2 : Option Addr) (c2 : Nat) (w : World) (hr : Rd w w.heap.size A n bs) (hn : n ≤ 70368744177664) :
    Calls Tryd.prog 67 #[.slice A n c, .int .u8 tag.toNat, .slice A2 0 c2] w (PutPost w bs) := by
  have HR := Lib.hid hr
  clear hr
  go_enter Tryd.func67, Tryd.ntmps67
  go_wp2_with fail
  refine (clone_new A n c bs w HR.out hn).mono ?_
  rintro e w1 ⟨A1, n1, c1, rfl, hr, hc, hnew, hb⟩
  have HH := Lib.hid (And.intro hr (And.intro hc (And.intro hnew hb)))
  clear hr hc hb hnew
  go_wp2_with fail
  go_ret2
  obtain ⟨h1, h2, h3⟩ := HH.out
  exact ⟨A1, n1, c1, rfl, h1, h2, h3⟩

set_option maxRecDepth 100000 in
theorem put_some (A : Option Addr) (n c : Nat) (bs : List UInt8) (tag : UInt8) (A2 : Option Addr) (m c2 : Nat) (vs : List UInt8) (w : World) (hr : Rd w w.heap.size A n bs) (hr2 : Rd w w.heap.size A2 m vs) (hn : n ≤ 70368744111616) (h0 : 0 < m) (hm : m ≤ 65535) :
    Calls Tryd.prog 67 #[.slice A n c, .int .u8 tag.toNat, .slice A2 m c2] w (PutPost w (bs ++ tag :: Tlv.pieceb vs)) := by
  have HR := Lib.hid hr
  have HR2 := Lib.hid hr2
  clear hr hr2
  have hmk := run_mk 0 (n + 1 + 2 + m) (Nat.zero_le _) (by omega) 0 ((n : Int) + 1 + 2 + m) rfl (by omega)
  go_enter Tryd.func67, Tryd.ntmps67
  go_upto_region 6 with (fail)
  refine wp_region_lit ?_
  iterate 6 go_step
  clear hmk
  have hb0 : Below w.heap.size w (w.alloc (.cells (zb (n + 1 + 2 + m)) 5)) := (Below.refl _ _).alloc (Nat.le_refl _) _
  refine wpList_append_b rfl (.tmp 25) (.tmp 26) rfl w.heap.size _ 0 [] rfl (World.ownsRow_made w _ _ (Nat.le_refl _) (by unfold maxLen; omega) (by rw [zb_size, Nat.mul_one])) _ A n c bs rfl (HR.out.below hb0 (Nat.le_refl _)) (by omega) (by simp) ?_
  intro v1 w1 hown hb1
  have hb : Below w.heap.size w w1 := hb0.trans hb1
  rw [List.nil_append, Nat.zero_add] at hown
  obtain ⟨A1, c1, rfl, _, _⟩ := own_form hown
  have HB := Lib.hid hb
  have HO := Lib.hid hown
  have hbw : w.heap.size ≤ w1.heap.size := hb.size
  clear hb hown hb0 hb1
  go_simp
  go_upto_region 7 with (fail)
  refine wp_region_lit ?_
  iterate 9 go_step
  have hb0 : Below w.heap.size w (w1.alloc (.cells #[.int .u8 tag.toNat] 5)) := HB.out.alloc hbw _
  refine wpList_append_b rfl (.tmp 28) (.tmp 30) rfl w.heap.size _ n bs rfl (HO.out.alloc _) _ _ 1 1 [tag] rfl (rd_new w1 5 _ 1 rfl _ rfl) (by omega) (by simp; omega) ?_
  intro v2 w2 hown hb1
  have hb : Below w.heap.size w w2 := hb0.trans hb1
  obtain ⟨A2', c2', rfl, _, _⟩ := own_form hown
  have HO2 := Lib.hid hown
  have hbw2 : w.heap.size ≤ w2.heap.size := hb.size
  clear hown hb0 hb1 HO HB hbw
  have HB := Lib.hid hb
  clear hb
  go_simp
  go_wp2_with fail
  refine (appendPiece_any w.heap.size _ (n + 1) _ w2 HO2.out A2 m c2 vs (HR2.out.below HB.out (Nat.le_refl _)) (by omega) hm hbw2).mono ?_
  rintro e w3 ⟨v3, n3, rfl, hown, hb3⟩
  obtain ⟨A3, c3, rfl, hc3, _⟩ := own_form hown
  have hE : bs ++ [tag] ++ Tlv.pieceb vs = bs ++ tag :: Tlv.pieceb vs := by simp
  rw [hE] at hown
  have hnew : Fresh w.heap.size w3 A3 := Fresh.own hown
  have HH := Lib.hid (And.intro (Rd.of_own hown) (And.intro hc3 (And.intro hnew (HB.out.trans hb3))))
  clear hown hb3 HB hE hc3 hnew
  go_wp2_with fail
  go_ret2
  obtain ⟨h1, h2, h3⟩ := HH.out
  exact ⟨A3, n3, c3, rfl, h1, h2, h3⟩

theorem put_any (A : Option Addr) (n c : Nat) (bs : List UInt8) (tag : UInt8) (A2 : Option Addr) (m c2 : Nat) (vs : List UInt8) (w : World) (hr : Rd w w.heap.size A n bs) (hr2 : Rd w w.heap.size A2 m vs) (hn : n ≤ 70368744111616) (hm : m ≤ 65535) :
    Calls Tryd.prog 67 #[.slice A n c, .int .u8 tag.toNat, .slice A2 m c2] w (PutPost w (Tlv.put bs tag vs)) := by
  rcases Nat.eq_zero_or_pos m with h0 | h0
  · subst h0
    have : vs = [] := List.eq_nil_of_length_eq_zero hr2.len
    subst this
    exact put_none A n c bs tag A2 c2 w hr (by omega)
  · rw [Tlv.put_some _ _ _ (fun e => by have := hr2.len; rw [e] at this; simp at this; omega)]
    exact put_some A n c bs tag A2 m c2 vs w hr hr2 hn h0 hm

theorem put_int (A : Option Addr) (n c : Nat) (bs : List UInt8) (z : Int) (tag : UInt8) (hz : z = tag.toNat) (A2 : Option Addr) (m c2 : Nat) (vs : List UInt8) (w : World) (hr : Rd w w.heap.size A n bs) (hr2 : Rd w w.heap.size A2 m vs) (hn : n ≤ 70368744111616) (hm : m ≤ 65535) :
    Calls Tryd.prog 67 #[.slice A n c, .int .u8 z, .slice A2 m c2] w (PutPost w (Tlv.put bs tag vs)) := by
  subst hz
  exact put_any A n c bs tag A2 m c2 vs w hr hr2 hn hm

theorem hi_lo3 (tag : UInt8) (vs : List UInt8) (m : Nat) (hl : vs.length = m) (hm : m ≤ 65535) : #[Value.int .u8 tag.toNat, Value.int .u8 ((m : Int) / 256), Value.int .u8 ((m : Int) % 256)] = ([tag, Tlv.hi vs.length, Tlv.lo vs.length].map V8).toArray := by
  have := hi_lo vs m hl hm
  simp only [List.map_cons, List.map_nil] at this ⊢
  injection this with this
  rw [← this]
  rfl

/-- The document's Put. -/
def RefPutPost (w : World) (bs : List UInt8) (e : Ending) (w' : World) : Prop :=
  ∃ A n c, e = .returned (.slice A n c) ∧ Rd w' w'.heap.size A n bs ∧ Below w.heap.size w w'

end Go.Proofs.YtolkpjbbfopmnaaDoor.Tl
