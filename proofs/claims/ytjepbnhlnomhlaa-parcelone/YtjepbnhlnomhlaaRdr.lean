/-
  What the methods take, refuse, number, text and end of parcel's reader do; conditions: the reader lies whole in a block of its own, its fields in blocks ahead of it. They turn that block alone.
-/
import Derived.Test.YtjepbnhlnomhlaaParse
import Derived.Test.YtjepbnhlnomhlaaRead
import Derived.Test.YtjepbnhlnomhlaaRes
namespace Go.Proofs.Ytjepbnhlnomhlaa
open Go.RowKit

/-- Of the blocks that lay in w all but block g lie in w' as they lay. -/
structure On (g : Nat) (w w' : World) : Prop where
  os : w'.os = w.os
  tape : w'.tape = w.tape
  output : w'.output = w.output
  size : w.heap.size ≤ w'.heap.size
  block : ∀ k, k < w.heap.size → k ≠ g → w'.heap[k]? = w.heap[k]?

section
variable {g : Nat} {a b c w w' : World}
theorem On.refl (g : Nat) (w : World) : On g w w := ⟨rfl, rfl, rfl, Nat.le_refl _, fun _ _ _ => rfl⟩
theorem On.trans (h : On g a b) (k : On g b c) : On g a c :=
  ⟨k.os.trans h.os, k.tape.trans h.tape, k.output.trans h.output, Nat.le_trans h.size k.size,
    fun i hi hn => (k.block i (Nat.lt_of_lt_of_le hi h.size) hn).trans (h.block i hi hn)⟩
theorem On.setCell (h : On g a w) (o : Nat) (u : Value) : On g a (w.setCell ⟨g, o, none⟩ u) :=
  ⟨h.os, h.tape, h.output, by simpa [World.setCell] using h.size, fun k hk hn => (Below.heap_setCell w ⟨g, o, none⟩ u k hn).trans (h.block k hk hn)⟩
theorem On.alloc (h : On g a w) (o : Obj) : On g a (w.alloc o) :=
  ⟨h.os, h.tape, h.output, Nat.le_trans h.size (by simp), fun k hk hn => (Below.heap_alloc w o k (Nat.lt_of_lt_of_le hk h.size)).trans (h.block k hk hn)⟩
theorem On.of_below (h : Below w.heap.size w w') : On g w w' := ⟨h.os, h.tape, h.output, h.size, fun k hk _ => h.block k hk⟩
theorem On.below {B : Nat} (h : On g w w') (hB : B ≤ w.heap.size) (hg : B ≤ g) : Below B w w' :=
  ⟨h.os, h.tape, h.output, h.size, fun k hk => h.block k (Nat.lt_of_lt_of_le hk hB) (by omega)⟩
theorem On.whole {x : Nat} {t : TypeId} {cs : Array Value} (h : On g w w') (hw : Whole w x t cs) (hx : x ≠ g) : Whole w' x t cs := (h.block x hw.lt hx).trans hw
/-- A call that turns nothing but block g and blocks of its own, which lie behind. -/
theorem On.drop {x : Nat} (h : On g w b) (k : Below x b c) (hx : w.heap.size ≤ x) : On g w c :=
  ⟨k.os.trans h.os, k.tape.trans h.tape, k.output.trans h.output, Nat.le_trans h.size k.size, fun i hi hn => (k.block i (by omega)).trans (h.block i hi hn)⟩
end

/-- A reader: what is left, and the first fault. -/
def RdrAt (w : World) (g : Nat) (s : Tlv.St) : Prop :=
  ∃ A n c, Whole w g 73 #[.slice A n c, .int .i64 s.2] ∧ FRd w g A n s.1 ∧ n ≤ c ∧ n ≤ 9223372036854775807

theorem RdrAt.lt {w : World} {g : Nat} {s : Tlv.St} (h : RdrAt w g s) : g < w.heap.size := by
  obtain ⟨A, n, c, h1, _⟩ := h
  exact h1.lt
theorem RdrAt.keep {w w' : World} {g : Nat} {s : Tlv.St} (h : RdrAt w g s) (hb : Below (g + 1) w w') : RdrAt w' g s := by
  obtain ⟨A, n, c, h1, h2, h3, h4⟩ := h
  exact ⟨A, n, c, h1.below hb (by omega), h2.below hb (by omega), h3, h4⟩
theorem FRd.drop1 {w : World} {B : Nat} {b o n : Nat} {f : UInt8 × List UInt8} {r : List (UInt8 × List UInt8)} (h : FRd w B (some ⟨b, o, none⟩) n (f :: r)) : FRd w B (some ⟨b, o + 2, none⟩) (n - 1) r := by
  obtain ⟨xs, h1, h2, h3⟩ := h
  have hn : r.length + 1 = n := by simpa using h2
  obtain ⟨b', o', e, hb, hc⟩ := h1.2 (by omega)
  injection e with e
  injection e with e1 e2
  subst e1 e2
  have hlen := h1.1
  refine ⟨xs.drop 2, ⟨by rw [List.length_drop, hlen]; omega, fun _ => ⟨b, o + 2, rfl, hb, fun j u hu => ?_⟩⟩, by omega, fun j f' hf => ?_⟩
  · rw [List.getElem?_drop] at hu
    rw [Nat.add_assoc]
    exact hc _ u hu
  · obtain ⟨A', n', c', k1, k2, k3, k4, k5⟩ := h3 (j + 1) f' (by simpa using hf)
    refine ⟨A', n', c', ?_, ?_, k3, k4, k5⟩
    · rw [List.getElem?_drop, show 2 + 2 * j = 2 * (j + 1) by omega]; exact k1
    · rw [List.getElem?_drop, show 2 + (2 * j + 1) = 2 * (j + 1) + 1 by omega]; exact k2

def TakePost (w : World) (g : Nat) (t : UInt8) (s : Tlv.St) (e : Ending) (w' : World) : Prop :=
  ∃ A n c, e = .returned (.slice A n c) ∧ Rd w' g A n (Tlv.take t s.1).1 ∧ n ≤ c ∧ n ≤ 9223372036854775807 ∧ RdrAt w' g ((Tlv.take t s.1).2, s.2) ∧ On g w w' ∧ w'.heap.size = w.heap.size

set_option maxRecDepth 100000 in
theorem take_any (g : Nat) (s : Tlv.St) (z : Int) (t : UInt8) (hz : z = t.toNat) (w : World) (h : RdrAt w g s) :
    Calls Try.prog 32 #[.pointer (some ⟨g, 0, none⟩), .int .u8 z] w (TakePost w g t s) := by
  subst hz
  obtain ⟨A, n, c, hw, hf, hnc, hn⟩ := h
  have c0 : w.cell? ⟨g, 0, none⟩ = some (.slice A n c) := hw.at_ rfl
  have fr0 := hw.free 0
  obtain ⟨fs, code⟩ := s
  have HW := Lib.hid hw
  have HF := Lib.hid hf
  clear hw hf
  cases fs with
  | nil =>
    obtain rfl : n = 0 := HF.out.len.symm
    go_enter Try.func32, Try.ntmps32
    go_wp2_with fail
    go_ret
    exact ⟨none, 0, 0, rfl, Rd.nil, Nat.le_refl _, by omega, ⟨A, 0, c, HW.out, HF.out, hnc, hn⟩, On.refl _ _, rfl⟩
  | cons f r =>
    have hl : r.length + 1 = n := by have := HF.out.len; simpa using this
    obtain ⟨b, o, A', n', c', rfl, hb, k1, k2, k3, k4, k5⟩ := HF.out.at_ (j := 0) (f := f) rfl
    rw [Nat.mul_zero, Nat.add_zero] at k1
    rw [Nat.mul_zero, Nat.zero_add] at k2
    have q0 : ((n : Int) == 0) = false := by simp; omega
    have i0 : (0 : Int) < (n : Int) := by omega
    have HK := Lib.hid (And.intro k5 (And.intro k3 k4))
    clear k5
    by_cases hft : f.1 = t
    · have q1 : ((f.1.toNat : Int) == (t.toNat : Int)) = true := by rw [hft]; simp
      have q2 : ((f.1.toNat : Int) != (t.toNat : Int)) = false := by rw [hft]; simp
      obtain ⟨A2, hif⟩ : ∃ A2 : Option Addr, (if c = 1 then some (⟨b, o, none⟩ : Addr) else some ⟨b, o + 2, none⟩) = A2 := ⟨_, rfl⟩
      have HIF := Lib.hid hif
      have i1 : (1 : Int) ≤ (n : Int) := by omega
      have HFT := Lib.hid hft
      have HL := Lib.hid hl
      clear hft hl
      go_enter Try.func32, Try.ntmps32
      go_wp2_with fail
      go_ret
      have hb' : Below g w (w.setCell ⟨g, 0, none⟩ (.slice A2 (n - 1) (c - 1))) := (Below.refl g w).setCell (Nat.le_refl g) _
      have hfd : FRd (w.setCell ⟨g, 0, none⟩ (.slice A2 (n - 1) (c - 1))) g A2 (n - 1) r := by
        by_cases h1 : n = 1
        · subst h1
          obtain rfl : r = [] := List.eq_nil_of_length_eq_zero (by have := HL.out; omega)
          exact FRd.nil
        · have h2 := HIF.out
          rw [if_neg (by omega)] at h2
          subst h2
          exact HF.out.drop1.below hb' (Nat.le_refl _)
      refine ⟨A', n', c', rfl, ?_, k3, k4, ?_, (On.refl _ _).setCell _ _, by simp⟩
      · rw [Tlv.take_here HFT.out]
        exact HK.out.1.below hb' (Nat.le_refl _)
      · rw [Tlv.take_here HFT.out]
        exact ⟨A2, n - 1, c - 1, HW.out.set 0 _, hfd, by omega, by omega⟩
    · have hne : f.1.toNat ≠ t.toNat := fun e => hft (UInt8.toNat_inj.1 e)
      have q2 : ((f.1.toNat : Int) != (t.toNat : Int)) = true := by simp; omega
      have HFT := Lib.hid hft
      have HL := Lib.hid hl
      clear hft hl hne
      go_enter Try.func32, Try.ntmps32
      go_wp2_with fail
      go_ret
      refine ⟨none, 0, 0, rfl, ?_, Nat.le_refl _, by omega, ?_, On.refl _ _, rfl⟩
      · rw [Tlv.take_not HFT.out]
        exact Rd.nil
      · rw [Tlv.take_not HFT.out]
        exact ⟨_, n, c, HW.out, HF.out, hnc, hn⟩

/-- A method that answers nothing. -/
def RefusePost (w : World) (g : Nat) (s : Tlv.St) (e : Ending) (w' : World) : Prop := e = .returned (.tuple #[]) ∧ RdrAt w' g s ∧ On g w w' ∧ w'.heap.size = w.heap.size

set_option maxRecDepth 100000 in
theorem refuse_any (g : Nat) (s : Tlv.St) (bad : Bool) (z : Int) (k : Nat) (hz : z = k) (w : World) (h : RdrAt w g s) :
    Calls Try.prog 21 #[.pointer (some ⟨g, 0, none⟩), .bool bad, .int .i64 z] w (RefusePost w g (Tlv.refuse bad k s)) := by
  subst hz
  obtain ⟨A, n, c, hw, hf, hnc, hn⟩ := h
  obtain ⟨fs, code⟩ := s
  have c1 : w.cell? ⟨g, 1, none⟩ = some (.int .i64 code) := hw.at_ rfl
  have fr1 := hw.free 1
  have HW := Lib.hid hw
  have HF := Lib.hid hf
  clear hw hf
  cases bad with
  | false =>
    rw [Tlv.refuse, if_neg (fun e => by cases e.1)]
    go_enter Try.func21, Try.ntmps21
    go_wp2_with fail
    go_end0
    exact ⟨rfl, ⟨A, n, c, HW.out, HF.out, hnc, hn⟩, On.refl _ _, rfl⟩
  | true =>
    by_cases h0 : code = 0
    · subst h0
      rw [Tlv.refuse, if_pos ⟨rfl, rfl⟩]
      have c1 : w.cell? ⟨g, 1, none⟩ = some (.int .i64 0) := c1
      go_enter Try.func21, Try.ntmps21
      go_wp2_with fail
      go_end0
      have hb' : Below g w (w.setCell ⟨g, 1, none⟩ (.int .i64 k)) := (Below.refl g w).setCell (Nat.le_refl g) _
      exact ⟨rfl, ⟨A, n, c, HW.out.set 1 _, HF.out.below hb' (Nat.le_refl _), hnc, hn⟩, (On.refl _ _).setCell _ _, by simp⟩
    · rw [Tlv.refuse, if_neg (fun e => h0 e.2)]
      have q : ((code : Int) == 0) = false := by simp; omega
      go_enter Try.func21, Try.ntmps21
      go_wp2_with fail
      go_end0
      exact ⟨rfl, ⟨A, n, c, HW.out, HF.out, hnc, hn⟩, On.refl _ _, rfl⟩

def NumPost (w : World) (g : Nat) (r : Nat × Tlv.St) (e : Ending) (w' : World) : Prop := e = .returned (.int .u64 r.1) ∧ RdrAt w' g r.2 ∧ On g w w' ∧ w'.heap.size = w.heap.size

set_option maxRecDepth 100000 in
theorem number_any (g : Nat) (s : Tlv.St) (z : Int) (t : UInt8) (hz : z = t.toNat) (w : World) (h : RdrAt w g s) :
    Calls Try.prog 20 #[.pointer (some ⟨g, 0, none⟩), .int .u8 z] w (NumPost w g (Tlv.rnum t s)) := by
  have HT := Lib.hid (take_any g s z t hz w h)
  clear hz h
  obtain ⟨R, hR⟩ : ∃ R, Tlv.rnum t s = R := ⟨_, rfl⟩
  rw [hR]
  have HRR := Lib.hid hR
  clear hR
  go_enter Try.func20, Try.ntmps20
  go_wp2_with fail
  refine HT.out.mono ?_
  rintro e w1 ⟨A, n, c, rfl, hr, hnc, hn, hrd, hon, hs⟩
  obtain ⟨⟨v, fs'⟩, hv⟩ : ∃ x, Tlv.take t s.1 = x := ⟨_, rfl⟩
  rw [hv] at hr hrd
  have HV := Lib.hid hv
  have HH := Lib.hid (And.intro hrd (And.intro hon hs))
  have HR := Lib.hid hr
  clear hv hrd hon hr HT hs
  by_cases hok : okv v
  · have HP := Lib.hid (value_good A n c v w1 g HR.out hok)
    have HF := Lib.hid (refuse_any g (fs', s.2) false 0 0 rfl w1 HH.out.1)
    have HE : Hid (R = (Tlv.val v, (fs', s.2))) := Lib.hid (by
      rw [← HRR.out]
      unfold Tlv.rnum
      rw [HV.out]
      simp only
      rw [decide_eq_false (fun e => e hok), Tlv.numv, if_pos hok, Tlv.refuse, if_neg (fun e => by cases e.1)])
    clear hok
    go_wp2_with fail
    refine HP.out.mono ?_
    rintro e w2 ⟨rfl, rfl⟩
    go_wp2_with fail
    refine HF.out.mono ?_
    rintro e w3 ⟨rfl, h1, h2, h3⟩
    have HK := Lib.hid (And.intro h1 (And.intro h2 h3))
    clear h1 h2 h3
    go_wp2_with fail
    go_ret
    obtain ⟨h1, h2, h3⟩ := HK.out
    rw [HE.out]
    rw [Tlv.refuse, if_neg (fun e => by cases e.1)] at h1
    exact ⟨rfl, h1, HH.out.2.1.trans h2, h3.trans HH.out.2.2⟩
  · have HP := Lib.hid (value_bad A n c v w1 g HR.out hok)
    have HF := Lib.hid (refuse_any g (fs', s.2) true 7 7 rfl w1 HH.out.1)
    have HE : Hid (R = (0, Tlv.refuse true 7 (fs', s.2))) := Lib.hid (by
      rw [← HRR.out]
      unfold Tlv.rnum
      rw [HV.out]
      simp only
      rw [decide_eq_true hok, Tlv.numv, if_neg hok])
    clear hok
    go_wp2_with fail
    refine HP.out.mono ?_
    rintro e w2 ⟨rfl, rfl⟩
    go_wp2_with fail
    refine HF.out.mono ?_
    rintro e w3 ⟨rfl, h1, h2, h3⟩
    have HK := Lib.hid (And.intro h1 (And.intro h2 h3))
    clear h1 h2 h3
    go_wp2_with fail
    go_ret
    obtain ⟨h1, h2, h3⟩ := HK.out
    rw [HE.out]
    exact ⟨rfl, h1, HH.out.2.1.trans h2, h3.trans HH.out.2.2⟩

def TextPost (w : World) (g : Nat) (r : List UInt8 × Tlv.St) (e : Ending) (w' : World) : Prop := e = .returned (.string ⟨r.1.toArray⟩) ∧ RdrAt w' g r.2 ∧ On g w w' ∧ w'.heap.size = w.heap.size

set_option maxRecDepth 100000 in
theorem text_any (g : Nat) (s : Tlv.St) (z : Int) (t : UInt8) (hz : z = t.toNat) (w : World) (h : RdrAt w g s) :
    Calls Try.prog 22 #[.pointer (some ⟨g, 0, none⟩), .int .u8 z] w (TextPost w g (Tlv.rtext t s)) := by
  have HT := Lib.hid (take_any g s z t hz w h)
  clear hz h
  obtain ⟨R, hR⟩ : ∃ R, Tlv.rtext t s = R := ⟨_, rfl⟩
  rw [hR]
  have HRR := Lib.hid hR
  clear hR
  go_enter Try.func22, Try.ntmps22
  go_wp2_with fail
  refine HT.out.mono ?_
  rintro e w1 ⟨A, n, c, rfl, hr, hnc, hn, hrd, hon, hs⟩
  have HH := Lib.hid (And.intro hrd (And.intro hon hs))
  have cv := run_string w1 g A n c _ hr
  obtain ⟨v, hv⟩ : ∃ v, (Tlv.take t s.1).1 = v := ⟨_, rfl⟩
  rw [hv] at cv
  have HV := Lib.hid hv
  clear hrd hon hr HT hs hv
  go_wp2_with fail
  go_ret
  rw [← HRR.out]
  unfold Tlv.rtext
  exact ⟨by rw [HV.out]; rfl, HH.out.1, HH.out.2.1, HH.out.2.2⟩

set_option maxRecDepth 100000 in
theorem end_any (g : Nat) (s : Tlv.St) (w : World) (h : RdrAt w g s) :
    Calls Try.prog 23 #[.pointer (some ⟨g, 0, none⟩)] w fun e w' => e = .returned (.int .i64 (Tlv.rend s)) ∧ On g w w' ∧ w'.heap.size = w.heap.size := by
  obtain ⟨A, n, c, hw, hf, hnc, hn⟩ := id h
  have c0 : w.cell? ⟨g, 0, none⟩ = some (.slice A n c) := hw.at_ rfl
  have hl := hf.len
  have hbad : decide (0 < n) = decide (s.1 ≠ []) := by
    congr 1
    apply propext
    constructor
    · intro h0 e
      rw [e] at hl
      simp at hl
      omega
    · intro h0
      have : s.1.length ≠ 0 := fun e => h0 (List.eq_nil_of_length_eq_zero e)
      omega
  obtain ⟨bad, hb⟩ : ∃ b, decide (s.1 ≠ []) = b := ⟨_, rfl⟩
  rw [hb] at hbad
  have HF := Lib.hid (refuse_any g s bad 8 8 rfl w h)
  obtain ⟨k, hk⟩ : ∃ k, Tlv.rend s = k := ⟨_, rfl⟩
  rw [hk]
  have HE : Hid ((Tlv.refuse bad 8 s).2 = k) := Lib.hid (by rw [← hk, Tlv.rend, hb])
  have HBAD := Lib.hid hbad
  clear hb hw hf hl h hk hbad
  have hq := HBAD.out
  go_enter Try.func23, Try.ntmps23
  go_wp2_with fail
  clear hq
  refine HF.out.mono ?_
  rintro e w1 ⟨rfl, hrd, hon, hs⟩
  obtain ⟨A1, n1, c1, hw1, _⟩ := id hrd
  have cc : w1.cell? ⟨g, 1, none⟩ = some (.int .i64 (Tlv.refuse bad 8 s).2) := hw1.at_ rfl
  rw [HE.out] at cc
  have HO := Lib.hid (And.intro hon hs)
  clear hw1 hrd hon hs
  go_wp2_with fail
  go_ret
  exact ⟨rfl, HO.out.1, HO.out.2⟩
end Go.Proofs.Ytjepbnhlnomhlaa
