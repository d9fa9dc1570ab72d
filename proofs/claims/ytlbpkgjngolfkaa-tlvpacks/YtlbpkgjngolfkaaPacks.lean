/-
  What the statement's function TlvPacks returns: true, whatever lists, bytes and number come in; conditions: they are read. It only makes memory of its own.
-/
import Derived.Test.YtlbpkgjngolfkaaAwake
import Derived.Test.YtlbpkgjngolfkaaUnpack
import Derived.Test.YtlbpkgjngolfkaaRefPack
import Derived.Test.YtlbpkgjngolfkaaSame
namespace Go.Proofs.Ytlbpkgjngolfkaa
open Go.RowKit

/-- A stronger condition on the worlds serves, too. -/
theorem heldMore {P : Program} {md : Region.Mode} {ops : Array Oper} {Q : Exit → Act → World → Prop} {S S' : World → Prop} (h : ∀ w, S' w → S w) :
    ∀ (fuel : Nat) (listed : Array Bool) (a : Act) (w : World), wpAnyH P md ops Q S' fuel listed a w → wpAnyH P md ops Q S fuel listed a w
  | 0, _, _, _, k => k
  | fuel + 1, _, _, _, k => ⟨k.1, fun i hi => wpOp_mono (fun a' w' k' => ⟨h _ k'.1, heldMore h fuel _ a' w' k'.2⟩) (k.2 i hi)⟩
theorem pack_small (ls : List (List UInt8)) (h : ∀ l ∈ ls, l.length ≤ 300) (k : Nat) : (Tlv.pack (ls.take k)).length ≤ 302 * k := by
  induction k with
  | zero => simp [Tlv.pack_nil]
  | succ k ih =>
    cases hl : ls[k]? with
    | none => rw [List.take_add_one, hl]; simp; omega
    | some l =>
      rw [pack_take ls k l hl, List.length_append, Tlv.pieceb_length]
      have := h l (List.mem_of_getElem? hl)
      omega
theorem Rd.front {w : World} {B n : Nat} {A : Option Addr} {bs : List UInt8} (h : Rd w B A n bs) (q : Nat) (hq : q ≤ n) : Rd w B A q (bs.take q) := by
  rcases Nat.eq_zero_or_pos q with h0 | h0
  · subst h0; rw [List.take_zero]; exact Rd.nil
  · obtain ⟨b, o, rfl, _⟩ := h.at_ (by omega)
    have := h.part 0 q (by omega)
    rwa [Nat.add_zero, List.drop_zero] at this
theorem min_sub (n : Nat) (z : Int) (h0 : 0 ≤ z) : ∃ m q : Nat, min (n : Int) z = m ∧ (n : Int) - (m : Int) = q ∧ q ≤ n := by
  refine ⟨(min (n : Int) z).toNat, n - (min (n : Int) z).toNat, ?_, ?_, ?_⟩ <;> omega

theorem lists_len {zs : List UInt8} {n code : Nat} {l : List (List UInt8)} (hl : zs.length = n) (h : Tlv.unpack zs = (code, l)) : l.length ≤ n := by
  have : ∀ (k : Nat) (acc : List (List UInt8)) (b : List UInt8), b.length ≤ k → (Tlv.upk acc b).2.length ≤ acc.length + b.length := by
    intro k
    induction k with
    | zero =>
      intro acc b hb
      obtain rfl : b = [] := List.eq_nil_of_length_eq_zero (by omega)
      rw [Tlv.upk_nil]
      simp
    | succ k ih =>
      intro acc b hb
      by_cases hb0 : b = []
      · subst hb0
        rw [Tlv.upk_nil]
        simp
      · cases hp : Tlv.piece b with
        | none => rw [Tlv.upk_short _ _ hb0 hp]; simp
        | some p =>
          obtain ⟨v, r⟩ := p
          rw [Tlv.upk_next _ _ _ _ hp]
          have h1 := Tlv.piece_less hp
          have h2 := ih (acc ++ [v]) r (by omega)
          rw [List.length_append, List.length_singleton] at h2
          omega
  have h1 := this zs.length [] zs (Nat.le_refl _)
  unfold Tlv.unpack at h
  rw [h, hl] at h1
  simpa using h1

/-- The slices that are tried, in a row of the call's own. -/
def Tried (w : World) (g k : Nat) : Prop := ∀ j, j < k → ∃ A n c zs, w.cell? ⟨g, j, none⟩ = some (.slice A n c) ∧ n ≤ c ∧ n ≤ 1000000 ∧ Rd w w.heap.size A n zs

set_option maxRecDepth 100000 in
set_option maxHeartbeats 1000000 in
theorem packs_any (A : Option Addr) (n c : Nat) (ls : List (List UInt8)) (Ab : Option Addr) (nb cb : Nat) (bs : List UInt8) (cut : UInt8) (w : World)
    (hr : LRd w w.heap.size A n ls) (_hnc : n ≤ c) (hn : n ≤ 9223372036854775807) (hrb : Rd w w.heap.size Ab nb bs) (hbc : nb ≤ cb) (hnb : nb ≤ 9223372036854775807) :
    Calls Try.prog 6 #[.slice A n c, .slice Ab nb cb, .int .u8 cut.toNat] w fun e w' => e = .returned (.bool true) ∧ Below w.heap.size w w' := by
  have HR := Lib.hid hr
  have HRB := Lib.hid hrb
  clear hr hrb
  go_enter Try.func6, Try.ntmps6
  go_wp2_with fail
  refine (awake_any w).mono ?_
  rintro e w1 ⟨rfl, hb1⟩
  by_cases h2000 : 2000 < nb
  · go_wp2_with fail
    go_ret
    exact ⟨rfl, hb1⟩
  by_cases h50 : 50 < n
  · go_wp2_with fail
    go_ret
    exact ⟨rfl, hb1⟩
  have q1 : decide (2000 < (nb : Int)) = false := by simp; omega
  have q2 : decide (50 < (n : Int)) = false := by simp; omega
  have HB1 := Lib.hid hb1
  have HR1 := Lib.hid ((HR.out.below hb1 (Nat.le_refl _)).more hb1.size)
  have HRB1 := Lib.hid ((HRB.out.below hb1 (Nat.le_refl _)).more hb1.size)
  clear hb1
  go_wp2_with fail
  clear q1 q2
  go_loop [33] (fun i => ∃ k : Nat, k ≤ n ∧ i = .int .i64 k ∧ ∀ j, j < k → ∀ l, ls[j]? = some l → l.length ≤ 300) (fun i => n - (intOf i).toNat)
  case atStart => exact ⟨0, by omega, rfl, fun j h => absurd h (by omega)⟩
  case round =>
    obtain ⟨k, hk, rfl, hall⟩ := hrel
    have HA := Lib.hid hall
    clear hall
    by_cases hlt : k < n
    · obtain ⟨l, hl⟩ : ∃ l, ls[k]? = some l := ⟨ls[k]'(by rw [HR.out.len]; exact hlt), List.getElem?_eq_getElem _⟩
      obtain ⟨b1, o1, A', n', c', rfl, _, s1, _, _, r1⟩ := HR1.out.at_ hl
      have HL := Lib.hid (And.intro hl r1.len)
      clear hl r1
      by_cases h300 : 300 < n'
      · have q1 : decide (300 < (n' : Int)) = true := by simp; omega
        go_wp2_with fail
        go_ret
        exact ⟨rfl, HB1.out⟩
      · have q1 : decide (300 < (n' : Int)) = false := by simp; omega
        go_wp2_with fail
        go_round
        case rel =>
          refine ⟨k + 1, by omega, by go_num, fun j hj l' hl' => ?_⟩
          by_cases hjk : j = k
          · subst hjk
            rw [HL.out.1] at hl'
            injection hl' with hl'
            subst hl'
            rw [HL.out.2]
            omega
          · exact HA.out j (by omega) l' hl'
        case measure => simp [intOf]; omega
    · obtain rfl : k = n := by omega
      have h300 : ∀ l ∈ ls, l.length ≤ 300 := fun l hl => by
        obtain ⟨j, hj⟩ := List.getElem?_of_mem hl
        exact HA.out j (by have := (List.getElem?_eq_some_iff.1 hj).1; rw [HR.out.len] at this; exact this) l hj
      have h16 : ∀ l ∈ ls, l.length ≤ 65535 := fun l hl => Nat.le_trans (h300 l hl) (by omega)
      have hpl := pack_small ls h300 k
      rw [List.take_of_length_le (by rw [HR.out.len]; exact Nat.le_refl _)] at hpl
      have HU := Lib.hid (Tlv.unpack_pack ls h16)
      have H16 := Lib.hid h16
      have HPL := Lib.hid hpl
      clear h300 h16 hpl HA
      go_wp2_with fail
      have hp := pack_any A k c ls w1 HR1.out (by omega) H16.out
      refine hp.mono ?_
      rintro e w3 ⟨A3, n3, c3, rfl, hr3, hnc3, _, hb3⟩
      have hn3 : n3 ≤ 20000 := by have := HPL.out; rw [hr3.len] at this; omega
      have HR3 := Lib.hid hr3
      have HB3 := Lib.hid (HB1.out.trans (hb3.mono HB1.out.size))
      clear hp hr3 hb3 HR1 HRB1 HB1
      go_wp2_with fail
      have hp := unpack_any A3 n3 c3 _ w3 HR3.out hnc3 (by omega)
      rw [HU.out] at hp
      have HPP := Lib.hid hp
      clear hp
      refine HPP.out.mono ?_
      rintro e w4 ⟨A4, n4, c4, rfl, hr4, hnc4, hb4⟩
      have hr4 : LRd w4 w4.heap.size A4 n4 ls := hr4
      have HB4 := Lib.hid (HB3.out.trans (hb4.mono HB3.out.size))
      have HR34 := Lib.hid ((HR3.out.below hb4 (Nat.le_refl _)).more hb4.size)
      have HR4 := Lib.hid hr4
      have HRA4 := Lib.hid ((HR.out.below HB4.out (Nat.le_refl _)).more HB4.out.size)
      clear hr4 hb4 HR3 HB3 HPP
      have HR34d : Hid (Rd w4.drew w4.drew.heap.size A3 n3 (Tlv.pack ls)) := HR34
      have HR4d : Hid (LRd w4.drew w4.drew.heap.size A4 n4 ls) := HR4
      have HRA4d : Hid (LRd w4.drew w4.drew.heap.size A k ls) := HRA4
      have HB4d : Hid (Below w.heap.size w w4.drew) := Lib.hid HB4.out.drew
      have hS0 := run_string w4.drew _ A3 n3 c3 _ HR34d.out
      go_wp2_with fail
      refine wp_region_held_drew (S := fun w' => (convert 22 9 (.slice A3 n3 c3)).run Try.prog w' = .ok (.string ⟨(Tlv.pack ls).toArray⟩) w') (by kernel_rfl) hS0 (fun hHeld => ?_)
      refine wpAnyH_take (i := 0) (oi := { dst := some 51, op := Op.move (Operand.tmp 10), type := 25, pos := "law.go:86", after := #[], guard := none }) (v := ?_) rfl (by kernel_rfl) (by kernel_rfl) (by kernel_rfl) (fun _ _ _ h => h) (Or.inl ⟨by rfl, ?_⟩) (by assumption) ?_
      rotate_left
      · first | (intro w hSw; (try dsimp only at hSw); go_simp; done) | (intro w hSw; (try dsimp only at hSw); go_simp; with_reducible rfl)
      simp only [Act.put, List.setIfInBounds_toArray, List.set_cons_zero, List.set_cons_succ]
      refine wpAnyH_take (i := 1) (oi := { dst := some 52, op := Op.binOp BinOp.neq 25 (Operand.tmp 51) (Operand.const (Value.int IntKind.i64 0)) 25, type := 4, pos := "law.go:86", after := #[{ on := 0, ground := Ground.data }], guard := none }) (v := ?_) rfl (by kernel_rfl) (by kernel_rfl) (by kernel_rfl) (fun _ _ _ h => h) (Or.inl ⟨by rfl, ?_⟩) (by assumption) ?_
      rotate_left
      · first | (intro w hSw; (try dsimp only at hSw); go_simp; done) | (intro w hSw; (try dsimp only at hSw); go_simp; with_reducible rfl)
      simp only [Act.put, List.setIfInBounds_toArray, List.set_cons_zero, List.set_cons_succ]
      refine wpAnyH_take (i := 2) (oi := { dst := some 53, op := Op.move (Operand.tmp 52), type := 4, pos := "law.go:86", after := #[{ on := 1, ground := Ground.data }], guard := none }) (v := ?_) rfl (by kernel_rfl) (by kernel_rfl) (by kernel_rfl) (fun _ _ _ h => h) (Or.inl ⟨by rfl, ?_⟩) (by assumption) ?_
      rotate_left
      · first | (intro w hSw; (try dsimp only at hSw); go_simp; done) | (intro w hSw; (try dsimp only at hSw); go_simp; with_reducible rfl)
      simp only [Act.put, List.setIfInBounds_toArray, List.set_cons_zero, List.set_cons_succ]
      refine wpAnyH_take (i := 3) (oi := { dst := some 54, op := Op.move (Operand.tmp 12), type := 25, pos := "law.go:86", after := #[{ on := 2, ground := Ground.guard }], guard := some (2, false) }) (v := ?_) rfl (by kernel_rfl) (by kernel_rfl) (by kernel_rfl) (fun _ _ _ h => h) (Or.inl ⟨by rfl, ?_⟩) (by assumption) ?_
      rotate_left
      · first | (intro w hSw; (try dsimp only at hSw); go_simp; done) | (intro w hSw; (try dsimp only at hSw); go_simp; with_reducible rfl)
      simp only [Act.put, List.setIfInBounds_toArray, List.set_cons_zero, List.set_cons_succ]
      refine wpAnyH_take (i := 4) (oi := { dst := some 55, op := Op.binOp BinOp.neq 25 (Operand.tmp 54) (Operand.const (Value.int IntKind.i64 0)) 25, type := 4, pos := "law.go:86", after := #[{ on := 3, ground := Ground.data }, { on := 2, ground := Ground.guard }], guard := some (2, false) }) (v := ?_) rfl (by kernel_rfl) (by kernel_rfl) (by kernel_rfl) (fun _ _ _ h => h) (Or.inl ⟨by rfl, ?_⟩) (by assumption) ?_
      rotate_left
      · first | (intro w hSw; (try dsimp only at hSw); go_simp; done) | (intro w hSw; (try dsimp only at hSw); go_simp; with_reducible rfl)
      simp only [Act.put, List.setIfInBounds_toArray, List.set_cons_zero, List.set_cons_succ]
      refine wpAnyH_take (i := 5) (oi := { dst := some 56, op := Op.pick (Operand.tmp 53) (Operand.const (Value.bool true)) (Operand.tmp 55), type := 4, pos := "law.go:86", after := #[{ on := 2, ground := Ground.data }, { on := 4, ground := Ground.data }], guard := none }) (v := ?_) rfl (by kernel_rfl) (by kernel_rfl) (by kernel_rfl) (fun _ _ _ h => h) (Or.inl ⟨by rfl, ?_⟩) (by assumption) ?_
      rotate_left
      · first | (intro w hSw; (try dsimp only at hSw); go_simp; done) | (intro w hSw; (try dsimp only at hSw); go_simp; with_reducible rfl)
      simp only [Act.put, List.setIfInBounds_toArray, List.set_cons_zero, List.set_cons_succ]
      refine wpAnyH_take (i := 6) (oi := { dst := some 57, op := Op.move (Operand.tmp 56), type := 4, pos := "law.go:86", after := #[{ on := 5, ground := Ground.data }, { on := 2, ground := Ground.chain }], guard := none }) (v := ?_) rfl (by kernel_rfl) (by kernel_rfl) (by kernel_rfl) (fun _ _ _ h => h) (Or.inl ⟨by rfl, ?_⟩) (by assumption) ?_
      rotate_left
      · first | (intro w hSw; (try dsimp only at hSw); go_simp; done) | (intro w hSw; (try dsimp only at hSw); go_simp; with_reducible rfl)
      simp only [Act.put, List.setIfInBounds_toArray, List.set_cons_zero, List.set_cons_succ]
      refine wpAnyH_take (i := 7) (oi := { dst := some 58, op := Op.move (Operand.tmp 9), type := 22, pos := "law.go:86", after := #[{ on := 6, ground := Ground.guard }], guard := some (6, false) }) (v := ?_) rfl (by kernel_rfl) (by kernel_rfl) (by kernel_rfl) (fun _ _ _ h => h) (Or.inl ⟨by rfl, ?_⟩) (by assumption) ?_
      rotate_left
      · first | (intro w hSw; (try dsimp only at hSw); go_simp; done) | (intro w hSw; (try dsimp only at hSw); go_simp; with_reducible rfl)
      simp only [Act.put, List.setIfInBounds_toArray, List.set_cons_zero, List.set_cons_succ]
      refine wpAnyH_take (i := 8) (oi := { dst := some 59, op := Op.convert 22 9 (Operand.tmp 58), type := 9, pos := "law.go:86", after := #[{ on := 7, ground := Ground.data }, { on := 6, ground := Ground.guard }], guard := some (6, false) }) (v := ?_) rfl (by kernel_rfl) (by kernel_rfl) (by kernel_rfl) (fun _ _ _ h => h) (Or.inl ⟨by rfl, ?_⟩) (by assumption) ?_
      rotate_left
      · first | (intro w hSw; (try dsimp only at hSw); go_simp; done) | (intro w hSw; (try dsimp only at hSw); go_simp; with_reducible rfl)
      simp only [Act.put, List.setIfInBounds_toArray, List.set_cons_zero, List.set_cons_succ]
      refine wpAnyH_take (i := 9) (oi := { dst := some 60, op := Op.move (Operand.tmp 0), type := 41, pos := "law.go:86", after := #[{ on := 6, ground := Ground.guard }], guard := some (6, false) }) (v := ?_) rfl (by kernel_rfl) (by kernel_rfl) (by kernel_rfl) (fun _ _ _ h => h) (Or.inl ⟨by rfl, ?_⟩) (by assumption) ?_
      rotate_left
      · first | (intro w hSw; (try dsimp only at hSw); go_simp; done) | (intro w hSw; (try dsimp only at hSw); go_simp; with_reducible rfl)
      simp only [Act.put, List.setIfInBounds_toArray, List.set_cons_zero, List.set_cons_succ]
      refine wpAnyH_ready (rs := [10]) (by kernel_rfl) (by simp) ?_
      refine AllReadyH.cons rfl (fun K hK => ?_) AllReadyH.nil
      go_simp
      refine (refPack_any A k c ls w4.drew HRA4d.out (by omega) H16.out).mono ?_
      rintro e w5 ⟨A5, n5, c5, rfl, hr5, _, hb5⟩
      have hS5 := run_string w5 _ A3 n3 c3 _ (HR34d.out.below hb5 (Nat.le_refl _))
      have hs5 := run_string w5 _ A5 n5 c5 _ hr5
      have HB5 := Lib.hid (HB4d.out.trans (hb5.mono HB4d.out.size))
      have HR35 := Lib.hid ((HR34d.out.below hb5 (Nat.le_refl _)).more hb5.size)
      have HR45 := Lib.hid ((HR4d.out.below hb5 (Nat.le_refl _)).more hb5.size)
      have HRA5 := Lib.hid ((HRA4d.out.below hb5 (Nat.le_refl _)).more hb5.size)
      have HR55 := Lib.hid hr5
      clear hHeld hr5 hb5
      refine hK.out _ _ hS5 (fun _ => ?_)
      clear hK K
      refine heldMore (S' := fun w' => (convert 22 9 (.slice A3 n3 c3)).run Try.prog w' = .ok (.string ⟨(Tlv.pack ls).toArray⟩) w' ∧ (convert 22 9 (.slice A5 n5 c5)).run Try.prog w' = .ok (.string ⟨(Tlv.pack ls).toArray⟩) w') (fun _ h => h.1) _ _ _ _ ?_
      have hHeld : (convert 22 9 (.slice A3 n3 c3)).run Try.prog w5 = .ok (.string ⟨(Tlv.pack ls).toArray⟩) w5 ∧ (convert 22 9 (.slice A5 n5 c5)).run Try.prog w5 = .ok (.string ⟨(Tlv.pack ls).toArray⟩) w5 := ⟨hS5, hs5⟩
      clear hs5 hS5 hS0
      refine wpAnyH_take (i := 11) (oi := { dst := some 62, op := Op.convert 22 9 (Operand.tmp 61), type := 9, pos := "law.go:86", after := #[{ on := 10, ground := Ground.data }, { on := 6, ground := Ground.guard }], guard := some (6, false) }) (v := ?_) rfl (by kernel_rfl) (by kernel_rfl) (by kernel_rfl) (fun _ _ _ h => h) (Or.inl ⟨by rfl, ?_⟩) (by assumption) ?_
      rotate_left
      · first | (intro w hSw; (try dsimp only at hSw); go_simp; done) | (intro w hSw; (try dsimp only at hSw); go_simp; with_reducible rfl)
      simp only [Act.put, List.setIfInBounds_toArray, List.set_cons_zero, List.set_cons_succ]
      refine wpAnyH_take (i := 12) (oi := { dst := some 63, op := Op.binOp BinOp.neq 9 (Operand.tmp 59) (Operand.tmp 62) 9, type := 4, pos := "law.go:86", after := #[{ on := 8, ground := Ground.data }, { on := 11, ground := Ground.data }, { on := 6, ground := Ground.guard }], guard := some (6, false) }) (v := ?_) rfl (by kernel_rfl) (by kernel_rfl) (by kernel_rfl) (fun _ _ _ h => h) (Or.inl ⟨by rfl, ?_⟩) (by assumption) ?_
      rotate_left
      · first | (intro w hSw; (try dsimp only at hSw); go_simp; done) | (intro w hSw; (try dsimp only at hSw); go_simp; with_reducible rfl)
      simp only [Act.put, List.setIfInBounds_toArray, List.set_cons_zero, List.set_cons_succ]
      refine wpAnyH_take (i := 13) (oi := { dst := some 64, op := Op.pick (Operand.tmp 57) (Operand.const (Value.bool true)) (Operand.tmp 63), type := 4, pos := "law.go:86", after := #[{ on := 6, ground := Ground.data }, { on := 12, ground := Ground.data }], guard := none }) (v := ?_) rfl (by kernel_rfl) (by kernel_rfl) (by kernel_rfl) (fun _ _ _ h => h) (Or.inl ⟨by rfl, ?_⟩) (by assumption) ?_
      rotate_left
      · first | (intro w hSw; (try dsimp only at hSw); go_simp; done) | (intro w hSw; (try dsimp only at hSw); go_simp; with_reducible rfl)
      simp only [Act.put, List.setIfInBounds_toArray, List.set_cons_zero, List.set_cons_succ]
      refine wpAnyH_take (i := 14) (oi := { dst := some 65, op := Op.move (Operand.tmp 64), type := 4, pos := "law.go:86", after := #[{ on := 13, ground := Ground.data }, { on := 10, ground := Ground.chain }], guard := none }) (v := ?_) rfl (by kernel_rfl) (by kernel_rfl) (by kernel_rfl) (fun _ _ _ h => h) (Or.inl ⟨by rfl, ?_⟩) (by assumption) ?_
      rotate_left
      · first | (intro w hSw; (try dsimp only at hSw); go_simp; done) | (intro w hSw; (try dsimp only at hSw); go_simp; with_reducible rfl)
      simp only [Act.put, List.setIfInBounds_toArray, List.set_cons_zero, List.set_cons_succ]
      refine wpAnyH_take (i := 15) (oi := { dst := some 66, op := Op.move (Operand.tmp 11), type := 41, pos := "law.go:86", after := #[{ on := 14, ground := Ground.guard }], guard := some (14, false) }) (v := ?_) rfl (by kernel_rfl) (by kernel_rfl) (by kernel_rfl) (fun _ _ _ h => h) (Or.inl ⟨by rfl, ?_⟩) (by assumption) ?_
      rotate_left
      · first | (intro w hSw; (try dsimp only at hSw); go_simp; done) | (intro w hSw; (try dsimp only at hSw); go_simp; with_reducible rfl)
      simp only [Act.put, List.setIfInBounds_toArray, List.set_cons_zero, List.set_cons_succ]
      refine wpAnyH_take (i := 16) (oi := { dst := some 67, op := Op.move (Operand.tmp 0), type := 41, pos := "law.go:86", after := #[{ on := 14, ground := Ground.guard }], guard := some (14, false) }) (v := ?_) rfl (by kernel_rfl) (by kernel_rfl) (by kernel_rfl) (fun _ _ _ h => h) (Or.inl ⟨by rfl, ?_⟩) (by assumption) ?_
      rotate_left
      · first | (intro w hSw; (try dsimp only at hSw); go_simp; done) | (intro w hSw; (try dsimp only at hSw); go_simp; with_reducible rfl)
      simp only [Act.put, List.setIfInBounds_toArray, List.set_cons_zero, List.set_cons_succ]
      refine wpAnyH_ready (rs := [17]) (by kernel_rfl) (by simp) ?_
      refine AllReadyH.cons (o := { dst := some 68, op := Op.call { callee := Callee.value (Operand.func 24), args := #[Operand.tmp 66, Operand.tmp 67], argTypes := #[41, 41] }, type := 4, pos := "law.go:86", after := #[{ on := 15, ground := Ground.data }, { on := 16, ground := Ground.data }, { on := 14, ground := Ground.chain }, { on := 14, ground := Ground.guard }], guard := some (14, false) }) rfl (fun K hK => ?_) AllReadyH.nil
      go_simp
      refine (sameLists_any A4 n4 c4 A k c ls w5 _ _ HR45.out HRA5.out (by have := HR45.out.len; have := HRA5.out.len; omega)).mono ?_
      rintro e w6 ⟨rfl, d, rfl⟩
      clear hHeld
      have hHeld : (convert 22 9 (.slice A3 n3 c3)).run Try.prog (w5.drewN d) = .ok (.string ⟨(Tlv.pack ls).toArray⟩) (w5.drewN d) ∧ (convert 22 9 (.slice A5 n5 c5)).run Try.prog (w5.drewN d) = .ok (.string ⟨(Tlv.pack ls).toArray⟩) (w5.drewN d) := ⟨run_string (w5.drewN d) _ A3 n3 c3 _ (HR35.out.drewN d), run_string (w5.drewN d) _ A5 n5 c5 _ (HR55.out.drewN d)⟩
      refine hK.out _ _ hHeld (fun _ => ?_)
      clear hK K
      refine wpAnyH_take (i := 18) (oi := { dst := some 69, op := Op.unOp UnOp.not 4 (Operand.tmp 68), type := 4, pos := "law.go:86", after := #[{ on := 17, ground := Ground.data }, { on := 14, ground := Ground.guard }], guard := some (14, false) }) (v := ?_) rfl (by kernel_rfl) (by kernel_rfl) (by kernel_rfl) (fun _ _ _ h => h) (Or.inl ⟨by rfl, ?_⟩) (by assumption) ?_
      rotate_left
      · first | (intro w hSw; (try dsimp only at hSw); go_simp; done) | (intro w hSw; (try dsimp only at hSw); go_simp; with_reducible rfl)
      simp only [Act.put, List.setIfInBounds_toArray, List.set_cons_zero, List.set_cons_succ]
      refine wpAnyH_take (i := 19) (oi := { dst := some 70, op := Op.pick (Operand.tmp 65) (Operand.const (Value.bool true)) (Operand.tmp 69), type := 4, pos := "law.go:86", after := #[{ on := 14, ground := Ground.data }, { on := 18, ground := Ground.data }], guard := none }) (v := ?_) rfl (by kernel_rfl) (by kernel_rfl) (by kernel_rfl) (fun _ _ _ h => h) (Or.inl ⟨by rfl, ?_⟩) (by assumption) ?_
      rotate_left
      · first | (intro w hSw; (try dsimp only at hSw); go_simp; done) | (intro w hSw; (try dsimp only at hSw); go_simp; with_reducible rfl)
      simp only [Act.put, List.setIfInBounds_toArray, List.set_cons_zero, List.set_cons_succ]
      refine wpAnyH_done (by kernel_rfl) ?_ _
      clear hHeld
      have hbx : Below w.heap.size w (w5.drewN d) := below_drewN HB5.out d
      have HX3 : Hid (Rd (w5.drewN d) (w5.drewN d).heap.size A3 n3 (Tlv.pack ls)) := HR35
      have HXB := Lib.hid ((HRB.out.below hbx (Nat.le_refl _)).more hbx.size)
      have HBX := Lib.hid hbx
      clear hbx HB5 HR35 HR45 HRA5 HR55 HR34 HR4 HRA4 HR34d HR4d HRA4d HB4d HB4
      generalize w5.drewN d = w6 at *
      have hcut := cut.toNat_lt
      obtain ⟨mm, q, hmin, hsub, hqn⟩ := min_sub n3 ((cut.toNat : Int) % 9) (by omega)
      have hqc : (q : Int) ≤ (c3 : Int) := by omega
      go_wp2_with fail
      clear hmin hsub hqc
      have hba : Below w6.heap.size w6 (w6.alloc (Obj.cells #[.slice Ab nb cb, .slice A3 q c3] 22)) := (Below.refl _ _).alloc (Nat.le_refl _) _
      have hT : Tried (w6.alloc (Obj.cells #[.slice Ab nb cb, .slice A3 q c3] 22)) w6.heap.size 2 := fun j hj => by
        match j, hj with
        | 0, _ => exact ⟨Ab, nb, cb, bs, (Whole.made w6 22 _).at_ rfl, hbc, by omega, (HXB.out.below hba (Nat.le_refl _)).more hba.size⟩
        | 1, _ => exact ⟨A3, q, c3, _, (Whole.made w6 22 _).at_ rfl, by omega, by omega, ((HX3.out.front q hqn).below hba (Nat.le_refl _)).more hba.size⟩
      have hg7 : w6.heap.size < (w6.alloc (Obj.cells #[.slice Ab nb cb, .slice A3 q c3] 22)).heap.size := by rw [size_alloc]; omega
      have HT := Lib.hid hT
      have HB7 := Lib.hid (HBX.out.trans (hba.mono HBX.out.size))
      clear hT hba HX3 HXB HBX
      generalize w6.alloc (Obj.cells #[.slice Ab nb cb, .slice A3 q c3] 22) = w7 at *
      generalize w6.heap.size = g at *
      go_loopw [85] (fun i wx => ∃ j : Nat, j ≤ 2 ∧ i = .int .i64 j ∧ Below w7.heap.size w7 wx) (fun i _ => 2 - (intOf i).toNat)
      case atStart => exact ⟨0, by omega, rfl, Below.refl _ _⟩
      case round =>
        obtain ⟨j, hj, rfl, hbl⟩ := hrel
        have HBL := Lib.hid hbl
        clear hbl
        by_cases hj2 : j < 2
        · obtain ⟨Az, nz, cz, zs, hcell, hzc, hz6, hrz⟩ := HT.out j hj2
          have hcell' := (HBL.out.cell (p := ⟨g, j, none⟩) hg7).trans hcell
          have HRZ := Lib.hid ((hrz.below HBL.out (Nat.le_refl _)).more HBL.out.size)
          clear hcell hrz
          obtain ⟨⟨code, l⟩, hR⟩ : ∃ r, Tlv.unpack zs = r := ⟨_, rfl⟩
          have HRR := Lib.hid hR
          clear hR
          go_wp2_with fail
          have hp := unpack_any Az nz cz zs wr HRZ.out hzc hz6
          rw [HRR.out] at hp
          have HPP := Lib.hid hp
          clear hp
          refine HPP.out.mono ?_
          rintro e w8 ⟨A8, n8, c8, rfl, hr8, _, hb8⟩
          have hr8 : LRd w8 w8.heap.size A8 n8 l := hr8
          have HRZ8 := Lib.hid ((HRZ.out.below hb8 (Nat.le_refl _)).more hb8.size)
          have HR8 := Lib.hid hr8
          have HB8 := Lib.hid (HBL.out.trans (hb8.mono HBL.out.size))
          clear hr8 hb8 HPP hcell'
          go_wp2_with fail
          have hp := refUnpack_any Az nz cz zs w8 HRZ8.out hzc hz6
          rw [HRR.out] at hp
          have HPP := Lib.hid hp
          clear hp
          refine HPP.out.mono ?_
          rintro e w9 ⟨A9, n9, c9, rfl, hr9, _, hb9⟩
          have hr9 : LRd w9 w9.heap.size A9 n9 l := hr9
          have HR89 := Lib.hid (HR8.out.below hb9 (Nat.le_refl _))
          have HR9 := Lib.hid hr9
          have HB9 := Lib.hid (HB8.out.trans (hb9.mono HB8.out.size))
          have hn8 : n8 ≤ 9223372036854775807 := by
            have h1 := HR8.out.len
            have h2 := lists_len HRZ8.out.len HRR.out
            omega
          clear hr9 hb9 HPP
          go_wp2_with fail
          refine (sameLists_any A8 n8 c8 A9 n9 c9 l w9 _ _ HR89.out HR9.out hn8).mono ?_
          rintro e w10 ⟨rfl, d, rfl⟩
          go_wp2_with fail
          go_roundw
          case rel => exact ⟨j + 1, by omega, by go_num, below_drewN HB9.out d⟩
          case measure => simp [intOf]; omega
        · obtain rfl : j = 2 := by omega
          have hmk := run_mk 65536 65536 (Nat.le_refl _) (by omega) 65536 65536 rfl rfl
          go_wp2_with fail
          refine (pack_long (wr.heap.size + 1) 0 1 (some ⟨wr.heap.size, 0, none⟩) 65536 65536 _ ?_ (by omega)).mono ?_
          · have hm := (Whole.made (wr.alloc (Obj.cells (zb 65536) 5)) 22 #[.slice (some ⟨wr.heap.size, 0, none⟩) 65536 65536]).at_ (i := 0) rfl
            rw [size_alloc] at hm
            exact hm
          rintro e w8 ⟨rfl, rfl⟩
          have hbe : Below w.heap.size w wr := HB7.out.trans (HBL.out.mono HB7.out.size)
          have hbf := (hbe.alloc hbe.size (Obj.cells (zb 65536) 5)).alloc (by have := hbe.size; rw [size_alloc]; omega) (Obj.cells #[.slice (some ⟨wr.heap.size, 0, none⟩) 65536 65536] 22)
          have HBF := Lib.hid hbf
          clear hbf hbe
          go_wp2_with fail
          go_ret
          exact ⟨rfl, HBF.out⟩
end Go.Proofs.Ytlbpkgjngolfkaa
