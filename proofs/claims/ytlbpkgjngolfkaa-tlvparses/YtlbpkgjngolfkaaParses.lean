/-
  What the statement's function TlvParses returns: true, whatever bytes, fields and number come in; conditions: they are read. It only makes memory of its own.
-/
import Derived.Test.YtlbpkgjngolfkaaAwake
import Derived.Test.YtlbpkgjngolfkaaRefParse
import Derived.Test.YtlbpkgjngolfkaaRefPack
import Derived.Test.YtlbpkgjngolfkaaSame
namespace Go.Proofs.Ytlbpkgjngolfkaa
open Go.RowKit

theorem Rd.head {w : World} {B n : Nat} {A : Option Addr} {bs : List UInt8} (h : Rd w B A n bs) (q : Nat) (hq : q ≤ n) : Rd w B A q (bs.take q) := by
  rcases Nat.eq_zero_or_pos q with h0 | h0
  · subst h0; rw [List.take_zero]; exact Rd.nil
  · obtain ⟨b, o, rfl, _⟩ := h.at_ (by omega)
    have := h.part 0 q (by omega)
    rwa [Nat.add_zero, List.drop_zero] at this
theorem min_cut (n : Nat) (z : Int) (h0 : 0 ≤ z) : ∃ m q : Nat, min (n : Int) z = m ∧ (n : Int) - (m : Int) = q ∧ q ≤ n := by
  refine ⟨(min (n : Int) z).toNat, n - (min (n : Int) z).toNat, ?_, ?_, ?_⟩ <;> omega
theorem body_step (fs : List (UInt8 × List UInt8)) (k : Nat) (f : UInt8 × List UInt8) (h : fs[k]? = some f) : Tlv.body (fs.take (k + 1)) = Tlv.body (fs.take k) ++ f.1 :: Tlv.pieceb f.2 := by
  rw [List.take_add_one, h]
  exact Tlv.body_snoc _ _
theorem fields_len {zs : List UInt8} {n code : Nat} {l : List (UInt8 × List UInt8)} (hl : zs.length = n) (h : Tlv.parse zs = (code, l)) : l.length ≤ n := by
  have : ∀ (k : Nat) (acc : List (UInt8 × List UInt8)) (b : List UInt8), b.length ≤ k → (Tlv.prs acc b).2.length ≤ acc.length + b.length := by
    intro k
    induction k with
    | zero =>
      intro acc b hb
      obtain rfl : b = [] := List.eq_nil_of_length_eq_zero (by omega)
      rw [Tlv.prs_nil]
      simp
    | succ k ih =>
      intro acc b hb
      match b with
      | [] => rw [Tlv.prs_nil]; simp
      | t :: b =>
        cases hp : Tlv.piece b with
        | none => rw [Tlv.prs_short _ _ _ hp]; simp
        | some p =>
          obtain ⟨v, r⟩ := p
          by_cases hv : v = []
          · subst hv; rw [Tlv.prs_empty _ _ _ _ hp]; simp
          · cases ho : Tlv.rises acc t with
            | false => rw [Tlv.prs_order _ _ _ _ _ hp hv ho]; simp
            | true =>
              rw [Tlv.prs_next _ _ _ _ _ hp hv ho]
              have h1 := Tlv.piece_less hp
              simp only [List.length_cons] at hb ⊢
              have h2 := ih (acc ++ [(t, v)]) r (by omega)
              rw [List.length_append, List.length_singleton] at h2
              omega
  have h1 := this zs.length [] zs (Nat.le_refl _)
  unfold Tlv.parse at h
  rw [h, hl] at h1
  simpa using h1

/-- The slices that are tried, in a row of the call's own. -/
def Seen (w : World) (g k : Nat) : Prop := ∀ j, j < k → ∃ A n c zs, w.cell? ⟨g, j, none⟩ = some (.slice A n c) ∧ n ≤ c ∧ n ≤ 1000000 ∧ Rd w w.heap.size A n zs

/-- How the raw bytes stand behind k fields. -/
def RawRel (w : World) (fs : List (UInt8 × List UInt8)) (n : Nat) (i x : Value) (wx : World) : Prop :=
  ∃ k N : Nat, k ≤ n ∧ N ≤ 303 * k ∧ i = .int .i64 k ∧ wx.ownsRow w.heap.size 5 1 x N ((Tlv.body (fs.take k)).map V8) ∧ Below w.heap.size w wx

set_option maxRecDepth 100000 in
set_option maxHeartbeats 2000000 in
theorem parses_any (Ab : Option Addr) (nb cb : Nat) (bs : List UInt8) (A : Option Addr) (n c : Nat) (fs : List (UInt8 × List UInt8)) (cut : UInt8) (w : World)
    (hrb : Rd w w.heap.size Ab nb bs) (hbc : nb ≤ cb) (hnb : nb ≤ 9223372036854775807) (hr : FRd w w.heap.size A n fs) (_hnc : n ≤ c) (hn : n ≤ 9223372036854775807) :
    Calls Try.prog 5 #[.slice Ab nb cb, .slice A n c, .int .u8 cut.toNat] w fun e w' => e = .returned (.bool true) ∧ Below w.heap.size w w' := by
  have HR := Lib.hid hr
  have HRB := Lib.hid hrb
  clear hr hrb
  go_enter Try.func5, Try.ntmps5
  go_wp2_with fail
  refine (awake_any w).mono ?_
  rintro e w1 ⟨rfl, hb1⟩
  by_cases h2000 : 2000 < nb
  · go_wp2_with fail
    go_ret
    exact ⟨rfl, hb1⟩
  by_cases h30 : 30 < n
  · go_wp2_with fail
    go_ret
    exact ⟨rfl, hb1⟩
  have q1 : decide (2000 < (nb : Int)) = false := by simp; omega
  have q2 : decide (30 < (n : Int)) = false := by simp; omega
  have HB1 := Lib.hid hb1
  clear hb1
  go_wp2_with fail
  clear q1 q2
  go_loopw [28, 7] (fun i x wx => RawRel w fs n i x wx) (fun i _ _ => n - (intOf i).toNat)
  case atStart => exact ⟨0, 0, by omega, by omega, rfl, World.ownsRow_nil _ _ _ _, HB1.out⟩
  case round =>
    clear HB1
    obtain ⟨k, N, hk, hN, rfl, hown, hbl⟩ := hrel
    obtain ⟨A0, c0, rfl, hc0, _⟩ := own_form hown
    have HO := Lib.hid hown
    have HB := Lib.hid hbl
    have hws : w.heap.size ≤ wr.heap.size := hbl.size
    clear hown hbl
    by_cases hlt : k < n
    · obtain ⟨f, hf⟩ : ∃ f, fs[k]? = some f := ⟨fs[k]'(by rw [HR.out.len]; exact hlt), List.getElem?_eq_getElem _⟩
      obtain ⟨b1, o1, A', n', c', rfl, hb1, t1, s1, hnc1, hnv, r1⟩ := HR.out.at_ hf
      rw [Nat.mul_comm 2 k] at t1 s1
      rw [← Nat.add_assoc] at s1
      have t1' := (HB.out.cell (p := ⟨b1, o1 + k * 2, none⟩) hb1).trans t1
      have s1' := (HB.out.cell (p := ⟨b1, o1 + k * 2 + 1, none⟩) hb1).trans s1
      have R1 := Lib.hid r1
      have HT := Lib.hid (body_step fs k f hf)
      clear t1 s1 r1 hf
      by_cases h300 : 300 < n'
      · have q1 : decide (300 < (n' : Int)) = true := by simp; omega
        go_wp2_with fail
        go_ret
        exact ⟨rfl, HB.out.alloc hws _⟩
      · have q1 : decide (300 < (n' : Int)) = false := by simp; omega
        have m1 : IntKind.u8.wrap ((n' : Int) / 256) = (n' : Int) / 256 := IntWalk.u8_in _ (by omega)
        have m2 : IntKind.u8.wrap (n' : Int) = (n' : Int) % 256 := by rw [IntKind.wrap_u8]
        go_wp2_with fail
        clear q1
        obtain ⟨W0, hW0⟩ : ∃ W0 : World, W0 = wr.alloc (Obj.cells #[.int .u8 f.1.toNat, .slice A' n' c'] 39) := ⟨_, rfl⟩
        rw [← hW0]
        have hbw0 : Below wr.heap.size wr W0 := by rw [hW0]; exact (Below.refl _ _).alloc (Nat.le_refl _) _
        have hwh : Whole W0 wr.heap.size 39 #[.int .u8 f.1.toNat, .slice A' n' c'] := by rw [hW0]; exact Whole.made wr 39 _
        have hown0 : W0.drew.ownsRow w.heap.size 5 1 (.slice A0 N c0) N ((Tlv.body (fs.take k)).map V8) := own_below HO.out hbw0.drew
        have hlt0 : ∀ i, (Value.slice A0 N c0).ownBlock = some i → i < wr.heap.size := fun i hi => (HO.out.lt i hi).2
        have hbl0 : Below w.heap.size w W0.drew := (HB.out.trans (hbw0.mono hws)).drew
        have hfb : wr.heap.size < W0.heap.size := hwh.lt
        have hwhd : Whole W0.drew wr.heap.size 39 #[.int .u8 f.1.toNat, .slice A' n' c'] := hwh
        have hs0 : W0.drew.cell? ⟨wr.heap.size, 0, none⟩ = some (Value.int .u8 f.1.toNat) ∧ W0.drew.cell? ⟨wr.heap.size, 1, none⟩ = some (Value.slice A' n' c') := ⟨hwh.at_ rfl, hwh.at_ rfl⟩
        have HW := Lib.hid (And.intro hwhd (And.intro hown0 hbl0))
        have HLT := Lib.hid hlt0
        clear hW0 hbw0 hwh hwhd hown0 hlt0 hbl0 t1' s1'
        generalize wr.heap.size = fb at *
        refine wp_region_held_drew (S := fun w' => w'.cell? ⟨fb, 0, none⟩ = some (Value.int .u8 f.1.toNat) ∧ w'.cell? ⟨fb, 1, none⟩ = some (Value.slice A' n' c')) (by kernel_rfl) hs0 (fun hHeld => ?_)
        have hdsz : fb < W0.drew.heap.size := hfb
        generalize W0.drew = Wd at *
        refine wpAnyH_take (i := 0) (oi := { dst := some 36, op := Op.move (Operand.tmp 7), type := 22, pos := "law.go:59", after := #[], guard := none }) (v := ?_) rfl (by kernel_rfl) (by kernel_rfl) (by kernel_rfl) (fun _ _ _ h => h) (Or.inl ⟨by rfl, ?_⟩) (by assumption) ?_
        rotate_left
        · first | (intro w hSw; (try dsimp only at hSw); go_simp; done) | (intro w hSw; (try dsimp only at hSw); go_simp; with_reducible rfl)
        simp only [Act.put, List.setIfInBounds_toArray, List.set_cons_zero, List.set_cons_succ]
        refine wpAnyH_take (i := 1) (oi := { dst := some 37, op := Op.fieldAddr 39 (Operand.tmp 9) 0, type := 0, pos := "law.go:59", after := #[], guard := none }) (v := ?_) rfl (by kernel_rfl) (by kernel_rfl) (by kernel_rfl) (fun _ _ _ h => h) (Or.inl ⟨by rfl, ?_⟩) (by assumption) ?_
        rotate_left
        · first | (intro w hSw; (try dsimp only at hSw); go_simp; done) | (intro w hSw; (try dsimp only at hSw); go_simp; with_reducible rfl)
        simp only [Act.put, List.setIfInBounds_toArray, List.set_cons_zero, List.set_cons_succ]
        refine wpAnyH_take (i := 2) (oi := { dst := some 38, op := Op.load 5 (Operand.tmp 37), type := 5, pos := "law.go:59", after := #[{ on := 1, ground := Ground.data }], guard := none }) (v := ?_) rfl (by kernel_rfl) (by kernel_rfl) (by kernel_rfl) (fun _ _ _ h => h) (Or.inl ⟨by rfl, ?_⟩) (by assumption) ?_
        rotate_left
        · first | (intro w hSw; (try dsimp only at hSw); go_simp; done) | (intro w hSw; (try dsimp only at hSw); go_simp; with_reducible rfl)
        simp only [Act.put, List.setIfInBounds_toArray, List.set_cons_zero, List.set_cons_succ]
        refine wpAnyH_take (i := 3) (oi := { dst := some 39, op := Op.fieldAddr 39 (Operand.tmp 9) 1, type := 0, pos := "law.go:59", after := #[], guard := none }) (v := ?_) rfl (by kernel_rfl) (by kernel_rfl) (by kernel_rfl) (fun _ _ _ h => h) (Or.inl ⟨by rfl, ?_⟩) (by assumption) ?_
        rotate_left
        · first | (intro w hSw; (try dsimp only at hSw); go_simp; done) | (intro w hSw; (try dsimp only at hSw); go_simp; with_reducible rfl)
        simp only [Act.put, List.setIfInBounds_toArray, List.set_cons_zero, List.set_cons_succ]
        refine wpAnyH_take (i := 4) (oi := { dst := some 40, op := Op.load 22 (Operand.tmp 39), type := 22, pos := "law.go:59", after := #[{ on := 3, ground := Ground.data }], guard := none }) (v := ?_) rfl (by kernel_rfl) (by kernel_rfl) (by kernel_rfl) (fun _ _ _ h => h) (Or.inl ⟨by rfl, ?_⟩) (by assumption) ?_
        rotate_left
        · first | (intro w hSw; (try dsimp only at hSw); go_simp; done) | (intro w hSw; (try dsimp only at hSw); go_simp; with_reducible rfl)
        simp only [Act.put, List.setIfInBounds_toArray, List.set_cons_zero, List.set_cons_succ]
        refine wpAnyH_take (i := 5) (oi := { dst := some 41, op := Op.call { callee := Callee.builtin Builtin.len, args := #[Operand.tmp 40], argTypes := #[22] }, type := 3, pos := "law.go:59", after := #[{ on := 4, ground := Ground.data }], guard := none }) (v := ?_) rfl (by kernel_rfl) (by kernel_rfl) (by kernel_rfl) (fun _ _ _ h => h) (Or.inl ⟨by rfl, ?_⟩) (by assumption) ?_
        rotate_left
        · first | (intro w hSw; (try dsimp only at hSw); go_simp; done) | (intro w hSw; (try dsimp only at hSw); go_simp; with_reducible rfl)
        simp only [Act.put, List.setIfInBounds_toArray, List.set_cons_zero, List.set_cons_succ]
        refine wpAnyH_take (i := 6) (oi := { dst := some 42, op := Op.binOp BinOp.shr 3 (Operand.tmp 41) (Operand.const (Value.int IntKind.u64 8)) 40, type := 3, pos := "law.go:59", after := #[{ on := 5, ground := Ground.data }], guard := none }) (v := ?_) rfl (by kernel_rfl) (by kernel_rfl) (by kernel_rfl) (fun _ _ _ h => h) (Or.inl ⟨by rfl, ?_⟩) (by assumption) ?_
        rotate_left
        · first | (intro w hSw; (try dsimp only at hSw); go_simp; done) | (intro w hSw; (try dsimp only at hSw); go_simp; with_reducible rfl)
        simp only [Act.put, List.setIfInBounds_toArray, List.set_cons_zero, List.set_cons_succ]
        refine wpAnyH_take (i := 7) (oi := { dst := some 43, op := Op.convert 3 5 (Operand.tmp 42), type := 5, pos := "law.go:59", after := #[{ on := 6, ground := Ground.data }], guard := none }) (v := ?_) rfl (by kernel_rfl) (by kernel_rfl) (by kernel_rfl) (fun _ _ _ h => h) (Or.inl ⟨by rfl, ?_⟩) (by assumption) ?_
        rotate_left
        · first | (intro w hSw; (try dsimp only at hSw); go_simp; done) | (intro w hSw; (try dsimp only at hSw); go_simp; with_reducible rfl)
        simp only [Act.put, List.setIfInBounds_toArray, List.set_cons_zero, List.set_cons_succ]
        refine wpAnyH_take (i := 8) (oi := { dst := some 44, op := Op.fieldAddr 39 (Operand.tmp 9) 1, type := 0, pos := "law.go:59", after := #[], guard := none }) (v := ?_) rfl (by kernel_rfl) (by kernel_rfl) (by kernel_rfl) (fun _ _ _ h => h) (Or.inl ⟨by rfl, ?_⟩) (by assumption) ?_
        rotate_left
        · first | (intro w hSw; (try dsimp only at hSw); go_simp; done) | (intro w hSw; (try dsimp only at hSw); go_simp; with_reducible rfl)
        simp only [Act.put, List.setIfInBounds_toArray, List.set_cons_zero, List.set_cons_succ]
        refine wpAnyH_take (i := 9) (oi := { dst := some 45, op := Op.load 22 (Operand.tmp 44), type := 22, pos := "law.go:59", after := #[{ on := 8, ground := Ground.data }], guard := none }) (v := ?_) rfl (by kernel_rfl) (by kernel_rfl) (by kernel_rfl) (fun _ _ _ h => h) (Or.inl ⟨by rfl, ?_⟩) (by assumption) ?_
        rotate_left
        · first | (intro w hSw; (try dsimp only at hSw); go_simp; done) | (intro w hSw; (try dsimp only at hSw); go_simp; with_reducible rfl)
        simp only [Act.put, List.setIfInBounds_toArray, List.set_cons_zero, List.set_cons_succ]
        refine wpAnyH_take (i := 10) (oi := { dst := some 46, op := Op.call { callee := Callee.builtin Builtin.len, args := #[Operand.tmp 45], argTypes := #[22] }, type := 3, pos := "law.go:59", after := #[{ on := 9, ground := Ground.data }], guard := none }) (v := ?_) rfl (by kernel_rfl) (by kernel_rfl) (by kernel_rfl) (fun _ _ _ h => h) (Or.inl ⟨by rfl, ?_⟩) (by assumption) ?_
        rotate_left
        · first | (intro w hSw; (try dsimp only at hSw); go_simp; done) | (intro w hSw; (try dsimp only at hSw); go_simp; with_reducible rfl)
        simp only [Act.put, List.setIfInBounds_toArray, List.set_cons_zero, List.set_cons_succ]
        refine wpAnyH_take (i := 11) (oi := { dst := some 47, op := Op.convert 3 5 (Operand.tmp 46), type := 5, pos := "law.go:59", after := #[{ on := 10, ground := Ground.data }], guard := none }) (v := ?_) rfl (by kernel_rfl) (by kernel_rfl) (by kernel_rfl) (fun _ _ _ h => h) (Or.inl ⟨by rfl, ?_⟩) (by assumption) ?_
        rotate_left
        · first | (intro w hSw; (try dsimp only at hSw); go_simp; done) | (intro w hSw; (try dsimp only at hSw); go_simp; with_reducible rfl)
        simp only [Act.put, List.setIfInBounds_toArray, List.set_cons_zero, List.set_cons_succ]
        refine wpAnyH_take (i := 14) (oi := { dst := some 50, op := Op.fieldAddr 39 (Operand.tmp 9) 1, type := 0, pos := "law.go:59", after := #[], guard := none }) (v := ?_) rfl (by kernel_rfl) (by kernel_rfl) (by kernel_rfl) (fun _ _ _ h => h) (Or.inl ⟨by rfl, ?_⟩) (by assumption) ?_
        rotate_left
        · first | (intro w hSw; (try dsimp only at hSw); go_simp; done) | (intro w hSw; (try dsimp only at hSw); go_simp; with_reducible rfl)
        simp only [Act.put, List.setIfInBounds_toArray, List.set_cons_zero, List.set_cons_succ]
        refine wpAnyH_take (i := 15) (oi := { dst := some 51, op := Op.load 22 (Operand.tmp 50), type := 22, pos := "law.go:59", after := #[{ on := 14, ground := Ground.data }], guard := none }) (v := ?_) rfl (by kernel_rfl) (by kernel_rfl) (by kernel_rfl) (fun _ _ _ h => h) (Or.inl ⟨by rfl, ?_⟩) (by assumption) ?_
        rotate_left
        · first | (intro w hSw; (try dsimp only at hSw); go_simp; done) | (intro w hSw; (try dsimp only at hSw); go_simp; with_reducible rfl)
        simp only [Act.put, List.setIfInBounds_toArray, List.set_cons_zero, List.set_cons_succ]
        refine wpAnyH_ready (rs := [12]) (by kernel_rfl) (by simp) ?_
        refine AllReadyH.cons (o := { dst := some 48, op := Op.buildSlice 22 3 #[(0, Operand.tmp 38), (1, Operand.tmp 43), (2, Operand.tmp 47)], type := 22, pos := "law.go:59", after := #[{ on := 2, ground := Ground.data }, { on := 7, ground := Ground.data }, { on := 11, ground := Ground.data }], guard := none }) rfl (fun K hK => ?_) AllReadyH.nil
        go_simp
        obtain ⟨W1, hW1⟩ : ∃ W1 : World, W1 = Wd.alloc (Obj.cells #[.int .u8 f.1.toNat, .int .u8 ((n' : Int) / 256), .int .u8 ((n' : Int) % 256)] 5) := ⟨_, rfl⟩
        rw [← hW1]
        have hbw1 : Below Wd.heap.size Wd W1 := by rw [hW1]; exact (Below.refl _ _).alloc (Nat.le_refl _) _
        have hsz1 : W1.heap.size = Wd.heap.size + 1 := by rw [hW1]; exact size_alloc Wd _
        have hr2 : Rd W1 W1.heap.size (some ⟨Wd.heap.size, 0, none⟩) 3 [f.1, Tlv.hi f.2.length, Tlv.lo f.2.length] := by
          rw [hsz1, hW1]
          exact rd_new Wd 5 _ 3 rfl _ (hi_lo3 f.1 f.2 n' R1.out.len (by omega))
        have hwh1 := HW.out.1.below hbw1 hdsz
        have hown1 := own_below HW.out.2.1 hbw1
        have hws0 : w.heap.size ≤ Wd.heap.size := HW.out.2.2.size
        have hbl1 := HW.out.2.2.trans (hbw1.mono hws0)
        have hs1 : W1.cell? ⟨fb, 0, none⟩ = some (Value.int .u8 f.1.toNat) ∧ W1.cell? ⟨fb, 1, none⟩ = some (Value.slice A' n' c') := ⟨hwh1.at_ rfl, hwh1.at_ rfl⟩
        have hws1 : w.heap.size ≤ W1.heap.size := hbl1.size
        have hf1 : fb < W1.heap.size := by omega
        have HX := Lib.hid (And.intro hr2 (And.intro hwh1 (And.intro hown1 hbl1)))
        clear hW1 hbw1 hr2 hwh1 hown1 hbl1 hs0 hHeld m1 m2
        refine hK.out _ _ hs1 (fun hHeld => ?_)
        clear hK K
        refine wpAnyH_ready (rs := [13]) (by kernel_rfl) (by simp) ?_
        refine AllReadyH.cons (o := { dst := some 49, op := Op.call { callee := Callee.builtin Builtin.append, args := #[Operand.tmp 36, Operand.tmp 48], argTypes := #[22, 22] }, type := 22, pos := "law.go:59", after := #[{ on := 0, ground := Ground.data }, { on := 12, ground := Ground.data }], guard := none }) rfl (fun K hK => ?_) AllReadyH.nil
        refine step_append_b rfl (.tmp 36) (.tmp 48) rfl w.heap.size (.slice A0 N c0) N _ rfl HX.out.2.2.1 _ _ 3 3 _ rfl HX.out.1 (by omega) hws1 ?_
        intro v2 w2 hown2 hg2 hat2
        have hwh2 : Whole w2 fb 39 #[.int .u8 f.1.toNat, .slice A' n' c'] := (hg2.block fb hf1 (fun e => absurd (HLT.out fb e.symm) (by omega))).trans HX.out.2.1
        have hbl2 := HX.out.2.2.2.grown hg2 hws1 (fun i hi => (HX.out.2.2.1.lt i hi).1)
        have hne2 : v2.ownBlock ≠ some fb := by
          rcases hat2 with e | e
          · rw [e]; intro e'; exact absurd (HLT.out fb e') (by omega)
          · rw [e]; intro e'; injection e' with e'; omega
        have hs2 : w2.cell? ⟨fb, 0, none⟩ = some (Value.int .u8 f.1.toNat) ∧ w2.cell? ⟨fb, 1, none⟩ = some (Value.slice A' n' c') := ⟨hwh2.at_ rfl, hwh2.at_ rfl⟩
        obtain ⟨A2, c2, rfl, hc2, _⟩ := own_form hown2
        have hws2 : w.heap.size ≤ w2.heap.size := hbl2.size
        have hf2 : fb < w2.heap.size := hwh2.lt
        have HY := Lib.hid (And.intro hwh2 (And.intro hown2 (And.intro hbl2 hne2)))
        clear hwh2 hown2 hbl2 hne2 hg2 hat2 HX hHeld hs1
        refine hK.out _ _ hs2 (fun hHeld => ?_)
        clear hK K
        simp only [Act.put, List.setIfInBounds_toArray, List.set_cons_zero, List.set_cons_succ]
        refine wpAnyH_ready (rs := [16]) (by kernel_rfl) (by simp) ?_
        refine AllReadyH.cons (o := { dst := some 52, op := Op.call { callee := Callee.builtin Builtin.append, args := #[Operand.tmp 49, Operand.tmp 51], argTypes := #[22, 22] }, type := 22, pos := "law.go:59", after := #[{ on := 13, ground := Ground.data }, { on := 15, ground := Ground.data }, { on := 13, ground := Ground.chain }], guard := none }) rfl (fun K hK => ?_) AllReadyH.nil
        refine step_append_b rfl (.tmp 49) (.tmp 51) rfl w.heap.size (.slice A2 (N + 3) c2) (N + 3) _ rfl HY.out.2.1 _ A' n' c' f.2 rfl (R1.out.below HY.out.2.2.1 (Nat.le_refl _)) (by omega) hws2 ?_
        intro v3 w3 hown3 hg3 hat3
        have hwh3 : Whole w3 fb 39 #[.int .u8 f.1.toNat, .slice A' n' c'] := (hg3.block fb hf2 (fun e => HY.out.2.2.2 e.symm)).trans HY.out.1
        have hbl3 := HY.out.2.2.1.grown hg3 hws2 (fun i hi => (HY.out.2.1.lt i hi).1)
        have hs3 : w3.cell? ⟨fb, 0, none⟩ = some (Value.int .u8 f.1.toNat) ∧ w3.cell? ⟨fb, 1, none⟩ = some (Value.slice A' n' c') := ⟨hwh3.at_ rfl, hwh3.at_ rfl⟩
        rw [show Tlv.body (fs.take k) ++ [f.1, Tlv.hi f.2.length, Tlv.lo f.2.length] ++ f.2 = Tlv.body (fs.take (k + 1)) by rw [HT.out]; simp [Tlv.pieceb]] at hown3
        have HZ := Lib.hid (And.intro hown3 hbl3)
        clear hwh3 hown3 hbl3 hg3 hat3 HY hHeld hs2
        refine hK.out _ _ hs3 (fun hHeld => ?_)
        clear hK K
        simp only [Act.put, List.setIfInBounds_toArray, List.set_cons_zero, List.set_cons_succ]
        refine wpAnyH_take (i := 17) (oi := { dst := some 7, op := Op.assign (Operand.tmp 52), type := 22, pos := "law.go:59", after := #[{ on := 16, ground := Ground.data }, { on := 16, ground := Ground.chain }, { on := 0, ground := Ground.phase }, { on := 1, ground := Ground.phase }, { on := 2, ground := Ground.phase }, { on := 3, ground := Ground.phase }, { on := 4, ground := Ground.phase }, { on := 5, ground := Ground.phase }, { on := 6, ground := Ground.phase }, { on := 7, ground := Ground.phase }, { on := 8, ground := Ground.phase }, { on := 9, ground := Ground.phase }, { on := 10, ground := Ground.phase }, { on := 11, ground := Ground.phase }, { on := 12, ground := Ground.phase }, { on := 13, ground := Ground.phase }, { on := 14, ground := Ground.phase }, { on := 15, ground := Ground.phase }, { on := 16, ground := Ground.phase }], guard := none }) (v := ?_) rfl (by kernel_rfl) (by kernel_rfl) (by kernel_rfl) (fun _ _ _ h => h) (Or.inl ⟨by rfl, ?_⟩) (by assumption) ?_
        rotate_left
        · first | (intro w hSw; (try dsimp only at hSw); go_simp; done) | (intro w hSw; (try dsimp only at hSw); go_simp; with_reducible rfl)
        simp only [Act.put, List.setIfInBounds_toArray, List.set_cons_zero, List.set_cons_succ]
        refine wpAnyH_done (by kernel_rfl) ?_ _
        clear hHeld hs3
        go_wp2_with fail
        go_roundw
        case rel => exact ⟨k + 1, N + 3 + n', by omega, by omega, by go_num, HZ.out.1, HZ.out.2⟩
        case measure => simp [intOf]; omega
    · obtain rfl : k = n := by omega
      have hrx := Rd.of_own HO.out
      have HRX := Lib.hid hrx
      have HRW := Lib.hid ((HRB.out.below HB.out (Nat.le_refl _)).more HB.out.size)
      have HRXd : Hid (Rd wr.drew wr.drew.heap.size A0 N (Tlv.body (fs.take k))) := HRX
      have HRWd : Hid (Rd wr.drew wr.drew.heap.size Ab nb bs) := HRW
      have HBd : Hid (Below w.heap.size w wr.drew) := Lib.hid HB.out.drew
      have hcut := cut.toNat_lt
      obtain ⟨mm, q, hmin, hsub, hqn⟩ := min_cut N ((cut.toNat : Int) % 9) (by omega)
      have hqc : (q : Int) ≤ (c0 : Int) := by omega
      have hwq : IntKind.i64.wrap (q : Int) = (q : Int) := IntWalk.i64_in _ (by omega)
      have hq0 : (0 : Int) ≤ (q : Int) := by omega
      have hw9 : IntKind.i64.wrap ((cut.toNat : Int) % 9) = (cut.toNat : Int) % 9 := IntWalk.i64_in _ (by omega)
      have htm : (cut.toNat : Int).tmod 9 = (cut.toNat : Int) % 9 := Int.tmod_eq_emod_of_nonneg (by omega)
      clear hrx
      go_wp2_with fail
      refine wp_region_held_drew (S := fun _ => True) (by kernel_rfl) trivial (fun hHeld => ?_)
      have hwsd : w.heap.size ≤ wr.drew.heap.size := HBd.out.size
      generalize wr.drew = wd at *
      refine wpAnyH_take (i := 0) (oi := { dst := some 54, op := Op.move (Operand.tmp 0), type := 22, pos := "law.go:61", after := #[], guard := none }) (v := ?_) rfl (by kernel_rfl) (by kernel_rfl) (by kernel_rfl) (fun _ _ _ h => h) (Or.inl ⟨by rfl, ?_⟩) (by assumption) ?_
      rotate_left
      · first | (intro w hSw; (try dsimp only at hSw); go_simp; done) | (intro w hSw; (try dsimp only at hSw); go_simp; with_reducible rfl)
      simp only [Act.put, List.setIfInBounds_toArray, List.set_cons_zero, List.set_cons_succ]
      refine wpAnyH_take (i := 1) (oi := { dst := some 55, op := Op.move (Operand.tmp 7), type := 22, pos := "law.go:61", after := #[], guard := none }) (v := ?_) rfl (by kernel_rfl) (by kernel_rfl) (by kernel_rfl) (fun _ _ _ h => h) (Or.inl ⟨by rfl, ?_⟩) (by assumption) ?_
      rotate_left
      · first | (intro w hSw; (try dsimp only at hSw); go_simp; done) | (intro w hSw; (try dsimp only at hSw); go_simp; with_reducible rfl)
      simp only [Act.put, List.setIfInBounds_toArray, List.set_cons_zero, List.set_cons_succ]
      refine wpAnyH_take (i := 3) (oi := { dst := some 57, op := Op.move (Operand.tmp 7), type := 22, pos := "law.go:61", after := #[], guard := none }) (v := ?_) rfl (by kernel_rfl) (by kernel_rfl) (by kernel_rfl) (fun _ _ _ h => h) (Or.inl ⟨by rfl, ?_⟩) (by assumption) ?_
      rotate_left
      · first | (intro w hSw; (try dsimp only at hSw); go_simp; done) | (intro w hSw; (try dsimp only at hSw); go_simp; with_reducible rfl)
      simp only [Act.put, List.setIfInBounds_toArray, List.set_cons_zero, List.set_cons_succ]
      refine wpAnyH_take (i := 5) (oi := { dst := some 59, op := Op.move (Operand.tmp 0), type := 22, pos := "law.go:61", after := #[], guard := none }) (v := ?_) rfl (by kernel_rfl) (by kernel_rfl) (by kernel_rfl) (fun _ _ _ h => h) (Or.inl ⟨by rfl, ?_⟩) (by assumption) ?_
      rotate_left
      · first | (intro w hSw; (try dsimp only at hSw); go_simp; done) | (intro w hSw; (try dsimp only at hSw); go_simp; with_reducible rfl)
      simp only [Act.put, List.setIfInBounds_toArray, List.set_cons_zero, List.set_cons_succ]
      refine wpAnyH_take (i := 7) (oi := { dst := some 61, op := Op.move (Operand.tmp 7), type := 22, pos := "law.go:61", after := #[], guard := none }) (v := ?_) rfl (by kernel_rfl) (by kernel_rfl) (by kernel_rfl) (fun _ _ _ h => h) (Or.inl ⟨by rfl, ?_⟩) (by assumption) ?_
      rotate_left
      · first | (intro w hSw; (try dsimp only at hSw); go_simp; done) | (intro w hSw; (try dsimp only at hSw); go_simp; with_reducible rfl)
      simp only [Act.put, List.setIfInBounds_toArray, List.set_cons_zero, List.set_cons_succ]
      refine wpAnyH_take (i := 8) (oi := { dst := some 62, op := Op.move (Operand.tmp 7), type := 22, pos := "law.go:61", after := #[], guard := none }) (v := ?_) rfl (by kernel_rfl) (by kernel_rfl) (by kernel_rfl) (fun _ _ _ h => h) (Or.inl ⟨by rfl, ?_⟩) (by assumption) ?_
      rotate_left
      · first | (intro w hSw; (try dsimp only at hSw); go_simp; done) | (intro w hSw; (try dsimp only at hSw); go_simp; with_reducible rfl)
      simp only [Act.put, List.setIfInBounds_toArray, List.set_cons_zero, List.set_cons_succ]
      refine wpAnyH_take (i := 9) (oi := { dst := some 63, op := Op.call { callee := Callee.builtin Builtin.len, args := #[Operand.tmp 62], argTypes := #[22] }, type := 3, pos := "law.go:61", after := #[{ on := 8, ground := Ground.data }], guard := none }) (v := ?_) rfl (by kernel_rfl) (by kernel_rfl) (by kernel_rfl) (fun _ _ _ h => h) (Or.inl ⟨by rfl, ?_⟩) (by assumption) ?_
      rotate_left
      · first | (intro w hSw; (try dsimp only at hSw); go_simp; done) | (intro w hSw; (try dsimp only at hSw); go_simp; with_reducible rfl)
      simp only [Act.put, List.setIfInBounds_toArray, List.set_cons_zero, List.set_cons_succ]
      refine wpAnyH_take (i := 10) (oi := { dst := some 64, op := Op.move (Operand.tmp 7), type := 22, pos := "law.go:61", after := #[], guard := none }) (v := ?_) rfl (by kernel_rfl) (by kernel_rfl) (by kernel_rfl) (fun _ _ _ h => h) (Or.inl ⟨by rfl, ?_⟩) (by assumption) ?_
      rotate_left
      · first | (intro w hSw; (try dsimp only at hSw); go_simp; done) | (intro w hSw; (try dsimp only at hSw); go_simp; with_reducible rfl)
      simp only [Act.put, List.setIfInBounds_toArray, List.set_cons_zero, List.set_cons_succ]
      refine wpAnyH_take (i := 11) (oi := { dst := some 65, op := Op.call { callee := Callee.builtin Builtin.len, args := #[Operand.tmp 64], argTypes := #[22] }, type := 3, pos := "law.go:61", after := #[{ on := 10, ground := Ground.data }], guard := none }) (v := ?_) rfl (by kernel_rfl) (by kernel_rfl) (by kernel_rfl) (fun _ _ _ h => h) (Or.inl ⟨by rfl, ?_⟩) (by assumption) ?_
      rotate_left
      · first | (intro w hSw; (try dsimp only at hSw); go_simp; done) | (intro w hSw; (try dsimp only at hSw); go_simp; with_reducible rfl)
      simp only [Act.put, List.setIfInBounds_toArray, List.set_cons_zero, List.set_cons_succ]
      refine wpAnyH_take (i := 12) (oi := { dst := some 66, op := Op.move (Operand.tmp 2), type := 5, pos := "law.go:61", after := #[], guard := none }) (v := ?_) rfl (by kernel_rfl) (by kernel_rfl) (by kernel_rfl) (fun _ _ _ h => h) (Or.inl ⟨by rfl, ?_⟩) (by assumption) ?_
      rotate_left
      · first | (intro w hSw; (try dsimp only at hSw); go_simp; done) | (intro w hSw; (try dsimp only at hSw); go_simp; with_reducible rfl)
      simp only [Act.put, List.setIfInBounds_toArray, List.set_cons_zero, List.set_cons_succ]
      refine wpAnyH_take (i := 13) (oi := { dst := some 67, op := Op.binOp BinOp.rem 5 (Operand.tmp 66) (Operand.const (Value.int IntKind.u8 9)) 5, type := 5, pos := "law.go:61", after := #[{ on := 12, ground := Ground.data }], guard := none }) (v := ?_) rfl (by kernel_rfl) (by kernel_rfl) (by kernel_rfl) (fun _ _ _ h => h) (Or.inl ⟨by rfl, ?_⟩) (by assumption) ?_
      rotate_left
      · first | (intro w hSw; (try dsimp only at hSw); go_simp; done) | (intro w hSw; (try dsimp only at hSw); go_simp; with_reducible rfl)
      simp only [Act.put, List.setIfInBounds_toArray, List.set_cons_zero, List.set_cons_succ]
      refine wpAnyH_take (i := 14) (oi := { dst := some 68, op := Op.convert 5 3 (Operand.tmp 67), type := 3, pos := "law.go:61", after := #[{ on := 13, ground := Ground.data }], guard := none }) (v := ?_) rfl (by kernel_rfl) (by kernel_rfl) (by kernel_rfl) (fun _ _ _ h => h) (Or.inl ⟨by rfl, ?_⟩) (by assumption) ?_
      rotate_left
      · first | (intro w hSw; (try dsimp only at hSw); go_simp; done) | (intro w hSw; (try dsimp only at hSw); go_simp; with_reducible rfl)
      simp only [Act.put, List.setIfInBounds_toArray, List.set_cons_zero, List.set_cons_succ]
      refine wpAnyH_take (i := 15) (oi := { dst := some 69, op := Op.call { callee := Callee.builtin Builtin.min, args := #[Operand.tmp 65, Operand.tmp 68], argTypes := #[3, 3] }, type := 3, pos := "law.go:61", after := #[{ on := 11, ground := Ground.data }, { on := 14, ground := Ground.data }], guard := none }) (v := ?_) rfl (by kernel_rfl) (by kernel_rfl) (by kernel_rfl) (fun _ _ _ h => h) (Or.inl ⟨by rfl, ?_⟩) (by assumption) ?_
      rotate_left
      · first | (intro w hSw; (try dsimp only at hSw); go_simp; done) | (intro w hSw; (try dsimp only at hSw); go_simp; with_reducible rfl)
      simp only [Act.put, List.setIfInBounds_toArray, List.set_cons_zero, List.set_cons_succ]
      refine wpAnyH_take (i := 16) (oi := { dst := some 70, op := Op.binOp BinOp.sub 3 (Operand.tmp 63) (Operand.tmp 69) 3, type := 3, pos := "law.go:61", after := #[{ on := 9, ground := Ground.data }, { on := 15, ground := Ground.data }], guard := none }) (v := ?_) rfl (by kernel_rfl) (by kernel_rfl) (by kernel_rfl) (fun _ _ _ h => h) (Or.inl ⟨by rfl, ?_⟩) (by assumption) ?_
      rotate_left
      · first | (intro w hSw; (try dsimp only at hSw); go_simp; done) | (intro w hSw; (try dsimp only at hSw); go_simp; with_reducible rfl)
      simp only [Act.put, List.setIfInBounds_toArray, List.set_cons_zero, List.set_cons_succ]
      refine wpAnyH_take (i := 17) (oi := { dst := some 71, op := Op.slice 22 (Operand.tmp 61) none (some (Operand.tmp 70)) none, type := 22, pos := "law.go:61", after := #[{ on := 7, ground := Ground.data }, { on := 16, ground := Ground.data }], guard := none }) (v := ?_) rfl (by kernel_rfl) (by kernel_rfl) (by kernel_rfl) (fun _ _ _ h => h) (Or.inl ⟨by rfl, ?_⟩) (by assumption) ?_
      rotate_left
      · first | (intro w hSw; (try dsimp only at hSw); go_simp; done) | (intro w hSw; (try dsimp only at hSw); go_simp; with_reducible rfl)
      simp only [Act.put, List.setIfInBounds_toArray, List.set_cons_zero, List.set_cons_succ]
      refine wpAnyH_take (i := 20) (oi := { dst := some 74, op := Op.move (Operand.const (Value.int IntKind.i64 0)), type := 3, pos := "law.go:61", after := #[], guard := none }) (v := ?_) rfl (by kernel_rfl) (by kernel_rfl) (by kernel_rfl) (fun _ _ _ h => h) (Or.inl ⟨by rfl, ?_⟩) (by assumption) ?_
      rotate_left
      · first | (intro w hSw; (try dsimp only at hSw); go_simp; done) | (intro w hSw; (try dsimp only at hSw); go_simp; with_reducible rfl)
      simp only [Act.put, List.setIfInBounds_toArray, List.set_cons_zero, List.set_cons_succ]
      clear hmin hsub hqc hwq htm hw9
      refine wpAnyH_ready (rs := [2]) (by kernel_rfl) (by simp) ?_
      refine AllReadyH.cons (o := { dst := some 56, op := Op.buildSlice 22 0 #[], type := 22, pos := "law.go:61", after := #[], guard := none }) rfl (fun K hK => ?_) AllReadyH.nil
      go_simp
      refine hK.out _ _ trivial (fun _ => ?_)
      clear hK K
      refine wpAnyH_ready (rs := [4]) (by kernel_rfl) (by simp) ?_
      refine AllReadyH.cons (o := { dst := some 58, op := Op.call { callee := Callee.builtin Builtin.append, args := #[Operand.tmp 56, Operand.tmp 57], argTypes := #[22, 22] }, type := 22, pos := "law.go:61", after := #[{ on := 2, ground := Ground.data }, { on := 3, ground := Ground.data }], guard := none }) rfl (fun K hK => ?_) AllReadyH.nil
      have hba : Below wd.heap.size wd (wd.alloc (Obj.cells #[] 5)) := (Below.refl _ _).alloc (Nat.le_refl _) _
      have hlit : (wd.alloc (Obj.cells #[] 5)).ownsRow wd.heap.size 5 1 (.slice (some ⟨wd.heap.size, 0, none⟩) 0 0) 0 (([] : List UInt8).map V8) := World.ownsRow_lit wd #[] 0 (Nat.le_refl _) (by unfold maxLen; omega) rfl
      refine step_append_b rfl (.tmp 56) (.tmp 57) rfl wd.heap.size (.slice (some ⟨wd.heap.size, 0, none⟩) 0 0) 0 [] rfl hlit _ A0 N c0 _ rfl (HRXd.out.below hba (Nat.le_refl _)) (by omega) hba.size ?_
      intro v4 w4 hown4 hg4 hat4
      have hb4 : Below wd.heap.size wd w4 := hba.grown hg4 hba.size (fun i hi => (hlit.lt i hi).1)
      rw [List.nil_append, Nat.zero_add] at hown4
      obtain ⟨A4, c4, rfl, hc4, _⟩ := own_form hown4
      have HX4 := Lib.hid (And.intro hown4 hb4)
      have hws4 : wd.heap.size ≤ w4.heap.size := hb4.size
      clear hown4 hg4 hat4 hb4 hba hlit
      refine hK.out _ _ trivial (fun _ => ?_)
      clear hK K
      simp only [Act.put, List.setIfInBounds_toArray, List.set_cons_zero, List.set_cons_succ]
      refine wpAnyH_ready (rs := [6]) (by kernel_rfl) (by simp) ?_
      refine AllReadyH.cons (o := { dst := some 60, op := Op.call { callee := Callee.builtin Builtin.append, args := #[Operand.tmp 58, Operand.tmp 59], argTypes := #[22, 22] }, type := 22, pos := "law.go:61", after := #[{ on := 4, ground := Ground.data }, { on := 5, ground := Ground.data }, { on := 4, ground := Ground.chain }], guard := none }) rfl (fun K hK => ?_) AllReadyH.nil
      refine step_append_b rfl (.tmp 58) (.tmp 59) rfl wd.heap.size (.slice A4 N c4) N _ (by first | rfl | simp) HX4.out.1 _ Ab nb cb bs rfl (HRWd.out.below HX4.out.2 (Nat.le_refl _)) (by omega) hws4 ?_
      intro v6 w6 hown6 hg6 hat6
      have hb6 : Below wd.heap.size wd w6 := HX4.out.2.grown hg6 hws4 (fun i hi => (HX4.out.1.lt i hi).1)
      obtain ⟨A6, c6, rfl, hc6, _⟩ := own_form hown6
      have HX6 := Lib.hid (And.intro (Rd.of_own hown6) hb6)
      have hws6 : wd.heap.size ≤ w6.heap.size := hb6.size
      clear hown6 hg6 hat6 hb6 HX4
      refine hK.out _ _ trivial (fun _ => ?_)
      clear hK K
      simp only [Act.put, List.setIfInBounds_toArray, List.set_cons_zero, List.set_cons_succ]
      refine wpAnyH_ready (rs := [18]) (by kernel_rfl) (by simp) ?_
      refine AllReadyH.cons (o := { dst := some 72, op := Op.buildSlice 41 4 #[(0, Operand.tmp 54), (1, Operand.tmp 55), (2, Operand.tmp 60), (3, Operand.tmp 71)], type := 41, pos := "law.go:61", after := #[{ on := 0, ground := Ground.data }, { on := 1, ground := Ground.data }, { on := 6, ground := Ground.data }, { on := 17, ground := Ground.data }], guard := none }) rfl (fun K hK => ?_) AllReadyH.nil
      go_simp
      refine hK.out _ _ trivial (fun _ => ?_)
      clear hK K
      refine wpAnyH_take (i := 19) (oi := { dst := some 73, op := Op.call { callee := Callee.builtin Builtin.len, args := #[Operand.tmp 72], argTypes := #[41] }, type := 3, pos := "law.go:61", after := #[{ on := 18, ground := Ground.data }], guard := none }) (v := ?_) rfl (by kernel_rfl) (by kernel_rfl) (by kernel_rfl) (fun _ _ _ h => h) (Or.inl ⟨by rfl, ?_⟩) (by assumption) ?_
      rotate_left
      · first | (intro w hSw; (try dsimp only at hSw); go_simp; done) | (intro w hSw; (try dsimp only at hSw); go_simp; with_reducible rfl)
      simp only [Act.put, List.setIfInBounds_toArray, List.set_cons_zero, List.set_cons_succ]
      refine wpAnyH_done (by kernel_rfl) ?_ _
      clear hHeld
      have hba : Below w6.heap.size w6 (w6.alloc (Obj.cells #[.slice Ab nb cb, .slice A0 N c0, .slice A6 (N + nb) c6, .slice A0 q c0] 22)) := (Below.refl _ _).alloc (Nat.le_refl _) _
      have hT : Seen (w6.alloc (Obj.cells #[.slice Ab nb cb, .slice A0 N c0, .slice A6 (N + nb) c6, .slice A0 q c0] 22)) w6.heap.size 4 := fun j hj => by
        have hx0 := ((HRXd.out.below HX6.out.2 (Nat.le_refl _)).more HX6.out.2.size)
        have hb0 := ((HRWd.out.below HX6.out.2 (Nat.le_refl _)).more HX6.out.2.size)
        match j, hj with
        | 0, _ => exact ⟨Ab, nb, cb, bs, (Whole.made w6 22 _).at_ rfl, hbc, by omega, (hb0.below hba (Nat.le_refl _)).more hba.size⟩
        | 1, _ => exact ⟨A0, N, c0, _, (Whole.made w6 22 _).at_ rfl, hc0, by omega, (hx0.below hba (Nat.le_refl _)).more hba.size⟩
        | 2, _ => exact ⟨A6, N + nb, c6, _, (Whole.made w6 22 _).at_ rfl, hc6, by omega, (HX6.out.1.below hba (Nat.le_refl _)).more hba.size⟩
        | 3, _ => exact ⟨A0, q, c0, _, (Whole.made w6 22 _).at_ rfl, by omega, by omega, ((hx0.head q hqn).below hba (Nat.le_refl _)).more hba.size⟩
      have hg7 : w6.heap.size < (w6.alloc (Obj.cells #[.slice Ab nb cb, .slice A0 N c0, .slice A6 (N + nb) c6, .slice A0 q c0] 22)).heap.size := by rw [size_alloc]; omega
      have HT := Lib.hid hT
      have HB7 := Lib.hid ((HBd.out.trans (HX6.out.2.mono hwsd)).trans (hba.mono (Nat.le_trans hwsd hws6)))
      clear hT hba HX6 HRXd HRWd HBd HRX HRW HO HB HR HRB
      generalize w6.alloc (Obj.cells #[.slice Ab nb cb, .slice A0 N c0, .slice A6 (N + nb) c6, .slice A0 q c0] 22) = w7 at *
      generalize w6.heap.size = g at *
      go_wp2_with fail
      go_loopw [74] (fun i wx => ∃ j : Nat, j ≤ 4 ∧ i = .int .i64 j ∧ Below w7.heap.size w7 wx) (fun i _ => 4 - (intOf i).toNat)
      case atStart => exact ⟨0, by omega, rfl, Below.refl _ _⟩
      case round =>
        obtain ⟨j, hj, rfl, hbl⟩ := hrel
        have HBL := Lib.hid hbl
        clear hbl
        by_cases hj2 : j < 4
        · obtain ⟨Az, nz, cz, zs, hcell, hzc, hz6, hrz⟩ := HT.out j hj2
          have hcell' := (HBL.out.cell (p := ⟨g, j, none⟩) hg7).trans hcell
          have HRZ := Lib.hid ((hrz.below HBL.out (Nat.le_refl _)).more HBL.out.size)
          clear hcell hrz
          obtain ⟨⟨code, l⟩, hR⟩ : ∃ r, Tlv.parse zs = r := ⟨_, rfl⟩
          have HRR := Lib.hid hR
          clear hR
          go_wp2_with fail
          have hp := parse_any Az nz cz zs wr HRZ.out hzc hz6
          rw [HRR.out] at hp
          have HPP := Lib.hid hp
          clear hp
          refine HPP.out.mono ?_
          rintro e w8 ⟨A8, n8, c8, rfl, hr8, _, hb8⟩
          have hr8 : FRd w8 w8.heap.size A8 n8 l := hr8
          have HRZ8 := Lib.hid ((HRZ.out.below hb8 (Nat.le_refl _)).more hb8.size)
          have HR8 := Lib.hid hr8
          have HB8 := Lib.hid (HBL.out.trans (hb8.mono HBL.out.size))
          clear hr8 hb8 HPP hcell'
          go_wp2_with fail
          have hp := refParse_any Az nz cz zs w8 HRZ8.out hzc hz6
          rw [HRR.out] at hp
          have HPP := Lib.hid hp
          clear hp
          refine HPP.out.mono ?_
          rintro e w9 ⟨A9, n9, c9, rfl, hr9, _, hb9⟩
          have hr9 : FRd w9 w9.heap.size A9 n9 l := hr9
          have HR89 := Lib.hid (HR8.out.below hb9 (Nat.le_refl _))
          have HR9 := Lib.hid hr9
          have HB9 := Lib.hid (HB8.out.trans (hb9.mono HB8.out.size))
          have hn8 : n8 ≤ 9223372036854775807 := by
            have h1 := HR8.out.len
            have h2 := fields_len HRZ8.out.len HRR.out
            omega
          clear hr9 hb9 HPP
          go_wp2_with fail
          refine (sameFields_any A8 n8 c8 A9 n9 c9 l w9 _ _ HR89.out HR9.out hn8).mono ?_
          rintro e w10 ⟨rfl, d, rfl⟩
          go_wp2_with fail
          go_roundw
          case rel => exact ⟨j + 1, by omega, by go_num, below_drewN HB9.out d⟩
          case measure => simp [intOf]; omega
        · obtain rfl : j = 4 := by omega
          have HBE := Lib.hid (HB7.out.trans (HBL.out.mono HB7.out.size))
          go_wp2_with fail
          go_ret
          exact ⟨rfl, HBE.out⟩
end Go.Proofs.Ytlbpkgjngolfkaa
