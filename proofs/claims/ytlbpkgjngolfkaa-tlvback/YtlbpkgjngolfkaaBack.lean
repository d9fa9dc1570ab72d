/-
  What the statement's function TlvBack returns: true, whatever fields come in; conditions: they are read. It only makes memory of its own.
-/
import Derived.Test.YtlbpkgjngolfkaaAwake
import Derived.Test.YtlbpkgjngolfkaaParse
import Derived.Test.YtlbpkgjngolfkaaSame
namespace Go.Proofs.Ytlbpkgjngolfkaa
open Go.RowKit

/-- All tags so far are below T. -/
def under (W : List (UInt8 × List UInt8)) (T : Nat) : Prop := ∀ f, W.getLast? = some f → f.1.toNat < T
theorem under_rises {W : List (UInt8 × List UInt8)} {T : Nat} (h : under W T) (t : UInt8) (ht : T ≤ t.toNat) : Tlv.rises W t = true := by
  unfold Tlv.rises
  cases hW : W.getLast? with
  | none => rfl
  | some f => have := h f hW; simp; omega
theorem under_more {W : List (UInt8 × List UInt8)} {T T' : Nat} (h : under W T) (hT : T ≤ T') : under W T' := fun f hf => Nat.lt_of_lt_of_le (h f hf) hT
theorem under_snoc (W : List (UInt8 × List UInt8)) (t : UInt8) (v : List UInt8) (T : Nat) (h : t.toNat < T) : under (W ++ [(t, v)]) T := fun f hf => by
  simp at hf; subst hf; exact h

/-- How it stands behind k fields: the bytes, the fields that were put. -/
structure BRel (w : World) (W : List (UInt8 × List UInt8)) (T : Nat) (b f : Value) (nb kf : Nat) (xs : List Value) (wx : World) : Prop where
  rd : ∃ A c, b = .slice A nb c ∧ nb ≤ c ∧ RdX wx wx.heap.size f.ownBlock A nb (Tlv.body W)
  len : W.length = kf
  own : wx.ownsRow w.heap.size 39 2 f kf xs
  cells : FCells wx f.ownBlock xs W
  fine : Tlv.fine [] W
  last : under W T
  bel : Below w.heap.size w wx

theorem brel_below {w wx w' : World} {W : List (UInt8 × List UInt8)} {T nb kf : Nat} {b f : Value} {xs : List Value} (h : BRel w W T b f nb kf xs wx) (hb : Below wx.heap.size wx w') : BRel w W T b f nb kf xs w' := by
  obtain ⟨A, c, e, hc, hr⟩ := h.rd
  exact ⟨⟨A, c, e, hc, (hr.below hb (Nat.le_refl _)).more hb.size⟩, h.len, own_below h.own hb, h.cells.below hb, h.fine, h.last, h.bel.trans (hb.mono h.bel.size)⟩

theorem BRel.rd_of {w wx : World} {W : List (UInt8 × List UInt8)} {T nb kf : Nat} {b f : Value} {xs : List Value} (h : BRel w W T b f nb kf xs wx) {A : Option Addr} {n c : Nat} (e : b = .slice A n c) : Rd wx wx.heap.size A n (Tlv.body W) := by
  obtain ⟨A', c', e', _, hr⟩ := h.rd
  rw [e'] at e
  injection e with e1 e2 _
  subst e1 e2
  exact hr.1

def BackRel (w : World) (n : Nat) (i b f : Value) (wx : World) : Prop :=
  ∃ (k : Nat) (W : List (UInt8 × List UInt8)) (nb kf : Nat) (xs : List Value), k ≤ n ∧ k ≤ 100 ∧ kf ≤ k ∧ nb ≤ 303 * k ∧ i = .int .i64 k ∧ BRel w W (2 * k) b f nb kf xs wx

set_option maxRecDepth 100000 in
set_option maxHeartbeats 1000000 in
theorem back_any (A : Option Addr) (n c : Nat) (fs : List (UInt8 × List UInt8)) (w : World) (hr : FRd w w.heap.size A n fs) (_hnc : n ≤ c) (hn : n ≤ 9223372036854775807) :
    Calls Try.prog 7 #[.slice A n c] w fun e w' => e = .returned (.bool true) ∧ Below w.heap.size w w' := by
  have HR := Lib.hid hr
  clear hr
  go_enter Try.func7, Try.ntmps7
  go_wp2_with fail
  refine (awake_any w).mono ?_
  rintro e w1 ⟨rfl, hb1⟩
  have HB1 := Lib.hid hb1
  clear hb1
  go_wp2_with fail
  go_loopw [15, 3, 4] (fun i b f wx => BackRel w n i b f wx) (fun i _ _ _ => n - (intOf i).toNat)
  case atStart =>
    exact ⟨0, [], 0, 0, [], by omega, by omega, by omega, by omega, rfl, ⟨none, 0, rfl, Nat.le_refl _, Rd.nil, fun _ _ h => by cases h⟩, rfl, World.ownsRow_nil _ _ _ _, FCells.nil, trivial, fun f h => by simp at h, HB1.out⟩
  case round =>
    clear HB1
    obtain ⟨k, W, nb, kf, xs, hk, hk100, hkf, hnb, rfl, hrel⟩ := hrel
    obtain ⟨Ab, cb, rfl, hcb, hrb⟩ := hrel.rd
    obtain ⟨A4, c4, rfl, hc4, hm4⟩ := own_form hrel.own
    have HREL := Lib.hid hrel
    have HRB := Lib.hid hrb
    clear hrel hrb
    by_cases hlt : k < n
    · obtain ⟨f, hf⟩ : ∃ f, fs[k]? = some f := ⟨fs[k]'(by rw [HR.out.len]; exact hlt), List.getElem?_eq_getElem _⟩
      obtain ⟨b1, o1, Av, nv, cv, rfl, hb1, t1, s1, hnc1, hnv, r1⟩ := HR.out.at_ hf
      rw [Nat.mul_comm 2 k] at t1 s1
      rw [← Nat.add_assoc] at s1
      have t1' := (HREL.out.bel.cell (p := ⟨b1, o1 + k * 2, none⟩) hb1).trans t1
      have s1' := (HREL.out.bel.cell (p := ⟨b1, o1 + k * 2 + 1, none⟩) hb1).trans s1
      have R1 := Lib.hid (r1.below HREL.out.bel (Nat.le_refl _))
      clear t1 s1 r1 hf
      by_cases h100 : 100 ≤ k
      · have q1 : decide (100 ≤ (k : Int)) = true := by simp; omega
        go_wp2_with fail
        have hx := brel_below HREL.out ((Below.refl _ _).alloc (Nat.le_refl _) (Obj.cells #[.int .u8 f.1.toNat, .slice Av nv cv] 39))
        have hp := parse_any Ab nb cb (Tlv.body W) _ (hx.rd_of rfl) hcb (by omega)
        rw [Tlv.parse_body W hx.fine] at hp
        have hl := hx.len
        have HXX := Lib.hid hx
        have HLL := Lib.hid hl
        clear hx hl
        refine hp.mono ?_
        rintro e w5 ⟨A5, n5, c5, rfl, hr5, _, hb5⟩
        have hw5 := (HXX.out.cells.below hb5).rd (own_below HXX.out.own hb5)
        have hn5 : n5 ≤ 9223372036854775807 := by rw [← hr5.len, HLL.out]; omega
        have HH := Lib.hid (And.intro hr5 (And.intro hw5 (HXX.out.bel.trans (hb5.mono HXX.out.bel.size))))
        clear hp hr5 hw5 hb5 HXX HLL
        go_wp2_with fail
        refine (sameFields_any A5 n5 c5 A4 kf c4 W w5 _ _ HH.out.1 HH.out.2.1 hn5).mono ?_
        rintro e w6 ⟨rfl, d, rfl⟩
        go_wp2_with fail
        go_ret
        exact ⟨rfl, below_drewN HH.out.2.2 _⟩
      · have q1 : decide (100 ≤ (k : Int)) = false := by simp; omega
        by_cases h300 : 300 < nv
        · have q2 : decide (300 < (nv : Int)) = true := by simp; omega
          go_wp2_with fail
          have hx := brel_below HREL.out ((Below.refl _ _).alloc (Nat.le_refl _) (Obj.cells #[.int .u8 f.1.toNat, .slice Av nv cv] 39))
          have hp := parse_any Ab nb cb (Tlv.body W) _ (hx.rd_of rfl) hcb (by omega)
          rw [Tlv.parse_body W hx.fine] at hp
          have hl := hx.len
          have HXX := Lib.hid hx
          have HLL := Lib.hid hl
          clear hx hl
          refine hp.mono ?_
          rintro e w5 ⟨A5, n5, c5, rfl, hr5, _, hb5⟩
          have hw5 := (HXX.out.cells.below hb5).rd (own_below HXX.out.own hb5)
          have hn5 : n5 ≤ 9223372036854775807 := by rw [← hr5.len, HLL.out]; omega
          have HH := Lib.hid (And.intro hr5 (And.intro hw5 (HXX.out.bel.trans (hb5.mono HXX.out.bel.size))))
          clear hp hr5 hw5 hb5 HXX HLL
          go_wp2_with fail
          refine (sameFields_any A5 n5 c5 A4 kf c4 W w5 _ _ HH.out.1 HH.out.2.1 hn5).mono ?_
          rintro e w6 ⟨rfl, d, rfl⟩
          go_wp2_with fail
          go_ret
          exact ⟨rfl, below_drewN HH.out.2.2 _⟩
        · have q2 : decide (300 < (nv : Int)) = false := by simp; omega
          go_wp2_with fail
          have hx := brel_below HREL.out ((Below.refl _ _).alloc (Nat.le_refl _) (Obj.cells #[.int .u8 f.1.toNat, .slice Av nv cv] 39))
          have htag : (2 * (k : Int) + 1) = ((UInt8.ofNat (2 * k + 1)).toNat : Int) := by rw [UInt8.toNat_ofNat']; omega
          have hr1x : Rd (wr.alloc (Obj.cells #[.int .u8 f.1.toNat, .slice Av nv cv] 39)) (wr.alloc (Obj.cells #[.int .u8 f.1.toNat, .slice Av nv cv] 39)).heap.size Av nv f.2 :=
            (R1.out.below ((Below.refl _ _).alloc (Nat.le_refl _) _) (HREL.out.bel.size)).more (by have := HREL.out.bel.size; rw [size_alloc]; omega)
          have hp := put_int Ab nb cb (Tlv.body W) _ _ htag Av nv cv f.2 _ (hx.rd_of rfl) hr1x (by omega) (by omega)
          have HXX := Lib.hid hx
          have HTAG : Hid ((UInt8.ofNat (2 * k + 1)).toNat = 2 * k + 1) := Lib.hid (by omega)
          clear hx htag
          have HP := Lib.hid hp
          clear hp
          refine HP.out.mono ?_
          rintro e w5 ⟨A5, n5, c5, rfl, hr5, hc5, hnew, hb5⟩
          have hx5 := brel_below HXX.out hb5
          have hrx := rdx_new HXX.out.own hr5 hnew
          have hR1 : Rd w5 w.heap.size Av nv f.2 := (R1.out.below ((Below.refl _ _).alloc (Nat.le_refl _) _) (HREL.out.bel.size)).below hb5 (by have := HREL.out.bel.size; rw [size_alloc]; omega)
          have hl5 := hr5.len
          have hpl := Tlv.put_length (Tlv.body W) (UInt8.ofNat (2 * k + 1)) f.2
          have hbl : (Tlv.body W).length = nb := HRB.out.1.len
          have hfl := R1.out.len
          rw [hl5, hbl, hfl] at hpl
          have hnew5 : w5.cell? ⟨wr.heap.size, 1, none⟩ = some (.slice Av nv cv) :=
            (hb5.cell (p := ⟨wr.heap.size, 1, none⟩) (by rw [size_alloc]; exact Nat.lt_succ_self _)).trans ((Whole.made wr 39 _).at_ rfl)
          have HX5 := Lib.hid hx5
          have HRX := Lib.hid hrx
          have HR1 := Lib.hid hR1
          have hfine := hx5.fine
          have HFINE := Lib.hid hfine
          have hws5 : w.heap.size ≤ w5.heap.size := hx5.bel.size
          have HFL := Lib.hid hfl
          clear hx5 hrx hR1 hr5 hb5 hnew hl5 hbl hfl HXX HRB HP hfine R1
          rcases Nat.eq_zero_or_pos nv with h0 | h0
          · subst h0
            have hv : f.2 = [] := List.eq_nil_of_length_eq_zero HFL.out
            have HRX' := HRX.out
            rw [hv, Tlv.put_nil] at HRX'
            have HRY := Lib.hid HRX'
            clear HRX' HRX hv
            go_wp2_with fail
            go_roundw
            case rel =>
              exact ⟨k + 1, W, n5, kf, xs, by omega, by omega, by omega, by omega, by go_num, ⟨A5, c5, rfl, hc5, HRY.out⟩, HX5.out.len, HX5.out.own, HX5.out.cells, HFINE.out, under_more HX5.out.last (by omega), HX5.out.bel⟩
            case measure => simp [intOf]; omega
          · have hv : f.2 ≠ [] := fun e => by have := HFL.out; rw [e] at this; simp at this; omega
            have HRX' := HRX.out
            rw [Tlv.put_body W _ _ hv] at HRX'
            have HRY := Lib.hid HRX'
            have HV := Lib.hid hv
            clear HRX' HRX hv
            have q3 : decide (0 < (nv : Int)) = true := by simp; omega
            go_upto_region 14 with (fail)
            refine wp_region_lit ?_
            iterate 27 go_step
            refine wpList_append_one rfl (.tmp 46) (.tmp 54) 37 39 _ 2 32 rfl Try.underlying37 info39 rfl (by omega) w.heap.size _ kf xs rfl #[.int .u8 (2 * (k : Int) + 1), .slice Av nv cv] rfl HX5.out.own rfl (by simp [Value.oneCell']) (by unfold maxLen; omega) (by omega) hws5 ?_
            intro v7 w7 hown7 hg7 hat7
            have hcl7 := fcells_step HX5.out.cells (UInt8.ofNat (2 * k + 1), f.2) Av nv cv hnc1 hnv (rdx_old HX5.out.own HR1.out hws5) _ hg7 hat7
            have hbw7 : Below w.heap.size w w7 := (HX5.out.bel.alloc hws5 _).grown hg7 (by rw [size_alloc]; omega) (fun i hi => (HX5.out.own.lt i hi).1)
            have hry7 := ((HRY.out.below ((Below.refl _ _).alloc (Nat.le_refl _) _) (Nat.le_refl _)).more (by rw [size_alloc]; omega)).grown hg7 (Nat.le_refl _) (row' := v7.ownBlock) (by rw [size_alloc]; exact hat7)
            have hry8 := hry7.more hg7.size
            have hvv : V8 (UInt8.ofNat (2 * k + 1)) = .int .u8 (2 * (k : Int) + 1) := by
              unfold V8
              rw [HTAG.out]
              congr 1
            rw [show xs ++ #[Value.int .u8 (2 * (k : Int) + 1), .slice Av nv cv].toList = xs ++ [V8 (UInt8.ofNat (2 * k + 1)), .slice Av nv cv] by rw [hvv]] at hown7
            have HN := Lib.hid (And.intro hown7 (And.intro hcl7 (And.intro hbw7 hry8)))
            clear hown7 hg7 hat7 hcl7 hbw7 hry7 hry8 hvv
            go_simp
            go_wp2_with fail
            go_roundw
            case rel =>
              refine ⟨k + 1, W ++ [(UInt8.ofNat (2 * k + 1), f.2)], n5, kf + 1, _, by omega, by omega, by omega, by omega, by go_num, ⟨A5, c5, rfl, hc5, HN.out.2.2.2⟩, by rw [List.length_append, HX5.out.len]; rfl, HN.out.1, HN.out.2.1, ?_, ?_, HN.out.2.2.1⟩
              · rw [Tlv.fine_snoc]
                exact ⟨HFINE.out, HV.out, by rw [HFL.out]; omega, by rw [List.nil_append]; exact under_rises HX5.out.last _ (by rw [HTAG.out]; omega)⟩
              · exact under_snoc _ _ _ _ (by rw [HTAG.out]; omega)
            case measure => simp [intOf]; omega
    · obtain rfl : k = n := by omega
      go_wp2_with fail
      have hx := HREL.out
      have hp := parse_any Ab nb cb (Tlv.body W) _ (hx.rd_of rfl) hcb (by omega)
      rw [Tlv.parse_body W hx.fine] at hp
      have hl := hx.len
      have HXX := Lib.hid hx
      have HLL := Lib.hid hl
      clear hx hl
      refine hp.mono ?_
      rintro e w5 ⟨A5, n5, c5, rfl, hr5, _, hb5⟩
      have hw5 := (HXX.out.cells.below hb5).rd (own_below HXX.out.own hb5)
      have hn5 : n5 ≤ 9223372036854775807 := by rw [← hr5.len, HLL.out]; omega
      have HH := Lib.hid (And.intro hr5 (And.intro hw5 (HXX.out.bel.trans (hb5.mono HXX.out.bel.size))))
      clear hp hr5 hw5 hb5 HXX HLL
      go_wp2_with fail
      refine (sameFields_any A5 n5 c5 A4 kf c4 W w5 _ _ HH.out.1 HH.out.2.1 hn5).mono ?_
      rintro e w6 ⟨rfl, d, rfl⟩
      go_wp2_with fail
      go_ret
      exact ⟨rfl, below_drewN HH.out.2.2 _⟩
end Go.Proofs.Ytlbpkgjngolfkaa
