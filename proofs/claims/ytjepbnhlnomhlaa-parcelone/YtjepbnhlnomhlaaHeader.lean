/-
  What parcel.Header returns: the header's fields one behind the other; conditions: its numbers have 64 bits, its sums 32 bytes. It only makes memory of its own.
-/
import Derived.Test.YtjepbnhlnomhlaaHash
import Derived.Test.YtjepbnhlnomhlaaRound
namespace Go.Proofs.Ytjepbnhlnomhlaa
open Go.RowKit

/-- A header as a value. -/
def hlist (ht tm : Nat) (r v x y : List UInt8) : List Value := .int .u64 ht :: .int .u64 tm :: (r.map V8 ++ (v.map V8 ++ (x.map V8 ++ y.map V8)))
def hcells (ht tm : Nat) (r v x y : List UInt8) : Array Value := (hlist ht tm r v x y).toArray
theorem info31 : (Try.prog.info? 31).map (·.size) = some 130 := by kernel_rfl
theorem hcells_size (ht tm : Nat) (r v x y : List UInt8) (h1 : r.length = 32) (h2 : v.length = 32) (h3 : x.length = 32) (h4 : y.length = 32) : (hcells ht tm r v x y).size = 130 := by
  simp [hcells, hlist, h1, h2, h3, h4]
theorem hcells_one (ht tm : Nat) (r v x y : List UInt8) : (hcells ht tm r v x y).all (·.oneCell') = true := by
  simp only [hcells, hlist]
  simp [V8, Value.oneCell']
theorem Whole.midrange {w : World} {g : Nat} {t : TypeId} {pre mid post : List Value} (h : Whole w g t (pre ++ (mid ++ post)).toArray) (o : Nat) (ho : pre.length = o) : w.rangeAt g o mid := fun j u hu => by
  refine h.at_ ?_
  rw [List.getElem?_toArray, List.getElem?_append_right (by omega), ← ho, Nat.add_sub_cancel_left, List.getElem?_append_left (List.getElem?_eq_some_iff.1 hu).1]
  exact hu
theorem hl2 (ht tm : Nat) (r v x y : List UInt8) : hlist ht tm r v x y = [.int .u64 ht, .int .u64 tm] ++ (r.map V8 ++ (v.map V8 ++ (x.map V8 ++ y.map V8))) := rfl
theorem hl34 (ht tm : Nat) (r v x y : List UInt8) : hlist ht tm r v x y = ([.int .u64 ht, .int .u64 tm] ++ r.map V8) ++ (v.map V8 ++ (x.map V8 ++ y.map V8)) := by simp [hlist]
theorem hl66 (ht tm : Nat) (r v x y : List UInt8) : hlist ht tm r v x y = ([.int .u64 ht, .int .u64 tm] ++ (r.map V8 ++ v.map V8)) ++ (x.map V8 ++ y.map V8) := by simp [hlist]
theorem hl98 (ht tm : Nat) (r v x y : List UInt8) : hlist ht tm r v x y = ([.int .u64 ht, .int .u64 tm] ++ (r.map V8 ++ (v.map V8 ++ x.map V8))) ++ (y.map V8 ++ []) := by simp [hlist]
/-- What the block of a boxed header says of its cells. -/
structure HBox (w : World) (g : Nat) (ht tm : Nat) (r v x y : List UInt8) : Prop where
  c0 : w.cell? ⟨g, 0, none⟩ = some (.int .u64 ht)
  c1 : w.cell? ⟨g, 1, none⟩ = some (.int .u64 tm)
  c2 : w.rangeAt g 2 (r.map V8)
  c3 : w.rangeAt g 34 (v.map V8)
  c4 : w.rangeAt g 66 (x.map V8)
  c5 : w.rangeAt g 98 (y.map V8)
theorem hbox {w : World} {g ht tm : Nat} {r v x y : List UInt8} (h : Whole w g 31 (hcells ht tm r v x y)) (h1 : r.length = 32) (h2 : v.length = 32) (h3 : x.length = 32) : HBox w g ht tm r v x y := by
  have e2 := h
  have e3 := h
  have e4 := h
  have e5 := h
  unfold hcells at e2 e3 e4 e5
  rw [hl2] at e2
  rw [hl34] at e3
  rw [hl66] at e4
  rw [hl98] at e5
  exact ⟨h.at_ rfl, h.at_ rfl, e2.midrange 2 rfl, e3.midrange 34 (by simp [h1]), e4.midrange 66 (by simp [h1, h2]), e5.midrange 98 (by simp [h1, h2, h3])⟩

theorem putSum_length (b : List UInt8) (t : UInt8) (h : List UInt8) (n k : Nat) (hb : b.length ≤ n) (hh : h.length = 32) (hk : n + 65538 = k) : (Tlv.putSum b t h).length ≤ k := by
  unfold Tlv.putSum
  split
  · omega
  · exact put_len hb (by omega) hk

set_option maxRecDepth 100000 in
set_option maxHeartbeats 1000000 in
theorem header_any (ht tm : Nat) (r v x y : List UInt8) (w : World) (hht : ht < 18446744073709551616) (htm : tm < 18446744073709551616) (h1 : r.length = 32) (h2 : v.length = 32) (h3 : x.length = 32) (h4 : y.length = 32) :
    Calls Try.prog 9 #[.agg (hcells ht tm r v x y)] w (BytesPost w (Tlv.Hd.bytes ⟨ht, tm, r, v, x, y⟩)) := by
  have hw := Whole.made w 31 (hcells ht tm r v x y)
  have hb : Below w.heap.size w (w.alloc (.cells (hcells ht tm r v x y) 31)) := (Below.refl _ _).alloc (Nat.le_refl _) _
  have HB0 := Lib.hid hb
  have HW0 := Lib.hid hw
  have hs1 : w.heap.size < (w.alloc (.cells (hcells ht tm r v x y) 31)).heap.size := by simp
  have HL := Lib.hid (And.intro h1 (And.intro h2 (And.intro h3 h4)))
  clear hb hw h1 h2 h3 h4
  go_enter Try.func9, Try.ntmps9
  go_upto_region 2 with (fail)
  generalize w.alloc (.cells (hcells ht tm r v x y) 31) = w1 at *
  obtain ⟨g, hg⟩ : ∃ g, w.heap.size = g := ⟨_, rfl⟩
  rw [hg] at HB0 HW0 hs1 ⊢
  have HG := Lib.hid hg
  clear hg
  have hr0 : Rd w1 w1.heap.size none 0 [] := Rd.nil
  have HR0 := Lib.hid hr0
  have HLEN0 : Hid (([] : List UInt8).length ≤ 0) := Lib.hid (Nat.le_refl _)
  clear hr0
  have cc := (hbox HW0.out HL.out.1 HL.out.2.1 HL.out.2.2.1).c0
  have HP := Lib.hid (putNumber_any none 0 0 [] 1 1 (by decide) ht hht w1 HR0.out (by omega))
  go_wp2_with fail
  refine HP.out.mono ?_
  rintro e w2 ⟨A1, n1, k1, rfl, hr, hc1, hb⟩
  have HB1 := Lib.hid (HB0.out.trans (hb.mono (Nat.le_of_lt hs1)))
  have HW1 := Lib.hid (HW0.out.below hb hs1)
  have hs2 : g < w2.heap.size := Nat.lt_of_lt_of_le hs1 hb.size
  have HR1 := Lib.hid hr
  have HLEN1 : Hid ((Tlv.put [] 1 (Tlv.num ht)).length ≤ 65538) := Lib.hid (put_len HLEN0.out (num_len hht) rfl)
  clear hr hb HP HW0 HB0 HR0 HLEN0 hs1 cc
  have hn1 : n1 ≤ 65538 := by rw [← HR1.out.len]; exact HLEN1.out
  have cc := (hbox HW1.out HL.out.1 HL.out.2.1 HL.out.2.2.1).c1
  have HP := Lib.hid (putNumber_any A1 n1 k1 (Tlv.put [] 1 (Tlv.num ht)) 2 2 (by decide) tm htm w2 HR1.out (by omega))
  go_wp2_with fail
  refine HP.out.mono ?_
  rintro e w3 ⟨A2, n2, k2, rfl, hr, hc2, hb⟩
  have HB2 := Lib.hid (HB1.out.trans (hb.mono (Nat.le_of_lt hs2)))
  have HW2 := Lib.hid (HW1.out.below hb hs2)
  have hs3 : g < w3.heap.size := Nat.lt_of_lt_of_le hs2 hb.size
  have HR2 := Lib.hid hr
  have HLEN2 : Hid ((Tlv.put (Tlv.put [] 1 (Tlv.num ht)) 2 (Tlv.num tm)).length ≤ 131076) := Lib.hid (put_len HLEN1.out (num_len htm) rfl)
  clear hr hb HP HW1 HB1 HR1 HLEN1 hs2 hn1 hc1 cc
  have hn2 : n2 ≤ 131076 := by rw [← HR2.out.len]; exact HLEN2.out
  have HC := Lib.hid ((hbox HW2.out HL.out.1 HL.out.2.1 HL.out.2.2.1).c2)
  have HP := Lib.hid (putSum_any A2 n2 k2 (Tlv.put (Tlv.put [] 1 (Tlv.num ht)) 2 (Tlv.num tm)) 3 3 (by decide) r HL.out.1 w3 HR2.out hc2 (by omega))
  go_upto_region 4 with (fail)
  refine wp_region_lit ?_
  iterate 6 go_step
  refine wpList_load_mid rfl 29 (.tmp 13) rfl g 2 rfl (r.map V8) _ HC.out Try.underlying29 rfl (by rw [List.length_map, HL.out.1]; exact info29) ?_
  rw [show (r.map V8).toArray = bcells r from rfl]
  generalize hX : bcells r = X at *
  go_simp
  go_wp2_with fail
  refine HP.out.mono ?_
  rintro e w4 ⟨A3, n3, k3, rfl, hr, hc3, hb⟩
  have HB3 := Lib.hid (HB2.out.trans (hb.mono (Nat.le_of_lt hs3)))
  have HW3 := Lib.hid (HW2.out.below hb hs3)
  have hs4 : g < w4.heap.size := Nat.lt_of_lt_of_le hs3 hb.size
  have HR3 := Lib.hid hr
  have HLEN3 : Hid ((Tlv.putSum (Tlv.put (Tlv.put [] 1 (Tlv.num ht)) 2 (Tlv.num tm)) 3 r).length ≤ 196614) := Lib.hid (putSum_length _ _ _ _ _ HLEN2.out HL.out.1 rfl)
  clear hr hb HP HW2 HB2 HR2 HLEN2 hs3 hn2 hc2 HC hX
  have hn3 : n3 ≤ 196614 := by rw [← HR3.out.len]; exact HLEN3.out
  have HC := Lib.hid ((hbox HW3.out HL.out.1 HL.out.2.1 HL.out.2.2.1).c3)
  have HP := Lib.hid (putSum_any A3 n3 k3 (Tlv.putSum (Tlv.put (Tlv.put [] 1 (Tlv.num ht)) 2 (Tlv.num tm)) 3 r) 4 4 (by decide) v HL.out.2.1 w4 HR3.out hc3 (by omega))
  go_upto_region 5 with (fail)
  refine wp_region_lit ?_
  iterate 6 go_step
  refine wpList_load_mid rfl 29 (.tmp 17) rfl g 34 rfl (v.map V8) _ HC.out Try.underlying29 rfl (by rw [List.length_map, HL.out.2.1]; exact info29) ?_
  rw [show (v.map V8).toArray = bcells v from rfl]
  generalize hX : bcells v = X at *
  go_simp
  go_wp2_with fail
  refine HP.out.mono ?_
  rintro e w5 ⟨A4, n4, k4, rfl, hr, hc4, hb⟩
  have HB4 := Lib.hid (HB3.out.trans (hb.mono (Nat.le_of_lt hs4)))
  have HW4 := Lib.hid (HW3.out.below hb hs4)
  have hs5 : g < w5.heap.size := Nat.lt_of_lt_of_le hs4 hb.size
  have HR4 := Lib.hid hr
  have HLEN4 : Hid ((Tlv.putSum (Tlv.putSum (Tlv.put (Tlv.put [] 1 (Tlv.num ht)) 2 (Tlv.num tm)) 3 r) 4 v).length ≤ 262152) := Lib.hid (putSum_length _ _ _ _ _ HLEN3.out HL.out.2.1 rfl)
  clear hr hb HP HW3 HB3 HR3 HLEN3 hs4 hn3 hc3 HC hX
  have hn4 : n4 ≤ 262152 := by rw [← HR4.out.len]; exact HLEN4.out
  have HC := Lib.hid ((hbox HW4.out HL.out.1 HL.out.2.1 HL.out.2.2.1).c4)
  have HP := Lib.hid (putSum_any A4 n4 k4 (Tlv.putSum (Tlv.putSum (Tlv.put (Tlv.put [] 1 (Tlv.num ht)) 2 (Tlv.num tm)) 3 r) 4 v) 5 5 (by decide) x HL.out.2.2.1 w5 HR4.out hc4 (by omega))
  go_upto_region 6 with (fail)
  refine wp_region_lit ?_
  iterate 6 go_step
  refine wpList_load_mid rfl 29 (.tmp 21) rfl g 66 rfl (x.map V8) _ HC.out Try.underlying29 rfl (by rw [List.length_map, HL.out.2.2.1]; exact info29) ?_
  rw [show (x.map V8).toArray = bcells x from rfl]
  generalize hX : bcells x = X at *
  go_simp
  go_wp2_with fail
  refine HP.out.mono ?_
  rintro e w6 ⟨A5, n5, k5, rfl, hr, hc5, hb⟩
  have HB5 := Lib.hid (HB4.out.trans (hb.mono (Nat.le_of_lt hs5)))
  have HW5 := Lib.hid (HW4.out.below hb hs5)
  have hs6 : g < w6.heap.size := Nat.lt_of_lt_of_le hs5 hb.size
  have HR5 := Lib.hid hr
  have HLEN5 : Hid ((Tlv.putSum (Tlv.putSum (Tlv.putSum (Tlv.put (Tlv.put [] 1 (Tlv.num ht)) 2 (Tlv.num tm)) 3 r) 4 v) 5 x).length ≤ 327690) := Lib.hid (putSum_length _ _ _ _ _ HLEN4.out HL.out.2.2.1 rfl)
  clear hr hb HP HW4 HB4 HR4 HLEN4 hs5 hn4 hc4 HC hX
  have hn5 : n5 ≤ 327690 := by rw [← HR5.out.len]; exact HLEN5.out
  have HC := Lib.hid ((hbox HW5.out HL.out.1 HL.out.2.1 HL.out.2.2.1).c5)
  have HP := Lib.hid (putSum_any A5 n5 k5 (Tlv.putSum (Tlv.putSum (Tlv.putSum (Tlv.put (Tlv.put [] 1 (Tlv.num ht)) 2 (Tlv.num tm)) 3 r) 4 v) 5 x) 6 6 (by decide) y HL.out.2.2.2 w6 HR5.out hc5 (by omega))
  go_upto_region 7 with (fail)
  refine wp_region_lit ?_
  iterate 6 go_step
  refine wpList_load_mid rfl 29 (.tmp 25) rfl g 98 rfl (y.map V8) _ HC.out Try.underlying29 rfl (by rw [List.length_map, HL.out.2.2.2]; exact info29) ?_
  rw [show (y.map V8).toArray = bcells y from rfl]
  generalize hX : bcells y = X at *
  go_simp
  go_wp2_with fail
  refine HP.out.mono ?_
  rintro e w7 ⟨A6, n6, k6, rfl, hr, hc6, hb⟩
  have HB6 := Lib.hid (HB5.out.trans (hb.mono (Nat.le_of_lt hs6)))
  have HW6 := Lib.hid (HW5.out.below hb hs6)
  have hs7 : g < w7.heap.size := Nat.lt_of_lt_of_le hs6 hb.size
  have HR6 := Lib.hid hr
  have HLEN6 : Hid ((Tlv.putSum (Tlv.putSum (Tlv.putSum (Tlv.putSum (Tlv.put (Tlv.put [] 1 (Tlv.num ht)) 2 (Tlv.num tm)) 3 r) 4 v) 5 x) 6 y).length ≤ 393228) := Lib.hid (putSum_length _ _ _ _ _ HLEN5.out HL.out.2.2.2 rfl)
  clear hr hb HP HW5 HB5 HR5 HLEN5 hs6 hn5 hc5 HC hX
  go_wp2_with fail
  go_ret
  exact ⟨A6, n6, k6, rfl, HR6.out, hc6, by rw [HG.out]; exact HB6.out⟩
end Go.Proofs.Ytjepbnhlnomhlaa
