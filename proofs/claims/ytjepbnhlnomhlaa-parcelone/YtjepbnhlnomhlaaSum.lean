/-
  What the method sum of parcel's reader does; conditions: the reader lies whole in a block of its own, its fields in blocks ahead of it. Of what was there it turns that block alone.
-/
import Derived.Test.YtjepbnhlnomhlaaHash
import Derived.Test.YtjepbnhlnomhlaaRdr
namespace Go.Proofs.Ytjepbnhlnomhlaa
open Go.RowKit

def SumPost (w : World) (g : Nat) (r : List UInt8 × Tlv.St) (e : Ending) (w' : World) : Prop := e = .returned (.agg (bcells r.1)) ∧ RdrAt w' g r.2 ∧ On g w w'

/-- How memory stands while a sum is read. -/
structure SR (w wx : World) (g : Nat) (s : Tlv.St) (h : List UInt8) : Prop where
  res : Whole wx w.heap.size 29 (zb 32)
  var : Whole wx (w.heap.size + 1) 29 (bcells h)
  rdr : RdrAt wx g s
  on : On g w wx
section
variable {w wx wy : World} {g : Nat} {s s' : Tlv.St} {h h' : List UInt8}
theorem SR.call (hs : SR w wx g s h) (hg : g < w.heap.size) (hon : On g wx wy) (hr : RdrAt wy g s') : SR w wy g s' h :=
  ⟨hon.whole hs.res (by omega), hon.whole hs.var (by omega), hr, hs.on.trans hon⟩
theorem SR.put (hs : SR w wx g s h) (hg : g < w.heap.size) (o : Nat) (vs : List Value) (hv : Whole (wx.setCells (w.heap.size + 1) o vs) (w.heap.size + 1) 29 (bcells h')) : SR w (wx.setCells (w.heap.size + 1) o vs) g s h' :=
  ⟨hs.res.setOther (by omega) vs o, hv, hs.rdr.keep (below_setCells wx _ vs o (Below.refl (g + 1) wx) (by omega)), hs.on.drop (x := w.heap.size) (below_setCells wx _ vs o (Below.refl _ wx) (by omega)) (Nat.le_refl _)⟩
/-- The result is laid. -/
theorem SR.last (hs : SR w wx g s h) (hg : g < w.heap.size) (hl : h.length = 32) : Whole (wx.setCells w.heap.size 0 (bcells h).toList) w.heap.size 29 (bcells h) ∧ RdrAt (wx.setCells w.heap.size 0 (bcells h).toList) g s ∧ On g w (wx.setCells w.heap.size 0 (bcells h).toList) :=
  ⟨hs.res.setAll (by rw [zb_size, bcells_size, hl]), hs.rdr.keep (below_setCells wx _ _ 0 (Below.refl (g + 1) wx) (by omega)), hs.on.drop (x := w.heap.size) (below_setCells wx _ _ 0 (Below.refl _ wx) (Nat.le_refl _)) (Nat.le_refl _)⟩
end

set_option maxRecDepth 100000 in
set_option maxHeartbeats 1000000 in
theorem sum_any (g : Nat) (s : Tlv.St) (z : Int) (t : UInt8) (hz : z = t.toNat) (w : World) (h : RdrAt w g s) :
    Calls Try.prog 24 #[.pointer (some ⟨g, 0, none⟩), .int .u8 z] w (SumPost w g (Tlv.rsum t s)) := by
  have hg := h.lt
  have hz29 := zero29
  have hbA : Below w.heap.size w (w.alloc (.cells (zb 32) 29)) := (Below.refl _ _).alloc (Nat.le_refl _) _
  have hbB : Below w.heap.size w ((w.alloc (.cells (zb 32) 29)).alloc (.cells (zb 32) 29)) := hbA.alloc (by simp) _
  have hsr : SR w ((w.alloc (.cells (zb 32) 29)).alloc (.cells (zb 32) 29)) g s Tlv.zeros := by
    refine ⟨(Whole.made w 29 (zb 32)).alloc _, ?_, h.keep (hbB.mono hg), ((On.refl _ _).alloc _).alloc _⟩
    have := Whole.made (w.alloc (.cells (zb 32) 29)) 29 (zb 32)
    rwa [size_alloc] at this
  have HT := Lib.hid (take_any g s z t hz _ hsr.rdr)
  have HS := Lib.hid hsr
  obtain ⟨R, hR⟩ : ∃ R, Tlv.rsum t s = R := ⟨_, rfl⟩
  rw [hR]
  have HRR := Lib.hid hR
  clear hR hz h hbA hbB hsr
  go_enter Try.func24, Try.ntmps24
  go_upto_region 2 with (fail)
  generalize (w.alloc (.cells (zb 32) 29)).alloc (.cells (zb 32) 29) = w1 at *
  go_wp2_with fail
  refine HT.out.mono ?_
  rintro e w2 ⟨A, n, c, rfl, hr, hnc, hn, hrd, hon, hsz⟩
  obtain ⟨⟨v, fs'⟩, hv⟩ : ∃ x, Tlv.take t s.1 = x := ⟨_, rfl⟩
  rw [hv] at hr hrd
  have HV := Lib.hid hv
  have HS2 := Lib.hid (HS.out.call hg hon hrd)
  have HR := Lib.hid hr
  clear hv hrd hon hr HT hsz HS
  rcases Nat.eq_zero_or_pos n with h0 | h0
  · subst h0
    obtain rfl : v = [] := List.eq_nil_of_length_eq_zero HR.out.len
    have HE : Hid (R = (Tlv.zeros, (fs', s.2))) := Lib.hid (by
      rw [← HRR.out]
      unfold Tlv.rsum
      rw [HV.out]
      simp only
      rw [decide_eq_false (fun e => e.1 rfl), Tlv.refuse, if_neg (fun e => by cases e.1)]
      rfl)
    clear hz29
    go_upto_region 4 with (fail)
    refine wp_region_lit ?_
    refine wpList_load_g rfl 29 (.tmp 5) rfl (w.heap.size + 1) rfl 29 (bcells Tlv.zeros) _ HS2.out.var Try.underlying29 rfl info29 ?_
    generalize hX : bcells Tlv.zeros = X
    have HX := Lib.hid hX
    clear hX
    go_simp
    refine wpList_store_mid rfl 29 (.tmp 4) (.tmp 13) rfl w.heap.size 0 X rfl rfl ?_ ?_ ?_ ?_
    · rw [← HX.out]; exact HS2.out.res.there_
    · rw [← HX.out]; exact info29
    · rw [← HX.out]; exact bcells_one _
    have hlast := HS2.out.last hg rfl
    rw [HX.out] at hlast
    have HLAST := Lib.hid hlast
    clear hlast
    generalize w2.setCells w.heap.size 0 X.toList = w3 at *
    go_wp2_with fail
    refine bodyPost_ret (results_cell1 Try.results24 _ _ _ ⟨w.heap.size, 0, none⟩ _ rfl (load_whole HLAST.out.1 29 _ Try.underlying29 rfl (by rw [← HX.out]; exact info29))) rfl ?_
    rw [HE.out]
    exact ⟨by rw [HX.out], HLAST.out.2.1, HLAST.out.2.2⟩
  · obtain ⟨b, o, rfl, hb, hc⟩ := HR.out.at_ h0
    have hv0 : v ≠ [] := fun e => by have := HR.out.len; rw [e] at this; simp at this; omega
    obtain ⟨m, hm⟩ : ∃ m, m = Nat.min n 32 := ⟨_, rfl⟩
    have hcp := run_copy32 (c := c) HS2.out.var zeros_len hm HR.out.len hc
    have hm1 : m ≤ n ∧ m ≤ 32 := by rw [hm]; simp only [Nat.min_def]; split <;> omega
    have hco := copied (bs := v) (m := m) HS2.out.var (by rw [zeros_len]; exact hm1.2) (by rw [HR.out.len]; exact hm1.1)
    have hsv : v.take m ++ Tlv.zeros.drop m = Tlv.sumv v := by
      have := sumv_cells v hv0
      rwa [HR.out.len, ← hm] at this
    rw [hsv] at hco
    have HS3 := Lib.hid (HS2.out.put hg 0 _ hco)
    obtain ⟨L, hL⟩ : ∃ L, (v.take m).map V8 = L := ⟨_, rfl⟩
    rw [hL] at hcp HS3
    have HV0 := Lib.hid hv0
    have HLEN := Lib.hid HR.out.len
    have q0 : ((n : Int) == 0) = false := by simp; omega
    clear hm hm1 hco hsv HS2 hc hb hv0 HR hL
    go_upto_region 6 with (fail)
    clear hcp q0
    generalize w2.setCells (w.heap.size + 1) 0 L = w3 at *
    by_cases h32 : n = 32
    · subst h32
      obtain ⟨bad, hbad⟩ : ∃ x, (Tlv.sumv v == Tlv.zeros) = x := ⟨_, rfl⟩
      have heq := fun w => run_eq29 (Tlv.sumv v) Tlv.zeros (sumv_len v) rfl w
      rw [hbad, show bcells Tlv.zeros = zb 32 from rfl] at heq
      have HE : Hid (R = (Tlv.sumv v, Tlv.refuse bad 7 (fs', s.2))) := Lib.hid (by
        rw [← HRR.out]
        unfold Tlv.rsum
        rw [HV.out]
        simp only
        congr 2
        rw [← hbad]
        by_cases hq : Tlv.sumv v = Tlv.zeros
        · rw [decide_eq_true ⟨HV0.out, .inr hq⟩]
          simp [hq]
        · rw [decide_eq_false (fun e => e.2.elim (fun e => e HLEN.out) hq)]
          simp [hq])
      have HP := Lib.hid (refuse_any g (fs', s.2) bad 7 7 rfl w3 HS3.out.rdr)
      clear hbad
      refine wp_region_lit ?_
      iterate 15 go_step
      refine wpList_load_g rfl 29 (.tmp 5) rfl (w.heap.size + 1) rfl 29 (bcells (Tlv.sumv v)) _ HS3.out.var Try.underlying29 rfl (by rw [bcells_size, sumv_len]; exact info29) ?_
      generalize hX : bcells (Tlv.sumv v) = X at *
      clear hX
      go_simp
      go_wp2_with fail
      refine HP.out.mono ?_
      rintro e w4 ⟨rfl, hrd, hon, hsz⟩
      clear heq hz29
      have HS4 := Lib.hid (HS3.out.call hg hon hrd)
      clear HP hrd hon hsz HS3
      go_upto_region 7 with (fail)
      refine wp_region_lit ?_
      refine wpList_load_g rfl 29 (.tmp 5) rfl (w.heap.size + 1) rfl 29 (bcells (Tlv.sumv v)) _ HS4.out.var Try.underlying29 rfl (by rw [bcells_size, sumv_len]; exact info29) ?_
      generalize hX : bcells (Tlv.sumv v) = X
      have HX := Lib.hid hX
      clear hX
      go_simp
      refine wpList_store_mid rfl 29 (.tmp 4) (.tmp 27) rfl w.heap.size 0 X rfl rfl ?_ ?_ ?_ ?_
      · have := HS4.out.res.there_
        rw [zb_size] at this
        rw [← HX.out, bcells_size, sumv_len]; exact this
      · rw [← HX.out, bcells_size, sumv_len]; exact info29
      · rw [← HX.out]; exact bcells_one _
      have hlast := HS4.out.last hg (sumv_len v)
      rw [HX.out] at hlast
      have HLAST := Lib.hid hlast
      clear hlast
      generalize w4.setCells w.heap.size 0 X.toList = w5 at *
      go_wp2_with fail
      refine bodyPost_ret (results_cell1 Try.results24 _ _ _ ⟨w.heap.size, 0, none⟩ _ rfl (load_whole HLAST.out.1 29 _ Try.underlying29 rfl (by rw [← HX.out, bcells_size, sumv_len]; exact info29))) rfl ?_
      rw [HE.out]
      exact ⟨by rw [HX.out], HLAST.out.2.1, HLAST.out.2.2⟩
    · have HE : Hid (R = (Tlv.sumv v, Tlv.refuse true 7 (fs', s.2))) := Lib.hid (by
        rw [← HRR.out]
        unfold Tlv.rsum
        rw [HV.out]
        simp only
        rw [decide_eq_true ⟨HV0.out, .inl (by rw [HLEN.out]; exact h32)⟩])
      have q3 : ((n : Int) != 32) = true := by simp; omega
      have HP := Lib.hid (refuse_any g (fs', s.2) true 7 7 rfl w3 HS3.out.rdr)
      clear h32
      go_wp2_with fail
      refine HP.out.mono ?_
      rintro e w4 ⟨rfl, hrd, hon, hsz⟩
      clear q3 hz29
      have HS4 := Lib.hid (HS3.out.call hg hon hrd)
      clear HP hrd hon hsz HS3
      go_upto_region 7 with (fail)
      refine wp_region_lit ?_
      refine wpList_load_g rfl 29 (.tmp 5) rfl (w.heap.size + 1) rfl 29 (bcells (Tlv.sumv v)) _ HS4.out.var Try.underlying29 rfl (by rw [bcells_size, sumv_len]; exact info29) ?_
      generalize hX : bcells (Tlv.sumv v) = X
      have HX := Lib.hid hX
      clear hX
      go_simp
      refine wpList_store_mid rfl 29 (.tmp 4) (.tmp 27) rfl w.heap.size 0 X rfl rfl ?_ ?_ ?_ ?_
      · have := HS4.out.res.there_
        rw [zb_size] at this
        rw [← HX.out, bcells_size, sumv_len]; exact this
      · rw [← HX.out, bcells_size, sumv_len]; exact info29
      · rw [← HX.out]; exact bcells_one _
      have hlast := HS4.out.last hg (sumv_len v)
      rw [HX.out] at hlast
      have HLAST := Lib.hid hlast
      clear hlast
      generalize w4.setCells w.heap.size 0 X.toList = w5 at *
      go_wp2_with fail
      refine bodyPost_ret (results_cell1 Try.results24 _ _ _ ⟨w.heap.size, 0, none⟩ _ rfl (load_whole HLAST.out.1 29 _ Try.underlying29 rfl (by rw [← HX.out, bcells_size, sumv_len]; exact info29))) rfl ?_
      rw [HE.out]
      exact ⟨by rw [HX.out], HLAST.out.2.1, HLAST.out.2.2⟩
end Go.Proofs.Ytjepbnhlnomhlaa
