/-
  What parcel's sumBytes and putSum return; conditions: a sum has 32 bytes, what is handed over is read, and no longer than memory can be. They only make memory of their own.
-/
import Derived.Test.YtjepbnhlnomhlaaPutF
import Derived.Test.YtjepbnhlnomhlaaRes
import Derived.Test.YtjepbnhlnomhlaaRead
namespace Go.Proofs.Ytjepbnhlnomhlaa
open Go.RowKit

theorem zeros_len : Tlv.zeros.length = 32 := rfl
theorem sumv_len (v : List UInt8) : (Tlv.sumv v).length = 32 := by
  unfold Tlv.sumv
  split
  · rfl
  · rw [List.length_take, List.length_append, zeros_len]
    omega
theorem sumv_cells (v : List UInt8) (hv : v ≠ []) : v.take (Nat.min v.length 32) ++ Tlv.zeros.drop (Nat.min v.length 32) = Tlv.sumv v := by
  unfold Tlv.sumv
  rw [if_neg hv, List.take_append, Tlv.zeros, List.drop_replicate, List.take_replicate]
  by_cases h : v.length ≤ 32
  · rw [show Nat.min v.length 32 = v.length from Nat.min_eq_left h, List.take_of_length_le (Nat.le_refl _), List.take_of_length_le h, Nat.min_eq_left (by omega : 32 - v.length ≤ 32)]
  · rw [show Nat.min v.length 32 = 32 from Nat.min_eq_right (by omega), show 32 - v.length = 0 by omega]
    rfl

/-- copy of bytes into an array of 32, which lies whole in a block. -/
theorem run_copy32 {w : World} {g : Nat} {t : TypeId} {b o n c m : Nat} {cs bs : List UInt8} (hD : Whole w g t (bcells cs)) (hsz : cs.length = 32) (hm : m = Nat.min n 32) (hn : bs.length = n)
    (hbc : ∀ j v, bs[j]? = some v → w.cell? ⟨b, o + j, none⟩ = some (V8 v)) :
    (Builtin.copy_ #[35, 35] 3 #[.slice (some ⟨g, 0, none⟩) 32 32, .slice (some ⟨b, o, none⟩) n c]).run Try.prog w = .ok (.int .i64 m) (w.setCells g 0 ((bs.take m).map V8)) := by
  have hm1 : m ≤ n ∧ m ≤ 32 := by rw [hm]; simp only [Nat.min_def]; split <;> omega
  have hl : ((bs.take m).map V8).length = m := by simp; omega
  have := run_copy_cells (P := Try.prog) w 35 35 3 5 g 0 32 32 ⟨b, o, none⟩ n c ((bs.take m).map V8) Try.underlying35 (by kernel_rfl) (by rw [hl, hm])
    (fun j v hv => by
      rw [Addr.add_mid]
      rw [List.getElem?_map, Option.map_eq_some_iff] at hv
      obtain ⟨x, hx, rfl⟩ := hv
      have hx' : bs[j]? = some x := by
        rw [List.getElem?_take] at hx
        split at hx
        · exact hx
        · cases hx
      exact hbc j x hx')
    (fun j hj => by
      rw [hl] at hj
      rw [hD.at_ (v := (bcells cs)[0 + j]'(by rw [bcells_size]; omega)) (Array.getElem?_eq_getElem _)]
      rfl)
    (fun j _ => hD.free _)
    (fun v hv => by
      simp only [List.mem_map] at hv
      obtain ⟨x, _, rfl⟩ := hv
      rfl)
  rw [hl] at this
  exact this
/-- What lies there behind it. -/
theorem copied {w : World} {g : Nat} {t : TypeId} {cs bs : List UInt8} {m : Nat} (hD : Whole w g t (bcells cs)) (hm : m ≤ cs.length) (hb : m ≤ bs.length) :
    Whole (w.setCells g 0 ((bs.take m).map V8)) g t (bcells (bs.take m ++ cs.drop m)) := by
  have h1 : Whole w g t ([] ++ ((cs.take m).map V8 ++ (cs.drop m).map V8)).toArray := by
    rw [List.nil_append, ← List.map_append, List.take_append_drop]
    exact hD
  have := Whole.setCells ((bs.take m).map V8) [] _ _ h1 (by simp; omega)
  rw [List.nil_append, ← List.map_append] at this
  exact this

set_option maxRecDepth 100000 in
theorem sumBytes_any (h : List UInt8) (hh : h.length = 32) (w : World) : Calls Try.prog 29 #[.agg (bcells h)] w (BytesPost w h) := by
  have hmk := run_mk 32 32 (Nat.le_refl _) (by omega) 32 32 rfl rfl
  have hw1 := (Whole.made w 29 (bcells h)).alloc (.cells (zb 32) 5)
  have hw2 : Whole ((w.alloc (.cells (bcells h) 29)).alloc (.cells (zb 32) 5)) (w.heap.size + 1) 5 (bcells (List.replicate 32 0)) := by
    have := Whole.made (w.alloc (.cells (bcells h) 29)) 5 (zb 32)
    rwa [size_alloc] at this
  have hb : Below w.heap.size w ((w.alloc (.cells (bcells h) 29)).alloc (.cells (zb 32) 5)) := ((Below.refl _ _).alloc (Nat.le_refl _) _).alloc (by simp) _
  have hcp := run_copy32 (c := 32) hw2 rfl (show 32 = Nat.min 32 32 from rfl) hh (b := w.heap.size) (o := 0) (fun j v hv => hw1.at_ (by rw [Nat.zero_add, bcells, List.getElem?_toArray, List.getElem?_map, hv]; rfl))
  have hco := copied (bs := h) (m := 32) hw2 (Nat.le_refl _) (by omega)
  rw [List.take_of_length_le (by omega), show (List.replicate 32 (0 : UInt8)).drop 32 = [] from rfl, List.append_nil] at hco
  rw [List.take_of_length_le (by omega)] at hcp
  have hb2 : Below w.heap.size w (((w.alloc (.cells (bcells h) 29)).alloc (.cells (zb 32) 5)).setCells (w.heap.size + 1) 0 (h.map V8)) := below_setCells w (w.heap.size + 1) _ 0 hb (by omega)
  have HH := Lib.hid (And.intro hco (And.intro hb2 hh))
  clear hw1 hw2 hb hco hb2 hh
  obtain ⟨X, hX⟩ : ∃ X, bcells h = X := ⟨_, rfl⟩
  rw [hX] at hcp ⊢
  have HX := Lib.hid hX
  clear hX
  go_enter Try.func29, Try.ntmps29
  go_upto_region 3 with (fail)
  rw [HX.out] at HH
  generalize ((w.alloc (.cells X 29)).alloc (.cells (zb 32) 5)).setCells (w.heap.size + 1) 0 (h.map V8) = w2 at *
  clear hcp hmk
  go_wp2_with fail
  go_ret
  obtain ⟨h1, h2, h3⟩ := HH.out
  rw [← HX.out] at h1
  have hr := rd_whole h1
  rw [h3] at hr
  exact ⟨_, 32, 32, rfl, hr, Nat.le_refl _, h2⟩

theorem zero29 : ∀ w, (zeroValue 29).run Try.prog w = .ok (.agg (zb 32)) w := (zero_of_info (P := Try.prog) (t := 29) (v := .agg (zb 32)) (n := 32) (by kernel_rfl)).1

set_option maxRecDepth 100000 in
theorem putSum_any (A : Option Addr) (n c : Nat) (bs : List UInt8) (z : Int) (tag : UInt8) (hz : z = tag.toNat) (h : List UInt8) (hh : h.length = 32) (w : World) (hr : Rd w w.heap.size A n bs) (hnc : n ≤ c) (hn : n ≤ 70368744111616) :
    Calls Try.prog 18 #[.slice A n c, .int .u8 z, .agg (bcells h)] w (BytesPost w (Tlv.putSum bs tag h)) := by
  have hz29 := zero29
  have hw := Whole.made w 29 (bcells h)
  have hb : Below w.heap.size w (w.alloc (.cells (bcells h) 29)) := (Below.refl _ _).alloc (Nat.le_refl _) _
  have heq := fun w => run_eq29 h Tlv.zeros hh rfl w
  rw [show bcells Tlv.zeros = zb 32 from rfl] at heq
  have hsz : (bcells h).size = 32 := by rw [bcells_size]; exact hh
  have HS := Lib.hid (fun w => sumBytes_any h hh w)
  have HR := Lib.hid ((hr.below hb (Nat.le_refl _)).more hb.size)
  have HZ := Lib.hid hz
  have HW := Lib.hid hw
  have HB := Lib.hid hb
  have HSZ := Lib.hid hsz
  have HHH := Lib.hid hh
  clear hz hh hr hw hb hsz
  obtain ⟨X, hX⟩ : ∃ X, bcells h = X := ⟨_, rfl⟩
  rw [hX] at HS HW HB HSZ HR heq ⊢
  clear hX
  by_cases h0 : h = Tlv.zeros
  · have he : (h == Tlv.zeros) = true := by simp [h0]
    rw [he] at heq
    have HE : Hid (Tlv.putSum bs tag h = bs) := Lib.hid (if_pos h0)
    clear he h0
    go_enter Try.func18, Try.ntmps18
    go_upto_region 1 with (fail)
    generalize w.alloc (.cells X 29) = w1 at *
    refine wp_region_lit ?_
    refine wpList_load_g rfl 29 (.tmp 5) rfl w.heap.size rfl 29 X _ HW.out Try.underlying29 rfl (by rw [HSZ.out]; exact info29) ?_
    go_simp
    go_wp2_with fail
    go_ret
    rw [HE.out]
    exact ⟨A, n, c, rfl, HR.out, hnc, HB.out⟩
  · have he : (h == Tlv.zeros) = false := by simp [h0]
    rw [he] at heq
    have HE : Hid (Tlv.putSum bs tag h = Tlv.put bs tag h) := Lib.hid (if_neg h0)
    clear he h0
    go_enter Try.func18, Try.ntmps18
    go_upto_region 1 with (fail)
    generalize w.alloc (.cells X 29) = w1 at *
    refine wp_region_lit ?_
    refine wpList_load_g rfl 29 (.tmp 5) rfl w.heap.size rfl 29 X _ HW.out Try.underlying29 rfl (by rw [HSZ.out]; exact info29) ?_
    go_simp
    go_upto_region 3 with (fail)
    clear hz29 heq
    refine wp_region_lit ?_
    iterate 6 go_step
    refine wpList_load_g rfl 29 (.tmp 5) rfl w.heap.size rfl 29 X _ HW.out Try.underlying29 rfl (by rw [HSZ.out]; exact info29) ?_
    go_simp
    go_wp2_with fail
    refine (HS.out w1).mono ?_
    rintro e w2 ⟨A1, n1, c1, rfl, hr1, _, hb1⟩
    have hn1 : n1 ≤ 65535 := by
      rw [← hr1.len, HHH.out]
      omega
    have HP := Lib.hid (putF_any A n c bs z tag HZ.out A1 n1 c1 h w2 ((HR.out.below hb1 (Nat.le_refl _)).more hb1.size) hr1 hn hn1)
    have HB1 := Lib.hid (HB.out.trans (hb1.mono HB.out.size))
    clear hr1 hb1 HS HR HB hn1
    go_wp2_with fail
    refine HP.out.mono ?_
    rintro e w3 ⟨A2, n2, c2, rfl, hr2, hc2, hb2⟩
    have HK := Lib.hid (And.intro hr2 (And.intro hc2 (HB1.out.trans (hb2.mono HB1.out.size))))
    clear hr2 hc2 hb2 HP
    go_wp2_with fail
    go_ret
    rw [HE.out]
    exact ⟨A2, n2, c2, rfl, HK.out.1, HK.out.2.1, HK.out.2.2⟩
end Go.Proofs.Ytjepbnhlnomhlaa
