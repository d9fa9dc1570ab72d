/-
  What parcel's ReadHeader returns: the header that is read of the bytes' fields, or the first fault; conditions: the bytes are read, no more than a million. It only makes memory of its own.
-/
import Derived.Test.YtjepbnhlnomhlaaReadP
import Derived.Test.YtjepbnhlnomhlaaHeader
import Derived.Test.YtjepbnhlnomhlaaSum
namespace Go.Proofs.Ytjepbnhlnomhlaa
open Go.RowKit

def hzero : Array Value := hcells 0 0 Tlv.zeros Tlv.zeros Tlv.zeros Tlv.zeros
theorem zero31 : ∀ w, (zeroValue 31).run Try.prog w = .ok (.agg hzero) w := (zero_of_info (P := Try.prog) (t := 31) (v := .agg hzero) (n := 130) (by kernel_rfl)).1
theorem hset0 (k ht tm : Nat) (r v x y : List UInt8) : (hcells ht tm r v x y).setIfInBounds 0 (.int .u64 k) = hcells k tm r v x y := by simp [hcells, hlist]
theorem hset1 (k ht tm : Nat) (r v x y : List UInt8) : (hcells ht tm r v x y).setIfInBounds 1 (.int .u64 k) = hcells ht k r v x y := by simp [hcells, hlist]
section
variable {w : World} {g ht tm : Nat} {r v x y q : List UInt8}
theorem hput2 (h : Whole w g 31 (hcells ht tm r v x y)) (h1 : r.length = 32) (hq : q.length = 32) : Whole (w.setCells g 2 (bcells q).toList) g 31 (hcells ht tm q v x y) := by
  unfold hcells at h ⊢
  rw [hl2] at h ⊢
  have := Whole.setCells (q.map V8) _ _ _ h (by simp [h1, hq])
  exact this
theorem hput34 (h : Whole w g 31 (hcells ht tm r v x y)) (h1 : r.length = 32) (h2 : v.length = 32) (hq : q.length = 32) : Whole (w.setCells g 34 (bcells q).toList) g 31 (hcells ht tm r q x y) := by
  unfold hcells at h ⊢
  rw [hl34] at h ⊢
  have := Whole.setCells (q.map V8) _ _ _ h (by simp [h2, hq])
  rw [show ([Value.int .u64 ht, .int .u64 tm] ++ r.map V8).length = 34 by simp [h1]] at this
  exact this
theorem hput66 (h : Whole w g 31 (hcells ht tm r v x y)) (h1 : r.length = 32) (h2 : v.length = 32) (h3 : x.length = 32) (hq : q.length = 32) : Whole (w.setCells g 66 (bcells q).toList) g 31 (hcells ht tm r v q y) := by
  unfold hcells at h ⊢
  rw [hl66] at h ⊢
  have := Whole.setCells (q.map V8) _ _ _ h (by simp [h3, hq])
  rw [show ([Value.int .u64 ht, .int .u64 tm] ++ (r.map V8 ++ v.map V8)).length = 66 by simp [h1, h2]] at this
  exact this
theorem hput98 (h : Whole w g 31 (hcells ht tm r v x y)) (h1 : r.length = 32) (h2 : v.length = 32) (h3 : x.length = 32) (h4 : y.length = 32) (hq : q.length = 32) : Whole (w.setCells g 98 (bcells q).toList) g 31 (hcells ht tm r v x q) := by
  unfold hcells at h ⊢
  rw [hl98] at h ⊢
  have := Whole.setCells (q.map V8) _ _ _ h (by simp [h4, hq])
  rw [show ([Value.int .u64 ht, .int .u64 tm] ++ (r.map V8 ++ (v.map V8 ++ x.map V8))).length = 98 by simp [h1, h2, h3]] at this
  exact this
end
theorem rsum_len {t : UInt8} {s s' : Tlv.St} {h : List UInt8} (e : Tlv.rsum t s = (h, s')) : h.length = 32 := by
  have := congrArg Prod.fst e
  simp only [Tlv.rsum] at this
  rw [← this]
  exact sumv_len _

def ReadHPost (w : World) (r : Nat × Tlv.Hd) (e : Ending) (w' : World) : Prop :=
  ∃ ht tm a b c d, e = .returned (.tuple #[.agg (hcells ht tm a b c d), .int .i64 r.1]) ∧ (r.1 = 0 → ht = r.2.ht ∧ tm = r.2.tm ∧ a = r.2.root ∧ b = r.2.vals ∧ c = r.2.next ∧ d = r.2.sl) ∧ (a.length = 32 ∧ b.length = 32 ∧ c.length = 32 ∧ d.length = 32) ∧ Below w.heap.size w w'

set_option maxRecDepth 100000 in
set_option maxHeartbeats 1000000 in
theorem readHeader_any (A : Option Addr) (n c : Nat) (bs : List UInt8) (w : World) (hr : Rd w w.heap.size A n bs) (hnc : n ≤ c) (hn : n ≤ 1000000) :
    Calls Try.prog 12 #[.slice A n c] w (ReadHPost w (Tlv.readH (st0 bs))) := by
  have HR := Lib.hid hr
  clear hr
  have hz31 := zero31
  have hw0 : Whole (w.alloc (.cells hzero 31)) w.heap.size 31 hzero := Whole.made w 31 _
  have hb0 : Below w.heap.size w (w.alloc (.cells hzero 31)) := (Below.refl _ _).alloc (Nat.le_refl _) _
  have hs0 : (w.alloc (.cells hzero 31)).heap.size = w.heap.size + 1 := size_alloc _ _
  have HP := Lib.hid (open_any A n c bs (w.alloc (.cells hzero 31)) ((HR.out.below hb0 (Nat.le_refl _)).more hb0.size) hnc hn)
  have HH := Lib.hid (And.intro hw0 (And.intro hb0 hs0))
  clear hw0 hb0 hs0
  obtain ⟨s0, hs0⟩ : ∃ s, st0 bs = s := ⟨_, rfl⟩
  obtain ⟨⟨n1, s1⟩, h1⟩ : ∃ x, Tlv.rnum 1 s0 = x := ⟨_, rfl⟩
  obtain ⟨⟨n2, s2⟩, h2⟩ : ∃ x, Tlv.rnum 2 s1 = x := ⟨_, rfl⟩
  obtain ⟨⟨a3, s3⟩, h3⟩ : ∃ x, Tlv.rsum 3 s2 = x := ⟨_, rfl⟩
  obtain ⟨⟨a4, s4⟩, h4⟩ : ∃ x, Tlv.rsum 4 s3 = x := ⟨_, rfl⟩
  obtain ⟨⟨a5, s5⟩, h5⟩ : ∃ x, Tlv.rsum 5 s4 = x := ⟨_, rfl⟩
  obtain ⟨⟨a6, s6⟩, h6⟩ : ∃ x, Tlv.rsum 6 s5 = x := ⟨_, rfl⟩
  obtain ⟨k, hk⟩ : ∃ k, Tlv.rend s6 = k := ⟨_, rfl⟩
  have hRR : Tlv.readH (st0 bs) = (k, ⟨n1, n2, a3, a4, a5, a6⟩) := by
    unfold Tlv.readH
    simp only [hs0, h1, h2, h3, h4, h5, h6, hk]
  rw [hRR]
  rw [hs0] at HP
  have HL := Lib.hid (And.intro (rsum_len h3) (And.intro (rsum_len h4) (And.intro (rsum_len h5) (rsum_len h6))))
  have H1 := Lib.hid h1
  have H2 := Lib.hid h2
  have H3 := Lib.hid h3
  have H4 := Lib.hid h4
  have H5 := Lib.hid h5
  have H6 := Lib.hid h6
  have HKK := Lib.hid hk
  clear hRR hs0 h1 h2 h3 h4 h5 h6 hk
  go_enter Try.func12, Try.ntmps12
  go_upto_region 1 with (fail)
  generalize w.alloc (.cells hzero 31) = w0 at *
  go_wp2_with fail
  refine HP.out.mono ?_
  rintro e w1 ⟨g, rfl, hrd, hgl, hsz, hb⟩
  obtain ⟨hw0, hb0, hs0⟩ := HH.out
  have hw1 := hw0.below hb hw0.lt
  have hb1 := hb0.trans (hb.mono hb0.size)
  have hlo : w.heap.size < g := by omega
  have H0 := Lib.hid (And.intro hw1 (And.intro hb1 hrd))
  have hg3 : g < w1.heap.size := hrd.lt
  clear hw0 hb0 hs0 hb hw1 hb1 hrd HP HH hgl hsz
  go_upto_region 3 with (fail)
  have hba : Below w1.heap.size w1 (w1.alloc (.cells hzero 31)) := (Below.refl _ _).alloc (Nat.le_refl _) _
  have hrp : RP 31 w (w1.alloc (.cells hzero 31)) g w1.heap.size hzero s0 (hcells 0 0 Tlv.zeros Tlv.zeros Tlv.zeros Tlv.zeros) :=
    ⟨H0.out.1.alloc _, H0.out.2.2.keep (hba.mono hg3), Whole.made w1 31 _, H0.out.2.1.alloc H0.out.2.1.size _, hlo, hg3⟩
  have HRP := Lib.hid hrp
  clear hrp hba H0 hg3
  generalize w1.alloc (.cells hzero 31) = w4 at *
  generalize w1.heap.size = gp at *
  have HP := Lib.hid (number_any g s0 1 1 (by decide) w4 HRP.out.rdr)
  rw [H1.out] at HP
  go_wp2_with fail
  refine HP.out.mono ?_
  rintro e u4 ⟨rfl, hrd, hon, hsz⟩
  have HQ := Lib.hid (HRP.out.call hon hrd)
  have cc := HQ.out.var.at_ (i := 0) rfl
  have ff := HQ.out.var.free 0
  clear HP hrd hon hsz HRP
  go_upto_region 4 with (fail)
  have hrp := HQ.out.set 0 (.int .u64 n1)
  rw [hset0] at hrp
  have HRP := Lib.hid hrp
  clear hrp HQ cc ff
  generalize u4.setCell ⟨gp, 0, none⟩ (.int .u64 n1) = w5 at *
  have HP := Lib.hid (number_any g s1 2 2 (by decide) w5 HRP.out.rdr)
  rw [H2.out] at HP
  go_wp2_with fail
  refine HP.out.mono ?_
  rintro e u5 ⟨rfl, hrd, hon, hsz⟩
  have HQ := Lib.hid (HRP.out.call hon hrd)
  have cc := HQ.out.var.at_ (i := 1) rfl
  have ff := HQ.out.var.free 1
  clear HP hrd hon hsz HRP
  go_upto_region 5 with (fail)
  have hrp := HQ.out.set 1 (.int .u64 n2)
  rw [hset1] at hrp
  have HRP := Lib.hid hrp
  clear hrp HQ cc ff
  generalize u5.setCell ⟨gp, 1, none⟩ (.int .u64 n2) = w6 at *
  have HP := Lib.hid (sum_any g s2 3 3 (by decide) w6 HRP.out.rdr)
  rw [H3.out] at HP
  go_wp2_with fail
  refine HP.out.mono ?_
  rintro e u6 ⟨rfl, hrd, hon⟩
  have HQ := Lib.hid (HRP.out.call hon hrd)
  have HV := Lib.hid (hput2 HQ.out.var zeros_len HL.out.1)
  have HTH := Lib.hid (HQ.out.var.midthere 2 32 (by rw [hcells_size _ _ _ _ _ _ zeros_len zeros_len zeros_len zeros_len]; omega))
  clear HP hrd hon HRP
  obtain ⟨X, hX⟩ : ∃ X, bcells a3 = X := ⟨_, rfl⟩
  rw [hX]
  rw [hX] at HV
  have HXS : Hid (X.size = 32) := Lib.hid (by rw [← hX, bcells_size]; exact HL.out.1)
  have HX1 : Hid (X.all (·.oneCell') = true) := Lib.hid (by rw [← hX]; exact bcells_one _)
  clear hX
  simp only []
  iterate 4 go_step
  refine wpList_store_mid rfl 29 (.tmp 17) (.tmp 16) rfl gp 2 X rfl rfl (by rw [HXS.out]; exact HTH.out) (by rw [HXS.out]; exact info29) HX1.out ?_
  have HRP := Lib.hid (HQ.out.setCells 2 X.toList _ HV.out)
  clear HQ HV HTH HXS HX1
  generalize u6.setCells gp 2 X.toList = w7 at *
  have HP := Lib.hid (sum_any g s3 4 4 (by decide) w7 HRP.out.rdr)
  rw [H4.out] at HP
  go_wp2_with fail
  refine HP.out.mono ?_
  rintro e u7 ⟨rfl, hrd, hon⟩
  have HQ := Lib.hid (HRP.out.call hon hrd)
  have HV := Lib.hid (hput34 HQ.out.var HL.out.1 zeros_len HL.out.2.1)
  have HTH := Lib.hid (HQ.out.var.midthere 34 32 (by rw [hcells_size _ _ _ _ _ _ HL.out.1 zeros_len zeros_len zeros_len]; omega))
  clear HP hrd hon HRP
  obtain ⟨X, hX⟩ : ∃ X, bcells a4 = X := ⟨_, rfl⟩
  rw [hX]
  rw [hX] at HV
  have HXS : Hid (X.size = 32) := Lib.hid (by rw [← hX, bcells_size]; exact HL.out.2.1)
  have HX1 : Hid (X.all (·.oneCell') = true) := Lib.hid (by rw [← hX]; exact bcells_one _)
  clear hX
  simp only []
  iterate 4 go_step
  refine wpList_store_mid rfl 29 (.tmp 20) (.tmp 19) rfl gp 34 X rfl rfl (by rw [HXS.out]; exact HTH.out) (by rw [HXS.out]; exact info29) HX1.out ?_
  have HRP := Lib.hid (HQ.out.setCells 34 X.toList _ HV.out)
  clear HQ HV HTH HXS HX1
  generalize u7.setCells gp 34 X.toList = w8 at *
  have HP := Lib.hid (sum_any g s4 5 5 (by decide) w8 HRP.out.rdr)
  rw [H5.out] at HP
  go_wp2_with fail
  refine HP.out.mono ?_
  rintro e u8 ⟨rfl, hrd, hon⟩
  have HQ := Lib.hid (HRP.out.call hon hrd)
  have HV := Lib.hid (hput66 HQ.out.var HL.out.1 HL.out.2.1 zeros_len HL.out.2.2.1)
  have HTH := Lib.hid (HQ.out.var.midthere 66 32 (by rw [hcells_size _ _ _ _ _ _ HL.out.1 HL.out.2.1 zeros_len zeros_len]; omega))
  clear HP hrd hon HRP
  obtain ⟨X, hX⟩ : ∃ X, bcells a5 = X := ⟨_, rfl⟩
  rw [hX]
  rw [hX] at HV
  have HXS : Hid (X.size = 32) := Lib.hid (by rw [← hX, bcells_size]; exact HL.out.2.2.1)
  have HX1 : Hid (X.all (·.oneCell') = true) := Lib.hid (by rw [← hX]; exact bcells_one _)
  clear hX
  simp only []
  iterate 4 go_step
  refine wpList_store_mid rfl 29 (.tmp 23) (.tmp 22) rfl gp 66 X rfl rfl (by rw [HXS.out]; exact HTH.out) (by rw [HXS.out]; exact info29) HX1.out ?_
  have HRP := Lib.hid (HQ.out.setCells 66 X.toList _ HV.out)
  clear HQ HV HTH HXS HX1
  generalize u8.setCells gp 66 X.toList = w9 at *
  have HP := Lib.hid (sum_any g s5 6 6 (by decide) w9 HRP.out.rdr)
  rw [H6.out] at HP
  go_wp2_with fail
  refine HP.out.mono ?_
  rintro e u9 ⟨rfl, hrd, hon⟩
  have HQ := Lib.hid (HRP.out.call hon hrd)
  have HV := Lib.hid (hput98 HQ.out.var HL.out.1 HL.out.2.1 HL.out.2.2.1 zeros_len HL.out.2.2.2)
  have HTH := Lib.hid (HQ.out.var.midthere 98 32 (by rw [hcells_size _ _ _ _ _ _ HL.out.1 HL.out.2.1 HL.out.2.2.1 zeros_len]; omega))
  clear HP hrd hon HRP
  obtain ⟨X, hX⟩ : ∃ X, bcells a6 = X := ⟨_, rfl⟩
  rw [hX]
  rw [hX] at HV
  have HXS : Hid (X.size = 32) := Lib.hid (by rw [← hX, bcells_size]; exact HL.out.2.2.2)
  have HX1 : Hid (X.all (·.oneCell') = true) := Lib.hid (by rw [← hX]; exact bcells_one _)
  clear hX
  simp only []
  iterate 4 go_step
  refine wpList_store_mid rfl 29 (.tmp 26) (.tmp 25) rfl gp 98 X rfl rfl (by rw [HXS.out]; exact HTH.out) (by rw [HXS.out]; exact info29) HX1.out ?_
  have HRP := Lib.hid (HQ.out.setCells 98 X.toList _ HV.out)
  clear HQ HV HTH HXS HX1
  generalize u9.setCells gp 98 X.toList = w10 at *
  have HP := Lib.hid (end_any g s6 w10 HRP.out.rdr)
  rw [HKK.out] at HP
  go_wp2_with fail
  refine HP.out.mono ?_
  rintro e w11 ⟨rfl, hon, hsz⟩
  have hres := hon.whole HRP.out.res (by omega)
  have hvar := hon.whole HRP.out.var (by have := HRP.out.hi; omega)
  have hbel := HRP.out.bel.trans (hon.below HRP.out.bel.size (by omega))
  have HE := Lib.hid (And.intro hres (And.intro hvar hbel))
  clear HP hon hsz HRP hres hvar hbel
  by_cases hk0 : k = 0
  · subst hk0
    have HSZ := Lib.hid (hcells_size n1 n2 a3 a4 a5 a6 HL.out.1 HL.out.2.1 HL.out.2.2.1 HL.out.2.2.2)
    have HONE := Lib.hid (hcells_one n1 n2 a3 a4 a5 a6)
    obtain ⟨X, hX⟩ : ∃ X, hcells n1 n2 a3 a4 a5 a6 = X := ⟨_, rfl⟩
    rw [hX] at HE HSZ HONE
    have HX := Lib.hid hX
    clear hX hz31
    go_upto_region 12 with (fail)
    refine wp_region_lit ?_
    refine wpList_load_g rfl 31 (.tmp 5) rfl gp rfl 31 X _ HE.out.2.1 Try.underlying31 rfl (by rw [HSZ.out]; exact info31) ?_
    go_simp
    refine wpList_store_mid rfl 31 (.tmp 2) (.tmp 33) rfl w.heap.size 0 X rfl rfl (by rw [HSZ.out]; exact HE.out.1.there_) (by rw [HSZ.out]; exact info31) HONE.out ?_
    have HW := Lib.hid (HE.out.1.setAll (vs := X) (by rw [HSZ.out]; rfl))
    have HB := Lib.hid (below_setCells w w.heap.size X.toList 0 HE.out.2.2 (Nat.le_refl _))
    generalize w11.setCells w.heap.size 0 X.toList = w12 at *
    go_wp2_with fail
    refine bodyPost_ret (results_cell2 Try.results12 _ _ _ ⟨w.heap.size, 0, none⟩ _ rfl (load_whole HW.out 31 _ Try.underlying31 rfl (by rw [HSZ.out]; exact info31))) rfl ⟨n1, n2, a3, a4, a5, a6, by rw [HX.out]; rfl, fun _ => ⟨rfl, rfl, rfl, rfl, rfl, rfl⟩, HL.out, HB.out⟩
  · have q : ((k : Int) == 0) = false := by simp; omega
    have HK0 := Lib.hid hk0
    clear hk0
    go_upto_region 11 with (fail)
    refine wp_region_lit ?_
    iterate 6 go_step
    refine wpList_store_mid rfl 31 (.tmp 2) (.tmp 31) rfl w.heap.size 0 hzero rfl rfl HE.out.1.there_ info31 (hcells_one _ _ _ _ _ _) ?_
    have HW := Lib.hid (HE.out.1.setAll (vs := hzero) rfl)
    have HB := Lib.hid (below_setCells w w.heap.size hzero.toList 0 HE.out.2.2 (Nat.le_refl _))
    clear hz31
    generalize w11.setCells w.heap.size 0 hzero.toList = w12 at *
    go_wp2_with fail
    refine bodyPost_ret (results_cell2 Try.results12 _ _ _ ⟨w.heap.size, 0, none⟩ _ rfl (load_whole HW.out 31 _ Try.underlying31 rfl info31)) rfl ⟨0, 0, Tlv.zeros, Tlv.zeros, Tlv.zeros, Tlv.zeros, rfl, fun h0 => absurd h0 HK0.out, ⟨rfl, rfl, rfl, rfl⟩, HB.out⟩
end Go.Proofs.Ytjepbnhlnomhlaa
