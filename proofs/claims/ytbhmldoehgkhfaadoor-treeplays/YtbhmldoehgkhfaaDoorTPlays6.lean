/-
  The law TreePlays returns true for any calls; conditions: they are read, the two tables hold their words.
-/
import Derived.Test.YtbhmldoehgkhfaaDoorRPut
import Derived.Test.YtbhmldoehgkhfaaDoorRLeaves
import Derived.Test.YtbhmldoehgkhfaaDoorRAll
namespace Go.Proofs.YtbhmldoehgkhfaaDoor
open Go.RowKit
open Tr

theorem rput_p (D : Option Addr) (m d : Nat) (E : Option Addr) (me ce : Nat) (k v : List UInt8) (hmd : m ≤ d) (hm : m ≤ 2000) (hme : me ≤ ce) (hm2 : me ≤ 2000) (o : Option T) (p : Option Nat) (w : World) (h : RPIn w w.heap.size o p)
    (hk : Rd w w.heap.size D m k) (hv : Rd w w.heap.size E me v) (hn : oln o + 1 ≤ 4294967296) : Calls Tryd.prog 16 #[ptr p, .slice D m d, .slice E me ce] w (RWoPost (some (oput o k v)) w) := by
  cases o with
  | none =>
    obtain rfl := h
    exact (rput_nil D m d E me ce k v hmd hm hme hm2 w hk hv).mono fun e w' ⟨b, h1, h2, h3⟩ => ⟨some b, h1, ⟨b, rfl, h2⟩, h3⟩
  | some t =>
    obtain ⟨b, rfl, h⟩ := h
    exact (rput_any D m d E me ce k v hmd hm hme hm2 t b w h hk hv hn).mono fun e w' ⟨b, h1, h2, h3⟩ => ⟨some b, h1, ⟨b, rfl, h2⟩, h3⟩
theorem rleaves_p (o : Option T) (p : Option Nat) (w : World) (h : RPIn w w.heap.size o p) (hn : oln o ≤ 1000000) : Calls Tryd.prog 14 #[ptr p, .slice none 0 0] w (LeavesPost w.heap.size (oln o) (optLeaves o) w) := by
  cases o with
  | none =>
    obtain rfl := h
    exact (rleaves_nil _ w).mono fun e w' ⟨h1, h2⟩ => by subst h1 h2; exact ⟨_, rfl, POwn.nil _ _, Below.refl _ _⟩
  | some t =>
    obtain ⟨b, rfl, h⟩ := h
    have := rleaves_any w.heap.size t b w (.slice none 0 0) 0 [] h (POwn.nil _ _) (Nat.le_refl _) (by rw [Nat.zero_add]; exact hn)
    rw [Nat.zero_add, List.nil_append] at this
    exact this
theorem rcut_p (D : Option Addr) (m d : Nat) (k : List UInt8) (o : Option T) (p : Option Nat) (w : World) (h : RPIn w w.heap.size o p) (hf : (ofind o k).isSome = true) (hk : Rd w w.heap.size D m k) (hn : oln o ≤ 4294967296) :
    Calls Tryd.prog 18 #[ptr p, .slice D m d] w (RWoPost (ocut o k) w) := by
  cases o with
  | none => cases hf
  | some t =>
    obtain ⟨b, rfl, h⟩ := h
    exact rcut_any D m d k t b w h hk hn
theorem wrap_add (a b : Nat) (h : a ≤ 140737488355328) (h' : b ≤ 140737488355328) : wrap64 ((a : Int) + (b : Int)) = (a : Int) + (b : Int) := by unfold wrap64; omega
theorem many_yes (a b : Nat) (h : 1000 < a + b) : (1000 : Int) < (a : Int) + (b : Int) := by omega
theorem many_no (a b : Nat) (h : ¬ 1000 < a + b) : ¬ (1000 : Int) < (a : Int) + (b : Int) := by omega
set_option maxRecDepth 100000 in
theorem rsum_nil (w : World) (ht : Sh.Tab w 0) (hw : 1 < w.heap.size) : Calls Tryd.prog 24 #[.pointer none] w fun e w' => e = .returned (.agg (Sh.bcells (Sh.Sha.sum []))) ∧ Below w.heap.size w w' := by
  have hz49 := zero49
  have hb1 : Below w.heap.size w (w.alloc (.cells (zb 32) 49)) := (Below.refl _ _).alloc (Nat.le_refl _) _
  have hs1 : (w.alloc (.cells (zb 32) 49)).heap.size = w.heap.size + 1 := size_alloc _ _
  have HW := Lib.hid (Whole.made w 49 (zb 32))
  have HE := Lib.hid (Sh.ref_any none 0 0 [] (w.alloc (.cells (zb 32) 49)) (Sh.reads_nil _) (by omega) (tab0_below ht hb1 hw) (by omega))
  have HB1 := Lib.hid hb1
  clear ht hb1
  go_enter Tryd.func24, Tryd.ntmps24
  go_wp2_with fail
  refine HE.out.mono ?_
  generalize w.alloc (.cells (zb 32) 49) = w1 at *
  rintro e w2 ⟨rfl, hb2⟩
  have HW2 := Lib.hid (HW.out.below hb2 (by omega))
  have HB2 := Lib.hid (HB1.out.trans (hb2.mono (by omega)))
  clear hb2 HE HW HB1 hz49
  obtain ⟨Y, hY⟩ : ∃ Y, Sh.bcells (Sh.Sha.sum []) = Y := ⟨_, rfl⟩
  have hsizeY : Y.size = 32 := by rw [← hY, Sh.bcells_size, Sh.sum_length]
  have honeY : Y.all (·.oneCell') = true := by rw [← hY]; exact Sh.bcells_one _
  rw [hY]
  have HY := Lib.hid hY
  clear hY
  simp only []
  go_step
  refine wpList_store_mid rfl 49 (.tmp 2) (.tmp 5) rfl w.heap.size 0 Y rfl rfl ?_ ?_ honeY ?_
  · rw [hsizeY]; have := HW2.out.there_; rw [zb_size] at this; exact this
  · rw [hsizeY]; exact info49
  have HW8 := Lib.hid (HW2.out.setAll (vs := Y) (by rw [zb_size, hsizeY]))
  have HB8 := Lib.hid (below_setCells w w.heap.size Y.toList 0 HB2.out (by omega))
  generalize w2.setCells w.heap.size 0 Y.toList = w8 at *
  go_wp2_with fail
  refine bodyPost_ret (results_cell1 Tryd.results24 _ _ _ ⟨w.heap.size, 0, none⟩ _ rfl (load_whole HW8.out 49 _ Tryd.underlying49 rfl (by rw [hsizeY]; exact info49))) rfl ⟨by rw [HY.out], HB8.out⟩
theorem rsum_p (o : Option T) (p : Option Nat) (w : World) (h : RPIn w w.heap.size o p) (hn : oln o ≤ 1000) (ht : Sh.Tab w 0) (hw : 1 < w.heap.size) : Calls Tryd.prog 24 #[ptr p] w fun e w' => e = .returned (.agg (Sh.bcells (osum o))) ∧ Below w.heap.size w w' := by
  cases o with
  | none =>
    obtain rfl := h
    exact rsum_nil w ht hw
  | some t =>
    obtain ⟨b, rfl, h⟩ := h
    change t.n ≤ 1000 at hn
    exact rsum_any t b w h (by omega) ht hw

set_option maxRecDepth 100000 in
set_option maxHeartbeats 8000000 in
theorem treePlays_any (A : Option Addr) (n c : Nat) (cs : List Ac) (w : World) (hc : ARd w w.heap.size A n cs) (hn : n ≤ 9223372036854775807) (ht : Sh.Tab w 1) (ht0 : Sh.Tab w 0) (hw : 1 < w.heap.size) :
    Calls Tryd.prog 3 #[.slice A n c] w fun e w' => e = .returned (.bool true) ∧ Below w.heap.size w w' := by
  have HAW := Lib.hid (awake_any w ht hw)
  have HC := Lib.hid hc
  have HT := Lib.hid ht
  have HT0 := Lib.hid ht0
  have HCL := Lib.hid hc.1
  clear hc ht ht0
  go_enter Tryd.func3, Tryd.ntmps3
  go_wp2_with fail
  refine HAW.out.mono ?_
  rintro e w1 ⟨rfl, hb1⟩
  have hs1 := hb1.size
  have HB1 := Lib.hid hb1
  have HN := Lib.hid (new_any (G := All) w1 (room (by omega)))
  clear hb1 HAW
  go_wp2_with fail
  refine HN.out.mono ?_
  rintro e w2 ⟨g0, rfl, _, hT2, hb2⟩
  have HT2 := Lib.hid hT2
  have HB2 := Lib.hid (HB1.out.trans (hb2.mono hs1))
  clear hT2 hb2 HB1 HN
  go_wp2_with fail
  go_loopg [3, 4, 23] n (fun gk s3 s4 s23 wx => ∃ i oi g p, i + gk = n ∧ i ≤ 61 ∧ s23 = .int .i64 (i : Nat) ∧ s3 = ptr (some g) ∧ s4 = ptr p ∧ TIn All wx wx.heap.size oi g ∧ RPIn wx wx.heap.size oi p ∧ Fine oi ∧ oln oi ≤ i ∧ Below w.heap.size w wx)
  case atStart => exact ⟨0, none, g0, none, by omega, by omega, rfl, rfl, rfl, HT2.out, rfl, Fine.none, Nat.le_refl _, HB2.out⟩
  case round =>
    clear HT2 HB2
    obtain ⟨i, oi, g, p, hi, hi61, rfl, rfl, rfl, hT, hR, hF, hfew, hb⟩ := hrel
    have HTX := Lib.hid hT
    have HRX := Lib.hid hR
    have HFX := Lib.hid hF
    have HBX := Lib.hid hb
    have hsx := hb.size
    clear hT hR hF hb
    cases gk with
    | zero =>
      obtain rfl : n = i := by omega
      have HNO := Lib.hid (nodes_any oi g wr HTX.out (by omega))
      go_wp2_with fail
      refine HNO.out.mono ?_
      rintro e w20 hpo
      obtain ⟨A20, c20, rfl, hr20, hc20, _, hb20⟩ := hpo.nodes
      have hs20 := hb20.size
      have HR20 := Lib.hid hr20
      have HB20 := Lib.hid (HBX.out.trans (hb20.mono HBX.out.size))
      have HRA := Lib.hid (rall_o oi p w20 (HRX.out.on hb20) (by omega) (tab0_below HT0.out HB20.out hw) (by have := HB20.out.size; omega))
      clear hpo hr20 hb20 HNO
      go_wp2_with fail
      refine HRA.out.mono ?_
      rintro e w21 ⟨v21, rfl, hO21, hb21⟩
      obtain ⟨A21, c21, rfl, hc21, _⟩ := hO21.form
      have HB21 := Lib.hid (HB20.out.trans (hb21.mono HB20.out.size))
      have HSN := Lib.hid (sameNodes_yes A20 A21 (oall oi).length c20 c21 (oall oi) w21 (HR20.out.on hb21) hO21.rd (by have h1 := hO21.form; cases oi with | none => (show 0 ≤ _; omega) | some t => (have h2 := all_len t; change t.n ≤ _ at hfew; show t.all.length ≤ _; omega)))
      clear hO21 hb21 HRA HR20 HB20
      generalize (oall oi).length = LN at *
      go_wp2_with fail
      refine HSN.out.mono ?_
      rintro e w22 ⟨rfl, hb22⟩
      have HB22 := Lib.hid (HB21.out.trans (hb22.mono HB21.out.size))
      go_wp2_with fail
      go_ret
      exact ⟨rfl, HB22.out⟩
    | succ gn =>
      have hin : i < n := by omega
      obtain ⟨a, hai⟩ : ∃ a, cs[i]? = some a := ⟨_, List.getElem?_eq_getElem (by rw [HCL.out]; exact hin)⟩
      obtain ⟨b, ob, A1, n1, c1, A3, n3, c3, rfl, hbb, k0, k1, k2, k3, m1, m2, m3, m4, r1, r2⟩ := HC.out.2 i a hai
      have HR := Lib.hid (And.intro r1 r2)
      have hcw : ∀ q, wr.cell? ⟨b, q, none⟩ = w.cell? ⟨b, q, none⟩ := fun q => HBX.out.cell (p := ⟨b, q, none⟩) hbb
      rw [← hcw] at k0 k1 k2 k3
      clear hai r1 r2 hcw
      have hz29 := zero29
      go_upto_region 7 with (fail)
      refine wp_region_lit ?_
      iterate 15 go_step
      clear hz29 k0 k1 k2 k3
      have hw2 := Whole.made wr 29 #[.int .u8 0, .int .u8 0, .slice none 0 0, .slice none 0 0]
      refine wpList_store_mid rfl 29 (.tmp 6) (.tmp 27) rfl wr.heap.size 0 (a.cells A1 n1 c1 A3 n3 c3) rfl rfl ?_ ?_ (a.one ..) ?_
      · exact hw2.there_
      · exact info29
      have hw3 := hw2.setAll (vs := a.cells A1 n1 c1 A3 n3 c3) rfl
      have hb3 : Below wr.heap.size wr ((wr.alloc (.cells #[.int .u8 0, .int .u8 0, .slice none 0 0, .slice none 0 0] 29)).setCells wr.heap.size 0 (a.cells A1 n1 c1 A3 n3 c3).toList) := below_setCells wr wr.heap.size _ 0 ((Below.refl _ _).alloc (Nat.le_refl _) _) (Nat.le_refl _)
      generalize (wr.alloc (.cells #[.int .u8 0, .int .u8 0, .slice none 0 0, .slice none 0 0] 29)).setCells wr.heap.size 0 (a.cells A1 n1 c1 A3 n3 c3).toList = w3 at *
      have hs3 : wr.heap.size < w3.heap.size := hw3.lt
      have HW3 := Lib.hid hw3
      have k0 := hw3.at_ (i := 0) (v := .int .u8 a.kind.toNat) rfl
      have k1 := hw3.at_ (i := 1) (v := .int .u8 a.no.toNat) rfl
      have k2 := hw3.at_ (i := 2) (v := .slice A1 n1 c1) rfl
      have k3 := hw3.at_ (i := 3) (v := .slice A3 n3 c3) rfl
      have HTX3 := Lib.hid (HTX.out.on hb3)
      have HRX3 := Lib.hid (HRX.out.on hb3)
      have HBX3 := Lib.hid (HBX.out.trans (hb3.mono hsx))
      clear hw2 hw3 hb3 HTX HRX HBX
      generalize wr.heap.size = g3 at *
      by_cases hi6 : 60 < i
      · have hd6 : decide ((60 : Int) < (i : Int)) = true := decide_eq_true (by omega)
        clear hi6
        have HNO := Lib.hid (nodes_any oi g w3 HTX3.out (by omega))
        go_wp2_with fail
        refine HNO.out.mono ?_
        rintro e w20 hpo
        obtain ⟨A20, c20, rfl, hr20, hc20, _, hb20⟩ := hpo.nodes
        have hs20 := hb20.size
        have HR20 := Lib.hid hr20
        have HB20 := Lib.hid (HBX3.out.trans (hb20.mono HBX3.out.size))
        have HRA := Lib.hid (rall_o oi p w20 (HRX3.out.on hb20) (by omega) (tab0_below HT0.out HB20.out hw) (by have := HB20.out.size; omega))
        clear hpo hr20 hb20 HNO
        go_wp2_with fail
        refine HRA.out.mono ?_
        rintro e w21 ⟨v21, rfl, hO21, hb21⟩
        obtain ⟨A21, c21, rfl, hc21, _⟩ := hO21.form
        have HB21 := Lib.hid (HB20.out.trans (hb21.mono HB20.out.size))
        have HSN := Lib.hid (sameNodes_yes A20 A21 (oall oi).length c20 c21 (oall oi) w21 (HR20.out.on hb21) hO21.rd (by have h1 := hO21.form; cases oi with | none => (show 0 ≤ _; omega) | some t => (have h2 := all_len t; change t.n ≤ _ at hfew; show t.all.length ≤ _; omega)))
        clear hO21 hb21 HRA HR20 HB20
        generalize (oall oi).length = LN at *
        go_wp2_with fail
        refine HSN.out.mono ?_
        rintro e w22 ⟨rfl, hb22⟩
        have HB22 := Lib.hid (HB21.out.trans (hb22.mono HB21.out.size))
        go_wp2_with fail
        go_ret
        exact ⟨rfl, HB22.out⟩
      have hd6 : decide ((60 : Int) < (i : Int)) = false := decide_eq_false (by omega)
      obtain ⟨S, hS⟩ : ∃ S : Int, (n1 : Int) + (n3 : Int) = S := ⟨_, rfl⟩
      have hwl : wrap64 S = S := by rw [← hS]; exact wrap_add n1 n3 m3 m4
      obtain ⟨DL, hDL⟩ : ∃ DL, decide (1000 < S) = DL := ⟨_, rfl⟩
      cases DL with
      | true =>
        have HNO := Lib.hid (nodes_any oi g w3 HTX3.out (by omega))
        go_wp2_with fail
        refine HNO.out.mono ?_
        rintro e w20 hpo
        obtain ⟨A20, c20, rfl, hr20, hc20, _, hb20⟩ := hpo.nodes
        have hs20 := hb20.size
        have HR20 := Lib.hid hr20
        have HB20 := Lib.hid (HBX3.out.trans (hb20.mono HBX3.out.size))
        have HRA := Lib.hid (rall_o oi p w20 (HRX3.out.on hb20) (by omega) (tab0_below HT0.out HB20.out hw) (by have := HB20.out.size; omega))
        clear hpo hr20 hb20 HNO
        go_wp2_with fail
        refine HRA.out.mono ?_
        rintro e w21 ⟨v21, rfl, hO21, hb21⟩
        obtain ⟨A21, c21, rfl, hc21, _⟩ := hO21.form
        have HB21 := Lib.hid (HB20.out.trans (hb21.mono HB20.out.size))
        have HSN := Lib.hid (sameNodes_yes A20 A21 (oall oi).length c20 c21 (oall oi) w21 (HR20.out.on hb21) hO21.rd (by have h1 := hO21.form; cases oi with | none => (show 0 ≤ _; omega) | some t => (have h2 := all_len t; change t.n ≤ _ at hfew; show t.all.length ≤ _; omega)))
        clear hO21 hb21 HRA HR20 HB20
        generalize (oall oi).length = LN at *
        go_wp2_with fail
        refine HSN.out.mono ?_
        rintro e w22 ⟨rfl, hb22⟩
        have HB22 := Lib.hid (HB21.out.trans (hb22.mono HB21.out.size))
        go_wp2_with fail
        go_ret
        exact ⟨rfl, HB22.out⟩
      | false =>
      have HCK := Lib.hid (key_any a A1 A3 n1 c1 n3 c3 w3 ((HR.out.1.below HBX3.out (Nat.le_refl _)).more HBX3.out.size) m1)
      go_wp2_with fail
      refine HCK.out.mono ?_
      rintro e w4 ⟨Ak, nk, ck, rfl, hrk, hnck, hb4⟩
      have HKL := Lib.hid hrk.len
      have HRK := Lib.hid hrk
      have HW4 := Lib.hid (HW3.out.below hb4 hs3)
      have HTX4 := Lib.hid (HTX3.out.on hb4)
      have HRX4 := Lib.hid (HRX3.out.on hb4)
      have HBX4 := Lib.hid (HBX3.out.trans (hb4.mono HBX3.out.size))
      have hs4 : g3 < w4.heap.size := Nat.lt_of_lt_of_le hs3 hb4.size
      have HLV := Lib.hid (rleaves_p oi p w4 HRX4.out (by omega))
      clear hrk hb4 HCK HW3 HTX3 HRX3 HBX3 hs3 k0 k1 k2 k3 hwl hDL hS
      go_wp2_with fail
      refine HLV.out.mono ?_
      rintro e w5 ⟨v5, rfl, hO5, hb5⟩
      obtain ⟨A5, c5, rfl, hc5, _⟩ := hO5.form
      have HIX := Lib.hid (idx_any A5 (oln oi) c5 Ak nk ck (optLeaves oi) a.key w5 hO5.rd ((HRK.out.below hb5 (Nat.le_refl _)).more hb5.size) (by omega))
      have HW5 := Lib.hid (HW4.out.below hb5 hs4)
      have HTX5 := Lib.hid (HTX4.out.on hb5)
      have HRX5 := Lib.hid (HRX4.out.on hb5)
      have HRK5 := Lib.hid ((HRK.out.below hb5 (Nat.le_refl _)).more hb5.size)
      have HBX5 := Lib.hid (HBX4.out.trans (hb5.mono HBX4.out.size))
      have hs5 : g3 < w5.heap.size := Nat.lt_of_lt_of_le hs4 hb5.size
      clear hO5 hb5 HLV HW4 HTX4 HRX4 HBX4 HRK hs4
      go_wp2_with fail
      refine HIX.out.mono ?_
      rintro e w6 ⟨hb6, hres⟩
      obtain ⟨Z, rfl, hZ⟩ : ∃ Z : Int, e = .returned (.int .i64 Z) ∧ ((ofind oi a.key = none ∧ Z < 0) ∨ (0 ≤ Z ∧ (ofind oi a.key).isSome = true)) := by
        rcases hres with ⟨hf, rfl⟩ | ⟨ix, pr, _, _, hf, rfl⟩
        · exact ⟨-1, rfl, .inl ⟨by rw [ofind_leaves oi _ HFX.out.srt]; exact hf, by omega⟩⟩
        · exact ⟨ix, rfl, .inr ⟨by omega, by rw [ofind_leaves oi _ HFX.out.srt, hf]; rfl⟩⟩
      have HW6 := Lib.hid (HW5.out.below hb6 hs5)
      have HTX6 := Lib.hid (HTX5.out.on hb6)
      have HRX6 := Lib.hid (HRX5.out.on hb6)
      have HRK6 := Lib.hid ((HRK5.out.below hb6 (Nat.le_refl _)).more hb6.size)
      have HBX6 := Lib.hid (HBX5.out.trans (hb6.mono HBX5.out.size))
      have hs6 : g3 < w6.heap.size := Nat.lt_of_lt_of_le hs5 hb6.size
      have HZ := Lib.hid hZ
      have k0 := HW6.out.at_ (i := 0) (v := .int .u8 a.kind.toNat) rfl
      have k3 := HW6.out.at_ (i := 3) (v := .slice A3 n3 c3) rfl
      clear hres hb6 hZ HIX HW5 HTX5 HRX5 HBX5 HRK5 hs5
      go_upto_region 11 with (fail)
      rename_i K1 hK1 K0 hK0
      have HREST : ∀ (x9 x10 x11 x12 x13 x46 x47 x48 x49 x50 x51 x52 x53 x54 x55 x56 x57 x58 x59 x60 x61 x62 x63 x64 x65 x66 x67 x68 x69 x70 x71 x72 x73 x74 x75 x76 x77 x78 x79 x80 x81 x82 x83 x84 x85 x86 x87 x88 x89 x90 x91 x92 x93 x94 x95 x96 x97 x98 x99 x100 x101 x102 x103 x104 x105 : Value) (wx : World) (o1 : Option T) (g1 : Nat) (p1 : Option Nat), TIn All wx wx.heap.size o1 g1 → RPIn wx wx.heap.size o1 p1 → Fine o1 → oln o1 ≤ i + 1 → Below w6.heap.size w6 wx → K1 { tmps := #[Value.slice (some { block := b, off := ob }) n c, undef, u2, ptr (some g1), ptr p1, Value.int IntKind.i64 ↑i, Value.pointer (some { block := g3, off := 0 }), Value.slice Ak nk ck, Value.int IntKind.i64 Z, x9, x10, x11, x12, x13, u14, u15, u16, u17, Value.bool true, Value.bool false, ptr (some g0), Value.slice (some { block := b, off := ob }) n c, Value.int IntKind.i64 ↑n, Value.int IntKind.i64 ↑i, Value.bool true, Value.int IntKind.i64 ↑i, Value.pointer (some { block := b, off := ob + i * 4 }), Value.agg #[Value.int IntKind.u8 ↑a.kind.toNat, Value.int IntKind.u8 ↑a.no.toNat, Value.slice A1 n1 c1, Value.slice A3 n3 c3], Value.int IntKind.i64 ↑i, Value.bool false, Value.bool false, Value.pointer (some { block := g3, off := 2 }), Value.slice A1 n1 c1, Value.int IntKind.i64 ↑n1, Value.pointer (some { block := g3, off := 3 }), Value.slice A3 n3 c3, Value.int IntKind.i64 ↑n3, Value.int IntKind.i64 S, Value.bool false, Value.bool false, Value.agg #[Value.int IntKind.u8 ↑a.kind.toNat, Value.int IntKind.u8 ↑a.no.toNat, Value.slice A1 n1 c1, Value.slice A3 n3 c3], Value.slice Ak nk ck, ptr p, Value.slice A5 (oln oi) c5, Value.slice Ak nk ck, Value.int IntKind.i64 Z, x46, x47, x48, x49, x50, x51, x52, x53, x54, x55, x56, x57, x58, x59, x60, x61, x62, x63, x64, x65, x66, x67, x68, x69, x70, x71, x72, x73, x74, x75, x76, x77, x78, x79, x80, x81, x82, x83, x84, x85, x86, x87, x88, x89, x90, x91, x92, x93, x94, x95, x96, x97, x98, x99, x100, x101, x102, x103, x104, x105, u106, u107, u108, u109, u110, u111, u112, u113, u114, u115, u116, u117, u118, u119, u120, u121, u122, u123, u124, u125, u126, u127, u128, u129, u130, u131, u132, u133, u134, u135, u136, u137, u138, u139, u140, u141, u142, u143, u144, u145, u146, u147, u148, u149, u150, u151, u152, u153, u154, u155, u156, u157, u158, u159, u160, u161, u162, u163, u164, u165, undef, undef, undef, undef, undef], defers := [] } wx := by
        intro x9 x10 x11 x12 x13 x46 x47 x48 x49 x50 x51 x52 x53 x54 x55 x56 x57 x58 x59 x60 x61 x62 x63 x64 x65 x66 x67 x68 x69 x70 x71 x72 x73 x74 x75 x76 x77 x78 x79 x80 x81 x82 x83 x84 x85 x86 x87 x88 x89 x90 x91 x92 x93 x94 x95 x96 x97 x98 x99 x100 x101 x102 x103 x104 x105 wx o1 g1 p1 hT1 hR1 hF1 hn1 hb1
        refine hK1 _ _ ?_
        clear hK1 hK0 k0 k3
        have hi60 : i ≤ 60 := by
          have := of_decide_eq_false hd6
          omega
        have HF1 := Lib.hid hF1
        obtain ⟨NN, hNN⟩ : ∃ NN, oln o1 = NN := ⟨_, rfl⟩
        have HNN := Lib.hid (show oln o1 = NN ∧ NN ≤ 61 from ⟨hNN, by omega⟩)
        have HBW := Lib.hid (HBX6.out.trans (hb1.mono HBX6.out.size))
        have HK1 := Lib.hid ((HRK6.out.below hb1 (Nat.le_refl _)).more hb1.size)
        have HLV := Lib.hid (rleaves_p o1 p1 wx hR1 (by omega))
        have HT1 := Lib.hid hT1
        have HR1 := Lib.hid hR1
        rw [hNN] at HLV
        have hNs : NN ≤ i + 1 := by omega
        clear hT1 hR1 hF1 hn1 hb1 hNN HTX6 HRX6 HRK6 HBX6 HW6 hs6 hd6
        go_wp2_with fail
        refine HLV.out.mono ?_
        rintro e w8 ⟨v8, rfl, hO8, hb8⟩
        obtain ⟨A8, c8, rfl, hc8, _⟩ := hO8.form
        have HP8 := Lib.hid hO8.rd
        have HT8 := Lib.hid (HT1.out.on hb8)
        have HR8 := Lib.hid (HR1.out.on hb8)
        have HK8 := Lib.hid ((HK1.out.below hb8 (Nat.le_refl _)).more hb8.size)
        have HBW8 := Lib.hid (HBW.out.trans (hb8.mono HBW.out.size))
        have HGET := Lib.hid (get_any (G := All) (some o1) (some g1) Ak nk ck a.key w8 ⟨g1, rfl, HT8.out⟩ HK8.out)
        obtain ⟨Y, hY⟩ : ∃ Y, Sh.bcells (osum o1) = Y := ⟨_, rfl⟩
        have e1 : ∀ w, Sem.run Tryd.prog (Op.equalIn 10000 49 (.agg Y) (.agg Y)) w = .ok true w := fun w => by
          have := run_eq49 (osum o1) (osum o1) (osum32 o1) (osum32 o1) w
          rw [hY, show (osum o1 == osum o1) = true by simp] at this
          exact this
        have HY := Lib.hid (And.intro hY True.intro)
        clear hO8 hb8 hY HLV HT1 HR1 HK1 HBW
        go_wp2_with fail
        refine HGET.out.mono ?_
        rintro e w9 hpost
        rcases hpost with ⟨hfn, rfl, rfl⟩ | ⟨v, A9, n9, c9, hfs, rfl, hr9, hnc9, hn9, hb9⟩
        · have HIX := Lib.hid (idx_any A8 NN c8 Ak nk ck (optLeaves o1) a.key w8 HP8.out HK8.out (by omega))
          clear HGET
          go_wp2_with fail
          refine HIX.out.mono ?_
          rintro e w10 ⟨hb10, hres⟩
          have hfl : findL (optLeaves o1) a.key = none := by rw [← ofind_leaves o1 _ HF1.out.srt]; exact hfn
          obtain rfl : e = .returned (.int .i64 (-1)) := by
            rcases hres with ⟨_, h⟩ | ⟨_, _, _, _, h, _⟩
            · exact h
            · rw [hfl] at h; cases h
          obtain ⟨z, hz, hz0⟩ : ∃ z : Int, z = -1 ∧ z < 0 := ⟨-1, rfl, by omega⟩
          rw [← hz]
          have hzd : decide ((0 : Int) ≤ z) = false := decide_eq_false (by omega)
          have HT10 := Lib.hid (HT8.out.on hb10)
          have HR10 := Lib.hid (HR8.out.on hb10)
          have HP10 := Lib.hid (HP8.out.on hb10)
          have HBW10 := Lib.hid (HBW8.out.trans (hb10.mono HBW8.out.size))
          clear hz hres hb10 hfl hfn HIX HT8 HR8 HP8 HK8 HBW8
          go_upto_region 31 with (fail)
          refine wp_region_held_drew (S := fun _ => True) (by kernel_rfl) trivial (fun hHeld => ?_)
          have hTr : True := trivial
          refine wpAnyH_take (i := 0) (oi := { dst := some 117, op := Op.move (Operand.tmp 16), type := 4, pos := "law.go:97", after := #[], guard := none }) (v := ?_) rfl (by kernel_rfl) (by kernel_rfl) (by kernel_rfl) (fun _ _ _ h => h) (Or.inl ⟨by rfl, ?_⟩) (by assumption) ?_
          rotate_left
          · first | (intro w hSw; (try dsimp only at hSw); go_simp; done) | (intro w hSw; (try dsimp only at hSw); go_simp; with_reducible rfl)
          simp only [Act.put, List.setIfInBounds_toArray, List.set_cons_zero, List.set_cons_succ]
          refine wpAnyH_take (i := 1) (oi := { dst := some 118, op := Op.move (Operand.tmp 17), type := 3, pos := "law.go:97", after := #[], guard := none }) (v := ?_) rfl (by kernel_rfl) (by kernel_rfl) (by kernel_rfl) (fun _ _ _ h => h) (Or.inl ⟨by rfl, ?_⟩) (by assumption) ?_
          rotate_left
          · first | (intro w hSw; (try dsimp only at hSw); go_simp; done) | (intro w hSw; (try dsimp only at hSw); go_simp; with_reducible rfl)
          simp only [Act.put, List.setIfInBounds_toArray, List.set_cons_zero, List.set_cons_succ]
          refine wpAnyH_take (i := 2) (oi := { dst := some 119, op := Op.binOp BinOp.geq 3 (Operand.tmp 118) (Operand.const (Value.int IntKind.i64 0)) 3, type := 4, pos := "law.go:97", after := #[{ on := 1, ground := Ground.data }], guard := none }) (v := ?_) rfl (by kernel_rfl) (by kernel_rfl) (by kernel_rfl) (fun _ _ _ h => h) (Or.inl ⟨by rfl, ?_⟩) (by assumption) ?_
          rotate_left
          · first | (intro w hSw; (try dsimp only at hSw); go_simp; done) | (intro w hSw; (try dsimp only at hSw); go_simp; with_reducible rfl)
          simp only [Act.put, List.setIfInBounds_toArray, List.set_cons_zero, List.set_cons_succ]
          refine wpAnyH_take (i := 3) (oi := { dst := some 120, op := Op.binOp BinOp.neq 4 (Operand.tmp 117) (Operand.tmp 119) 4, type := 4, pos := "law.go:97", after := #[{ on := 0, ground := Ground.data }, { on := 2, ground := Ground.data }], guard := none }) (v := ?_) rfl (by kernel_rfl) (by kernel_rfl) (by kernel_rfl) (fun _ _ _ h => h) (Or.inl ⟨by rfl, ?_⟩) (by assumption) ?_
          rotate_left
          · first | (intro w hSw; (try dsimp only at hSw); go_simp; done) | (intro w hSw; (try dsimp only at hSw); go_simp; with_reducible rfl)
          simp only [Act.put, List.setIfInBounds_toArray, List.set_cons_zero, List.set_cons_succ]
          refine wpAnyH_take (i := 4) (oi := { dst := some 121, op := Op.move (Operand.tmp 120), type := 4, pos := "law.go:97", after := #[{ on := 3, ground := Ground.data }], guard := none }) (v := ?_) rfl (by kernel_rfl) (by kernel_rfl) (by kernel_rfl) (fun _ _ _ h => h) (Or.inl ⟨by rfl, ?_⟩) (by assumption) ?_
          rotate_left
          · first | (intro w hSw; (try dsimp only at hSw); go_simp; done) | (intro w hSw; (try dsimp only at hSw); go_simp; with_reducible rfl)
          simp only [Act.put, List.setIfInBounds_toArray, List.set_cons_zero, List.set_cons_succ]
          refine wpAnyH_take (i := 5) (oi := { dst := some 122, op := Op.move (Operand.tmp 16), type := 4, pos := "law.go:97", after := #[{ on := 4, ground := Ground.guard }], guard := some (4, false) }) (v := ?_) rfl (by kernel_rfl) (by kernel_rfl) (by kernel_rfl) (fun _ _ _ h => h) (Or.inl ⟨by rfl, ?_⟩) (by assumption) ?_
          rotate_left
          · first | (intro w hSw; (try dsimp only at hSw); go_simp; done) | (intro w hSw; (try dsimp only at hSw); go_simp; with_reducible rfl)
          simp only [Act.put, List.setIfInBounds_toArray, List.set_cons_zero, List.set_cons_succ]
          refine wpAnyH_take (i := 6) (oi := { dst := some 123, op := Op.move (Operand.tmp 122), type := 4, pos := "law.go:97", after := #[{ on := 5, ground := Ground.data }, { on := 4, ground := Ground.chain }, { on := 4, ground := Ground.guard }], guard := some (4, false) }) (v := ?_) rfl (by kernel_rfl) (by kernel_rfl) (by kernel_rfl) (fun _ _ _ h => h) (Or.inl ⟨by rfl, ?_⟩) (by assumption) ?_
          rotate_left
          · first | (intro w hSw; (try dsimp only at hSw); go_simp; done) | (intro w hSw; (try dsimp only at hSw); go_simp; with_reducible rfl)
          simp only [Act.put, List.setIfInBounds_toArray, List.set_cons_zero, List.set_cons_succ]
          refine wpAnyH_take (i := 7) (oi := { dst := some 124, op := Op.move (Operand.tmp 15), type := 27, pos := "law.go:97", after := #[{ on := 6, ground := Ground.guard }], guard := some (6, true) }) (v := undef) rfl (by kernel_rfl) (by kernel_rfl) (by kernel_rfl) (fun _ _ _ h => h) (Or.inr ⟨by rfl, rfl⟩) (by assumption) ?_
          simp only [Act.put, List.setIfInBounds_toArray, List.set_cons_zero, List.set_cons_succ]
          refine wpAnyH_take (i := 8) (oi := { dst := some 125, op := Op.convert 27 9 (Operand.tmp 124), type := 9, pos := "law.go:97", after := #[{ on := 7, ground := Ground.data }, { on := 6, ground := Ground.guard }], guard := some (6, true) }) (v := undef) rfl (by kernel_rfl) (by kernel_rfl) (by kernel_rfl) (fun _ _ _ h => h) (Or.inr ⟨by rfl, rfl⟩) (by assumption) ?_
          simp only [Act.put, List.setIfInBounds_toArray, List.set_cons_zero, List.set_cons_succ]
          refine wpAnyH_take (i := 9) (oi := { dst := some 126, op := Op.move (Operand.tmp 14), type := 32, pos := "law.go:97", after := #[{ on := 6, ground := Ground.guard }], guard := some (6, true) }) (v := undef) rfl (by kernel_rfl) (by kernel_rfl) (by kernel_rfl) (fun _ _ _ h => h) (Or.inr ⟨by rfl, rfl⟩) (by assumption) ?_
          simp only [Act.put, List.setIfInBounds_toArray, List.set_cons_zero, List.set_cons_succ]
          refine wpAnyH_take (i := 10) (oi := { dst := some 127, op := Op.move (Operand.tmp 17), type := 3, pos := "law.go:97", after := #[{ on := 6, ground := Ground.guard }], guard := some (6, true) }) (v := undef) rfl (by kernel_rfl) (by kernel_rfl) (by kernel_rfl) (fun _ _ _ h => h) (Or.inr ⟨by rfl, rfl⟩) (by assumption) ?_
          simp only [Act.put, List.setIfInBounds_toArray, List.set_cons_zero, List.set_cons_succ]
          refine wpAnyH_take (i := 11) (oi := { dst := some 128, op := Op.indexAddr 32 (Operand.tmp 126) (Operand.tmp 127), type := 0, pos := "law.go:97", after := #[{ on := 9, ground := Ground.data }, { on := 10, ground := Ground.data }, { on := 6, ground := Ground.guard }], guard := some (6, true) }) (v := undef) rfl (by kernel_rfl) (by kernel_rfl) (by kernel_rfl) (fun _ _ _ h => h) (Or.inr ⟨by rfl, rfl⟩) (by assumption) ?_
          simp only [Act.put, List.setIfInBounds_toArray, List.set_cons_zero, List.set_cons_succ]
          refine wpAnyH_take (i := 12) (oi := { dst := some 129, op := Op.fieldAddr 44 (Operand.tmp 128) 1, type := 0, pos := "law.go:97", after := #[{ on := 11, ground := Ground.data }, { on := 6, ground := Ground.guard }], guard := some (6, true) }) (v := undef) rfl (by kernel_rfl) (by kernel_rfl) (by kernel_rfl) (fun _ _ _ h => h) (Or.inr ⟨by rfl, rfl⟩) (by assumption) ?_
          simp only [Act.put, List.setIfInBounds_toArray, List.set_cons_zero, List.set_cons_succ]
          refine wpAnyH_take (i := 13) (oi := { dst := some 130, op := Op.load 27 (Operand.tmp 129), type := 27, pos := "law.go:97", after := #[{ on := 12, ground := Ground.data }, { on := 6, ground := Ground.guard }], guard := some (6, true) }) (v := undef) rfl (by kernel_rfl) (by kernel_rfl) (by kernel_rfl) (fun _ _ _ h => h) (Or.inr ⟨by rfl, rfl⟩) (by assumption) ?_
          simp only [Act.put, List.setIfInBounds_toArray, List.set_cons_zero, List.set_cons_succ]
          refine wpAnyH_take (i := 14) (oi := { dst := some 131, op := Op.convert 27 9 (Operand.tmp 130), type := 9, pos := "law.go:97", after := #[{ on := 13, ground := Ground.data }, { on := 6, ground := Ground.guard }], guard := some (6, true) }) (v := undef) rfl (by kernel_rfl) (by kernel_rfl) (by kernel_rfl) (fun _ _ _ h => h) (Or.inr ⟨by rfl, rfl⟩) (by assumption) ?_
          simp only [Act.put, List.setIfInBounds_toArray, List.set_cons_zero, List.set_cons_succ]
          refine wpAnyH_take (i := 15) (oi := { dst := some 132, op := Op.binOp BinOp.neq 9 (Operand.tmp 125) (Operand.tmp 131) 9, type := 4, pos := "law.go:97", after := #[{ on := 8, ground := Ground.data }, { on := 14, ground := Ground.data }, { on := 6, ground := Ground.guard }], guard := some (6, true) }) (v := undef) rfl (by kernel_rfl) (by kernel_rfl) (by kernel_rfl) (fun _ _ _ h => h) (Or.inr ⟨by rfl, rfl⟩) (by assumption) ?_
          simp only [Act.put, List.setIfInBounds_toArray, List.set_cons_zero, List.set_cons_succ]
          refine wpAnyH_take (i := 16) (oi := { dst := some 133, op := Op.pick (Operand.tmp 123) (Operand.tmp 132) (Operand.const (Value.bool false)), type := 4, pos := "law.go:97", after := #[{ on := 6, ground := Ground.data }, { on := 15, ground := Ground.data }, { on := 4, ground := Ground.guard }], guard := some (4, false) }) (v := ?_) rfl (by kernel_rfl) (by kernel_rfl) (by kernel_rfl) (fun _ _ _ h => h) (Or.inl ⟨by rfl, ?_⟩) (by assumption) ?_
          rotate_left
          · first | (intro w hSw; (try dsimp only at hSw); go_simp; done) | (intro w hSw; (try dsimp only at hSw); go_simp; with_reducible rfl)
          simp only [Act.put, List.setIfInBounds_toArray, List.set_cons_zero, List.set_cons_succ]
          refine wpAnyH_take (i := 17) (oi := { dst := some 134, op := Op.pick (Operand.tmp 121) (Operand.const (Value.bool true)) (Operand.tmp 133), type := 4, pos := "law.go:97", after := #[{ on := 4, ground := Ground.data }, { on := 16, ground := Ground.data }], guard := none }) (v := ?_) rfl (by kernel_rfl) (by kernel_rfl) (by kernel_rfl) (fun _ _ _ h => h) (Or.inl ⟨by rfl, ?_⟩) (by assumption) ?_
          rotate_left
          · first | (intro w hSw; (try dsimp only at hSw); go_simp; done) | (intro w hSw; (try dsimp only at hSw); go_simp; with_reducible rfl)
          simp only [Act.put, List.setIfInBounds_toArray, List.set_cons_zero, List.set_cons_succ]
          refine wpAnyH_take (i := 18) (oi := { dst := some 135, op := Op.move (Operand.tmp 134), type := 4, pos := "law.go:97", after := #[{ on := 17, ground := Ground.data }, { on := 6, ground := Ground.chain }], guard := none }) (v := ?_) rfl (by kernel_rfl) (by kernel_rfl) (by kernel_rfl) (fun _ _ _ h => h) (Or.inl ⟨by rfl, ?_⟩) (by assumption) ?_
          rotate_left
          · first | (intro w hSw; (try dsimp only at hSw); go_simp; done) | (intro w hSw; (try dsimp only at hSw); go_simp; with_reducible rfl)
          simp only [Act.put, List.setIfInBounds_toArray, List.set_cons_zero, List.set_cons_succ]
          refine wpAnyH_take (i := 19) (oi := { dst := some 136, op := Op.move (Operand.tmp 16), type := 4, pos := "law.go:97", after := #[{ on := 18, ground := Ground.guard }], guard := some (18, false) }) (v := ?_) rfl (by kernel_rfl) (by kernel_rfl) (by kernel_rfl) (fun _ _ _ h => h) (Or.inl ⟨by rfl, ?_⟩) (by assumption) ?_
          rotate_left
          · first | (intro w hSw; (try dsimp only at hSw); go_simp; done) | (intro w hSw; (try dsimp only at hSw); go_simp; with_reducible rfl)
          simp only [Act.put, List.setIfInBounds_toArray, List.set_cons_zero, List.set_cons_succ]
          refine wpAnyH_take (i := 20) (oi := { dst := some 137, op := Op.unOp UnOp.not 4 (Operand.tmp 136), type := 4, pos := "law.go:97", after := #[{ on := 19, ground := Ground.data }, { on := 18, ground := Ground.guard }], guard := some (18, false) }) (v := ?_) rfl (by kernel_rfl) (by kernel_rfl) (by kernel_rfl) (fun _ _ _ h => h) (Or.inl ⟨by rfl, ?_⟩) (by assumption) ?_
          rotate_left
          · first | (intro w hSw; (try dsimp only at hSw); go_simp; done) | (intro w hSw; (try dsimp only at hSw); go_simp; with_reducible rfl)
          simp only [Act.put, List.setIfInBounds_toArray, List.set_cons_zero, List.set_cons_succ]
          refine wpAnyH_take (i := 21) (oi := { dst := some 138, op := Op.move (Operand.tmp 137), type := 4, pos := "law.go:97", after := #[{ on := 20, ground := Ground.data }, { on := 18, ground := Ground.chain }, { on := 18, ground := Ground.guard }], guard := some (18, false) }) (v := ?_) rfl (by kernel_rfl) (by kernel_rfl) (by kernel_rfl) (fun _ _ _ h => h) (Or.inl ⟨by rfl, ?_⟩) (by assumption) ?_
          rotate_left
          · first | (intro w hSw; (try dsimp only at hSw); go_simp; done) | (intro w hSw; (try dsimp only at hSw); go_simp; with_reducible rfl)
          simp only [Act.put, List.setIfInBounds_toArray, List.set_cons_zero, List.set_cons_succ]
          refine wpAnyH_take (i := 22) (oi := { dst := some 139, op := Op.move (Operand.tmp 15), type := 27, pos := "law.go:97", after := #[{ on := 21, ground := Ground.guard }], guard := some (21, true) }) (v := ?_) rfl (by kernel_rfl) (by kernel_rfl) (by kernel_rfl) (fun _ _ _ h => h) (Or.inl ⟨by rfl, ?_⟩) (by assumption) ?_
          rotate_left
          · first | (intro w hSw; (try dsimp only at hSw); go_simp; done) | (intro w hSw; (try dsimp only at hSw); go_simp; with_reducible rfl)
          simp only [Act.put, List.setIfInBounds_toArray, List.set_cons_zero, List.set_cons_succ]
          refine wpAnyH_take (i := 23) (oi := { dst := some 140, op := Op.call { callee := Callee.builtin Builtin.len, args := #[Operand.tmp 139], argTypes := #[27] }, type := 3, pos := "law.go:97", after := #[{ on := 22, ground := Ground.data }, { on := 21, ground := Ground.guard }], guard := some (21, true) }) (v := ?_) rfl (by kernel_rfl) (by kernel_rfl) (by kernel_rfl) (fun _ _ _ h => h) (Or.inl ⟨by rfl, ?_⟩) (by assumption) ?_
          rotate_left
          · first | (intro w hSw; (try dsimp only at hSw); go_simp; done) | (intro w hSw; (try dsimp only at hSw); go_simp; with_reducible rfl)
          simp only [Act.put, List.setIfInBounds_toArray, List.set_cons_zero, List.set_cons_succ]
          refine wpAnyH_take (i := 24) (oi := { dst := some 141, op := Op.binOp BinOp.gtr 3 (Operand.tmp 140) (Operand.const (Value.int IntKind.i64 0)) 3, type := 4, pos := "law.go:97", after := #[{ on := 23, ground := Ground.data }, { on := 21, ground := Ground.guard }], guard := some (21, true) }) (v := ?_) rfl (by kernel_rfl) (by kernel_rfl) (by kernel_rfl) (fun _ _ _ h => h) (Or.inl ⟨by rfl, ?_⟩) (by assumption) ?_
          rotate_left
          · first | (intro w hSw; (try dsimp only at hSw); go_simp; done) | (intro w hSw; (try dsimp only at hSw); go_simp; with_reducible rfl)
          simp only [Act.put, List.setIfInBounds_toArray, List.set_cons_zero, List.set_cons_succ]
          refine wpAnyH_take (i := 25) (oi := { dst := some 142, op := Op.pick (Operand.tmp 138) (Operand.tmp 141) (Operand.const (Value.bool false)), type := 4, pos := "law.go:97", after := #[{ on := 21, ground := Ground.data }, { on := 24, ground := Ground.data }, { on := 18, ground := Ground.guard }], guard := some (18, false) }) (v := ?_) rfl (by kernel_rfl) (by kernel_rfl) (by kernel_rfl) (fun _ _ _ h => h) (Or.inl ⟨by rfl, ?_⟩) (by assumption) ?_
          rotate_left
          · first | (intro w hSw; (try dsimp only at hSw); go_simp; done) | (intro w hSw; (try dsimp only at hSw); go_simp; with_reducible rfl)
          simp only [Act.put, List.setIfInBounds_toArray, List.set_cons_zero, List.set_cons_succ]
          refine wpAnyH_take (i := 26) (oi := { dst := some 143, op := Op.pick (Operand.tmp 135) (Operand.const (Value.bool true)) (Operand.tmp 142), type := 4, pos := "law.go:97", after := #[{ on := 18, ground := Ground.data }, { on := 25, ground := Ground.data }], guard := none }) (v := ?_) rfl (by kernel_rfl) (by kernel_rfl) (by kernel_rfl) (fun _ _ _ h => h) (Or.inl ⟨by rfl, ?_⟩) (by assumption) ?_
          rotate_left
          · first | (intro w hSw; (try dsimp only at hSw); go_simp; done) | (intro w hSw; (try dsimp only at hSw); go_simp; with_reducible rfl)
          simp only [Act.put, List.setIfInBounds_toArray, List.set_cons_zero, List.set_cons_succ]
          refine wpAnyH_take (i := 27) (oi := { dst := some 144, op := Op.move (Operand.tmp 143), type := 4, pos := "law.go:97", after := #[{ on := 26, ground := Ground.data }, { on := 21, ground := Ground.chain }], guard := none }) (v := ?_) rfl (by kernel_rfl) (by kernel_rfl) (by kernel_rfl) (fun _ _ _ h => h) (Or.inl ⟨by rfl, ?_⟩) (by assumption) ?_
          rotate_left
          · first | (intro w hSw; (try dsimp only at hSw); go_simp; done) | (intro w hSw; (try dsimp only at hSw); go_simp; with_reducible rfl)
          simp only [Act.put, List.setIfInBounds_toArray, List.set_cons_zero, List.set_cons_succ]
          refine wpAnyH_take (i := 28) (oi := { dst := some 145, op := Op.move (Operand.tmp 3), type := 24, pos := "law.go:97", after := #[{ on := 27, ground := Ground.guard }], guard := some (27, false) }) (v := ?_) rfl (by kernel_rfl) (by kernel_rfl) (by kernel_rfl) (fun _ _ _ h => h) (Or.inl ⟨by rfl, ?_⟩) (by assumption) ?_
          rotate_left
          · first | (intro w hSw; (try dsimp only at hSw); go_simp; done) | (intro w hSw; (try dsimp only at hSw); go_simp; with_reducible rfl)
          simp only [Act.put, List.setIfInBounds_toArray, List.set_cons_zero, List.set_cons_succ]
          refine wpAnyH_take (i := 30) (oi := { dst := some 147, op := Op.move (Operand.tmp 14), type := 32, pos := "law.go:97", after := #[{ on := 27, ground := Ground.guard }], guard := some (27, false) }) (v := ?_) rfl (by kernel_rfl) (by kernel_rfl) (by kernel_rfl) (fun _ _ _ h => h) (Or.inl ⟨by rfl, ?_⟩) (by assumption) ?_
          rotate_left
          · first | (intro w hSw; (try dsimp only at hSw); go_simp; done) | (intro w hSw; (try dsimp only at hSw); go_simp; with_reducible rfl)
          simp only [Act.put, List.setIfInBounds_toArray, List.set_cons_zero, List.set_cons_succ]
          refine wpAnyH_take (i := 31) (oi := { dst := some 148, op := Op.call { callee := Callee.builtin Builtin.len, args := #[Operand.tmp 147], argTypes := #[32] }, type := 3, pos := "law.go:97", after := #[{ on := 30, ground := Ground.data }, { on := 27, ground := Ground.guard }], guard := some (27, false) }) (v := ?_) rfl (by kernel_rfl) (by kernel_rfl) (by kernel_rfl) (fun _ _ _ h => h) (Or.inl ⟨by rfl, ?_⟩) (by assumption) ?_
          rotate_left
          · first | (intro w hSw; (try dsimp only at hSw); go_simp; done) | (intro w hSw; (try dsimp only at hSw); go_simp; with_reducible rfl)
          simp only [Act.put, List.setIfInBounds_toArray, List.set_cons_zero, List.set_cons_succ]
          have HTd : Hid (TIn All w10.drew w10.drew.heap.size o1 g1) := Lib.hid (HT10.out.on (Below.refl _ _).drew)
          have HRd : Hid (RPIn w10.drew w10.drew.heap.size o1 p1) := Lib.hid (HR10.out.on (Below.refl _ _).drew)
          have HPd : Hid (PRd w10.drew w10.drew.heap.size A8 NN (optLeaves o1)) := Lib.hid (HP10.out.on (Below.refl _ _).drew)
          have HBd : Hid (Below w10.heap.size w10 w10.drew) := Lib.hid (Below.refl _ _).drew
          have hsd : w10.heap.size ≤ w10.drew.heap.size := Nat.le_refl _
          generalize w10.drew = w11 at *
          have HLN := Lib.hid (len_any (some o1) (some g1) w11 ⟨g1, rfl, HTd.out⟩ (by show oln o1 ≤ _; have := HNN.out; omega))
          rw [show (oln (topOf (some o1)) : Nat) = NN from HNN.out.1] at HLN
          rw [ptr_some] at HLN
          refine wpAnyH_ready (rs := [29]) (by kernel_rfl) (by simp) ?_
          refine AllReadyH.cons rfl (fun K hK => ?_) AllReadyH.nil
          simp only [ptr_some]
          go_simp
          refine HLN.out.mono ?_
          rintro e w12 ⟨rfl, rfl⟩
          refine hK.out _ _ trivial (fun hHeld => ?_)
          clear hK K HLN
          refine wpAnyH_take (i := 32) (oi := { dst := some 149, op := Op.binOp BinOp.neq 3 (Operand.tmp 146) (Operand.tmp 148) 3, type := 4, pos := "law.go:97", after := #[{ on := 29, ground := Ground.data }, { on := 31, ground := Ground.data }, { on := 27, ground := Ground.guard }], guard := some (27, false) }) (v := ?_) rfl (by kernel_rfl) (by kernel_rfl) (by kernel_rfl) (fun _ _ _ h => h) (Or.inl ⟨by rfl, ?_⟩) (by assumption) ?_
          rotate_left
          · first | (intro w hSw; (try dsimp only at hSw); go_simp; done) | (intro w hSw; (try dsimp only at hSw); go_simp; with_reducible rfl)
          simp only [Act.put, List.setIfInBounds_toArray, List.set_cons_zero, List.set_cons_succ]
          refine wpAnyH_take (i := 33) (oi := { dst := some 150, op := Op.pick (Operand.tmp 144) (Operand.const (Value.bool true)) (Operand.tmp 149), type := 4, pos := "law.go:97", after := #[{ on := 27, ground := Ground.data }, { on := 32, ground := Ground.data }], guard := none }) (v := ?_) rfl (by kernel_rfl) (by kernel_rfl) (by kernel_rfl) (fun _ _ _ h => h) (Or.inl ⟨by rfl, ?_⟩) (by assumption) ?_
          rotate_left
          · first | (intro w hSw; (try dsimp only at hSw); go_simp; done) | (intro w hSw; (try dsimp only at hSw); go_simp; with_reducible rfl)
          simp only [Act.put, List.setIfInBounds_toArray, List.set_cons_zero, List.set_cons_succ]
          refine wpAnyH_take (i := 34) (oi := { dst := some 151, op := Op.move (Operand.tmp 150), type := 4, pos := "law.go:97", after := #[{ on := 33, ground := Ground.data }, { on := 29, ground := Ground.chain }], guard := none }) (v := ?_) rfl (by kernel_rfl) (by kernel_rfl) (by kernel_rfl) (fun _ _ _ h => h) (Or.inl ⟨by rfl, ?_⟩) (by assumption) ?_
          rotate_left
          · first | (intro w hSw; (try dsimp only at hSw); go_simp; done) | (intro w hSw; (try dsimp only at hSw); go_simp; with_reducible rfl)
          simp only [Act.put, List.setIfInBounds_toArray, List.set_cons_zero, List.set_cons_succ]
          refine wpAnyH_take (i := 35) (oi := { dst := some 152, op := Op.move (Operand.tmp 3), type := 24, pos := "law.go:97", after := #[{ on := 34, ground := Ground.guard }], guard := some (34, false) }) (v := ?_) rfl (by kernel_rfl) (by kernel_rfl) (by kernel_rfl) (fun _ _ _ h => h) (Or.inl ⟨by rfl, ?_⟩) (by assumption) ?_
          rotate_left
          · first | (intro w hSw; (try dsimp only at hSw); go_simp; done) | (intro w hSw; (try dsimp only at hSw); go_simp; with_reducible rfl)
          simp only [Act.put, List.setIfInBounds_toArray, List.set_cons_zero, List.set_cons_succ]
          refine wpAnyH_take (i := 37) (oi := { dst := some 154, op := Op.move (Operand.tmp 14), type := 32, pos := "law.go:97", after := #[{ on := 34, ground := Ground.guard }], guard := some (34, false) }) (v := ?_) rfl (by kernel_rfl) (by kernel_rfl) (by kernel_rfl) (fun _ _ _ h => h) (Or.inl ⟨by rfl, ?_⟩) (by assumption) ?_
          rotate_left
          · first | (intro w hSw; (try dsimp only at hSw); go_simp; done) | (intro w hSw; (try dsimp only at hSw); go_simp; with_reducible rfl)
          simp only [Act.put, List.setIfInBounds_toArray, List.set_cons_zero, List.set_cons_succ]
          have HAL := Lib.hid (all_any (G := All) o1 g1 w11 HTd.out (by have := HNN.out; omega))
          rw [ptr_some] at HAL
          refine wpAnyH_ready (rs := [36]) (by kernel_rfl) (by simp) ?_
          refine AllReadyH.cons rfl (fun K hK => ?_) AllReadyH.nil
          go_simp
          refine HAL.out.mono ?_
          rintro e w13 hpo
          obtain ⟨A13, n13, c13, rfl, hp13, hc13, _, hb13⟩ := hpo.pairs
          have HB13 := Lib.hid (HBd.out.trans (hb13.mono hsd))
          have HT13 := Lib.hid (HTd.out.on hb13)
          have HR13 := Lib.hid (HRd.out.on hb13)
          have HSP := Lib.hid (samePairs_yes A13 n13 c13 A8 NN c8 (optLeaves o1) w13 hp13 (HPd.out.on hb13) (by have := hp13.len; have h2 := oln_leaves o1; have := HNN.out; omega))
          have hs13 : w11.heap.size ≤ w13.heap.size := hb13.size
          refine hK.out _ _ trivial (fun hHeld => ?_)
          clear hK K hpo hp13 hb13 HAL HTd HRd HPd HBd
          refine wpAnyH_ready (rs := [38]) (by kernel_rfl) (by simp) ?_
          refine AllReadyH.cons rfl (fun K hK => ?_) AllReadyH.nil
          go_simp
          refine HSP.out.mono ?_
          rintro e w14 ⟨rfl, hb14⟩
          have HB14 := Lib.hid (HB13.out.trans (hb14.mono HB13.out.size))
          have HT14 := Lib.hid (HT13.out.on hb14)
          have HR14 := Lib.hid (HR13.out.on hb14)
          refine hK.out _ _ trivial (fun hHeld => ?_)
          clear hK K hb14 HSP HT13 HR13 HB13
          refine wpAnyH_take (i := 39) (oi := { dst := some 156, op := Op.unOp UnOp.not 4 (Operand.tmp 155), type := 4, pos := "law.go:97", after := #[{ on := 38, ground := Ground.data }, { on := 34, ground := Ground.guard }], guard := some (34, false) }) (v := ?_) rfl (by kernel_rfl) (by kernel_rfl) (by kernel_rfl) (fun _ _ _ h => h) (Or.inl ⟨by rfl, ?_⟩) (by assumption) ?_
          rotate_left
          · first | (intro w hSw; (try dsimp only at hSw); go_simp; done) | (intro w hSw; (try dsimp only at hSw); go_simp; with_reducible rfl)
          simp only [Act.put, List.setIfInBounds_toArray, List.set_cons_zero, List.set_cons_succ]
          refine wpAnyH_take (i := 40) (oi := { dst := some 157, op := Op.pick (Operand.tmp 151) (Operand.const (Value.bool true)) (Operand.tmp 156), type := 4, pos := "law.go:97", after := #[{ on := 34, ground := Ground.data }, { on := 39, ground := Ground.data }], guard := none }) (v := ?_) rfl (by kernel_rfl) (by kernel_rfl) (by kernel_rfl) (fun _ _ _ h => h) (Or.inl ⟨by rfl, ?_⟩) (by assumption) ?_
          rotate_left
          · first | (intro w hSw; (try dsimp only at hSw); go_simp; done) | (intro w hSw; (try dsimp only at hSw); go_simp; with_reducible rfl)
          simp only [Act.put, List.setIfInBounds_toArray, List.set_cons_zero, List.set_cons_succ]
          refine wpAnyH_take (i := 41) (oi := { dst := some 158, op := Op.move (Operand.tmp 157), type := 4, pos := "law.go:97", after := #[{ on := 40, ground := Ground.data }, { on := 38, ground := Ground.chain }], guard := none }) (v := ?_) rfl (by kernel_rfl) (by kernel_rfl) (by kernel_rfl) (fun _ _ _ h => h) (Or.inl ⟨by rfl, ?_⟩) (by assumption) ?_
          rotate_left
          · first | (intro w hSw; (try dsimp only at hSw); go_simp; done) | (intro w hSw; (try dsimp only at hSw); go_simp; with_reducible rfl)
          simp only [Act.put, List.setIfInBounds_toArray, List.set_cons_zero, List.set_cons_succ]
          refine wpAnyH_take (i := 42) (oi := { dst := some 159, op := Op.move (Operand.tmp 3), type := 24, pos := "law.go:97", after := #[{ on := 41, ground := Ground.guard }], guard := some (41, false) }) (v := ?_) rfl (by kernel_rfl) (by kernel_rfl) (by kernel_rfl) (fun _ _ _ h => h) (Or.inl ⟨by rfl, ?_⟩) (by assumption) ?_
          rotate_left
          · first | (intro w hSw; (try dsimp only at hSw); go_simp; done) | (intro w hSw; (try dsimp only at hSw); go_simp; with_reducible rfl)
          simp only [Act.put, List.setIfInBounds_toArray, List.set_cons_zero, List.set_cons_succ]
          refine wpAnyH_take (i := 44) (oi := { dst := some 161, op := Op.move (Operand.tmp 4), type := 26, pos := "law.go:97", after := #[{ on := 41, ground := Ground.guard }], guard := some (41, false) }) (v := ?_) rfl (by kernel_rfl) (by kernel_rfl) (by kernel_rfl) (fun _ _ _ h => h) (Or.inl ⟨by rfl, ?_⟩) (by assumption) ?_
          rotate_left
          · first | (intro w hSw; (try dsimp only at hSw); go_simp; done) | (intro w hSw; (try dsimp only at hSw); go_simp; with_reducible rfl)
          simp only [Act.put, List.setIfInBounds_toArray, List.set_cons_zero, List.set_cons_succ]
          have HBW14 := Lib.hid (HBW10.out.trans (HB14.out.mono HBW10.out.size))
          have HRO := Lib.hid (root_any (some o1) (some g1) w14 ⟨g1, rfl, HT14.out⟩ (Sh.tab_below HT.out HBW14.out hw) (by have := HBW14.out.size; omega))
          rw [ptr_some, show topOf (some o1) = o1 from rfl, HY.out.1] at HRO
          refine wpAnyH_ready (rs := [43]) (by kernel_rfl) (by simp) ?_
          refine AllReadyH.cons rfl (fun K hK => ?_) AllReadyH.nil
          go_simp
          refine HRO.out.mono ?_
          rintro e w15 ⟨rfl, hb15⟩
          have HB15 := Lib.hid (HB14.out.trans (hb15.mono HB14.out.size))
          have HT15 := Lib.hid (HT14.out.on hb15)
          have HR15 := Lib.hid (HR14.out.on hb15)
          have HBW15 := Lib.hid (HBW14.out.trans (hb15.mono HBW14.out.size))
          have HRS := Lib.hid (rsum_p o1 p1 w15 HR15.out (by have := HNN.out; omega) (tab0_below HT0.out HBW15.out hw) (by have := HBW15.out.size; omega))
          rw [HY.out.1] at HRS
          refine hK.out _ _ trivial (fun hHeld => ?_)
          clear hK K hb15 HRO HT14 HR14 HB14 HBW14
          refine wpAnyH_ready (rs := [45]) (by kernel_rfl) (by simp) ?_
          refine AllReadyH.cons rfl (fun K hK => ?_) AllReadyH.nil
          go_simp
          refine HRS.out.mono ?_
          rintro e w16 ⟨rfl, hb16⟩
          have HB16 := Lib.hid (HB15.out.trans (hb16.mono HB15.out.size))
          have HT16 := Lib.hid (HT15.out.on hb16)
          have HR16 := Lib.hid (HR15.out.on hb16)
          have HBW16 := Lib.hid (HBW15.out.trans (hb16.mono HBW15.out.size))
          refine hK.out _ _ trivial (fun hHeld => ?_)
          clear hK K hb16 HRS HT15 HR15 HB15 HBW15
          refine wpAnyH_take (i := 46) (oi := { dst := some 163, op := Op.binOp BinOp.neq 49 (Operand.tmp 160) (Operand.tmp 162) 49, type := 4, pos := "law.go:97", after := #[{ on := 43, ground := Ground.data }, { on := 45, ground := Ground.data }, { on := 41, ground := Ground.guard }], guard := some (41, false) }) (v := ?_) rfl (by kernel_rfl) (by kernel_rfl) (by kernel_rfl) (fun _ _ _ h => h) (Or.inl ⟨by rfl, ?_⟩) (by assumption) ?_
          rotate_left
          · first | (intro w hSw; (try dsimp only at hSw); go_simp; done) | (intro w hSw; (try dsimp only at hSw); go_simp; with_reducible rfl)
          simp only [Act.put, List.setIfInBounds_toArray, List.set_cons_zero, List.set_cons_succ]
          refine wpAnyH_take (i := 47) (oi := { dst := some 164, op := Op.pick (Operand.tmp 158) (Operand.const (Value.bool true)) (Operand.tmp 163), type := 4, pos := "law.go:97", after := #[{ on := 41, ground := Ground.data }, { on := 46, ground := Ground.data }], guard := none }) (v := ?_) rfl (by kernel_rfl) (by kernel_rfl) (by kernel_rfl) (fun _ _ _ h => h) (Or.inl ⟨by rfl, ?_⟩) (by assumption) ?_
          rotate_left
          · first | (intro w hSw; (try dsimp only at hSw); go_simp; done) | (intro w hSw; (try dsimp only at hSw); go_simp; with_reducible rfl)
          simp only [Act.put, List.setIfInBounds_toArray, List.set_cons_zero, List.set_cons_succ]
          refine wpAnyH_done (by kernel_rfl) ?_ _
          clear hHeld e1
          go_wp2_with fail
          go_roundg gn
          case measure => omega
          case rel => exact ⟨i + 1, o1, g1, p1, by omega, by omega, congrArg (Value.int .i64) (by omega), rfl, rfl, HT16.out, HR16.out, HF1.out, by have := HNN.out; omega, HBW16.out⟩
        · have HIX := Lib.hid (idx_any A8 NN c8 Ak nk ck (optLeaves o1) a.key w9 (HP8.out.on hb9) ((HK8.out.below hb9 (Nat.le_refl _)).more hb9.size) (by omega))
          have HR9 := Lib.hid hr9
          have HT9 := Lib.hid (HT8.out.on hb9)
          have HRP9 := Lib.hid (HR8.out.on hb9)
          have HP9 := Lib.hid (HP8.out.on hb9)
          have HBW9 := Lib.hid (HBW8.out.trans (hb9.mono HBW8.out.size))
          clear HGET hr9 hb9 HT8 HR8 HP8 HK8 HBW8
          go_wp2_with fail
          refine HIX.out.mono ?_
          rintro e w10 ⟨hb10, hres⟩
          have hfl : findL (optLeaves o1) a.key = some v := by rw [← ofind_leaves o1 _ HF1.out.srt]; exact hfs
          obtain ⟨ix, pr, hpr, hpv, rfl⟩ : ∃ (ix : Nat) (pr : List UInt8 × List UInt8), (optLeaves o1)[ix]? = some pr ∧ pr.2 = v ∧ e = .returned (.int .i64 ix) := by
            rcases hres with ⟨h, _⟩ | ⟨ix, pr, h1, h2, h3, h4⟩
            · rw [hfl] at h; cases h
            · rw [hfl] at h3; injection h3 with h3
              exact ⟨ix, pr, h1, h3.symm, h4⟩
          have HT10 := Lib.hid (HT9.out.on hb10)
          have HR10 := Lib.hid (HRP9.out.on hb10)
          have HP10 := Lib.hid (HP9.out.on hb10)
          have HV10 := Lib.hid ((HR9.out.below hb10 (Nat.le_refl _)).more hb10.size)
          have HBW10 := Lib.hid (HBW9.out.trans (hb10.mono HBW9.out.size))
          have hixN : ix < NN := by have h1 := (List.getElem?_eq_some_iff.1 hpr).1; rw [oln_leaves, HNN.out.1] at h1; exact h1
          obtain ⟨b8, o8, B1, q1, d1, B2, q2, d2, rfl, hbb8, hcc1, hcc2, _, _, _, hrv2⟩ := HP10.out.at_ hpr
          obtain ⟨X, hX⟩ : ∃ X, Value.string X = .string ⟨v.toArray⟩ := ⟨_, rfl⟩
          have HSA : Hid (∀ u, Below w10.heap.size w10 u → Sem.run Tryd.prog (convert 27 9 (.slice A9 n9 c9)) u = .ok (.string X) u ∧ u.cell? ⟨b8, o8 + ix * 2 + 1, none⟩ = some (.slice B2 q2 d2) ∧ Sem.run Tryd.prog (convert 27 9 (.slice B2 q2 d2)) u = .ok (.string X) u) := Lib.hid fun u hu => by
            refine ⟨?_, ?_, ?_⟩
            · rw [hX]; exact run_string u _ A9 n9 c9 v (HV10.out.below hu (Nat.le_refl _))
            · rw [hu.cell (p := ⟨b8, o8 + ix * 2 + 1, none⟩) hbb8, show o8 + ix * 2 + 1 = o8 + (2 * ix + 1) by omega]; exact hcc2
            · rw [hX, ← hpv]; exact run_string u _ B2 q2 d2 pr.2 (hrv2.below hu (Nat.le_refl _))
          clear hres hb10 hfl hfs hpr hpv hcc1 hcc2 hrv2 hX HIX HT9 HRP9 HP9 HR9 HBW9 HV10
          go_upto_region 31 with (fail)
          refine wp_region_held_drew (S := fun u => Sem.run Tryd.prog (convert 27 9 (.slice A9 n9 c9)) u = .ok (.string X) u ∧ u.cell? ⟨b8, o8 + ix * 2 + 1, none⟩ = some (.slice B2 q2 d2) ∧ Sem.run Tryd.prog (convert 27 9 (.slice B2 q2 d2)) u = .ok (.string X) u) (by kernel_rfl) (HSA.out _ (Below.refl _ _).drew) (fun hHeld => ?_)
          have hS0 := HSA.out _ (Below.refl _ _).drew
          refine wpAnyH_take (i := 0) (oi := { dst := some 117, op := Op.move (Operand.tmp 16), type := 4, pos := "law.go:97", after := #[], guard := none }) (v := ?_) rfl (by kernel_rfl) (by kernel_rfl) (by kernel_rfl) (fun _ _ _ h => h) (Or.inl ⟨by rfl, ?_⟩) (by assumption) ?_
          rotate_left
          · first | (intro w hSw; (try dsimp only at hSw); go_simp; done) | (intro w hSw; (try dsimp only at hSw); go_simp; with_reducible rfl)
          simp only [Act.put, List.setIfInBounds_toArray, List.set_cons_zero, List.set_cons_succ]
          refine wpAnyH_take (i := 1) (oi := { dst := some 118, op := Op.move (Operand.tmp 17), type := 3, pos := "law.go:97", after := #[], guard := none }) (v := ?_) rfl (by kernel_rfl) (by kernel_rfl) (by kernel_rfl) (fun _ _ _ h => h) (Or.inl ⟨by rfl, ?_⟩) (by assumption) ?_
          rotate_left
          · first | (intro w hSw; (try dsimp only at hSw); go_simp; done) | (intro w hSw; (try dsimp only at hSw); go_simp; with_reducible rfl)
          simp only [Act.put, List.setIfInBounds_toArray, List.set_cons_zero, List.set_cons_succ]
          refine wpAnyH_take (i := 2) (oi := { dst := some 119, op := Op.binOp BinOp.geq 3 (Operand.tmp 118) (Operand.const (Value.int IntKind.i64 0)) 3, type := 4, pos := "law.go:97", after := #[{ on := 1, ground := Ground.data }], guard := none }) (v := ?_) rfl (by kernel_rfl) (by kernel_rfl) (by kernel_rfl) (fun _ _ _ h => h) (Or.inl ⟨by rfl, ?_⟩) (by assumption) ?_
          rotate_left
          · first | (intro w hSw; (try dsimp only at hSw); go_simp; done) | (intro w hSw; (try dsimp only at hSw); go_simp; with_reducible rfl)
          simp only [Act.put, List.setIfInBounds_toArray, List.set_cons_zero, List.set_cons_succ]
          refine wpAnyH_take (i := 3) (oi := { dst := some 120, op := Op.binOp BinOp.neq 4 (Operand.tmp 117) (Operand.tmp 119) 4, type := 4, pos := "law.go:97", after := #[{ on := 0, ground := Ground.data }, { on := 2, ground := Ground.data }], guard := none }) (v := ?_) rfl (by kernel_rfl) (by kernel_rfl) (by kernel_rfl) (fun _ _ _ h => h) (Or.inl ⟨by rfl, ?_⟩) (by assumption) ?_
          rotate_left
          · first | (intro w hSw; (try dsimp only at hSw); go_simp; done) | (intro w hSw; (try dsimp only at hSw); go_simp; with_reducible rfl)
          simp only [Act.put, List.setIfInBounds_toArray, List.set_cons_zero, List.set_cons_succ]
          refine wpAnyH_take (i := 4) (oi := { dst := some 121, op := Op.move (Operand.tmp 120), type := 4, pos := "law.go:97", after := #[{ on := 3, ground := Ground.data }], guard := none }) (v := ?_) rfl (by kernel_rfl) (by kernel_rfl) (by kernel_rfl) (fun _ _ _ h => h) (Or.inl ⟨by rfl, ?_⟩) (by assumption) ?_
          rotate_left
          · first | (intro w hSw; (try dsimp only at hSw); go_simp; done) | (intro w hSw; (try dsimp only at hSw); go_simp; with_reducible rfl)
          simp only [Act.put, List.setIfInBounds_toArray, List.set_cons_zero, List.set_cons_succ]
          refine wpAnyH_take (i := 5) (oi := { dst := some 122, op := Op.move (Operand.tmp 16), type := 4, pos := "law.go:97", after := #[{ on := 4, ground := Ground.guard }], guard := some (4, false) }) (v := ?_) rfl (by kernel_rfl) (by kernel_rfl) (by kernel_rfl) (fun _ _ _ h => h) (Or.inl ⟨by rfl, ?_⟩) (by assumption) ?_
          rotate_left
          · first | (intro w hSw; (try dsimp only at hSw); go_simp; done) | (intro w hSw; (try dsimp only at hSw); go_simp; with_reducible rfl)
          simp only [Act.put, List.setIfInBounds_toArray, List.set_cons_zero, List.set_cons_succ]
          refine wpAnyH_take (i := 6) (oi := { dst := some 123, op := Op.move (Operand.tmp 122), type := 4, pos := "law.go:97", after := #[{ on := 5, ground := Ground.data }, { on := 4, ground := Ground.chain }, { on := 4, ground := Ground.guard }], guard := some (4, false) }) (v := ?_) rfl (by kernel_rfl) (by kernel_rfl) (by kernel_rfl) (fun _ _ _ h => h) (Or.inl ⟨by rfl, ?_⟩) (by assumption) ?_
          rotate_left
          · first | (intro w hSw; (try dsimp only at hSw); go_simp; done) | (intro w hSw; (try dsimp only at hSw); go_simp; with_reducible rfl)
          simp only [Act.put, List.setIfInBounds_toArray, List.set_cons_zero, List.set_cons_succ]
          refine wpAnyH_take (i := 7) (oi := { dst := some 124, op := Op.move (Operand.tmp 15), type := 27, pos := "law.go:97", after := #[{ on := 6, ground := Ground.guard }], guard := some (6, true) }) (v := ?_) rfl (by kernel_rfl) (by kernel_rfl) (by kernel_rfl) (fun _ _ _ h => h) (Or.inl ⟨by rfl, ?_⟩) (by assumption) ?_
          rotate_left
          · first | (intro w hSw; (try dsimp only at hSw); go_simp; done) | (intro w hSw; (try dsimp only at hSw); go_simp; with_reducible rfl)
          simp only [Act.put, List.setIfInBounds_toArray, List.set_cons_zero, List.set_cons_succ]
          refine wpAnyH_take (i := 8) (oi := { dst := some 125, op := Op.convert 27 9 (Operand.tmp 124), type := 9, pos := "law.go:97", after := #[{ on := 7, ground := Ground.data }, { on := 6, ground := Ground.guard }], guard := some (6, true) }) (v := ?_) rfl (by kernel_rfl) (by kernel_rfl) (by kernel_rfl) (fun _ _ _ h => h) (Or.inl ⟨by rfl, ?_⟩) (by assumption) ?_
          rotate_left
          · first | (intro w hSw; (try dsimp only at hSw); go_simp; done) | (intro w hSw; (try dsimp only at hSw); go_simp; with_reducible rfl)
          simp only [Act.put, List.setIfInBounds_toArray, List.set_cons_zero, List.set_cons_succ]
          refine wpAnyH_take (i := 9) (oi := { dst := some 126, op := Op.move (Operand.tmp 14), type := 32, pos := "law.go:97", after := #[{ on := 6, ground := Ground.guard }], guard := some (6, true) }) (v := ?_) rfl (by kernel_rfl) (by kernel_rfl) (by kernel_rfl) (fun _ _ _ h => h) (Or.inl ⟨by rfl, ?_⟩) (by assumption) ?_
          rotate_left
          · first | (intro w hSw; (try dsimp only at hSw); go_simp; done) | (intro w hSw; (try dsimp only at hSw); go_simp; with_reducible rfl)
          simp only [Act.put, List.setIfInBounds_toArray, List.set_cons_zero, List.set_cons_succ]
          refine wpAnyH_take (i := 10) (oi := { dst := some 127, op := Op.move (Operand.tmp 17), type := 3, pos := "law.go:97", after := #[{ on := 6, ground := Ground.guard }], guard := some (6, true) }) (v := ?_) rfl (by kernel_rfl) (by kernel_rfl) (by kernel_rfl) (fun _ _ _ h => h) (Or.inl ⟨by rfl, ?_⟩) (by assumption) ?_
          rotate_left
          · first | (intro w hSw; (try dsimp only at hSw); go_simp; done) | (intro w hSw; (try dsimp only at hSw); go_simp; with_reducible rfl)
          simp only [Act.put, List.setIfInBounds_toArray, List.set_cons_zero, List.set_cons_succ]
          refine wpAnyH_take (i := 11) (oi := { dst := some 128, op := Op.indexAddr 32 (Operand.tmp 126) (Operand.tmp 127), type := 0, pos := "law.go:97", after := #[{ on := 9, ground := Ground.data }, { on := 10, ground := Ground.data }, { on := 6, ground := Ground.guard }], guard := some (6, true) }) (v := ?_) rfl (by kernel_rfl) (by kernel_rfl) (by kernel_rfl) (fun _ _ _ h => h) (Or.inl ⟨by rfl, ?_⟩) (by assumption) ?_
          rotate_left
          · first | (intro w hSw; (try dsimp only at hSw); go_simp; done) | (intro w hSw; (try dsimp only at hSw); go_simp; with_reducible rfl)
          simp only [Act.put, List.setIfInBounds_toArray, List.set_cons_zero, List.set_cons_succ]
          refine wpAnyH_take (i := 12) (oi := { dst := some 129, op := Op.fieldAddr 44 (Operand.tmp 128) 1, type := 0, pos := "law.go:97", after := #[{ on := 11, ground := Ground.data }, { on := 6, ground := Ground.guard }], guard := some (6, true) }) (v := ?_) rfl (by kernel_rfl) (by kernel_rfl) (by kernel_rfl) (fun _ _ _ h => h) (Or.inl ⟨by rfl, ?_⟩) (by assumption) ?_
          rotate_left
          · first | (intro w hSw; (try dsimp only at hSw); go_simp; done) | (intro w hSw; (try dsimp only at hSw); go_simp; with_reducible rfl)
          simp only [Act.put, List.setIfInBounds_toArray, List.set_cons_zero, List.set_cons_succ]
          refine wpAnyH_take (i := 13) (oi := { dst := some 130, op := Op.load 27 (Operand.tmp 129), type := 27, pos := "law.go:97", after := #[{ on := 12, ground := Ground.data }, { on := 6, ground := Ground.guard }], guard := some (6, true) }) (v := ?_) rfl (by kernel_rfl) (by kernel_rfl) (by kernel_rfl) (fun _ _ _ h => h) (Or.inl ⟨by rfl, ?_⟩) (by assumption) ?_
          rotate_left
          · first | (intro w hSw; (try dsimp only at hSw); go_simp; done) | (intro w hSw; (try dsimp only at hSw); go_simp; with_reducible rfl)
          simp only [Act.put, List.setIfInBounds_toArray, List.set_cons_zero, List.set_cons_succ]
          refine wpAnyH_take (i := 14) (oi := { dst := some 131, op := Op.convert 27 9 (Operand.tmp 130), type := 9, pos := "law.go:97", after := #[{ on := 13, ground := Ground.data }, { on := 6, ground := Ground.guard }], guard := some (6, true) }) (v := ?_) rfl (by kernel_rfl) (by kernel_rfl) (by kernel_rfl) (fun _ _ _ h => h) (Or.inl ⟨by rfl, ?_⟩) (by assumption) ?_
          rotate_left
          · first | (intro w hSw; (try dsimp only at hSw); go_simp; done) | (intro w hSw; (try dsimp only at hSw); go_simp; with_reducible rfl)
          simp only [Act.put, List.setIfInBounds_toArray, List.set_cons_zero, List.set_cons_succ]
          refine wpAnyH_take (i := 15) (oi := { dst := some 132, op := Op.binOp BinOp.neq 9 (Operand.tmp 125) (Operand.tmp 131) 9, type := 4, pos := "law.go:97", after := #[{ on := 8, ground := Ground.data }, { on := 14, ground := Ground.data }, { on := 6, ground := Ground.guard }], guard := some (6, true) }) (v := ?_) rfl (by kernel_rfl) (by kernel_rfl) (by kernel_rfl) (fun _ _ _ h => h) (Or.inl ⟨by rfl, ?_⟩) (by assumption) ?_
          rotate_left
          · first | (intro w hSw; (try dsimp only at hSw); go_simp; done) | (intro w hSw; (try dsimp only at hSw); go_simp; with_reducible rfl)
          simp only [Act.put, List.setIfInBounds_toArray, List.set_cons_zero, List.set_cons_succ]
          refine wpAnyH_take (i := 16) (oi := { dst := some 133, op := Op.pick (Operand.tmp 123) (Operand.tmp 132) (Operand.const (Value.bool false)), type := 4, pos := "law.go:97", after := #[{ on := 6, ground := Ground.data }, { on := 15, ground := Ground.data }, { on := 4, ground := Ground.guard }], guard := some (4, false) }) (v := ?_) rfl (by kernel_rfl) (by kernel_rfl) (by kernel_rfl) (fun _ _ _ h => h) (Or.inl ⟨by rfl, ?_⟩) (by assumption) ?_
          rotate_left
          · first | (intro w hSw; (try dsimp only at hSw); go_simp; done) | (intro w hSw; (try dsimp only at hSw); go_simp; with_reducible rfl)
          simp only [Act.put, List.setIfInBounds_toArray, List.set_cons_zero, List.set_cons_succ]
          refine wpAnyH_take (i := 17) (oi := { dst := some 134, op := Op.pick (Operand.tmp 121) (Operand.const (Value.bool true)) (Operand.tmp 133), type := 4, pos := "law.go:97", after := #[{ on := 4, ground := Ground.data }, { on := 16, ground := Ground.data }], guard := none }) (v := ?_) rfl (by kernel_rfl) (by kernel_rfl) (by kernel_rfl) (fun _ _ _ h => h) (Or.inl ⟨by rfl, ?_⟩) (by assumption) ?_
          rotate_left
          · first | (intro w hSw; (try dsimp only at hSw); go_simp; done) | (intro w hSw; (try dsimp only at hSw); go_simp; with_reducible rfl)
          simp only [Act.put, List.setIfInBounds_toArray, List.set_cons_zero, List.set_cons_succ]
          refine wpAnyH_take (i := 18) (oi := { dst := some 135, op := Op.move (Operand.tmp 134), type := 4, pos := "law.go:97", after := #[{ on := 17, ground := Ground.data }, { on := 6, ground := Ground.chain }], guard := none }) (v := ?_) rfl (by kernel_rfl) (by kernel_rfl) (by kernel_rfl) (fun _ _ _ h => h) (Or.inl ⟨by rfl, ?_⟩) (by assumption) ?_
          rotate_left
          · first | (intro w hSw; (try dsimp only at hSw); go_simp; done) | (intro w hSw; (try dsimp only at hSw); go_simp; with_reducible rfl)
          simp only [Act.put, List.setIfInBounds_toArray, List.set_cons_zero, List.set_cons_succ]
          refine wpAnyH_take (i := 19) (oi := { dst := some 136, op := Op.move (Operand.tmp 16), type := 4, pos := "law.go:97", after := #[{ on := 18, ground := Ground.guard }], guard := some (18, false) }) (v := ?_) rfl (by kernel_rfl) (by kernel_rfl) (by kernel_rfl) (fun _ _ _ h => h) (Or.inl ⟨by rfl, ?_⟩) (by assumption) ?_
          rotate_left
          · first | (intro w hSw; (try dsimp only at hSw); go_simp; done) | (intro w hSw; (try dsimp only at hSw); go_simp; with_reducible rfl)
          simp only [Act.put, List.setIfInBounds_toArray, List.set_cons_zero, List.set_cons_succ]
          refine wpAnyH_take (i := 20) (oi := { dst := some 137, op := Op.unOp UnOp.not 4 (Operand.tmp 136), type := 4, pos := "law.go:97", after := #[{ on := 19, ground := Ground.data }, { on := 18, ground := Ground.guard }], guard := some (18, false) }) (v := ?_) rfl (by kernel_rfl) (by kernel_rfl) (by kernel_rfl) (fun _ _ _ h => h) (Or.inl ⟨by rfl, ?_⟩) (by assumption) ?_
          rotate_left
          · first | (intro w hSw; (try dsimp only at hSw); go_simp; done) | (intro w hSw; (try dsimp only at hSw); go_simp; with_reducible rfl)
          simp only [Act.put, List.setIfInBounds_toArray, List.set_cons_zero, List.set_cons_succ]
          refine wpAnyH_take (i := 21) (oi := { dst := some 138, op := Op.move (Operand.tmp 137), type := 4, pos := "law.go:97", after := #[{ on := 20, ground := Ground.data }, { on := 18, ground := Ground.chain }, { on := 18, ground := Ground.guard }], guard := some (18, false) }) (v := ?_) rfl (by kernel_rfl) (by kernel_rfl) (by kernel_rfl) (fun _ _ _ h => h) (Or.inl ⟨by rfl, ?_⟩) (by assumption) ?_
          rotate_left
          · first | (intro w hSw; (try dsimp only at hSw); go_simp; done) | (intro w hSw; (try dsimp only at hSw); go_simp; with_reducible rfl)
          simp only [Act.put, List.setIfInBounds_toArray, List.set_cons_zero, List.set_cons_succ]
          refine wpAnyH_take (i := 22) (oi := { dst := some 139, op := Op.move (Operand.tmp 15), type := 27, pos := "law.go:97", after := #[{ on := 21, ground := Ground.guard }], guard := some (21, true) }) (v := undef) rfl (by kernel_rfl) (by kernel_rfl) (by kernel_rfl) (fun _ _ _ h => h) (Or.inr ⟨by rfl, rfl⟩) (by assumption) ?_
          simp only [Act.put, List.setIfInBounds_toArray, List.set_cons_zero, List.set_cons_succ]
          refine wpAnyH_take (i := 23) (oi := { dst := some 140, op := Op.call { callee := Callee.builtin Builtin.len, args := #[Operand.tmp 139], argTypes := #[27] }, type := 3, pos := "law.go:97", after := #[{ on := 22, ground := Ground.data }, { on := 21, ground := Ground.guard }], guard := some (21, true) }) (v := undef) rfl (by kernel_rfl) (by kernel_rfl) (by kernel_rfl) (fun _ _ _ h => h) (Or.inr ⟨by rfl, rfl⟩) (by assumption) ?_
          simp only [Act.put, List.setIfInBounds_toArray, List.set_cons_zero, List.set_cons_succ]
          refine wpAnyH_take (i := 24) (oi := { dst := some 141, op := Op.binOp BinOp.gtr 3 (Operand.tmp 140) (Operand.const (Value.int IntKind.i64 0)) 3, type := 4, pos := "law.go:97", after := #[{ on := 23, ground := Ground.data }, { on := 21, ground := Ground.guard }], guard := some (21, true) }) (v := undef) rfl (by kernel_rfl) (by kernel_rfl) (by kernel_rfl) (fun _ _ _ h => h) (Or.inr ⟨by rfl, rfl⟩) (by assumption) ?_
          simp only [Act.put, List.setIfInBounds_toArray, List.set_cons_zero, List.set_cons_succ]
          refine wpAnyH_take (i := 25) (oi := { dst := some 142, op := Op.pick (Operand.tmp 138) (Operand.tmp 141) (Operand.const (Value.bool false)), type := 4, pos := "law.go:97", after := #[{ on := 21, ground := Ground.data }, { on := 24, ground := Ground.data }, { on := 18, ground := Ground.guard }], guard := some (18, false) }) (v := ?_) rfl (by kernel_rfl) (by kernel_rfl) (by kernel_rfl) (fun _ _ _ h => h) (Or.inl ⟨by rfl, ?_⟩) (by assumption) ?_
          rotate_left
          · first | (intro w hSw; (try dsimp only at hSw); go_simp; done) | (intro w hSw; (try dsimp only at hSw); go_simp; with_reducible rfl)
          simp only [Act.put, List.setIfInBounds_toArray, List.set_cons_zero, List.set_cons_succ]
          refine wpAnyH_take (i := 26) (oi := { dst := some 143, op := Op.pick (Operand.tmp 135) (Operand.const (Value.bool true)) (Operand.tmp 142), type := 4, pos := "law.go:97", after := #[{ on := 18, ground := Ground.data }, { on := 25, ground := Ground.data }], guard := none }) (v := ?_) rfl (by kernel_rfl) (by kernel_rfl) (by kernel_rfl) (fun _ _ _ h => h) (Or.inl ⟨by rfl, ?_⟩) (by assumption) ?_
          rotate_left
          · first | (intro w hSw; (try dsimp only at hSw); go_simp; done) | (intro w hSw; (try dsimp only at hSw); go_simp; with_reducible rfl)
          simp only [Act.put, List.setIfInBounds_toArray, List.set_cons_zero, List.set_cons_succ]
          refine wpAnyH_take (i := 27) (oi := { dst := some 144, op := Op.move (Operand.tmp 143), type := 4, pos := "law.go:97", after := #[{ on := 26, ground := Ground.data }, { on := 21, ground := Ground.chain }], guard := none }) (v := ?_) rfl (by kernel_rfl) (by kernel_rfl) (by kernel_rfl) (fun _ _ _ h => h) (Or.inl ⟨by rfl, ?_⟩) (by assumption) ?_
          rotate_left
          · first | (intro w hSw; (try dsimp only at hSw); go_simp; done) | (intro w hSw; (try dsimp only at hSw); go_simp; with_reducible rfl)
          simp only [Act.put, List.setIfInBounds_toArray, List.set_cons_zero, List.set_cons_succ]
          refine wpAnyH_take (i := 28) (oi := { dst := some 145, op := Op.move (Operand.tmp 3), type := 24, pos := "law.go:97", after := #[{ on := 27, ground := Ground.guard }], guard := some (27, false) }) (v := ?_) rfl (by kernel_rfl) (by kernel_rfl) (by kernel_rfl) (fun _ _ _ h => h) (Or.inl ⟨by rfl, ?_⟩) (by assumption) ?_
          rotate_left
          · first | (intro w hSw; (try dsimp only at hSw); go_simp; done) | (intro w hSw; (try dsimp only at hSw); go_simp; with_reducible rfl)
          simp only [Act.put, List.setIfInBounds_toArray, List.set_cons_zero, List.set_cons_succ]
          refine wpAnyH_take (i := 30) (oi := { dst := some 147, op := Op.move (Operand.tmp 14), type := 32, pos := "law.go:97", after := #[{ on := 27, ground := Ground.guard }], guard := some (27, false) }) (v := ?_) rfl (by kernel_rfl) (by kernel_rfl) (by kernel_rfl) (fun _ _ _ h => h) (Or.inl ⟨by rfl, ?_⟩) (by assumption) ?_
          rotate_left
          · first | (intro w hSw; (try dsimp only at hSw); go_simp; done) | (intro w hSw; (try dsimp only at hSw); go_simp; with_reducible rfl)
          simp only [Act.put, List.setIfInBounds_toArray, List.set_cons_zero, List.set_cons_succ]
          refine wpAnyH_take (i := 31) (oi := { dst := some 148, op := Op.call { callee := Callee.builtin Builtin.len, args := #[Operand.tmp 147], argTypes := #[32] }, type := 3, pos := "law.go:97", after := #[{ on := 30, ground := Ground.data }, { on := 27, ground := Ground.guard }], guard := some (27, false) }) (v := ?_) rfl (by kernel_rfl) (by kernel_rfl) (by kernel_rfl) (fun _ _ _ h => h) (Or.inl ⟨by rfl, ?_⟩) (by assumption) ?_
          rotate_left
          · first | (intro w hSw; (try dsimp only at hSw); go_simp; done) | (intro w hSw; (try dsimp only at hSw); go_simp; with_reducible rfl)
          simp only [Act.put, List.setIfInBounds_toArray, List.set_cons_zero, List.set_cons_succ]
          have HTd : Hid (TIn All w10.drew w10.drew.heap.size o1 g1) := Lib.hid (HT10.out.on (Below.refl _ _).drew)
          have HRd : Hid (RPIn w10.drew w10.drew.heap.size o1 p1) := Lib.hid (HR10.out.on (Below.refl _ _).drew)
          have HPd : Hid (PRd w10.drew w10.drew.heap.size (some ⟨b8, o8, none⟩) NN (optLeaves o1)) := Lib.hid (HP10.out.on (Below.refl _ _).drew)
          have HBd : Hid (Below w10.heap.size w10 w10.drew) := Lib.hid (Below.refl _ _).drew
          have hsd : w10.heap.size ≤ w10.drew.heap.size := Nat.le_refl _
          generalize w10.drew = w11 at *
          have HLN := Lib.hid (len_any (some o1) (some g1) w11 ⟨g1, rfl, HTd.out⟩ (by show oln o1 ≤ _; have := HNN.out; omega))
          rw [show (oln (topOf (some o1)) : Nat) = NN from HNN.out.1] at HLN
          rw [ptr_some] at HLN
          refine wpAnyH_ready (rs := [29]) (by kernel_rfl) (by simp) ?_
          refine AllReadyH.cons rfl (fun K hK => ?_) AllReadyH.nil
          simp only [ptr_some]
          go_simp
          refine HLN.out.mono ?_
          rintro e w12 ⟨rfl, rfl⟩
          refine hK.out _ _ (HSA.out _ HBd.out) (fun hHeld => ?_)
          clear hK K HLN
          refine wpAnyH_take (i := 32) (oi := { dst := some 149, op := Op.binOp BinOp.neq 3 (Operand.tmp 146) (Operand.tmp 148) 3, type := 4, pos := "law.go:97", after := #[{ on := 29, ground := Ground.data }, { on := 31, ground := Ground.data }, { on := 27, ground := Ground.guard }], guard := some (27, false) }) (v := ?_) rfl (by kernel_rfl) (by kernel_rfl) (by kernel_rfl) (fun _ _ _ h => h) (Or.inl ⟨by rfl, ?_⟩) (by assumption) ?_
          rotate_left
          · first | (intro w hSw; (try dsimp only at hSw); go_simp; done) | (intro w hSw; (try dsimp only at hSw); go_simp; with_reducible rfl)
          simp only [Act.put, List.setIfInBounds_toArray, List.set_cons_zero, List.set_cons_succ]
          refine wpAnyH_take (i := 33) (oi := { dst := some 150, op := Op.pick (Operand.tmp 144) (Operand.const (Value.bool true)) (Operand.tmp 149), type := 4, pos := "law.go:97", after := #[{ on := 27, ground := Ground.data }, { on := 32, ground := Ground.data }], guard := none }) (v := ?_) rfl (by kernel_rfl) (by kernel_rfl) (by kernel_rfl) (fun _ _ _ h => h) (Or.inl ⟨by rfl, ?_⟩) (by assumption) ?_
          rotate_left
          · first | (intro w hSw; (try dsimp only at hSw); go_simp; done) | (intro w hSw; (try dsimp only at hSw); go_simp; with_reducible rfl)
          simp only [Act.put, List.setIfInBounds_toArray, List.set_cons_zero, List.set_cons_succ]
          refine wpAnyH_take (i := 34) (oi := { dst := some 151, op := Op.move (Operand.tmp 150), type := 4, pos := "law.go:97", after := #[{ on := 33, ground := Ground.data }, { on := 29, ground := Ground.chain }], guard := none }) (v := ?_) rfl (by kernel_rfl) (by kernel_rfl) (by kernel_rfl) (fun _ _ _ h => h) (Or.inl ⟨by rfl, ?_⟩) (by assumption) ?_
          rotate_left
          · first | (intro w hSw; (try dsimp only at hSw); go_simp; done) | (intro w hSw; (try dsimp only at hSw); go_simp; with_reducible rfl)
          simp only [Act.put, List.setIfInBounds_toArray, List.set_cons_zero, List.set_cons_succ]
          refine wpAnyH_take (i := 35) (oi := { dst := some 152, op := Op.move (Operand.tmp 3), type := 24, pos := "law.go:97", after := #[{ on := 34, ground := Ground.guard }], guard := some (34, false) }) (v := ?_) rfl (by kernel_rfl) (by kernel_rfl) (by kernel_rfl) (fun _ _ _ h => h) (Or.inl ⟨by rfl, ?_⟩) (by assumption) ?_
          rotate_left
          · first | (intro w hSw; (try dsimp only at hSw); go_simp; done) | (intro w hSw; (try dsimp only at hSw); go_simp; with_reducible rfl)
          simp only [Act.put, List.setIfInBounds_toArray, List.set_cons_zero, List.set_cons_succ]
          refine wpAnyH_take (i := 37) (oi := { dst := some 154, op := Op.move (Operand.tmp 14), type := 32, pos := "law.go:97", after := #[{ on := 34, ground := Ground.guard }], guard := some (34, false) }) (v := ?_) rfl (by kernel_rfl) (by kernel_rfl) (by kernel_rfl) (fun _ _ _ h => h) (Or.inl ⟨by rfl, ?_⟩) (by assumption) ?_
          rotate_left
          · first | (intro w hSw; (try dsimp only at hSw); go_simp; done) | (intro w hSw; (try dsimp only at hSw); go_simp; with_reducible rfl)
          simp only [Act.put, List.setIfInBounds_toArray, List.set_cons_zero, List.set_cons_succ]
          have HAL := Lib.hid (all_any (G := All) o1 g1 w11 HTd.out (by have := HNN.out; omega))
          rw [ptr_some] at HAL
          refine wpAnyH_ready (rs := [36]) (by kernel_rfl) (by simp) ?_
          refine AllReadyH.cons rfl (fun K hK => ?_) AllReadyH.nil
          go_simp
          refine HAL.out.mono ?_
          rintro e w13 hpo
          obtain ⟨A13, n13, c13, rfl, hp13, hc13, _, hb13⟩ := hpo.pairs
          have HB13 := Lib.hid (HBd.out.trans (hb13.mono hsd))
          have HT13 := Lib.hid (HTd.out.on hb13)
          have HR13 := Lib.hid (HRd.out.on hb13)
          have HSP := Lib.hid (samePairs_yes A13 n13 c13 (some ⟨b8, o8, none⟩) NN c8 (optLeaves o1) w13 hp13 (HPd.out.on hb13) (by have := hp13.len; have h2 := oln_leaves o1; have := HNN.out; omega))
          have hs13 : w11.heap.size ≤ w13.heap.size := hb13.size
          refine hK.out _ _ (HSA.out _ HB13.out) (fun hHeld => ?_)
          clear hK K hpo hp13 hb13 HAL HTd HRd HPd HBd
          refine wpAnyH_ready (rs := [38]) (by kernel_rfl) (by simp) ?_
          refine AllReadyH.cons rfl (fun K hK => ?_) AllReadyH.nil
          go_simp
          refine HSP.out.mono ?_
          rintro e w14 ⟨rfl, hb14⟩
          have HB14 := Lib.hid (HB13.out.trans (hb14.mono HB13.out.size))
          have HT14 := Lib.hid (HT13.out.on hb14)
          have HR14 := Lib.hid (HR13.out.on hb14)
          refine hK.out _ _ (HSA.out _ HB14.out) (fun hHeld => ?_)
          clear hK K hb14 HSP HT13 HR13 HB13
          refine wpAnyH_take (i := 39) (oi := { dst := some 156, op := Op.unOp UnOp.not 4 (Operand.tmp 155), type := 4, pos := "law.go:97", after := #[{ on := 38, ground := Ground.data }, { on := 34, ground := Ground.guard }], guard := some (34, false) }) (v := ?_) rfl (by kernel_rfl) (by kernel_rfl) (by kernel_rfl) (fun _ _ _ h => h) (Or.inl ⟨by rfl, ?_⟩) (by assumption) ?_
          rotate_left
          · first | (intro w hSw; (try dsimp only at hSw); go_simp; done) | (intro w hSw; (try dsimp only at hSw); go_simp; with_reducible rfl)
          simp only [Act.put, List.setIfInBounds_toArray, List.set_cons_zero, List.set_cons_succ]
          refine wpAnyH_take (i := 40) (oi := { dst := some 157, op := Op.pick (Operand.tmp 151) (Operand.const (Value.bool true)) (Operand.tmp 156), type := 4, pos := "law.go:97", after := #[{ on := 34, ground := Ground.data }, { on := 39, ground := Ground.data }], guard := none }) (v := ?_) rfl (by kernel_rfl) (by kernel_rfl) (by kernel_rfl) (fun _ _ _ h => h) (Or.inl ⟨by rfl, ?_⟩) (by assumption) ?_
          rotate_left
          · first | (intro w hSw; (try dsimp only at hSw); go_simp; done) | (intro w hSw; (try dsimp only at hSw); go_simp; with_reducible rfl)
          simp only [Act.put, List.setIfInBounds_toArray, List.set_cons_zero, List.set_cons_succ]
          refine wpAnyH_take (i := 41) (oi := { dst := some 158, op := Op.move (Operand.tmp 157), type := 4, pos := "law.go:97", after := #[{ on := 40, ground := Ground.data }, { on := 38, ground := Ground.chain }], guard := none }) (v := ?_) rfl (by kernel_rfl) (by kernel_rfl) (by kernel_rfl) (fun _ _ _ h => h) (Or.inl ⟨by rfl, ?_⟩) (by assumption) ?_
          rotate_left
          · first | (intro w hSw; (try dsimp only at hSw); go_simp; done) | (intro w hSw; (try dsimp only at hSw); go_simp; with_reducible rfl)
          simp only [Act.put, List.setIfInBounds_toArray, List.set_cons_zero, List.set_cons_succ]
          refine wpAnyH_take (i := 42) (oi := { dst := some 159, op := Op.move (Operand.tmp 3), type := 24, pos := "law.go:97", after := #[{ on := 41, ground := Ground.guard }], guard := some (41, false) }) (v := ?_) rfl (by kernel_rfl) (by kernel_rfl) (by kernel_rfl) (fun _ _ _ h => h) (Or.inl ⟨by rfl, ?_⟩) (by assumption) ?_
          rotate_left
          · first | (intro w hSw; (try dsimp only at hSw); go_simp; done) | (intro w hSw; (try dsimp only at hSw); go_simp; with_reducible rfl)
          simp only [Act.put, List.setIfInBounds_toArray, List.set_cons_zero, List.set_cons_succ]
          refine wpAnyH_take (i := 44) (oi := { dst := some 161, op := Op.move (Operand.tmp 4), type := 26, pos := "law.go:97", after := #[{ on := 41, ground := Ground.guard }], guard := some (41, false) }) (v := ?_) rfl (by kernel_rfl) (by kernel_rfl) (by kernel_rfl) (fun _ _ _ h => h) (Or.inl ⟨by rfl, ?_⟩) (by assumption) ?_
          rotate_left
          · first | (intro w hSw; (try dsimp only at hSw); go_simp; done) | (intro w hSw; (try dsimp only at hSw); go_simp; with_reducible rfl)
          simp only [Act.put, List.setIfInBounds_toArray, List.set_cons_zero, List.set_cons_succ]
          have HBW14 := Lib.hid (HBW10.out.trans (HB14.out.mono HBW10.out.size))
          have HRO := Lib.hid (root_any (some o1) (some g1) w14 ⟨g1, rfl, HT14.out⟩ (Sh.tab_below HT.out HBW14.out hw) (by have := HBW14.out.size; omega))
          rw [ptr_some, show topOf (some o1) = o1 from rfl, HY.out.1] at HRO
          refine wpAnyH_ready (rs := [43]) (by kernel_rfl) (by simp) ?_
          refine AllReadyH.cons rfl (fun K hK => ?_) AllReadyH.nil
          go_simp
          refine HRO.out.mono ?_
          rintro e w15 ⟨rfl, hb15⟩
          have HB15 := Lib.hid (HB14.out.trans (hb15.mono HB14.out.size))
          have HT15 := Lib.hid (HT14.out.on hb15)
          have HR15 := Lib.hid (HR14.out.on hb15)
          have HBW15 := Lib.hid (HBW14.out.trans (hb15.mono HBW14.out.size))
          have HRS := Lib.hid (rsum_p o1 p1 w15 HR15.out (by have := HNN.out; omega) (tab0_below HT0.out HBW15.out hw) (by have := HBW15.out.size; omega))
          rw [HY.out.1] at HRS
          refine hK.out _ _ (HSA.out _ HB15.out) (fun hHeld => ?_)
          clear hK K hb15 HRO HT14 HR14 HB14 HBW14
          refine wpAnyH_ready (rs := [45]) (by kernel_rfl) (by simp) ?_
          refine AllReadyH.cons rfl (fun K hK => ?_) AllReadyH.nil
          go_simp
          refine HRS.out.mono ?_
          rintro e w16 ⟨rfl, hb16⟩
          have HB16 := Lib.hid (HB15.out.trans (hb16.mono HB15.out.size))
          have HT16 := Lib.hid (HT15.out.on hb16)
          have HR16 := Lib.hid (HR15.out.on hb16)
          have HBW16 := Lib.hid (HBW15.out.trans (hb16.mono HBW15.out.size))
          refine hK.out _ _ (HSA.out _ HB16.out) (fun hHeld => ?_)
          clear hK K hb16 HRS HT15 HR15 HB15 HBW15
          refine wpAnyH_take (i := 46) (oi := { dst := some 163, op := Op.binOp BinOp.neq 49 (Operand.tmp 160) (Operand.tmp 162) 49, type := 4, pos := "law.go:97", after := #[{ on := 43, ground := Ground.data }, { on := 45, ground := Ground.data }, { on := 41, ground := Ground.guard }], guard := some (41, false) }) (v := ?_) rfl (by kernel_rfl) (by kernel_rfl) (by kernel_rfl) (fun _ _ _ h => h) (Or.inl ⟨by rfl, ?_⟩) (by assumption) ?_
          rotate_left
          · first | (intro w hSw; (try dsimp only at hSw); go_simp; done) | (intro w hSw; (try dsimp only at hSw); go_simp; with_reducible rfl)
          simp only [Act.put, List.setIfInBounds_toArray, List.set_cons_zero, List.set_cons_succ]
          refine wpAnyH_take (i := 47) (oi := { dst := some 164, op := Op.pick (Operand.tmp 158) (Operand.const (Value.bool true)) (Operand.tmp 163), type := 4, pos := "law.go:97", after := #[{ on := 41, ground := Ground.data }, { on := 46, ground := Ground.data }], guard := none }) (v := ?_) rfl (by kernel_rfl) (by kernel_rfl) (by kernel_rfl) (fun _ _ _ h => h) (Or.inl ⟨by rfl, ?_⟩) (by assumption) ?_
          rotate_left
          · first | (intro w hSw; (try dsimp only at hSw); go_simp; done) | (intro w hSw; (try dsimp only at hSw); go_simp; with_reducible rfl)
          simp only [Act.put, List.setIfInBounds_toArray, List.set_cons_zero, List.set_cons_succ]
          refine wpAnyH_done (by kernel_rfl) ?_ _
          clear hHeld e1
          go_wp2_with fail
          go_roundg gn
          case measure => omega
          case rel => exact ⟨i + 1, o1, g1, p1, by omega, by omega, congrArg (Value.int .i64) (by omega), rfl, rfl, HT16.out, HR16.out, HF1.out, by have := HNN.out; omega, HBW16.out⟩
      by_cases hk6 : a.kind.toNat % 6 < 4
      · have hk6' : (a.kind.toNat : Int) % 6 < 4 := by omega
        have hws : 1 < w6.heap.size := by have := HBX6.out.size; omega
        have hkl := HKL.out
        have hk1n : 1 ≤ nk := by have := a.key_pos; omega
        have hfew' : oln oi ≤ 60 := by have := of_decide_eq_false hd6; omega
        clear hkl
        by_cases h96 : 96 < nk
        · have HP := Lib.hid (put_key g Ak A3 nk ck n3 c3 w6 (.inr h96))
          rw [ptr_some] at HP
          simp only [ptr_some]
          clear hK1
          go_wp2_with fail
          refine HP.out.mono ?_
          rintro e w7 ⟨rfl, rfl⟩
          go_wp2_with fail
          exact HREST _ _ _ _ _ _ _ _ _ _ _ _ _ _ _ _ _ _ _ _ _ _ _ _ _ _ _ _ _ _ _ _ _ _ _ _ _ _ _ _ _ _ _ _ _ _ _ _ _ _ _ _ _ _ _ _ _ _ _ _ _ _ _ _ _ w6 oi g p HTX6.out HRX6.out HFX.out (by omega) (Below.refl _ _)
        by_cases h256 : 256 < n3
        · have HP := Lib.hid (put_long g Ak A3 nk ck n3 c3 w6 hk1n (by omega) h256)
          rw [ptr_some] at HP
          simp only [ptr_some]
          clear hK1
          go_wp2_with fail
          refine HP.out.mono ?_
          rintro e w7 ⟨rfl, rfl⟩
          go_wp2_with fail
          exact HREST _ _ _ _ _ _ _ _ _ _ _ _ _ _ _ _ _ _ _ _ _ _ _ _ _ _ _ _ _ _ _ _ _ _ _ _ _ _ _ _ _ _ _ _ _ _ _ _ _ _ _ _ _ _ _ _ _ _ _ _ _ _ _ _ _ w6 oi g p HTX6.out HRX6.out HFX.out (by omega) (Below.refl _ _)
        have hrv := (HR.out.2.below HBX6.out (Nat.le_refl _)).more HBX6.out.size
        have HP := Lib.hid (put_any (G := All) oi g Ak A3 nk ck n3 c3 a.key a.val w6 HTX6.out HRK6.out hrv hk1n (by omega) (by omega) (by omega) (Sh.tab_below HT.out HBX6.out hw) (room hws))
        rw [ptr_some] at HP
        simp only [ptr_some]
        clear hrv
        go_wp2_with fail
        refine HP.out.mono ?_
        rintro e w7 ⟨g7, rfl, _, hT7, hb7⟩
        have HT7 := Lib.hid hT7
        have HB7 := Lib.hid hb7
        have k3' := (HW6.out.below hb7 hs6).at_ (i := 3) (v := .slice A3 n3 c3) rfl
        clear hT7 hb7 HP k0 k3
        rw [ptr_some]
        go_upto_region 21 with (fail)
        refine wp_region_lit ?_
        have hb8 : Below w7.heap.size w7 (w7.alloc (.cells #[] 5)) := (Below.refl _ _).alloc (Nat.le_refl _) _
        have k3a : (w7.alloc (.cells #[] 5)).cell? ⟨g3, 3, none⟩ = some (.slice A3 n3 c3) := (hb8.cell (p := ⟨g3, 3, none⟩) (Nat.lt_of_lt_of_le hs6 HB7.out.size)).trans k3'
        iterate 18 go_step
        have hbw7 : Below w.heap.size w w7 := HBX6.out.trans (HB7.out.mono HBX6.out.size)
        refine wpList_append_b rfl (.tmp 82) (.tmp 84) rfl w7.heap.size _ 0 [] rfl (World.ownsRow_lit w7 #[] 0 (Nat.le_refl _) (by unfold maxLen; omega) rfl) _ A3 n3 c3 a.val rfl ((HR.out.2.below hbw7 (Nat.le_refl _)).below hb8 hbw7.size) (by omega) (by simp) ?_
        intro v9 w9 hown9 hb9
        rw [Nat.zero_add, List.nil_append] at hown9
        obtain ⟨A9, c9, rfl, hnc9, _⟩ := own_form hown9
        have hb79 : Below w7.heap.size w7 w9 := hb8.trans hb9
        have hb69 : Below w6.heap.size w6 w9 := HB7.out.trans (hb79.mono HB7.out.size)
        have HP2 := Lib.hid (rput_p Ak nk ck A9 n3 c9 a.key a.val hnck (by omega) hnc9 (by omega) oi p w9 (HRX6.out.on hb69) ((HRK6.out.below hb69 (Nat.le_refl _)).more hb69.size) (Rd.of_own hown9) (by omega))
        have HT9 := Lib.hid (HT7.out.on hb79)
        have HB9 := Lib.hid hb69
        have HFEW := Lib.hid (show oln (some (oput oi a.key a.val)) ≤ i + 1 from Nat.le_trans (oput_n oi a.key a.val) (Nat.succ_le_succ hfew))
        clear hb8 hbw7 hown9 hb9 hb79 hb69 HT7 HB7 k3' k3a
        go_simp
        go_wp2_with fail
        refine HP2.out.mono ?_
        rintro e w10 ⟨p10, rfl, hR10, hb10⟩
        have HR10 := Lib.hid hR10
        have HB10 := Lib.hid (HB9.out.trans (hb10.mono HB9.out.size))
        have HT10 := Lib.hid (HT9.out.on hb10)
        clear hR10 hb10 HP2
        go_wp2_with fail
        exact HREST _ _ _ _ _ _ _ _ _ _ _ _ _ _ _ _ _ _ _ _ _ _ _ _ _ _ _ _ _ _ _ _ _ _ _ _ _ _ _ _ _ _ _ _ _ _ _ _ _ _ _ _ _ _ _ _ _ _ _ _ _ _ _ _ _ w10 (some (oput oi a.key a.val)) g7 p10 HT10.out HR10.out (HFX.out.put a.key a.val) HFEW.out HB10.out
      · have hk6' : ¬ (a.kind.toNat : Int) % 6 < 4 := by omega
        have hws : 1 < w6.heap.size := by have := HBX6.out.size; omega
        have hfew' : oln oi ≤ 60 := by have := of_decide_eq_false hd6; omega
        have HCU := Lib.hid (cut_any (G := All) (some oi) (some g) Ak nk ck a.key w6 ⟨g, rfl, HTX6.out⟩ HRK6.out (by show oln oi ≤ _; omega) (Sh.tab_below HT.out HBX6.out hw) (room hws))
        rw [ptr_some] at HCU
        simp only [ptr_some]
        clear hK1
        go_wp2_with fail
        refine HCU.out.mono ?_
        rintro e w7 hpost
        rcases hpost with ⟨hf, rfl, rfl⟩ | ⟨v, g7, hf, rfl, _, hT7, hb7⟩
        · have hz : Z < 0 := by
            rcases HZ.out with h | ⟨_, h⟩
            · exact h.2
            · rw [show ofind oi a.key = none from hf] at h; cases h
          have hzd : decide ((0 : Int) ≤ Z) = false := decide_eq_false (by omega)
          rw [ptr_some]
          clear HCU hf
          go_wp2_with fail
          exact HREST _ _ _ _ _ _ _ _ _ _ _ _ _ _ _ _ _ _ _ _ _ _ _ _ _ _ _ _ _ _ _ _ _ _ _ _ _ _ _ _ _ _ _ _ _ _ _ _ _ _ _ _ _ _ _ _ _ _ _ _ _ _ _ _ _ w6 oi g p HTX6.out HRX6.out HFX.out (by omega) (Below.refl _ _)
        · have hfs : (ofind oi a.key).isSome = true := by rw [show ofind oi a.key = some v from hf]; rfl
          have hz : 0 ≤ Z := by
            rcases HZ.out with ⟨h, _⟩ | ⟨h, _⟩
            · rw [h] at hfs; cases hfs
            · exact h
          have hzd : decide ((0 : Int) ≤ Z) = true := decide_eq_true hz
          have HT7 := Lib.hid hT7
          have HB7 := Lib.hid hb7
          have HFS := Lib.hid hfs
          have HC2 := Lib.hid (rcut_p Ak nk ck a.key oi p w7 (HRX6.out.on hb7) hfs ((HRK6.out.below hb7 (Nat.le_refl _)).more hb7.size) (by omega))
          rw [ptr_some]
          clear HCU hf hfs hT7 hb7 hz
          go_wp2_with fail
          refine HC2.out.mono ?_
          rintro e w8 ⟨p8, rfl, hR8, hb8⟩
          have HR8 := Lib.hid hR8
          have HB8 := Lib.hid (HB7.out.trans (hb8.mono HB7.out.size))
          have HT8 := Lib.hid (HT7.out.on hb8)
          have hcl := ocut_leaves oi a.key HFX.out.srt HFS.out
          have hfw : oln (ocut oi a.key) ≤ i + 1 := by
            rw [← oln_leaves, hcl]
            have h1 := cutL_le (optLeaves oi) a.key
            rw [oln_leaves] at h1
            omega
          have HFW := Lib.hid hfw
          clear hR8 hb8 HC2 hcl hfw
          go_wp2_with fail
          exact HREST _ _ _ _ _ _ _ _ _ _ _ _ _ _ _ _ _ _ _ _ _ _ _ _ _ _ _ _ _ _ _ _ _ _ _ _ _ _ _ _ _ _ _ _ _ _ _ _ _ _ _ _ _ _ _ _ _ _ _ _ _ _ _ _ _ w8 (ocut oi a.key) g7 p8 HT8.out HR8.out (HFX.out.cut a.key HFS.out) HFW.out HB8.out
end Go.Proofs.YtbhmldoehgkhfaaDoor
