/-
  The law TreeWays returns true for any calls and way; conditions: they are read, the two tables hold their words.
-/
import Derived.Test.YtbhmldoehgkhfaaDoorRPut
import Derived.Test.YtbhmldoehgkhfaaDoorRLeaves
import Derived.Test.YtbhmldoehgkhfaaDoorRApi
import Derived.Test.YtbhmldoehgkhfaaDoorGrow
namespace Go.Proofs.YtbhmldoehgkhfaaDoor
open Go.RowKit
open Tr

def osz : Option T → Nat
  | none => 0
  | some t => t.n
theorem osz_oln (o : Option T) : osz o = oln o := by cases o <;> rfl
theorem rput_o (D : Option Addr) (m d : Nat) (E : Option Addr) (me ce : Nat) (k v : List UInt8) (hmd : m ≤ d) (hm : m ≤ 2000) (hme : me ≤ ce) (hm2 : me ≤ 2000) (o : Option T) (p : Option Nat) (w : World) (h : RPIn w w.heap.size o p)
    (hk : Rd w w.heap.size D m k) (hv : Rd w w.heap.size E me v) (hn : oln o + 1 ≤ 4294967296) : Calls Tryd.prog 16 #[ptr p, .slice D m d, .slice E me ce] w (RWoPost (some (oput o k v)) w) := by
  cases o with
  | none =>
    obtain rfl := h
    exact (rput_nil D m d E me ce k v hmd hm hme hm2 w hk hv).mono fun e w' ⟨b, h1, h2, h3⟩ => ⟨some b, h1, ⟨b, rfl, h2⟩, h3⟩
  | some t =>
    obtain ⟨b, rfl, h⟩ := h
    exact (rput_any D m d E me ce k v hmd hm hme hm2 t b w h hk hv hn).mono fun e w' ⟨b, h1, h2, h3⟩ => ⟨some b, h1, ⟨b, rfl, h2⟩, h3⟩
theorem rleaves_o (o : Option T) (p : Option Nat) (w : World) (h : RPIn w w.heap.size o p) (hn : oln o ≤ 1000000) : Calls Tryd.prog 14 #[ptr p, .slice none 0 0] w (LeavesPost w.heap.size (oln o) (optLeaves o) w) := by
  cases o with
  | none =>
    obtain rfl := h
    exact (rleaves_nil _ w).mono fun e w' ⟨h1, h2⟩ => by subst h1 h2; exact ⟨_, rfl, POwn.nil _ _, Below.refl _ _⟩
  | some t =>
    obtain ⟨b, rfl, h⟩ := h
    have := rleaves_any w.heap.size t b w (.slice none 0 0) 0 [] h (POwn.nil _ _) (Nat.le_refl _) (by rw [Nat.zero_add]; exact hn)
    rw [Nat.zero_add, List.nil_append] at this
    exact this
theorem rcut_o (D : Option Addr) (m d : Nat) (k : List UInt8) (o : Option T) (p : Option Nat) (w : World) (h : RPIn w w.heap.size o p) (hf : (ofind o k).isSome = true) (hk : Rd w w.heap.size D m k) (hn : oln o ≤ 4294967296) :
    Calls Tryd.prog 18 #[ptr p, .slice D m d] w (RWoPost (ocut o k) w) := by
  cases o with
  | none => cases hf
  | some t =>
    obtain ⟨b, rfl, h⟩ := h
    exact rcut_any D m d k t b w h hk hn

set_option maxRecDepth 100000 in
theorem grown_nil (w : World) : Calls Tryd.prog 29 #[.slice none 0 0] w fun e w' => e = .returned (.pointer none) ∧ w = w' := by
  go_enter Tryd.func29, Tryd.ntmps29
  go_wp2_with fail
  go_loopg [3, 4] 0 (fun gk s3 s4 wx => gk = 0 ∧ s3 = .pointer none ∧ s4 = .int .i64 0 ∧ wx = w)
  case atStart => exact ⟨rfl, rfl, rfl, rfl⟩
  case round =>
    obtain ⟨rfl, rfl, rfl, rfl⟩ := hrel
    go_wp2_with fail
    go_ret
    exact ⟨rfl, rfl⟩

set_option maxRecDepth 100000 in
set_option maxHeartbeats 8000000 in
theorem treeWays_any (A : Option Addr) (n c : Nat) (cs : List Ac) (W : Option Addr) (mw dw : Nat) (way : List Bool) (w : World) (hc : ARd w w.heap.size A n cs) (hn : n ≤ 9223372036854775807) (hway : RdV w w.heap.size 1 W mw (way.map Value.bool)) (hmw : mw ≤ 9223372036854775807) (ht : Sh.Tab w 1) (ht0 : Sh.Tab w 0) (hw : 1 < w.heap.size) :
    Calls Tryd.prog 4 #[.slice A n c, .slice W mw dw] w fun e w' => e = .returned (.bool true) ∧ Below w.heap.size w w' := by
  have HAW := Lib.hid (awake_any w ht hw)
  have HC := Lib.hid hc
  have HWAY := Lib.hid hway
  have HT := Lib.hid ht
  have HT0 := Lib.hid ht0
  have HCL := Lib.hid hc.1
  clear hc ht hway ht0
  go_enter Tryd.func4, Tryd.ntmps4
  go_wp2_with fail
  refine HAW.out.mono ?_
  rintro e w1 ⟨rfl, hb1⟩
  have hs1 := hb1.size
  have HB1 := Lib.hid hb1
  clear HAW
  by_cases hbig : 100 < mw
  · clear hb1
    go_wp2_with fail
    go_ret
    exact ⟨rfl, HB1.out⟩
  have HC1 := Lib.hid (grow_any All A n c cs 60 w1 (ARd.more (HC.out.below hb1 (Nat.le_refl _)) hs1) hn (by omega) (Sh.tab_below HT.out hb1 hw) (room (by omega)))
  clear hb1
  go_wp2_with fail
  refine HC1.out.mono ?_
  rintro e w2 ⟨g, A2, n2, c2, rfl, hT2, hp2, hnc2, _, hF2, hm2, hb2⟩
  obtain ⟨o, ho⟩ : ∃ o, grow 60 cs none = o := ⟨_, rfl⟩
  rw [ho] at hT2 hp2 hF2 hm2
  have HO := Lib.hid ho
  have hs2 := hb2.size
  have HLN : Hid (oln o = n2) := Lib.hid (by rw [← oln_leaves]; exact hp2.len)
  have hn60 : n2 ≤ 60 := by have := HLN.out; omega
  have HT2 := Lib.hid hT2
  have HB2 := Lib.hid (HB1.out.trans (hb2.mono hs1))
  clear hT2 hp2 hF2 hb2 HC1 HB1 hm2 ho
  go_wp2_with fail
  refine (grown_nil w2).mono ?_
  rintro e w2' ⟨rfl, rfl⟩
  go_wp2_with fail
  go_loopg [7, 28] n (fun gk s7 s28 wx => ∃ i oi p, i + gk = n ∧ i ≤ 60 ∧ s28 = .int .i64 (i : Nat) ∧ s7 = ptr p ∧ RPIn wx wx.heap.size oi p ∧ Fine oi ∧ oln oi ≤ i ∧ grow (60 - i) (cs.drop i) oi = grow 60 cs none ∧ Below w2.heap.size w2 wx)
  case atStart => exact ⟨0, none, none, by omega, by omega, rfl, rfl, rfl, Fine.none, Nat.le_refl _, rfl, Below.refl _ _⟩
  case round =>
    obtain ⟨i, oi, p, hi, hi60, rfl, rfl, hRX, hF, hfew, hgr, hbx⟩ := hrel
    have HRX := Lib.hid hRX
    have HFX := Lib.hid hF
    have HGR := Lib.hid hgr
    have HBX := Lib.hid hbx
    have hsx := hbx.size
    clear hRX hF hgr hbx
    cases gk with
    | zero =>
      obtain rfl : n = i := by omega
      have hoe : o = oi := by
        have h1 := HGR.out
        rw [List.drop_eq_nil_of_le (by rw [HCL.out]; exact Nat.le_refl _), grow_nil, HO.out] at h1
        exact h1.symm
      clear HGR

      obtain ⟨wq, hwq⟩ : ∃ wq, wq = wr := ⟨_, rfl⟩
      subst hwq
      subst hoe
      have HTQ := Lib.hid (HT2.out.on HBX.out)
      have HRQ := HRX
      have HBQ := Lib.hid (HB2.out.trans (HBX.out.mono HB2.out.size))
      have HOS : Hid (osz o ≤ 60) := Lib.hid (by have h1 := HLN.out; have h2 := osz_oln o; omega)
      clear HT2 HRX HBX HB2

      go_wp2_with fail
      go_loopg [7, 70] mw (fun gk s7 s70 wx => ∃ i s p', i + gk = mw ∧ s70 = .int .i64 (i : Nat) ∧ s7 = ptr p' ∧ RPIn wq wq.heap.size s p' ∧ oat s (way.drop i) = oat o way ∧ osz s ≤ 60 ∧ wx = wq)
      case atStart => exact ⟨0, o, p, by omega, rfl, rfl, HRQ.out, rfl, HOS.out, rfl⟩
      case round =>
        clear HRQ
        obtain ⟨i, s, p', hi, rfl, rfl, hRS, hat, hsn, rfl⟩ := hrel
        have HSN := Lib.hid hsn
        clear hsn
        cases gk with
        | zero =>
          obtain rfl : mw = i := by omega
          have HAT : Hid (s = oat o way) := Lib.hid (by rw [← hat, List.drop_eq_nil_of_le (by have := HWAY.out.1; simp at this; omega), oat_nil])
          clear hat hi
          cases s with
          | none =>
            obtain rfl := hRS
            simp only [ptr_none]
            have HE : Hid (oat o way = none) := Lib.hid HAT.out.symm
            clear HAT
            have hsq := HBQ.out.size
            have HC5 := Lib.hid (way_any (some o) (some g) _ mw dw way wr ⟨g, rfl, HTQ.out⟩ ((HWAY.out.below HBQ.out (Nat.le_refl _)).more HBQ.out.size) (by omega))
            rw [show topOf (some o) = o from rfl] at HC5
            go_wp2_with fail
            refine HC5.out.mono ?_
            rintro e w5 hpost
            rcases hpost with ⟨_, rfl, hb5⟩ | ⟨_, _, _, _, _, _, _, _, h, _⟩
            rotate_left
            · rw [HE.out] at h; cases h
            have hs5 := hb5.size
            clear HC5
            simp only []
            have hz64 := zero64
            iterate 13 go_step
            clear hz64
            have hw6 := Whole.made w5 64 z64
            refine wpList_store_mid rfl 64 (.tmp 13) (.tmp 97) rfl w5.heap.size 0 z64 rfl rfl ?_ ?_ z64_one ?_
            · exact hw6.there_
            · rw [z64_size]; exact info64
            have HW7 := Lib.hid (hw6.setAll (vs := z64) rfl)
            have hb7 : Below w5.heap.size w5 ((w5.alloc (.cells z64 64)).setCells w5.heap.size 0 z64.toList) := below_setCells w5 w5.heap.size _ 0 ((Below.refl _ _).alloc (Nat.le_refl _) _) (Nat.le_refl _)
            generalize (w5.alloc (.cells z64 64)).setCells w5.heap.size 0 z64.toList = w7 at *
            have hs7 := hb7.size
            have HB7 := Lib.hid ((HBQ.out.trans (hb5.mono hsq)).trans (hb7.mono (by omega)))
            have HT7 := Lib.hid ((HTQ.out.on hb5).on hb7)
            clear hb5 hb7 hw6 HBQ HTQ
            generalize w5.heap.size = g13 at *
            go_upto_region 28 with (fail)
            refine wp_region_lit ?_
            iterate 9 go_step
            refine wpList_load_w rfl 64 (.tmp 13) rfl g13 0 rfl _ _ HW7.out.range Tryd.underlying64 rfl (by rw [Array.length_toList, z64_size]; exact info64) ?_
            rw [show z64.toList.toArray = z64 from rfl]
            have hz64 := zero64
            have HC6 := Lib.hid (sameNode_yes none none none none 0 0 0 0 0 0 0 0 0 0 z32 z32 [] [] w7 rfl rfl Rd.nil Rd.nil Rd.nil Rd.nil)
            change Hid (Calls Tryd.prog 31 #[.agg z64, .agg z64] w7 _) at HC6
            go_wp2_with fail
            refine HC6.out.mono ?_
            rintro e w8 ⟨rfl, hb8⟩
            have HB8 := Lib.hid (HB7.out.trans (hb8.mono HB7.out.size))
            have HC7 := Lib.hid (len_any (some o) (some g) w8 ⟨g, rfl, HT7.out.on hb8⟩ (by show oln o ≤ _; have := HLN.out; omega))
            rw [show (oln (topOf (some o)) : Nat) = n2 from HLN.out] at HC7
            clear hb8 HC6 HB7 HT7 HW7 hz64
            go_wp2_with fail
            refine HC7.out.mono ?_
            rintro e w9 ⟨rfl, rfl⟩
            go_wp2_with fail
            go_ret
            exact ⟨rfl, HB8.out⟩
          | some sub =>
            obtain ⟨bs, rfl, hRS⟩ := hRS
            simp only [ptr_some]
            have HE : Hid (oat o way = some sub) := Lib.hid HAT.out.symm
            have HRN := Lib.hid hRS
            clear HAT hRS
            have hsq := HBQ.out.size
            have HC5 := Lib.hid (way_any (some o) (some g) _ mw dw way wr ⟨g, rfl, HTQ.out⟩ ((HWAY.out.below HBQ.out (Nat.le_refl _)).more HBQ.out.size) (by omega))
            rw [show topOf (some o) = o from rfl] at HC5
            go_wp2_with fail
            refine HC5.out.mono ?_
            rintro e w5 hpost
            rcases hpost with ⟨h, _⟩ | ⟨t', xs, A5, n5, c5, A5', n5', c5', ht', rfl, hTo, hb5⟩
            · rw [HE.out] at h; cases h
            obtain rfl : sub = t' := by rw [HE.out] at ht'; injection ht'
            have hs5 := hb5.size
            have hcs : xs.size = 68 := by rw [hTo.eq, List.size_toArray, acells_len _ _ _ _ _ _ (lsum32 _) (rsum32 _)]
            have hone : xs.all (·.oneCell') = true := by rw [hTo.eq]; exact acells_one ..
            have HTo := Lib.hid hTo
            clear HC5 hTo ht'
            simp only []
            have hz64 := zero64
            iterate 13 go_step
            clear hz64
            have hw6 := Whole.made w5 64 z64
            refine wpList_store_mid rfl 64 (.tmp 13) (.tmp 97) rfl w5.heap.size 0 xs rfl rfl ?_ ?_ hone ?_
            · rw [hcs]; exact hw6.there_
            · rw [hcs]; exact info64
            have HW7 := Lib.hid (hw6.setAll (vs := xs) (by rw [hcs]; rfl))
            have hb7 : Below w5.heap.size w5 ((w5.alloc (.cells z64 64)).setCells w5.heap.size 0 xs.toList) := below_setCells w5 w5.heap.size _ 0 ((Below.refl _ _).alloc (Nat.le_refl _) _) (Nat.le_refl _)
            generalize (w5.alloc (.cells z64 64)).setCells w5.heap.size 0 xs.toList = w7 at *
            have hs7 := hb7.size
            have HB7 := Lib.hid ((HBQ.out.trans (hb5.mono hsq)).trans (hb7.mono (by omega)))
            have HRN7 := Lib.hid ((HRN.out.on hb5).on hb7)
            have HTo7 := Lib.hid (HTo.out.below hb7)
            clear hb5 hb7 hw6 HBQ HTQ hone HTo HRN
            generalize w5.heap.size = g13 at *
            go_upto_region 29 with (fail)
            have hS0 : w7.drew.rangeAt g13 0 xs.toList := HW7.out.range
            refine wp_region_held_drew (S := fun w' => w'.rangeAt g13 0 xs.toList) (by kernel_rfl) hS0 (fun hHeld => ?_)
            refine wpAnyH_take (i := 0) (oi := { dst := some 115, op := Op.move (Operand.tmp 14), type := 4, pos := "law.go:140", after := #[], guard := none }) (v := ?_) rfl (by kernel_rfl) (by kernel_rfl) (by kernel_rfl) (fun _ _ _ h => h) (Or.inl ⟨by rfl, ?_⟩) (by assumption) ?_
            rotate_left
            · first | (intro w hSw; (try dsimp only at hSw); go_simp; done) | (intro w hSw; (try dsimp only at hSw); go_simp; with_reducible rfl)
            simp only [Act.put, List.setIfInBounds_toArray, List.set_cons_zero, List.set_cons_succ]
            refine wpAnyH_take (i := 1) (oi := { dst := some 116, op := Op.move (Operand.tmp 115), type := 4, pos := "law.go:140", after := #[{ on := 0, ground := Ground.data }], guard := none }) (v := ?_) rfl (by kernel_rfl) (by kernel_rfl) (by kernel_rfl) (fun _ _ _ h => h) (Or.inl ⟨by rfl, ?_⟩) (by assumption) ?_
            rotate_left
            · first | (intro w hSw; (try dsimp only at hSw); go_simp; done) | (intro w hSw; (try dsimp only at hSw); go_simp; with_reducible rfl)
            simp only [Act.put, List.setIfInBounds_toArray, List.set_cons_zero, List.set_cons_succ]
            refine wpAnyH_take (i := 2) (oi := { dst := some 117, op := Op.load 64 (Operand.tmp 13), type := 64, pos := "law.go:140", after := #[{ on := 1, ground := Ground.guard }], guard := some (1, true) }) (v := .agg xs.toList.toArray) rfl (by kernel_rfl) (by kernel_rfl) (by kernel_rfl) (fun _ _ _ h => h) (yieldsIf_load_mid (by rfl) 64 (.tmp 13) rfl g13 0 rfl xs.toList _ (fun _ h => h) Tryd.underlying64 rfl (by rw [Array.length_toList, hcs]; exact info64)) (by assumption) ?_
            rw [Array.toArray_toList]
            simp only [Act.put, List.setIfInBounds_toArray, List.set_cons_zero, List.set_cons_succ]
            refine wpAnyH_take (i := 3) (oi := { dst := some 118, op := Op.move (Operand.tmp 7), type := 26, pos := "law.go:140", after := #[{ on := 1, ground := Ground.guard }], guard := some (1, true) }) (v := ?_) rfl (by kernel_rfl) (by kernel_rfl) (by kernel_rfl) (fun _ _ _ h => h) (Or.inl ⟨by rfl, ?_⟩) (by assumption) ?_
            rotate_left
            · first | (intro w hSw; (try dsimp only at hSw); go_simp; done) | (intro w hSw; (try dsimp only at hSw); go_simp; with_reducible rfl)
            simp only [Act.put, List.setIfInBounds_toArray, List.set_cons_zero, List.set_cons_succ]
            have HTo7d : Hid (Told w7.drew _ sub xs A5 n5 c5 A5' n5' c5') := Lib.hid (HTo7.out.below (Below.refl _ _).drew)
            have HRN7d : Hid (RIn w7.drew w7.drew.heap.size sub bs) := Lib.hid (HRN7.out.on (Below.refl _ _).drew)
            have HB7d : Hid (Below w.heap.size w w7.drew) := Lib.hid HB7.out.drew
            have hgl : g13 < w7.drew.heap.size := HW7.out.lt
            clear hHeld hS0 HTo7 HRN7 HB7
            have HW7d : Hid (Whole w7.drew g13 64 xs) := Lib.hid HW7.out
            clear HW7
            generalize w7.drew = w7d at *
            have hsw := HB7d.out.size
            have HC6 := Lib.hid (rapi_any sub bs w7d HRN7d.out (by have h9 : sub.n ≤ 60 := HSN.out; omega) (tab0_below HT0.out HB7d.out hw) (by omega))
            rw [ptr_some] at HC6
            refine wpAnyH_ready (rs := [4]) (by kernel_rfl) (by simp) ?_
            refine AllReadyH.cons rfl (fun K hK => ?_) AllReadyH.nil
            go_simp
            refine HC6.out.mono ?_
            rintro e w8 ⟨B1, q1, d1, B2, q2, d2, x8, y8, hh8, rfl, hb8⟩
            have hs8 := hb8.size
            have HTo8 := HTo7d.out.below hb8
            have HC7 := Lib.hid (sameNode_yes A5 A5' B1 B2 n5 c5 n5' c5' q1 d1 q2 d2 (sub.h : Int) sub.n sub.lsum sub.rsum sub.key sub.val w8 (lsum32 sub) (rsum32 sub) HTo8.key HTo8.val ((hh8.key.below hb8 (Nat.le_refl _)).more hs8) ((hh8.val.below hb8 (Nat.le_refl _)).more hs8))
            rw [← HTo8.eq] at HC7
            have HB8 := Lib.hid (HB7d.out.trans (hb8.mono HB7d.out.size))
            have hS8 : w8.rangeAt g13 0 xs.toList := (HW7d.out.below hb8 hgl).range
            generalize (acells (.slice B1 q1 d1) (.slice B2 q2 d2) sub.h sub.n sub.lsum sub.rsum).toArray = X8 at *
            refine hK.out _ _ hS8 (fun _ => ?_)
            clear hK K hb8 hh8 HC6 HTo8 HTo7d HB7d HRN7d
            refine wpAnyH_ready (rs := [5]) (by kernel_rfl) (by simp) ?_
            refine AllReadyH.cons rfl (fun K hK => ?_) AllReadyH.nil
            go_simp
            refine HC7.out.mono ?_
            rintro e w9 ⟨rfl, hb9⟩
            have hS9 : w9.rangeAt g13 0 xs.toList := fun j v hv => (hb9.cell (p := ⟨g13, 0 + j, none⟩) (Nat.lt_of_lt_of_le hgl hs8)).trans (hS8 j v hv)
            have HB9 := Lib.hid (HB8.out.trans (hb9.mono HB8.out.size))
            refine hK.out _ _ hS9 (fun hHeld => ?_)
            clear hK K hb9 HC7 hS8 HB8
            refine wpAnyH_take (i := 6) (oi := { dst := some 121, op := Op.pick (Operand.tmp 116) (Operand.tmp 120) (Operand.const (Value.bool false)), type := 4, pos := "law.go:140", after := #[{ on := 1, ground := Ground.data }, { on := 5, ground := Ground.data }], guard := none }) (v := ?_) rfl (by kernel_rfl) (by kernel_rfl) (by kernel_rfl) (fun _ _ _ h => h) (Or.inl ⟨by rfl, ?_⟩) (by assumption) ?_
            rotate_left
            · first | (intro w hSw; (try dsimp only at hSw); go_simp; done) | (intro w hSw; (try dsimp only at hSw); go_simp; with_reducible rfl)
            simp only [Act.put, List.setIfInBounds_toArray, List.set_cons_zero, List.set_cons_succ]
            refine wpAnyH_take (i := 7) (oi := { dst := some 4, op := Op.assign (Operand.tmp 121), type := 4, pos := "law.go:140", after := #[{ on := 6, ground := Ground.data }, { on := 5, ground := Ground.chain }, { on := 0, ground := Ground.phase }, { on := 1, ground := Ground.phase }, { on := 2, ground := Ground.phase }, { on := 3, ground := Ground.phase }, { on := 4, ground := Ground.phase }, { on := 5, ground := Ground.phase }, { on := 6, ground := Ground.phase }], guard := none }) (v := ?_) rfl (by kernel_rfl) (by kernel_rfl) (by kernel_rfl) (fun _ _ _ h => h) (Or.inl ⟨by rfl, ?_⟩) (by assumption) ?_
            rotate_left
            · first | (intro w hSw; (try dsimp only at hSw); go_simp; done) | (intro w hSw; (try dsimp only at hSw); go_simp; with_reducible rfl)
            simp only [Act.put, List.setIfInBounds_toArray, List.set_cons_zero, List.set_cons_succ]
            refine wpAnyH_done (by kernel_rfl) ?_ _
            clear hHeld hS9
            go_wp2_with fail
            go_ret
            exact ⟨rfl, HB9.out⟩
        | succ gn =>
          have hin : i < mw := by omega
          have hlen : way.length = mw := by have := HWAY.out.1; simpa using this
          obtain ⟨wb, wo, rfl, hwb, hcell⟩ := HWAY.out.2 (by omega)
          have hcw := (HBQ.out.cell (p := ⟨wb, wo + i, none⟩) hwb).trans (hcell i (.bool way[i]) (by rw [List.getElem?_map, List.getElem?_eq_getElem (by omega)]; rfl))
          have HD : Hid (way.drop i = way[i] :: way.drop (i + 1)) := Lib.hid (List.drop_eq_getElem_cons (by omega))
          clear hcell hwb
          generalize way[i] = R at *
          clear hlen
          cases s with
          | none =>
            obtain rfl := hRS
            have HE : Hid (oat o way = none) := Lib.hid (by rw [← hat, oat_none])
            clear hat
            simp only [ptr_none]
            have hsq := HBQ.out.size
            have HC5 := Lib.hid (way_any (some o) (some g) _ mw dw way wr ⟨g, rfl, HTQ.out⟩ ((HWAY.out.below HBQ.out (Nat.le_refl _)).more HBQ.out.size) (by omega))
            rw [show topOf (some o) = o from rfl] at HC5
            go_wp2_with fail
            refine HC5.out.mono ?_
            rintro e w5 hpost
            rcases hpost with ⟨_, rfl, hb5⟩ | ⟨_, _, _, _, _, _, _, _, h, _⟩
            rotate_left
            · rw [HE.out] at h; cases h
            have hs5 := hb5.size
            clear HC5
            simp only []
            have hz64 := zero64
            iterate 13 go_step
            clear hz64
            have hw6 := Whole.made w5 64 z64
            refine wpList_store_mid rfl 64 (.tmp 13) (.tmp 97) rfl w5.heap.size 0 z64 rfl rfl ?_ ?_ z64_one ?_
            · exact hw6.there_
            · rw [z64_size]; exact info64
            have HW7 := Lib.hid (hw6.setAll (vs := z64) rfl)
            have hb7 : Below w5.heap.size w5 ((w5.alloc (.cells z64 64)).setCells w5.heap.size 0 z64.toList) := below_setCells w5 w5.heap.size _ 0 ((Below.refl _ _).alloc (Nat.le_refl _) _) (Nat.le_refl _)
            generalize (w5.alloc (.cells z64 64)).setCells w5.heap.size 0 z64.toList = w7 at *
            have hs7 := hb7.size
            have HB7 := Lib.hid ((HBQ.out.trans (hb5.mono hsq)).trans (hb7.mono (by omega)))
            have HT7 := Lib.hid ((HTQ.out.on hb5).on hb7)
            clear hb5 hb7 hw6 HBQ HTQ
            generalize w5.heap.size = g13 at *
            go_upto_region 28 with (fail)
            refine wp_region_lit ?_
            iterate 9 go_step
            refine wpList_load_w rfl 64 (.tmp 13) rfl g13 0 rfl _ _ HW7.out.range Tryd.underlying64 rfl (by rw [Array.length_toList, z64_size]; exact info64) ?_
            rw [show z64.toList.toArray = z64 from rfl]
            have hz64 := zero64
            have HC6 := Lib.hid (sameNode_yes none none none none 0 0 0 0 0 0 0 0 0 0 z32 z32 [] [] w7 rfl rfl Rd.nil Rd.nil Rd.nil Rd.nil)
            change Hid (Calls Tryd.prog 31 #[.agg z64, .agg z64] w7 _) at HC6
            go_wp2_with fail
            refine HC6.out.mono ?_
            rintro e w8 ⟨rfl, hb8⟩
            have HB8 := Lib.hid (HB7.out.trans (hb8.mono HB7.out.size))
            have HC7 := Lib.hid (len_any (some o) (some g) w8 ⟨g, rfl, HT7.out.on hb8⟩ (by show oln o ≤ _; have := HLN.out; omega))
            rw [show (oln (topOf (some o)) : Nat) = n2 from HLN.out] at HC7
            clear hb8 HC6 HB7 HT7 HW7 hz64
            go_wp2_with fail
            refine HC7.out.mono ?_
            rintro e w9 ⟨rfl, rfl⟩
            go_wp2_with fail
            go_ret
            exact ⟨rfl, HB8.out⟩
          | some t0 =>
            obtain ⟨b0, rfl, hN0⟩ := hRS
            simp only [ptr_some]
            cases t0 with
            | leaf k0 v0 =>
              obtain ⟨Ak, nk, ck, Av, nv, cv, hh⟩ := hN0
              have c2 : wr.cell? ⟨b0, 2, none⟩ = some (.int .i64 0) := hh.cells.2.2.1
              have HE : Hid (oat o way = none) := Lib.hid (by rw [← hat, HD.out]; simp [oat])
              clear hat HSN hh
              have hsq := HBQ.out.size
              have HC5 := Lib.hid (way_any (some o) (some g) _ mw dw way wr ⟨g, rfl, HTQ.out⟩ ((HWAY.out.below HBQ.out (Nat.le_refl _)).more HBQ.out.size) (by omega))
              rw [show topOf (some o) = o from rfl] at HC5
              go_wp2_with fail
              refine HC5.out.mono ?_
              rintro e w5 hpost
              rcases hpost with ⟨_, rfl, hb5⟩ | ⟨_, _, _, _, _, _, _, _, h, _⟩
              rotate_left
              · rw [HE.out] at h; cases h
              have hs5 := hb5.size
              clear HC5
              simp only []
              have hz64 := zero64
              iterate 13 go_step
              clear hz64
              have hw6 := Whole.made w5 64 z64
              refine wpList_store_mid rfl 64 (.tmp 13) (.tmp 97) rfl w5.heap.size 0 z64 rfl rfl ?_ ?_ z64_one ?_
              · exact hw6.there_
              · rw [z64_size]; exact info64
              have HW7 := Lib.hid (hw6.setAll (vs := z64) rfl)
              have hb7 : Below w5.heap.size w5 ((w5.alloc (.cells z64 64)).setCells w5.heap.size 0 z64.toList) := below_setCells w5 w5.heap.size _ 0 ((Below.refl _ _).alloc (Nat.le_refl _) _) (Nat.le_refl _)
              generalize (w5.alloc (.cells z64 64)).setCells w5.heap.size 0 z64.toList = w7 at *
              have hs7 := hb7.size
              have HB7 := Lib.hid ((HBQ.out.trans (hb5.mono hsq)).trans (hb7.mono (by omega)))
              have HT7 := Lib.hid ((HTQ.out.on hb5).on hb7)
              clear hb5 hb7 hw6 HBQ HTQ
              generalize w5.heap.size = g13 at *
              go_upto_region 28 with (fail)
              refine wp_region_lit ?_
              iterate 9 go_step
              refine wpList_load_w rfl 64 (.tmp 13) rfl g13 0 rfl _ _ HW7.out.range Tryd.underlying64 rfl (by rw [Array.length_toList, z64_size]; exact info64) ?_
              rw [show z64.toList.toArray = z64 from rfl]
              have hz64 := zero64
              have HC6 := Lib.hid (sameNode_yes none none none none 0 0 0 0 0 0 0 0 0 0 z32 z32 [] [] w7 rfl rfl Rd.nil Rd.nil Rd.nil Rd.nil)
              change Hid (Calls Tryd.prog 31 #[.agg z64, .agg z64] w7 _) at HC6
              go_wp2_with fail
              refine HC6.out.mono ?_
              rintro e w8 ⟨rfl, hb8⟩
              have HB8 := Lib.hid (HB7.out.trans (hb8.mono HB7.out.size))
              have HC7 := Lib.hid (len_any (some o) (some g) w8 ⟨g, rfl, HT7.out.on hb8⟩ (by show oln o ≤ _; have := HLN.out; omega))
              rw [show (oln (topOf (some o)) : Nat) = n2 from HLN.out] at HC7
              clear hb8 HC6 HB7 HT7 HW7 hz64
              go_wp2_with fail
              refine HC7.out.mono ?_
              rintro e w9 ⟨rfl, rfl⟩
              go_wp2_with fail
              go_ret
              exact ⟨rfl, HB8.out⟩
            | node tl tr =>
              obtain ⟨Ak, nk, ck, Av, nv, cv, x, y, hh, hx, hy⟩ := hN0
              have c2 := hh.cells.2.2.1
              have hne := h_ne tl tr
              have hz : (((T.node tl tr).h : Int) == 0) = false := by rw [beq_eq_false_iff_ne]; omega
              obtain ⟨c4, c5⟩ := hh.sides (Below.refl _ _)
              have HX := Lib.hid hx
              have HY := Lib.hid hy
              have HAT := Lib.hid hat
              have hsn2 : tl.n + tr.n ≤ 60 := HSN.out
              clear hh hx hy hat hne
              generalize (T.node tl tr).h = H at *
              cases R with
              | true =>
                go_wp2_with fail
                go_roundg gn
                case measure => omega
                case rel => exact ⟨i + 1, some tr, some y, by omega, congrArg (Value.int .i64) (by omega), rfl, ⟨y, rfl, HY.out⟩, by rw [← HAT.out, HD.out]; simp [oat], by show tr.n ≤ 60; omega, rfl⟩
              | false =>
                go_wp2_with fail
                go_roundg gn
                case measure => omega
                case rel => exact ⟨i + 1, some tl, some x, by omega, congrArg (Value.int .i64) (by omega), rfl, ⟨x, rfl, HX.out⟩, by rw [← HAT.out, HD.out]; simp [oat], by show tl.n ≤ 60; omega, rfl⟩
    | succ gn =>
      have hin : i < n := by omega
      obtain ⟨a, hai⟩ : ∃ a, cs[i]? = some a := ⟨_, List.getElem?_eq_getElem (by rw [HCL.out]; exact hin)⟩
      have HDC : Hid (cs.drop i = a :: cs.drop (i + 1)) := Lib.hid (by obtain ⟨hl, rfl⟩ := List.getElem?_eq_some_iff.1 hai; exact List.drop_eq_getElem_cons hl)
      obtain ⟨b, ob, A1, n1, c1, A3, n3, c3, rfl, hbb, k0, k1, k2, k3, m1, m2, m3, m4, r1, r2⟩ := HC.out.2 i a hai
      have HR := Lib.hid (And.intro r1 r2)
      have HBW := Lib.hid (HB2.out.trans (HBX.out.mono HB2.out.size))
      have hcw : ∀ q, wr.cell? ⟨b, q, none⟩ = w.cell? ⟨b, q, none⟩ := fun q => HBW.out.cell (p := ⟨b, q, none⟩) hbb
      rw [← hcw] at k0 k1 k2 k3
      clear hai r1 r2 hcw
      have hz29 := zero29
      go_upto_region 9 with (fail)
      refine wp_region_lit ?_
      iterate 15 go_step
      clear hz29 k0 k1 k2 k3
      have hw2 := Whole.made wr 29 #[.int .u8 0, .int .u8 0, .slice none 0 0, .slice none 0 0]
      refine wpList_store_mid rfl 29 (.tmp 9) (.tmp 32) rfl wr.heap.size 0 (a.cells A1 n1 c1 A3 n3 c3) rfl rfl ?_ ?_ (a.one ..) ?_
      · exact hw2.there_
      · exact info29
      have hw3 := hw2.setAll (vs := a.cells A1 n1 c1 A3 n3 c3) rfl
      have hb3 : Below wr.heap.size wr ((wr.alloc (.cells #[.int .u8 0, .int .u8 0, .slice none 0 0, .slice none 0 0] 29)).setCells wr.heap.size 0 (a.cells A1 n1 c1 A3 n3 c3).toList) := below_setCells wr wr.heap.size _ 0 ((Below.refl _ _).alloc (Nat.le_refl _) _) (Nat.le_refl _)
      generalize (wr.alloc (.cells #[.int .u8 0, .int .u8 0, .slice none 0 0, .slice none 0 0] 29)).setCells wr.heap.size 0 (a.cells A1 n1 c1 A3 n3 c3).toList = w3 at *
      have hs3 : wr.heap.size < w3.heap.size := hw3.lt
      have HW3 := Lib.hid hw3
      have HRX3 := Lib.hid (HRX.out.on hb3)
      have HBX3 := Lib.hid (HBX.out.trans (hb3.mono hsx))
      have HBW3 := Lib.hid (HBW.out.trans (hb3.mono HBW.out.size))
      clear hw2 hw3 hb3 HRX HBX HBW
      generalize wr.heap.size = g3 at *
      by_cases hi6 : 60 ≤ i
      · have hd6 : decide ((60 : Int) ≤ (i : Int)) = true := decide_eq_true (by omega)
        have hoe : o = oi := by
          have h1 := HGR.out
          rw [show 60 - i = 0 by omega, HO.out] at h1
          exact h1.symm
        clear HGR hi6

        obtain ⟨wq, hwq⟩ : ∃ wq, wq = w3 := ⟨_, rfl⟩
        subst hwq
        subst hoe
        have HTQ := Lib.hid (HT2.out.on HBX3.out)
        have HRQ := HRX3
        have HBQ := Lib.hid (HB2.out.trans (HBX3.out.mono HB2.out.size))
        have HOS : Hid (osz o ≤ 60) := Lib.hid (by have h1 := HLN.out; have h2 := osz_oln o; omega)
        clear HT2 HRX3 HBX3 HB2

        go_wp2_with fail
        go_loopg [7, 70] mw (fun gk s7 s70 wx => ∃ i s p', i + gk = mw ∧ s70 = .int .i64 (i : Nat) ∧ s7 = ptr p' ∧ RPIn wq wq.heap.size s p' ∧ oat s (way.drop i) = oat o way ∧ osz s ≤ 60 ∧ wx = wq)
        case atStart => exact ⟨0, o, p, by omega, rfl, rfl, HRQ.out, rfl, HOS.out, rfl⟩
        case round =>
          clear HRQ
          obtain ⟨i, s, p', hi, rfl, rfl, hRS, hat, hsn, rfl⟩ := hrel
          have HSN := Lib.hid hsn
          clear hsn
          cases gk with
          | zero =>
            obtain rfl : mw = i := by omega
            have HAT : Hid (s = oat o way) := Lib.hid (by rw [← hat, List.drop_eq_nil_of_le (by have := HWAY.out.1; simp at this; omega), oat_nil])
            clear hat hi
            cases s with
            | none =>
              obtain rfl := hRS
              simp only [ptr_none]
              have HE : Hid (oat o way = none) := Lib.hid HAT.out.symm
              clear HAT
              have hsq := HBQ.out.size
              have HC5 := Lib.hid (way_any (some o) (some g) _ mw dw way wr ⟨g, rfl, HTQ.out⟩ ((HWAY.out.below HBQ.out (Nat.le_refl _)).more HBQ.out.size) (by omega))
              rw [show topOf (some o) = o from rfl] at HC5
              go_wp2_with fail
              refine HC5.out.mono ?_
              rintro e w5 hpost
              rcases hpost with ⟨_, rfl, hb5⟩ | ⟨_, _, _, _, _, _, _, _, h, _⟩
              rotate_left
              · rw [HE.out] at h; cases h
              have hs5 := hb5.size
              clear HC5
              simp only []
              have hz64 := zero64
              iterate 13 go_step
              clear hz64
              have hw6 := Whole.made w5 64 z64
              refine wpList_store_mid rfl 64 (.tmp 13) (.tmp 97) rfl w5.heap.size 0 z64 rfl rfl ?_ ?_ z64_one ?_
              · exact hw6.there_
              · rw [z64_size]; exact info64
              have HW7 := Lib.hid (hw6.setAll (vs := z64) rfl)
              have hb7 : Below w5.heap.size w5 ((w5.alloc (.cells z64 64)).setCells w5.heap.size 0 z64.toList) := below_setCells w5 w5.heap.size _ 0 ((Below.refl _ _).alloc (Nat.le_refl _) _) (Nat.le_refl _)
              generalize (w5.alloc (.cells z64 64)).setCells w5.heap.size 0 z64.toList = w7 at *
              have hs7 := hb7.size
              have HB7 := Lib.hid ((HBQ.out.trans (hb5.mono hsq)).trans (hb7.mono (by omega)))
              have HT7 := Lib.hid ((HTQ.out.on hb5).on hb7)
              clear hb5 hb7 hw6 HBQ HTQ
              generalize w5.heap.size = g13 at *
              go_upto_region 28 with (fail)
              refine wp_region_lit ?_
              iterate 9 go_step
              refine wpList_load_w rfl 64 (.tmp 13) rfl g13 0 rfl _ _ HW7.out.range Tryd.underlying64 rfl (by rw [Array.length_toList, z64_size]; exact info64) ?_
              rw [show z64.toList.toArray = z64 from rfl]
              have hz64 := zero64
              have HC6 := Lib.hid (sameNode_yes none none none none 0 0 0 0 0 0 0 0 0 0 z32 z32 [] [] w7 rfl rfl Rd.nil Rd.nil Rd.nil Rd.nil)
              change Hid (Calls Tryd.prog 31 #[.agg z64, .agg z64] w7 _) at HC6
              go_wp2_with fail
              refine HC6.out.mono ?_
              rintro e w8 ⟨rfl, hb8⟩
              have HB8 := Lib.hid (HB7.out.trans (hb8.mono HB7.out.size))
              have HC7 := Lib.hid (len_any (some o) (some g) w8 ⟨g, rfl, HT7.out.on hb8⟩ (by show oln o ≤ _; have := HLN.out; omega))
              rw [show (oln (topOf (some o)) : Nat) = n2 from HLN.out] at HC7
              clear hb8 HC6 HB7 HT7 HW7 hz64
              go_wp2_with fail
              refine HC7.out.mono ?_
              rintro e w9 ⟨rfl, rfl⟩
              go_wp2_with fail
              go_ret
              exact ⟨rfl, HB8.out⟩
            | some sub =>
              obtain ⟨bs, rfl, hRS⟩ := hRS
              simp only [ptr_some]
              have HE : Hid (oat o way = some sub) := Lib.hid HAT.out.symm
              have HRN := Lib.hid hRS
              clear HAT hRS
              have hsq := HBQ.out.size
              have HC5 := Lib.hid (way_any (some o) (some g) _ mw dw way wr ⟨g, rfl, HTQ.out⟩ ((HWAY.out.below HBQ.out (Nat.le_refl _)).more HBQ.out.size) (by omega))
              rw [show topOf (some o) = o from rfl] at HC5
              go_wp2_with fail
              refine HC5.out.mono ?_
              rintro e w5 hpost
              rcases hpost with ⟨h, _⟩ | ⟨t', xs, A5, n5, c5, A5', n5', c5', ht', rfl, hTo, hb5⟩
              · rw [HE.out] at h; cases h
              obtain rfl : sub = t' := by rw [HE.out] at ht'; injection ht'
              have hs5 := hb5.size
              have hcs : xs.size = 68 := by rw [hTo.eq, List.size_toArray, acells_len _ _ _ _ _ _ (lsum32 _) (rsum32 _)]
              have hone : xs.all (·.oneCell') = true := by rw [hTo.eq]; exact acells_one ..
              have HTo := Lib.hid hTo
              clear HC5 hTo ht'
              simp only []
              have hz64 := zero64
              iterate 13 go_step
              clear hz64
              have hw6 := Whole.made w5 64 z64
              refine wpList_store_mid rfl 64 (.tmp 13) (.tmp 97) rfl w5.heap.size 0 xs rfl rfl ?_ ?_ hone ?_
              · rw [hcs]; exact hw6.there_
              · rw [hcs]; exact info64
              have HW7 := Lib.hid (hw6.setAll (vs := xs) (by rw [hcs]; rfl))
              have hb7 : Below w5.heap.size w5 ((w5.alloc (.cells z64 64)).setCells w5.heap.size 0 xs.toList) := below_setCells w5 w5.heap.size _ 0 ((Below.refl _ _).alloc (Nat.le_refl _) _) (Nat.le_refl _)
              generalize (w5.alloc (.cells z64 64)).setCells w5.heap.size 0 xs.toList = w7 at *
              have hs7 := hb7.size
              have HB7 := Lib.hid ((HBQ.out.trans (hb5.mono hsq)).trans (hb7.mono (by omega)))
              have HRN7 := Lib.hid ((HRN.out.on hb5).on hb7)
              have HTo7 := Lib.hid (HTo.out.below hb7)
              clear hb5 hb7 hw6 HBQ HTQ hone HTo HRN
              generalize w5.heap.size = g13 at *
              go_upto_region 29 with (fail)
              have hS0 : w7.drew.rangeAt g13 0 xs.toList := HW7.out.range
              refine wp_region_held_drew (S := fun w' => w'.rangeAt g13 0 xs.toList) (by kernel_rfl) hS0 (fun hHeld => ?_)
              refine wpAnyH_take (i := 0) (oi := { dst := some 115, op := Op.move (Operand.tmp 14), type := 4, pos := "law.go:140", after := #[], guard := none }) (v := ?_) rfl (by kernel_rfl) (by kernel_rfl) (by kernel_rfl) (fun _ _ _ h => h) (Or.inl ⟨by rfl, ?_⟩) (by assumption) ?_
              rotate_left
              · first | (intro w hSw; (try dsimp only at hSw); go_simp; done) | (intro w hSw; (try dsimp only at hSw); go_simp; with_reducible rfl)
              simp only [Act.put, List.setIfInBounds_toArray, List.set_cons_zero, List.set_cons_succ]
              refine wpAnyH_take (i := 1) (oi := { dst := some 116, op := Op.move (Operand.tmp 115), type := 4, pos := "law.go:140", after := #[{ on := 0, ground := Ground.data }], guard := none }) (v := ?_) rfl (by kernel_rfl) (by kernel_rfl) (by kernel_rfl) (fun _ _ _ h => h) (Or.inl ⟨by rfl, ?_⟩) (by assumption) ?_
              rotate_left
              · first | (intro w hSw; (try dsimp only at hSw); go_simp; done) | (intro w hSw; (try dsimp only at hSw); go_simp; with_reducible rfl)
              simp only [Act.put, List.setIfInBounds_toArray, List.set_cons_zero, List.set_cons_succ]
              refine wpAnyH_take (i := 2) (oi := { dst := some 117, op := Op.load 64 (Operand.tmp 13), type := 64, pos := "law.go:140", after := #[{ on := 1, ground := Ground.guard }], guard := some (1, true) }) (v := .agg xs.toList.toArray) rfl (by kernel_rfl) (by kernel_rfl) (by kernel_rfl) (fun _ _ _ h => h) (yieldsIf_load_mid (by rfl) 64 (.tmp 13) rfl g13 0 rfl xs.toList _ (fun _ h => h) Tryd.underlying64 rfl (by rw [Array.length_toList, hcs]; exact info64)) (by assumption) ?_
              rw [Array.toArray_toList]
              simp only [Act.put, List.setIfInBounds_toArray, List.set_cons_zero, List.set_cons_succ]
              refine wpAnyH_take (i := 3) (oi := { dst := some 118, op := Op.move (Operand.tmp 7), type := 26, pos := "law.go:140", after := #[{ on := 1, ground := Ground.guard }], guard := some (1, true) }) (v := ?_) rfl (by kernel_rfl) (by kernel_rfl) (by kernel_rfl) (fun _ _ _ h => h) (Or.inl ⟨by rfl, ?_⟩) (by assumption) ?_
              rotate_left
              · first | (intro w hSw; (try dsimp only at hSw); go_simp; done) | (intro w hSw; (try dsimp only at hSw); go_simp; with_reducible rfl)
              simp only [Act.put, List.setIfInBounds_toArray, List.set_cons_zero, List.set_cons_succ]
              have HTo7d : Hid (Told w7.drew _ sub xs A5 n5 c5 A5' n5' c5') := Lib.hid (HTo7.out.below (Below.refl _ _).drew)
              have HRN7d : Hid (RIn w7.drew w7.drew.heap.size sub bs) := Lib.hid (HRN7.out.on (Below.refl _ _).drew)
              have HB7d : Hid (Below w.heap.size w w7.drew) := Lib.hid HB7.out.drew
              have hgl : g13 < w7.drew.heap.size := HW7.out.lt
              clear hHeld hS0 HTo7 HRN7 HB7
              have HW7d : Hid (Whole w7.drew g13 64 xs) := Lib.hid HW7.out
              clear HW7
              generalize w7.drew = w7d at *
              have hsw := HB7d.out.size
              have HC6 := Lib.hid (rapi_any sub bs w7d HRN7d.out (by have h9 : sub.n ≤ 60 := HSN.out; omega) (tab0_below HT0.out HB7d.out hw) (by omega))
              rw [ptr_some] at HC6
              refine wpAnyH_ready (rs := [4]) (by kernel_rfl) (by simp) ?_
              refine AllReadyH.cons rfl (fun K hK => ?_) AllReadyH.nil
              go_simp
              refine HC6.out.mono ?_
              rintro e w8 ⟨B1, q1, d1, B2, q2, d2, x8, y8, hh8, rfl, hb8⟩
              have hs8 := hb8.size
              have HTo8 := HTo7d.out.below hb8
              have HC7 := Lib.hid (sameNode_yes A5 A5' B1 B2 n5 c5 n5' c5' q1 d1 q2 d2 (sub.h : Int) sub.n sub.lsum sub.rsum sub.key sub.val w8 (lsum32 sub) (rsum32 sub) HTo8.key HTo8.val ((hh8.key.below hb8 (Nat.le_refl _)).more hs8) ((hh8.val.below hb8 (Nat.le_refl _)).more hs8))
              rw [← HTo8.eq] at HC7
              have HB8 := Lib.hid (HB7d.out.trans (hb8.mono HB7d.out.size))
              have hS8 : w8.rangeAt g13 0 xs.toList := (HW7d.out.below hb8 hgl).range
              generalize (acells (.slice B1 q1 d1) (.slice B2 q2 d2) sub.h sub.n sub.lsum sub.rsum).toArray = X8 at *
              refine hK.out _ _ hS8 (fun _ => ?_)
              clear hK K hb8 hh8 HC6 HTo8 HTo7d HB7d HRN7d
              refine wpAnyH_ready (rs := [5]) (by kernel_rfl) (by simp) ?_
              refine AllReadyH.cons rfl (fun K hK => ?_) AllReadyH.nil
              go_simp
              refine HC7.out.mono ?_
              rintro e w9 ⟨rfl, hb9⟩
              have hS9 : w9.rangeAt g13 0 xs.toList := fun j v hv => (hb9.cell (p := ⟨g13, 0 + j, none⟩) (Nat.lt_of_lt_of_le hgl hs8)).trans (hS8 j v hv)
              have HB9 := Lib.hid (HB8.out.trans (hb9.mono HB8.out.size))
              refine hK.out _ _ hS9 (fun hHeld => ?_)
              clear hK K hb9 HC7 hS8 HB8
              refine wpAnyH_take (i := 6) (oi := { dst := some 121, op := Op.pick (Operand.tmp 116) (Operand.tmp 120) (Operand.const (Value.bool false)), type := 4, pos := "law.go:140", after := #[{ on := 1, ground := Ground.data }, { on := 5, ground := Ground.data }], guard := none }) (v := ?_) rfl (by kernel_rfl) (by kernel_rfl) (by kernel_rfl) (fun _ _ _ h => h) (Or.inl ⟨by rfl, ?_⟩) (by assumption) ?_
              rotate_left
              · first | (intro w hSw; (try dsimp only at hSw); go_simp; done) | (intro w hSw; (try dsimp only at hSw); go_simp; with_reducible rfl)
              simp only [Act.put, List.setIfInBounds_toArray, List.set_cons_zero, List.set_cons_succ]
              refine wpAnyH_take (i := 7) (oi := { dst := some 4, op := Op.assign (Operand.tmp 121), type := 4, pos := "law.go:140", after := #[{ on := 6, ground := Ground.data }, { on := 5, ground := Ground.chain }, { on := 0, ground := Ground.phase }, { on := 1, ground := Ground.phase }, { on := 2, ground := Ground.phase }, { on := 3, ground := Ground.phase }, { on := 4, ground := Ground.phase }, { on := 5, ground := Ground.phase }, { on := 6, ground := Ground.phase }], guard := none }) (v := ?_) rfl (by kernel_rfl) (by kernel_rfl) (by kernel_rfl) (fun _ _ _ h => h) (Or.inl ⟨by rfl, ?_⟩) (by assumption) ?_
              rotate_left
              · first | (intro w hSw; (try dsimp only at hSw); go_simp; done) | (intro w hSw; (try dsimp only at hSw); go_simp; with_reducible rfl)
              simp only [Act.put, List.setIfInBounds_toArray, List.set_cons_zero, List.set_cons_succ]
              refine wpAnyH_done (by kernel_rfl) ?_ _
              clear hHeld hS9
              go_wp2_with fail
              go_ret
              exact ⟨rfl, HB9.out⟩
          | succ gn =>
            have hin : i < mw := by omega
            have hlen : way.length = mw := by have := HWAY.out.1; simpa using this
            obtain ⟨wb, wo, rfl, hwb, hcell⟩ := HWAY.out.2 (by omega)
            have hcw := (HBQ.out.cell (p := ⟨wb, wo + i, none⟩) hwb).trans (hcell i (.bool way[i]) (by rw [List.getElem?_map, List.getElem?_eq_getElem (by omega)]; rfl))
            have HD : Hid (way.drop i = way[i] :: way.drop (i + 1)) := Lib.hid (List.drop_eq_getElem_cons (by omega))
            clear hcell hwb
            generalize way[i] = R at *
            clear hlen
            cases s with
            | none =>
              obtain rfl := hRS
              have HE : Hid (oat o way = none) := Lib.hid (by rw [← hat, oat_none])
              clear hat
              simp only [ptr_none]
              have hsq := HBQ.out.size
              have HC5 := Lib.hid (way_any (some o) (some g) _ mw dw way wr ⟨g, rfl, HTQ.out⟩ ((HWAY.out.below HBQ.out (Nat.le_refl _)).more HBQ.out.size) (by omega))
              rw [show topOf (some o) = o from rfl] at HC5
              go_wp2_with fail
              refine HC5.out.mono ?_
              rintro e w5 hpost
              rcases hpost with ⟨_, rfl, hb5⟩ | ⟨_, _, _, _, _, _, _, _, h, _⟩
              rotate_left
              · rw [HE.out] at h; cases h
              have hs5 := hb5.size
              clear HC5
              simp only []
              have hz64 := zero64
              iterate 13 go_step
              clear hz64
              have hw6 := Whole.made w5 64 z64
              refine wpList_store_mid rfl 64 (.tmp 13) (.tmp 97) rfl w5.heap.size 0 z64 rfl rfl ?_ ?_ z64_one ?_
              · exact hw6.there_
              · rw [z64_size]; exact info64
              have HW7 := Lib.hid (hw6.setAll (vs := z64) rfl)
              have hb7 : Below w5.heap.size w5 ((w5.alloc (.cells z64 64)).setCells w5.heap.size 0 z64.toList) := below_setCells w5 w5.heap.size _ 0 ((Below.refl _ _).alloc (Nat.le_refl _) _) (Nat.le_refl _)
              generalize (w5.alloc (.cells z64 64)).setCells w5.heap.size 0 z64.toList = w7 at *
              have hs7 := hb7.size
              have HB7 := Lib.hid ((HBQ.out.trans (hb5.mono hsq)).trans (hb7.mono (by omega)))
              have HT7 := Lib.hid ((HTQ.out.on hb5).on hb7)
              clear hb5 hb7 hw6 HBQ HTQ
              generalize w5.heap.size = g13 at *
              go_upto_region 28 with (fail)
              refine wp_region_lit ?_
              iterate 9 go_step
              refine wpList_load_w rfl 64 (.tmp 13) rfl g13 0 rfl _ _ HW7.out.range Tryd.underlying64 rfl (by rw [Array.length_toList, z64_size]; exact info64) ?_
              rw [show z64.toList.toArray = z64 from rfl]
              have hz64 := zero64
              have HC6 := Lib.hid (sameNode_yes none none none none 0 0 0 0 0 0 0 0 0 0 z32 z32 [] [] w7 rfl rfl Rd.nil Rd.nil Rd.nil Rd.nil)
              change Hid (Calls Tryd.prog 31 #[.agg z64, .agg z64] w7 _) at HC6
              go_wp2_with fail
              refine HC6.out.mono ?_
              rintro e w8 ⟨rfl, hb8⟩
              have HB8 := Lib.hid (HB7.out.trans (hb8.mono HB7.out.size))
              have HC7 := Lib.hid (len_any (some o) (some g) w8 ⟨g, rfl, HT7.out.on hb8⟩ (by show oln o ≤ _; have := HLN.out; omega))
              rw [show (oln (topOf (some o)) : Nat) = n2 from HLN.out] at HC7
              clear hb8 HC6 HB7 HT7 HW7 hz64
              go_wp2_with fail
              refine HC7.out.mono ?_
              rintro e w9 ⟨rfl, rfl⟩
              go_wp2_with fail
              go_ret
              exact ⟨rfl, HB8.out⟩
            | some t0 =>
              obtain ⟨b0, rfl, hN0⟩ := hRS
              simp only [ptr_some]
              cases t0 with
              | leaf k0 v0 =>
                obtain ⟨Ak, nk, ck, Av, nv, cv, hh⟩ := hN0
                have c2 : wr.cell? ⟨b0, 2, none⟩ = some (.int .i64 0) := hh.cells.2.2.1
                have HE : Hid (oat o way = none) := Lib.hid (by rw [← hat, HD.out]; simp [oat])
                clear hat HSN hh
                have hsq := HBQ.out.size
                have HC5 := Lib.hid (way_any (some o) (some g) _ mw dw way wr ⟨g, rfl, HTQ.out⟩ ((HWAY.out.below HBQ.out (Nat.le_refl _)).more HBQ.out.size) (by omega))
                rw [show topOf (some o) = o from rfl] at HC5
                go_wp2_with fail
                refine HC5.out.mono ?_
                rintro e w5 hpost
                rcases hpost with ⟨_, rfl, hb5⟩ | ⟨_, _, _, _, _, _, _, _, h, _⟩
                rotate_left
                · rw [HE.out] at h; cases h
                have hs5 := hb5.size
                clear HC5
                simp only []
                have hz64 := zero64
                iterate 13 go_step
                clear hz64
                have hw6 := Whole.made w5 64 z64
                refine wpList_store_mid rfl 64 (.tmp 13) (.tmp 97) rfl w5.heap.size 0 z64 rfl rfl ?_ ?_ z64_one ?_
                · exact hw6.there_
                · rw [z64_size]; exact info64
                have HW7 := Lib.hid (hw6.setAll (vs := z64) rfl)
                have hb7 : Below w5.heap.size w5 ((w5.alloc (.cells z64 64)).setCells w5.heap.size 0 z64.toList) := below_setCells w5 w5.heap.size _ 0 ((Below.refl _ _).alloc (Nat.le_refl _) _) (Nat.le_refl _)
                generalize (w5.alloc (.cells z64 64)).setCells w5.heap.size 0 z64.toList = w7 at *
                have hs7 := hb7.size
                have HB7 := Lib.hid ((HBQ.out.trans (hb5.mono hsq)).trans (hb7.mono (by omega)))
                have HT7 := Lib.hid ((HTQ.out.on hb5).on hb7)
                clear hb5 hb7 hw6 HBQ HTQ
                generalize w5.heap.size = g13 at *
                go_upto_region 28 with (fail)
                refine wp_region_lit ?_
                iterate 9 go_step
                refine wpList_load_w rfl 64 (.tmp 13) rfl g13 0 rfl _ _ HW7.out.range Tryd.underlying64 rfl (by rw [Array.length_toList, z64_size]; exact info64) ?_
                rw [show z64.toList.toArray = z64 from rfl]
                have hz64 := zero64
                have HC6 := Lib.hid (sameNode_yes none none none none 0 0 0 0 0 0 0 0 0 0 z32 z32 [] [] w7 rfl rfl Rd.nil Rd.nil Rd.nil Rd.nil)
                change Hid (Calls Tryd.prog 31 #[.agg z64, .agg z64] w7 _) at HC6
                go_wp2_with fail
                refine HC6.out.mono ?_
                rintro e w8 ⟨rfl, hb8⟩
                have HB8 := Lib.hid (HB7.out.trans (hb8.mono HB7.out.size))
                have HC7 := Lib.hid (len_any (some o) (some g) w8 ⟨g, rfl, HT7.out.on hb8⟩ (by show oln o ≤ _; have := HLN.out; omega))
                rw [show (oln (topOf (some o)) : Nat) = n2 from HLN.out] at HC7
                clear hb8 HC6 HB7 HT7 HW7 hz64
                go_wp2_with fail
                refine HC7.out.mono ?_
                rintro e w9 ⟨rfl, rfl⟩
                go_wp2_with fail
                go_ret
                exact ⟨rfl, HB8.out⟩
              | node tl tr =>
                obtain ⟨Ak, nk, ck, Av, nv, cv, x, y, hh, hx, hy⟩ := hN0
                have c2 := hh.cells.2.2.1
                have hne := h_ne tl tr
                have hz : (((T.node tl tr).h : Int) == 0) = false := by rw [beq_eq_false_iff_ne]; omega
                obtain ⟨c4, c5⟩ := hh.sides (Below.refl _ _)
                have HX := Lib.hid hx
                have HY := Lib.hid hy
                have HAT := Lib.hid hat
                have hsn2 : tl.n + tr.n ≤ 60 := HSN.out
                clear hh hx hy hat hne
                generalize (T.node tl tr).h = H at *
                cases R with
                | true =>
                  go_wp2_with fail
                  go_roundg gn
                  case measure => omega
                  case rel => exact ⟨i + 1, some tr, some y, by omega, congrArg (Value.int .i64) (by omega), rfl, ⟨y, rfl, HY.out⟩, by rw [← HAT.out, HD.out]; simp [oat], by show tr.n ≤ 60; omega, rfl⟩
                | false =>
                  go_wp2_with fail
                  go_roundg gn
                  case measure => omega
                  case rel => exact ⟨i + 1, some tl, some x, by omega, congrArg (Value.int .i64) (by omega), rfl, ⟨x, rfl, HX.out⟩, by rw [← HAT.out, HD.out]; simp [oat], by show tl.n ≤ 60; omega, rfl⟩

      have hd6 : decide ((60 : Int) ≤ (i : Int)) = false := decide_eq_false (by omega)
      have HCK := Lib.hid (key_any a A1 A3 n1 c1 n3 c3 w3 ((HR.out.1.below HBW3.out (Nat.le_refl _)).more HBW3.out.size) m1)
      go_upto_region 10 with (fail)
      refine wp_region_lit ?_
      iterate 9 go_step
      refine wpList_load_w rfl 29 (.tmp 9) rfl g3 0 rfl [.int .u8 a.kind.toNat, .int .u8 a.no.toNat, .slice A1 n1 c1, .slice A3 n3 c3] _ HW3.out.range Tryd.underlying29 rfl (by exact info29) ?_
      go_wp2_with fail
      refine HCK.out.mono ?_
      rintro e w4 ⟨Ak, nk, ck, rfl, hrk, hnck, hb4⟩
      have HKL := Lib.hid hrk.len
      have HW4 := Lib.hid (HW3.out.below hb4 hs3)
      have HRX4 := Lib.hid (HRX3.out.on hb4)
      have HBX4 := Lib.hid (HBX3.out.trans (hb4.mono HBX3.out.size))
      have HBW4 := Lib.hid (HBW3.out.trans (hb4.mono HBW3.out.size))
      have hs4 : g3 < w4.heap.size := Nat.lt_of_lt_of_le hs3 hb4.size
      clear hrk hb4 HCK HW3 HRX3 HBX3 HBW3 hs3
      by_cases hk90 : 90 < nk
      · have hoe : o = oi := by
          have h1 := HGR.out
          rw [HDC.out, grow_stop _ _ _ _ (by rw [HKL.out]; exact hk90), HO.out] at h1
          exact h1.symm
        clear HGR

        obtain ⟨wq, hwq⟩ : ∃ wq, wq = w4 := ⟨_, rfl⟩
        subst hwq
        subst hoe
        have HTQ := Lib.hid (HT2.out.on HBX4.out)
        have HRQ := HRX4
        have HBQ := Lib.hid (HB2.out.trans (HBX4.out.mono HB2.out.size))
        have HOS : Hid (osz o ≤ 60) := Lib.hid (by have h1 := HLN.out; have h2 := osz_oln o; omega)
        clear HT2 HRX4 HBX4 HB2

        go_wp2_with fail
        go_loopg [7, 70] mw (fun gk s7 s70 wx => ∃ i s p', i + gk = mw ∧ s70 = .int .i64 (i : Nat) ∧ s7 = ptr p' ∧ RPIn wq wq.heap.size s p' ∧ oat s (way.drop i) = oat o way ∧ osz s ≤ 60 ∧ wx = wq)
        case atStart => exact ⟨0, o, p, by omega, rfl, rfl, HRQ.out, rfl, HOS.out, rfl⟩
        case round =>
          clear HRQ
          obtain ⟨i, s, p', hi, rfl, rfl, hRS, hat, hsn, rfl⟩ := hrel
          have HSN := Lib.hid hsn
          clear hsn
          cases gk with
          | zero =>
            obtain rfl : mw = i := by omega
            have HAT : Hid (s = oat o way) := Lib.hid (by rw [← hat, List.drop_eq_nil_of_le (by have := HWAY.out.1; simp at this; omega), oat_nil])
            clear hat hi
            cases s with
            | none =>
              obtain rfl := hRS
              simp only [ptr_none]
              have HE : Hid (oat o way = none) := Lib.hid HAT.out.symm
              clear HAT
              have hsq := HBQ.out.size
              have HC5 := Lib.hid (way_any (some o) (some g) _ mw dw way wr ⟨g, rfl, HTQ.out⟩ ((HWAY.out.below HBQ.out (Nat.le_refl _)).more HBQ.out.size) (by omega))
              rw [show topOf (some o) = o from rfl] at HC5
              go_wp2_with fail
              refine HC5.out.mono ?_
              rintro e w5 hpost
              rcases hpost with ⟨_, rfl, hb5⟩ | ⟨_, _, _, _, _, _, _, _, h, _⟩
              rotate_left
              · rw [HE.out] at h; cases h
              have hs5 := hb5.size
              clear HC5
              simp only []
              have hz64 := zero64
              iterate 13 go_step
              clear hz64
              have hw6 := Whole.made w5 64 z64
              refine wpList_store_mid rfl 64 (.tmp 13) (.tmp 97) rfl w5.heap.size 0 z64 rfl rfl ?_ ?_ z64_one ?_
              · exact hw6.there_
              · rw [z64_size]; exact info64
              have HW7 := Lib.hid (hw6.setAll (vs := z64) rfl)
              have hb7 : Below w5.heap.size w5 ((w5.alloc (.cells z64 64)).setCells w5.heap.size 0 z64.toList) := below_setCells w5 w5.heap.size _ 0 ((Below.refl _ _).alloc (Nat.le_refl _) _) (Nat.le_refl _)
              generalize (w5.alloc (.cells z64 64)).setCells w5.heap.size 0 z64.toList = w7 at *
              have hs7 := hb7.size
              have HB7 := Lib.hid ((HBQ.out.trans (hb5.mono hsq)).trans (hb7.mono (by omega)))
              have HT7 := Lib.hid ((HTQ.out.on hb5).on hb7)
              clear hb5 hb7 hw6 HBQ HTQ
              generalize w5.heap.size = g13 at *
              go_upto_region 28 with (fail)
              refine wp_region_lit ?_
              iterate 9 go_step
              refine wpList_load_w rfl 64 (.tmp 13) rfl g13 0 rfl _ _ HW7.out.range Tryd.underlying64 rfl (by rw [Array.length_toList, z64_size]; exact info64) ?_
              rw [show z64.toList.toArray = z64 from rfl]
              have hz64 := zero64
              have HC6 := Lib.hid (sameNode_yes none none none none 0 0 0 0 0 0 0 0 0 0 z32 z32 [] [] w7 rfl rfl Rd.nil Rd.nil Rd.nil Rd.nil)
              change Hid (Calls Tryd.prog 31 #[.agg z64, .agg z64] w7 _) at HC6
              go_wp2_with fail
              refine HC6.out.mono ?_
              rintro e w8 ⟨rfl, hb8⟩
              have HB8 := Lib.hid (HB7.out.trans (hb8.mono HB7.out.size))
              have HC7 := Lib.hid (len_any (some o) (some g) w8 ⟨g, rfl, HT7.out.on hb8⟩ (by show oln o ≤ _; have := HLN.out; omega))
              rw [show (oln (topOf (some o)) : Nat) = n2 from HLN.out] at HC7
              clear hb8 HC6 HB7 HT7 HW7 hz64
              go_wp2_with fail
              refine HC7.out.mono ?_
              rintro e w9 ⟨rfl, rfl⟩
              go_wp2_with fail
              go_ret
              exact ⟨rfl, HB8.out⟩
            | some sub =>
              obtain ⟨bs, rfl, hRS⟩ := hRS
              simp only [ptr_some]
              have HE : Hid (oat o way = some sub) := Lib.hid HAT.out.symm
              have HRN := Lib.hid hRS
              clear HAT hRS
              have hsq := HBQ.out.size
              have HC5 := Lib.hid (way_any (some o) (some g) _ mw dw way wr ⟨g, rfl, HTQ.out⟩ ((HWAY.out.below HBQ.out (Nat.le_refl _)).more HBQ.out.size) (by omega))
              rw [show topOf (some o) = o from rfl] at HC5
              go_wp2_with fail
              refine HC5.out.mono ?_
              rintro e w5 hpost
              rcases hpost with ⟨h, _⟩ | ⟨t', xs, A5, n5, c5, A5', n5', c5', ht', rfl, hTo, hb5⟩
              · rw [HE.out] at h; cases h
              obtain rfl : sub = t' := by rw [HE.out] at ht'; injection ht'
              have hs5 := hb5.size
              have hcs : xs.size = 68 := by rw [hTo.eq, List.size_toArray, acells_len _ _ _ _ _ _ (lsum32 _) (rsum32 _)]
              have hone : xs.all (·.oneCell') = true := by rw [hTo.eq]; exact acells_one ..
              have HTo := Lib.hid hTo
              clear HC5 hTo ht'
              simp only []
              have hz64 := zero64
              iterate 13 go_step
              clear hz64
              have hw6 := Whole.made w5 64 z64
              refine wpList_store_mid rfl 64 (.tmp 13) (.tmp 97) rfl w5.heap.size 0 xs rfl rfl ?_ ?_ hone ?_
              · rw [hcs]; exact hw6.there_
              · rw [hcs]; exact info64
              have HW7 := Lib.hid (hw6.setAll (vs := xs) (by rw [hcs]; rfl))
              have hb7 : Below w5.heap.size w5 ((w5.alloc (.cells z64 64)).setCells w5.heap.size 0 xs.toList) := below_setCells w5 w5.heap.size _ 0 ((Below.refl _ _).alloc (Nat.le_refl _) _) (Nat.le_refl _)
              generalize (w5.alloc (.cells z64 64)).setCells w5.heap.size 0 xs.toList = w7 at *
              have hs7 := hb7.size
              have HB7 := Lib.hid ((HBQ.out.trans (hb5.mono hsq)).trans (hb7.mono (by omega)))
              have HRN7 := Lib.hid ((HRN.out.on hb5).on hb7)
              have HTo7 := Lib.hid (HTo.out.below hb7)
              clear hb5 hb7 hw6 HBQ HTQ hone HTo HRN
              generalize w5.heap.size = g13 at *
              go_upto_region 29 with (fail)
              have hS0 : w7.drew.rangeAt g13 0 xs.toList := HW7.out.range
              refine wp_region_held_drew (S := fun w' => w'.rangeAt g13 0 xs.toList) (by kernel_rfl) hS0 (fun hHeld => ?_)
              refine wpAnyH_take (i := 0) (oi := { dst := some 115, op := Op.move (Operand.tmp 14), type := 4, pos := "law.go:140", after := #[], guard := none }) (v := ?_) rfl (by kernel_rfl) (by kernel_rfl) (by kernel_rfl) (fun _ _ _ h => h) (Or.inl ⟨by rfl, ?_⟩) (by assumption) ?_
              rotate_left
              · first | (intro w hSw; (try dsimp only at hSw); go_simp; done) | (intro w hSw; (try dsimp only at hSw); go_simp; with_reducible rfl)
              simp only [Act.put, List.setIfInBounds_toArray, List.set_cons_zero, List.set_cons_succ]
              refine wpAnyH_take (i := 1) (oi := { dst := some 116, op := Op.move (Operand.tmp 115), type := 4, pos := "law.go:140", after := #[{ on := 0, ground := Ground.data }], guard := none }) (v := ?_) rfl (by kernel_rfl) (by kernel_rfl) (by kernel_rfl) (fun _ _ _ h => h) (Or.inl ⟨by rfl, ?_⟩) (by assumption) ?_
              rotate_left
              · first | (intro w hSw; (try dsimp only at hSw); go_simp; done) | (intro w hSw; (try dsimp only at hSw); go_simp; with_reducible rfl)
              simp only [Act.put, List.setIfInBounds_toArray, List.set_cons_zero, List.set_cons_succ]
              refine wpAnyH_take (i := 2) (oi := { dst := some 117, op := Op.load 64 (Operand.tmp 13), type := 64, pos := "law.go:140", after := #[{ on := 1, ground := Ground.guard }], guard := some (1, true) }) (v := .agg xs.toList.toArray) rfl (by kernel_rfl) (by kernel_rfl) (by kernel_rfl) (fun _ _ _ h => h) (yieldsIf_load_mid (by rfl) 64 (.tmp 13) rfl g13 0 rfl xs.toList _ (fun _ h => h) Tryd.underlying64 rfl (by rw [Array.length_toList, hcs]; exact info64)) (by assumption) ?_
              rw [Array.toArray_toList]
              simp only [Act.put, List.setIfInBounds_toArray, List.set_cons_zero, List.set_cons_succ]
              refine wpAnyH_take (i := 3) (oi := { dst := some 118, op := Op.move (Operand.tmp 7), type := 26, pos := "law.go:140", after := #[{ on := 1, ground := Ground.guard }], guard := some (1, true) }) (v := ?_) rfl (by kernel_rfl) (by kernel_rfl) (by kernel_rfl) (fun _ _ _ h => h) (Or.inl ⟨by rfl, ?_⟩) (by assumption) ?_
              rotate_left
              · first | (intro w hSw; (try dsimp only at hSw); go_simp; done) | (intro w hSw; (try dsimp only at hSw); go_simp; with_reducible rfl)
              simp only [Act.put, List.setIfInBounds_toArray, List.set_cons_zero, List.set_cons_succ]
              have HTo7d : Hid (Told w7.drew _ sub xs A5 n5 c5 A5' n5' c5') := Lib.hid (HTo7.out.below (Below.refl _ _).drew)
              have HRN7d : Hid (RIn w7.drew w7.drew.heap.size sub bs) := Lib.hid (HRN7.out.on (Below.refl _ _).drew)
              have HB7d : Hid (Below w.heap.size w w7.drew) := Lib.hid HB7.out.drew
              have hgl : g13 < w7.drew.heap.size := HW7.out.lt
              clear hHeld hS0 HTo7 HRN7 HB7
              have HW7d : Hid (Whole w7.drew g13 64 xs) := Lib.hid HW7.out
              clear HW7
              generalize w7.drew = w7d at *
              have hsw := HB7d.out.size
              have HC6 := Lib.hid (rapi_any sub bs w7d HRN7d.out (by have h9 : sub.n ≤ 60 := HSN.out; omega) (tab0_below HT0.out HB7d.out hw) (by omega))
              rw [ptr_some] at HC6
              refine wpAnyH_ready (rs := [4]) (by kernel_rfl) (by simp) ?_
              refine AllReadyH.cons rfl (fun K hK => ?_) AllReadyH.nil
              go_simp
              refine HC6.out.mono ?_
              rintro e w8 ⟨B1, q1, d1, B2, q2, d2, x8, y8, hh8, rfl, hb8⟩
              have hs8 := hb8.size
              have HTo8 := HTo7d.out.below hb8
              have HC7 := Lib.hid (sameNode_yes A5 A5' B1 B2 n5 c5 n5' c5' q1 d1 q2 d2 (sub.h : Int) sub.n sub.lsum sub.rsum sub.key sub.val w8 (lsum32 sub) (rsum32 sub) HTo8.key HTo8.val ((hh8.key.below hb8 (Nat.le_refl _)).more hs8) ((hh8.val.below hb8 (Nat.le_refl _)).more hs8))
              rw [← HTo8.eq] at HC7
              have HB8 := Lib.hid (HB7d.out.trans (hb8.mono HB7d.out.size))
              have hS8 : w8.rangeAt g13 0 xs.toList := (HW7d.out.below hb8 hgl).range
              generalize (acells (.slice B1 q1 d1) (.slice B2 q2 d2) sub.h sub.n sub.lsum sub.rsum).toArray = X8 at *
              refine hK.out _ _ hS8 (fun _ => ?_)
              clear hK K hb8 hh8 HC6 HTo8 HTo7d HB7d HRN7d
              refine wpAnyH_ready (rs := [5]) (by kernel_rfl) (by simp) ?_
              refine AllReadyH.cons rfl (fun K hK => ?_) AllReadyH.nil
              go_simp
              refine HC7.out.mono ?_
              rintro e w9 ⟨rfl, hb9⟩
              have hS9 : w9.rangeAt g13 0 xs.toList := fun j v hv => (hb9.cell (p := ⟨g13, 0 + j, none⟩) (Nat.lt_of_lt_of_le hgl hs8)).trans (hS8 j v hv)
              have HB9 := Lib.hid (HB8.out.trans (hb9.mono HB8.out.size))
              refine hK.out _ _ hS9 (fun hHeld => ?_)
              clear hK K hb9 HC7 hS8 HB8
              refine wpAnyH_take (i := 6) (oi := { dst := some 121, op := Op.pick (Operand.tmp 116) (Operand.tmp 120) (Operand.const (Value.bool false)), type := 4, pos := "law.go:140", after := #[{ on := 1, ground := Ground.data }, { on := 5, ground := Ground.data }], guard := none }) (v := ?_) rfl (by kernel_rfl) (by kernel_rfl) (by kernel_rfl) (fun _ _ _ h => h) (Or.inl ⟨by rfl, ?_⟩) (by assumption) ?_
              rotate_left
              · first | (intro w hSw; (try dsimp only at hSw); go_simp; done) | (intro w hSw; (try dsimp only at hSw); go_simp; with_reducible rfl)
              simp only [Act.put, List.setIfInBounds_toArray, List.set_cons_zero, List.set_cons_succ]
              refine wpAnyH_take (i := 7) (oi := { dst := some 4, op := Op.assign (Operand.tmp 121), type := 4, pos := "law.go:140", after := #[{ on := 6, ground := Ground.data }, { on := 5, ground := Ground.chain }, { on := 0, ground := Ground.phase }, { on := 1, ground := Ground.phase }, { on := 2, ground := Ground.phase }, { on := 3, ground := Ground.phase }, { on := 4, ground := Ground.phase }, { on := 5, ground := Ground.phase }, { on := 6, ground := Ground.phase }], guard := none }) (v := ?_) rfl (by kernel_rfl) (by kernel_rfl) (by kernel_rfl) (fun _ _ _ h => h) (Or.inl ⟨by rfl, ?_⟩) (by assumption) ?_
              rotate_left
              · first | (intro w hSw; (try dsimp only at hSw); go_simp; done) | (intro w hSw; (try dsimp only at hSw); go_simp; with_reducible rfl)
              simp only [Act.put, List.setIfInBounds_toArray, List.set_cons_zero, List.set_cons_succ]
              refine wpAnyH_done (by kernel_rfl) ?_ _
              clear hHeld hS9
              go_wp2_with fail
              go_ret
              exact ⟨rfl, HB9.out⟩
          | succ gn =>
            have hin : i < mw := by omega
            have hlen : way.length = mw := by have := HWAY.out.1; simpa using this
            obtain ⟨wb, wo, rfl, hwb, hcell⟩ := HWAY.out.2 (by omega)
            have hcw := (HBQ.out.cell (p := ⟨wb, wo + i, none⟩) hwb).trans (hcell i (.bool way[i]) (by rw [List.getElem?_map, List.getElem?_eq_getElem (by omega)]; rfl))
            have HD : Hid (way.drop i = way[i] :: way.drop (i + 1)) := Lib.hid (List.drop_eq_getElem_cons (by omega))
            clear hcell hwb
            generalize way[i] = R at *
            clear hlen
            cases s with
            | none =>
              obtain rfl := hRS
              have HE : Hid (oat o way = none) := Lib.hid (by rw [← hat, oat_none])
              clear hat
              simp only [ptr_none]
              have hsq := HBQ.out.size
              have HC5 := Lib.hid (way_any (some o) (some g) _ mw dw way wr ⟨g, rfl, HTQ.out⟩ ((HWAY.out.below HBQ.out (Nat.le_refl _)).more HBQ.out.size) (by omega))
              rw [show topOf (some o) = o from rfl] at HC5
              go_wp2_with fail
              refine HC5.out.mono ?_
              rintro e w5 hpost
              rcases hpost with ⟨_, rfl, hb5⟩ | ⟨_, _, _, _, _, _, _, _, h, _⟩
              rotate_left
              · rw [HE.out] at h; cases h
              have hs5 := hb5.size
              clear HC5
              simp only []
              have hz64 := zero64
              iterate 13 go_step
              clear hz64
              have hw6 := Whole.made w5 64 z64
              refine wpList_store_mid rfl 64 (.tmp 13) (.tmp 97) rfl w5.heap.size 0 z64 rfl rfl ?_ ?_ z64_one ?_
              · exact hw6.there_
              · rw [z64_size]; exact info64
              have HW7 := Lib.hid (hw6.setAll (vs := z64) rfl)
              have hb7 : Below w5.heap.size w5 ((w5.alloc (.cells z64 64)).setCells w5.heap.size 0 z64.toList) := below_setCells w5 w5.heap.size _ 0 ((Below.refl _ _).alloc (Nat.le_refl _) _) (Nat.le_refl _)
              generalize (w5.alloc (.cells z64 64)).setCells w5.heap.size 0 z64.toList = w7 at *
              have hs7 := hb7.size
              have HB7 := Lib.hid ((HBQ.out.trans (hb5.mono hsq)).trans (hb7.mono (by omega)))
              have HT7 := Lib.hid ((HTQ.out.on hb5).on hb7)
              clear hb5 hb7 hw6 HBQ HTQ
              generalize w5.heap.size = g13 at *
              go_upto_region 28 with (fail)
              refine wp_region_lit ?_
              iterate 9 go_step
              refine wpList_load_w rfl 64 (.tmp 13) rfl g13 0 rfl _ _ HW7.out.range Tryd.underlying64 rfl (by rw [Array.length_toList, z64_size]; exact info64) ?_
              rw [show z64.toList.toArray = z64 from rfl]
              have hz64 := zero64
              have HC6 := Lib.hid (sameNode_yes none none none none 0 0 0 0 0 0 0 0 0 0 z32 z32 [] [] w7 rfl rfl Rd.nil Rd.nil Rd.nil Rd.nil)
              change Hid (Calls Tryd.prog 31 #[.agg z64, .agg z64] w7 _) at HC6
              go_wp2_with fail
              refine HC6.out.mono ?_
              rintro e w8 ⟨rfl, hb8⟩
              have HB8 := Lib.hid (HB7.out.trans (hb8.mono HB7.out.size))
              have HC7 := Lib.hid (len_any (some o) (some g) w8 ⟨g, rfl, HT7.out.on hb8⟩ (by show oln o ≤ _; have := HLN.out; omega))
              rw [show (oln (topOf (some o)) : Nat) = n2 from HLN.out] at HC7
              clear hb8 HC6 HB7 HT7 HW7 hz64
              go_wp2_with fail
              refine HC7.out.mono ?_
              rintro e w9 ⟨rfl, rfl⟩
              go_wp2_with fail
              go_ret
              exact ⟨rfl, HB8.out⟩
            | some t0 =>
              obtain ⟨b0, rfl, hN0⟩ := hRS
              simp only [ptr_some]
              cases t0 with
              | leaf k0 v0 =>
                obtain ⟨Ak, nk, ck, Av, nv, cv, hh⟩ := hN0
                have c2 : wr.cell? ⟨b0, 2, none⟩ = some (.int .i64 0) := hh.cells.2.2.1
                have HE : Hid (oat o way = none) := Lib.hid (by rw [← hat, HD.out]; simp [oat])
                clear hat HSN hh
                have hsq := HBQ.out.size
                have HC5 := Lib.hid (way_any (some o) (some g) _ mw dw way wr ⟨g, rfl, HTQ.out⟩ ((HWAY.out.below HBQ.out (Nat.le_refl _)).more HBQ.out.size) (by omega))
                rw [show topOf (some o) = o from rfl] at HC5
                go_wp2_with fail
                refine HC5.out.mono ?_
                rintro e w5 hpost
                rcases hpost with ⟨_, rfl, hb5⟩ | ⟨_, _, _, _, _, _, _, _, h, _⟩
                rotate_left
                · rw [HE.out] at h; cases h
                have hs5 := hb5.size
                clear HC5
                simp only []
                have hz64 := zero64
                iterate 13 go_step
                clear hz64
                have hw6 := Whole.made w5 64 z64
                refine wpList_store_mid rfl 64 (.tmp 13) (.tmp 97) rfl w5.heap.size 0 z64 rfl rfl ?_ ?_ z64_one ?_
                · exact hw6.there_
                · rw [z64_size]; exact info64
                have HW7 := Lib.hid (hw6.setAll (vs := z64) rfl)
                have hb7 : Below w5.heap.size w5 ((w5.alloc (.cells z64 64)).setCells w5.heap.size 0 z64.toList) := below_setCells w5 w5.heap.size _ 0 ((Below.refl _ _).alloc (Nat.le_refl _) _) (Nat.le_refl _)
                generalize (w5.alloc (.cells z64 64)).setCells w5.heap.size 0 z64.toList = w7 at *
                have hs7 := hb7.size
                have HB7 := Lib.hid ((HBQ.out.trans (hb5.mono hsq)).trans (hb7.mono (by omega)))
                have HT7 := Lib.hid ((HTQ.out.on hb5).on hb7)
                clear hb5 hb7 hw6 HBQ HTQ
                generalize w5.heap.size = g13 at *
                go_upto_region 28 with (fail)
                refine wp_region_lit ?_
                iterate 9 go_step
                refine wpList_load_w rfl 64 (.tmp 13) rfl g13 0 rfl _ _ HW7.out.range Tryd.underlying64 rfl (by rw [Array.length_toList, z64_size]; exact info64) ?_
                rw [show z64.toList.toArray = z64 from rfl]
                have hz64 := zero64
                have HC6 := Lib.hid (sameNode_yes none none none none 0 0 0 0 0 0 0 0 0 0 z32 z32 [] [] w7 rfl rfl Rd.nil Rd.nil Rd.nil Rd.nil)
                change Hid (Calls Tryd.prog 31 #[.agg z64, .agg z64] w7 _) at HC6
                go_wp2_with fail
                refine HC6.out.mono ?_
                rintro e w8 ⟨rfl, hb8⟩
                have HB8 := Lib.hid (HB7.out.trans (hb8.mono HB7.out.size))
                have HC7 := Lib.hid (len_any (some o) (some g) w8 ⟨g, rfl, HT7.out.on hb8⟩ (by show oln o ≤ _; have := HLN.out; omega))
                rw [show (oln (topOf (some o)) : Nat) = n2 from HLN.out] at HC7
                clear hb8 HC6 HB7 HT7 HW7 hz64
                go_wp2_with fail
                refine HC7.out.mono ?_
                rintro e w9 ⟨rfl, rfl⟩
                go_wp2_with fail
                go_ret
                exact ⟨rfl, HB8.out⟩
              | node tl tr =>
                obtain ⟨Ak, nk, ck, Av, nv, cv, x, y, hh, hx, hy⟩ := hN0
                have c2 := hh.cells.2.2.1
                have hne := h_ne tl tr
                have hz : (((T.node tl tr).h : Int) == 0) = false := by rw [beq_eq_false_iff_ne]; omega
                obtain ⟨c4, c5⟩ := hh.sides (Below.refl _ _)
                have HX := Lib.hid hx
                have HY := Lib.hid hy
                have HAT := Lib.hid hat
                have hsn2 : tl.n + tr.n ≤ 60 := HSN.out
                clear hh hx hy hat hne
                generalize (T.node tl tr).h = H at *
                cases R with
                | true =>
                  go_wp2_with fail
                  go_roundg gn
                  case measure => omega
                  case rel => exact ⟨i + 1, some tr, some y, by omega, congrArg (Value.int .i64) (by omega), rfl, ⟨y, rfl, HY.out⟩, by rw [← HAT.out, HD.out]; simp [oat], by show tr.n ≤ 60; omega, rfl⟩
                | false =>
                  go_wp2_with fail
                  go_roundg gn
                  case measure => omega
                  case rel => exact ⟨i + 1, some tl, some x, by omega, congrArg (Value.int .i64) (by omega), rfl, ⟨x, rfl, HX.out⟩, by rw [← HAT.out, HD.out]; simp [oat], by show tl.n ≤ 60; omega, rfl⟩

      have hi59 : i < 60 := by omega
      have HGS : Hid (grow (60 - (i + 1)) (cs.drop (i + 1)) (gstep oi a) = grow 60 cs none) := Lib.hid (by
        rw [← HGR.out, HDC.out, show 60 - i = (60 - (i + 1)) + 1 by omega, grow_step _ _ _ _ (by rw [HKL.out]; exact hk90)])
      obtain ⟨M, hM⟩ : ∃ M : Nat, M = min 100 n3 := ⟨_, rfl⟩
      have hmin : (if (100 : Int) < (n3 : Int) then (100 : Int) else (n3 : Int)) = (M : Int) := by split <;> omega
      have hM1 : M ≤ n3 := by omega
      have hM3 : M ≤ c3 := by omega
      have hM2 : M ≤ 100 := by omega
      have HM := Lib.hid hM
      have k0 := HW4.out.at_ (i := 0) (v := .int .u8 a.kind.toNat) rfl
      have k1 := HW4.out.at_ (i := 1) (v := .int .u8 a.no.toNat) rfl
      have k2 := HW4.out.at_ (i := 2) (v := .slice A1 n1 c1) rfl
      have k3 := HW4.out.at_ (i := 3) (v := .slice A3 n3 c3) rfl
      have hk1n : 1 ≤ nk := by have := a.key_pos; have := HKL.out; omega
      have hws : 1 < w4.heap.size := by have := HBW4.out.size; omega
      clear hM HGR
      by_cases hk6 : a.kind.toNat % 6 < 4
      · have hk6' : (a.kind.toNat : Int) % 6 < 4 := by omega
        have HCK := Lib.hid (key_any a A1 A3 n1 c1 n3 c3 w4 ((HR.out.1.below HBW4.out (Nat.le_refl _)).more HBW4.out.size) m1)
        go_wp2_with fail
        refine HCK.out.mono ?_
        rintro e w5 ⟨Aq, nq, cq, rfl, hrk, hncq, hb5⟩
        obtain rfl : nk = nq := by have := hrk.len; have := HKL.out; omega
        have HB5 := Lib.hid (HBW4.out.trans (hb5.mono HBW4.out.size))
        have hrv : Rd w5 w5.heap.size A3 M a.cut := by
          have h := ((HR.out.2.below HB5.out (Nat.le_refl _)).more HB5.out.size).pre M hM1
          rwa [a.cut_take n3 HR.out.2.len M HM.out] at h
        have HP := Lib.hid (rput_o Aq nk cq A3 M c3 a.key a.cut hncq (by omega) hM3 (by omega) oi p w5 (HRX4.out.on hb5) hrk hrv (by omega))
        have HBX5 := Lib.hid (HBX4.out.trans (hb5.mono HBX4.out.size))
        clear hrk hb5 hrv HCK k0 k1 k2 k3 hmin HB5
        go_wp2_with fail
        refine HP.out.mono ?_
        rintro e w6 ⟨p6, rfl, hR6, hb6⟩
        have HR6 := Lib.hid hR6
        have HBX6 := Lib.hid (HBX5.out.trans (hb6.mono HBX5.out.size))
        clear hR6 hb6 HP HBX5
        go_wp2_with fail
        go_roundg gn
        case measure => omega
        case rel => exact ⟨i + 1, _, p6, by omega, by omega, congrArg (Value.int .i64) (by omega), rfl, HR6.out, HFX.out.put a.key a.cut, Nat.le_trans (oput_n oi a.key a.cut) (by omega), by rw [← HGS.out, gstep_put hk6], HBX6.out⟩
      · have hk6' : ¬ (a.kind.toNat : Int) % 6 < 4 := by omega
        go_upto_region 14 with (fail)
        have hS0 : w4.drew.rangeAt g3 0 [.int .u8 a.kind.toNat, .int .u8 a.no.toNat, .slice A1 n1 c1, .slice A3 n3 c3] := HW4.out.range
        refine wp_region_held_drew (S := fun w' => w'.rangeAt g3 0 [.int .u8 a.kind.toNat, .int .u8 a.no.toNat, .slice A1 n1 c1, .slice A3 n3 c3]) (by kernel_rfl) hS0 (fun hHeld => ?_)
        refine wpAnyH_take (i := 0) (oi := { dst := some 57, op := Op.move (Operand.tmp 7), type := 26, pos := "law.go:121", after := #[], guard := none }) (v := ?_) rfl (by kernel_rfl) (by kernel_rfl) (by kernel_rfl) (fun _ _ _ h => h) (Or.inl ⟨by rfl, ?_⟩) (by assumption) ?_
        rotate_left
        · first | (intro w hSw; (try dsimp only at hSw); go_simp; done) | (intro w hSw; (try dsimp only at hSw); go_simp; with_reducible rfl)
        simp only [Act.put, List.setIfInBounds_toArray, List.set_cons_zero, List.set_cons_succ]
        refine wpAnyH_take (i := 2) (oi := { dst := some 59, op := Op.load 29 (Operand.tmp 9), type := 29, pos := "law.go:121", after := #[], guard := none }) (v := .agg #[.int .u8 a.kind.toNat, .int .u8 a.no.toNat, .slice A1 n1 c1, .slice A3 n3 c3]) rfl (by kernel_rfl) (by kernel_rfl) (by kernel_rfl) (fun _ _ _ h => h) (yieldsIf_load_mid (by rfl) 29 (.tmp 9) rfl g3 0 rfl [.int .u8 a.kind.toNat, .int .u8 a.no.toNat, .slice A1 n1 c1, .slice A3 n3 c3] _ (fun _ h => h) Tryd.underlying29 rfl (by exact info29)) (by assumption) ?_
        simp only [Act.put, List.setIfInBounds_toArray, List.set_cons_zero, List.set_cons_succ]
        clear hHeld hS0 k0 k1 k2 k3 hmin
        have HW5 : Hid (Whole w4.drew g3 29 (a.cells A1 n1 c1 A3 n3 c3)) := Lib.hid HW4.out
        have HRX5 : Hid (RPIn w4.drew w4.drew.heap.size oi p) := Lib.hid (HRX4.out.on (Below.refl _ _).drew)
        have HBX5 : Hid (Below w2.heap.size w2 w4.drew) := Lib.hid HBX4.out.drew
        have HBW5 : Hid (Below w.heap.size w w4.drew) := Lib.hid HBW4.out.drew
        have hs5 : g3 < w4.drew.heap.size := hs4
        clear HW4 HRX4 HBX4 HBW4 hs4 hws
        generalize w4.drew = w5 at *
        have HLV := Lib.hid (rleaves_o oi p w5 HRX5.out (by omega))
        refine wpAnyH_ready (rs := [1]) (by kernel_rfl) (by simp) ?_
        refine AllReadyH.cons rfl (fun K hK => ?_) AllReadyH.nil
        go_simp
        refine HLV.out.mono ?_
        rintro e w6 ⟨v6, rfl, hO6, hb6⟩
        obtain ⟨A6, c6, rfl, hc6, _⟩ := hO6.form
        have HP6 := Lib.hid hO6.rd
        have hs6 : g3 < w6.heap.size := Nat.lt_of_lt_of_le hs5 hb6.size
        have HW6 := Lib.hid (HW5.out.below hb6 hs5)
        have HRX6 := Lib.hid (HRX5.out.on hb6)
        have HBX6 := Lib.hid (HBX5.out.trans (hb6.mono HBX5.out.size))
        have HBW6 := Lib.hid (HBW5.out.trans (hb6.mono HBW5.out.size))
        have hS6 : w6.rangeAt g3 0 [.int .u8 a.kind.toNat, .int .u8 a.no.toNat, .slice A1 n1 c1, .slice A3 n3 c3] := HW6.out.range
        have HCK := Lib.hid (key_any a A1 A3 n1 c1 n3 c3 w6 ((HR.out.1.below HBW6.out (Nat.le_refl _)).more HBW6.out.size) m1)
        refine hK.out _ _ hS6 (fun _ => ?_)
        clear hK K hO6 hb6 HLV HW5 HRX5 HBX5 HBW5 hs5
        refine wpAnyH_ready (rs := [3]) (by kernel_rfl) (by simp) ?_
        refine AllReadyH.cons rfl (fun K hK => ?_) AllReadyH.nil
        go_simp
        refine HCK.out.mono ?_
        rintro e w7 ⟨Aq, nq, cq, rfl, hrk, hncq, hb7⟩
        have hs7 : g3 < w7.heap.size := Nat.lt_of_lt_of_le hs6 hb7.size
        have HW7 := Lib.hid (HW6.out.below hb7 hs6)
        have HRX7 := Lib.hid (HRX6.out.on hb7)
        have HBX7 := Lib.hid (HBX6.out.trans (hb7.mono HBX6.out.size))
        have HBW7 := Lib.hid (HBW6.out.trans (hb7.mono HBW6.out.size))
        have hS7 : w7.rangeAt g3 0 [.int .u8 a.kind.toNat, .int .u8 a.no.toNat, .slice A1 n1 c1, .slice A3 n3 c3] := HW7.out.range
        have HIX := Lib.hid (idx_any A6 (oln oi) c6 Aq nq cq (optLeaves oi) a.key w7 (HP6.out.on hb7) hrk (by omega))
        refine hK.out _ _ hS7 (fun _ => ?_)
        clear hK K hrk hb7 HCK HW6 HRX6 HBX6 HBW6 HP6 hs6 hS6
        refine wpAnyH_ready (rs := [4]) (by kernel_rfl) (by simp) ?_
        refine AllReadyH.cons rfl (fun K hK => ?_) AllReadyH.nil
        go_simp
        refine HIX.out.mono ?_
        rintro e w8 ⟨hb8, hres⟩
        have hs8 : g3 < w8.heap.size := Nat.lt_of_lt_of_le hs7 hb8.size
        have HW8 := Lib.hid (HW7.out.below hb8 hs7)
        have HRX8 := Lib.hid (HRX7.out.on hb8)
        have HBX8 := Lib.hid (HBX7.out.trans (hb8.mono HBX7.out.size))
        have HBW8 := Lib.hid (HBW7.out.trans (hb8.mono HBW7.out.size))
        have hS8 : w8.rangeAt g3 0 [.int .u8 a.kind.toNat, .int .u8 a.no.toNat, .slice A1 n1 c1, .slice A3 n3 c3] := HW8.out.range
        clear hb8 HIX HW7 HRX7 HBX7 HBW7 hs7 hS7
        rcases hres with ⟨hf, rfl⟩ | ⟨ix, pr, _, _, hf, rfl⟩
        · obtain ⟨z, hz, hz0⟩ : ∃ z : Int, z = -1 ∧ z < 0 := ⟨-1, rfl, by omega⟩
          rw [← hz]
          have hzd : decide ((0 : Int) ≤ z) = false := decide_eq_false (by omega)
          have hfo : ofind oi a.key = none := by rw [ofind_leaves oi _ HFX.out.srt]; exact hf
          have HE : Hid (gstep oi a = oi) := Lib.hid (by unfold gstep; rw [if_neg hk6, hfo]; rfl)
          clear hz hf hfo
          refine hK.out _ _ hS8 (fun hHeld => ?_)
          clear hK K
          refine wpAnyH_take (i := 5) (oi := { dst := some 62, op := Op.binOp BinOp.geq 3 (Operand.tmp 61) (Operand.const (Value.int IntKind.i64 0)) 3, type := 4, pos := "law.go:121", after := #[{ on := 4, ground := Ground.data }], guard := none }) (v := ?_) rfl (by kernel_rfl) (by kernel_rfl) (by kernel_rfl) (fun _ _ _ h => h) (Or.inl ⟨by rfl, ?_⟩) (by assumption) ?_
          rotate_left
          · first | (intro w hSw; (try dsimp only at hSw); go_simp; done) | (intro w hSw; (try dsimp only at hSw); go_simp; with_reducible rfl)
          simp only [Act.put, List.setIfInBounds_toArray, List.set_cons_zero, List.set_cons_succ]
          refine wpAnyH_done (by kernel_rfl) ?_ _
          clear hHeld hS8
          go_wp2_with fail
          go_roundg gn
          case measure => omega
          case rel => exact ⟨i + 1, oi, p, by omega, by omega, congrArg (Value.int .i64) (by omega), rfl, HRX8.out, HFX.out, by omega, by rw [← HGS.out, HE.out], HBX8.out⟩
        · have hfs : (ofind oi a.key).isSome = true := by rw [ofind_leaves oi _ HFX.out.srt, hf]; rfl
          have HE : Hid (gstep oi a = ocut oi a.key) := Lib.hid (by unfold gstep; rw [if_neg hk6, if_pos hfs])
          have HFS := Lib.hid hfs
          clear hf hfs
          refine hK.out _ _ hS8 (fun hHeld => ?_)
          clear hK K
          refine wpAnyH_take (i := 5) (oi := { dst := some 62, op := Op.binOp BinOp.geq 3 (Operand.tmp 61) (Operand.const (Value.int IntKind.i64 0)) 3, type := 4, pos := "law.go:121", after := #[{ on := 4, ground := Ground.data }], guard := none }) (v := ?_) rfl (by kernel_rfl) (by kernel_rfl) (by kernel_rfl) (fun _ _ _ h => h) (Or.inl ⟨by rfl, ?_⟩) (by assumption) ?_
          rotate_left
          · first | (intro w hSw; (try dsimp only at hSw); go_simp; done) | (intro w hSw; (try dsimp only at hSw); go_simp; with_reducible rfl)
          simp only [Act.put, List.setIfInBounds_toArray, List.set_cons_zero, List.set_cons_succ]
          refine wpAnyH_done (by kernel_rfl) ?_ _
          clear hHeld hS8
          have k0 := HW8.out.at_ (i := 0) (v := .int .u8 a.kind.toNat) rfl
          have k1 := HW8.out.at_ (i := 1) (v := .int .u8 a.no.toNat) rfl
          have k2 := HW8.out.at_ (i := 2) (v := .slice A1 n1 c1) rfl
          have k3 := HW8.out.at_ (i := 3) (v := .slice A3 n3 c3) rfl
          have HCK := Lib.hid (key_any a A1 A3 n1 c1 n3 c3 w8 ((HR.out.1.below HBW8.out (Nat.le_refl _)).more HBW8.out.size) m1)
          go_wp2_with fail
          refine HCK.out.mono ?_
          rintro e w9 ⟨Ar, nr, cr, rfl, hrk, _, hb9⟩
          have HP := Lib.hid (rcut_o Ar nr cr a.key oi p w9 (HRX8.out.on hb9) HFS.out hrk (by omega))
          have HBX9 := Lib.hid (HBX8.out.trans (hb9.mono HBX8.out.size))
          clear hrk hb9 HCK k0 k1 k2 k3
          go_wp2_with fail
          refine HP.out.mono ?_
          rintro e w10 ⟨p10, rfl, hR10, hb10⟩
          have HR10 := Lib.hid hR10
          have HBX10 := Lib.hid (HBX9.out.trans (hb10.mono HBX9.out.size))
          have hcl := ocut_leaves oi a.key HFX.out.srt HFS.out
          have hfw : oln (ocut oi a.key) ≤ i + 1 := by
            rw [← oln_leaves, hcl]
            have h1 := cutL_le (optLeaves oi) a.key
            rw [oln_leaves] at h1
            omega
          clear hR10 hb10 HP HBX9 hcl
          go_wp2_with fail
          go_roundg gn
          case measure => omega
          case rel => exact ⟨i + 1, ocut oi a.key, p10, by omega, by omega, congrArg (Value.int .i64) (by omega), rfl, HR10.out, HFX.out.cut a.key HFS.out, hfw, by rw [← HGS.out, HE.out], HBX10.out⟩
end Go.Proofs.YtbhmldoehgkhfaaDoor
