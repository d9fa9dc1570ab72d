/-
  The law EpochStays returns true for any calls and number; conditions: the calls are read, the table holds its words.
-/
import Derived.Test.YtbhmldoehgkhfaaDoorLogB
namespace Go.Proofs.YtbhmldoehgkhfaaDoor
open Go.RowKit
open Tr

theorem push_rep (o : Option T) (i : Nat) (h : i < 60) : push 64 (o :: List.replicate i none) none = o :: List.replicate (i + 1) none := by
  unfold push
  rw [if_neg (by simp; omega)]
  simp [List.replicate_succ']
theorem push_one (o : Option T) : push 64 [] o = [o] := by
  unfold push
  rw [if_neg (by simp)]
  rfl

set_option maxRecDepth 100000 in
set_option maxHeartbeats 2000000 in
theorem epochStays_any (A : Option Addr) (n c : Nat) (cs : List Ac) (more : UInt8) (w : World) (hc : ARd w w.heap.size A n cs) (hn : n ≤ 9223372036854775807) (ht : Sh.Tab w 1) (hw : 1 < w.heap.size) :
    Calls Tryd.prog 9 #[.slice A n c, .int .u8 more.toNat] w fun e w' => e = .returned (.bool true) ∧ Below w.heap.size w w' := by
  have HAW := Lib.hid (awake6_any w ht hw)
  have HC := Lib.hid hc
  have HT := Lib.hid ht
  have hkl := more.toNat_lt
  obtain ⟨Q, hQ⟩ : ∃ Q, more.toNat = Q := ⟨_, rfl⟩
  rw [hQ] at hkl ⊢
  obtain ⟨K, hK⟩ : ∃ K, K = Q % 60 := ⟨_, rfl⟩
  have hKl : K < 60 := by omega
  have hq : (Q : Int) % 60 = (K : Int) := by omega
  clear hc ht hQ hkl hK
  go_enter Tryd.func9, Tryd.ntmps9
  go_wp2_with fail
  refine HAW.out.mono ?_
  rintro e w1 ⟨rfl, hb1⟩
  have hs1 := hb1.size
  have HB1 := Lib.hid hb1
  clear hb1 HAW
  go_wp2_with fail
  refine (lnew_ok 64 (by omega) (by omega) w1).mono ?_
  rintro e w2 ⟨l, rfl, hl, hL, hb2⟩
  have hs2 := hb2.size
  have HB2 := Lib.hid (HB1.out.trans (hb2.mono hs1))
  have HLL : Hid (w.heap.size ≤ l) := Lib.hid (by omega)
  have HG := Lib.hid (grow_any (Out l) A n c cs 30 w2 ((HC.out.below HB2.out (Nat.le_refl _)).more HB2.out.size) hn (by omega) (Sh.tab_below HT.out HB2.out hw) (room_out hL.lt (by omega)))
  have HL2 := Lib.hid hL
  rw [ptr_some]
  clear hL hb2 HB1 hl HC
  go_wp2_with fail
  refine HG.out.mono ?_
  rintro e w3 ⟨g, A3, n3, c3, rfl, hT3, _, _, _, _, _, hb3⟩
  generalize grow 30 cs none = o at *
  have hs3 := hb3.size
  have HB3 := Lib.hid (HB2.out.trans (hb3.mono (by omega)))
  have HL3 := Lib.hid (HL2.out.on hb3)
  have HT3 := Lib.hid hT3
  have HCM := Lib.hid (commit_any w3 l 64 0 g [] o HL3.out hT3 (by omega))
  rw [ptr_some] at HCM ⊢
  rw [ptr_some] at HCM
  clear hT3 hb3 HL2 HB2 HG
  go_wp2_with fail
  refine HCM.out.mono ?_
  rintro e w4 ⟨rfl, hL4, ht4⟩
  rw [push_one] at hL4
  have hs4 := ht4.size
  have HB4 := Lib.hid (HB3.out.trans (ht4.below HLL.out (by omega)))
  have HT4 := Lib.hid (HT3.out.turn ht4)
  have HL4 := Lib.hid hL4
  clear hL4 ht4 HT3 HL3 HB3 HCM
  go_wp2_with fail
  rw [hq]
  clear hq
  go_loopg [34] K (fun gk s34 wx => ∃ i, i + gk = K ∧ s34 = .int .u8 (i : Nat) ∧ LIn wx l 64 (1 + i) (o :: List.replicate i none) ∧ TIn (Out l) wx wx.heap.size o g ∧ Below w.heap.size w wx)
  case atStart => exact ⟨0, by omega, rfl, HL4.out, HT4.out, HB4.out⟩
  case round =>
    clear HL4 HT4 HB4
    obtain ⟨i, hi, rfl, hL, hT, hb⟩ := hrel
    have HLi := Lib.hid hL
    have HTi := Lib.hid hT
    have HBi := Lib.hid hb
    have hsw := hb.size
    cases gk with
    | succ gn =>
      have HN := Lib.hid (new_any (G := Out l) wr (room_out hL.lt (by omega)))
      have hwi : IntKind.u8.wrap ((i : Int) + 1) = ((i + 1 : Nat) : Int) := by rw [show (i : Int) + 1 = ((i + 1 : Nat) : Int) by omega]; exact IntWalk.u8_in _ ⟨by omega, by omega⟩
      clear hL hT hb
      have hiK : i < K := by omega
      go_wp2_with fail
      refine HN.out.mono ?_
      rintro e w5 ⟨g5, rfl, _, hT5, hb5⟩
      have HC5 := Lib.hid (commit_any w5 l 64 (1 + i) g5 _ none (HLi.out.on hb5) hT5 (by omega))
      have HB5 := Lib.hid (HBi.out.trans (hb5.mono hsw))
      have HT5 := Lib.hid (HTi.out.on hb5)
      have hs5 := hb5.size
      rw [ptr_some] at HC5 ⊢
      rw [ptr_some] at HC5
      clear hT5 hb5 HN HLi HTi HBi
      go_wp2_with fail
      refine HC5.out.mono ?_
      rintro e w6 ⟨rfl, hL6, ht6⟩
      rw [push_rep o i (by omega)] at hL6
      have HL6 := Lib.hid hL6
      have HT6 := Lib.hid (HT5.out.turn ht6)
      have HB6 := Lib.hid (HB5.out.trans (ht6.below HLL.out (by omega)))
      clear hL6 ht6 HC5 HT5 HB5
      go_wp2_with fail
      go_roundg gn
      case measure => omega
      case rel => exact ⟨i + 1, by omega, rfl, HL6.out, HT6.out, HB6.out⟩
    | zero =>
      obtain rfl : i = K := by omega
      have HR := Lib.hid (roots_any wr l 64 (1 + i) _ hL (Sh.tab_below HT.out hb hw) (by omega))
      rw [ptr_some] at HR
      clear hL hT hb hi
      go_wp2_with fail
      refine HR.out.mono ?_
      rintro e w5 ⟨gr, rfl, _, hW5, hb5⟩
      rw [show (o :: List.replicate i none).length = i + 1 by simp]
      have hs5 := hb5.size
      have HW5 := Lib.hid hW5
      have HL5 := Lib.hid (HLi.out.on hb5)
      have HT5 := Lib.hid (HTi.out.on hb5)
      have HB5 := Lib.hid (HBi.out.trans (hb5.mono hsw))
      clear hW5 hb5 HR HLi HTi HBi
      go_wp2_with fail
      go_loopg [43] (i + 1) (fun gk s43 wx => ∃ j, j + gk = i + 1 ∧ s43 = .int .i64 (j : Nat) ∧ Whole wx gr 49 ((sums (o :: List.replicate i none)).map V8).toArray ∧ LIn wx l 64 (1 + i) (o :: List.replicate i none) ∧ TIn (Out l) wx wx.heap.size o g ∧ Below w.heap.size w wx)
      case atStart => exact ⟨0, by omega, rfl, HW5.out, HL5.out, HT5.out, HB5.out⟩
      case round =>
        clear HW5 HL5 HT5 HB5
        obtain ⟨j, hj, rfl, hW, hL, hT, hb⟩ := hrel
        have hsx := hb.size
        cases gk with
        | succ gn =>
          have hji : j < i + 1 := by omega
          obtain ⟨t, ht⟩ : ∃ t, (o :: List.replicate i none)[j]? = some t := ⟨(o :: List.replicate i none)[j]'(by simp; omega), List.getElem?_eq_getElem _⟩
          have HRG := Lib.hid (sums_range hW ht)
          have HX := Lib.hid (And.intro hW (And.intro hL (And.intro hT hb)))
          obtain ⟨q, hq⟩ : ∃ q, q = j % 32 := ⟨_, rfl⟩
          have hql : q < 32 := by omega
          have hq2 : (j : Int) % 32 = (q : Int) := by omega
          obtain ⟨Y, hY⟩ : ∃ Y, (osum t).map V8 = Y := ⟨_, rfl⟩
          have hYl : Y.length = 32 := by rw [← hY, List.length_map, osum32]
          have honeY : Y.toArray.all (·.oneCell') = true := by rw [← hY]; exact one49 _
          obtain ⟨x, hx⟩ : ∃ x : UInt8, Y[q]? = some (.int .u8 x.toNat) := by
            rw [← hY, List.getElem?_map]
            exact ⟨(osum t)[q]'(by rw [osum32]; exact hql), by rw [List.getElem?_eq_getElem (by rw [osum32]; exact hql)]; rfl⟩
          rw [hY] at HRG
          have HYY := Lib.hid (And.intro hYl (And.intro honeY hx))
          clear hW hL hT hb ht hY hYl honeY hx hq
          have hz49 := zero49
          go_upto_region 12 with (fail)
          refine wp_region_lit ?_
          iterate 6 go_step
          refine wpList_load_mid rfl 49 (.tmp 46) rfl gr (j * 32) rfl Y _ HRG.out Tryd.underlying49 rfl (by rw [HYY.out.1]; exact info49) ?_
          iterate 6 go_step
          clear hz49
          have hw6 := Whole.made wr 49 (zb 32)
          refine wpList_store_mid rfl 49 (.tmp 12) (.tmp 47) rfl wr.heap.size 0 Y.toArray rfl rfl ?_ ?_ HYY.out.2.1 ?_
          · rw [show Y.toArray.size = 32 from HYY.out.1]; have := hw6.there_; rw [zb_size] at this; exact this
          · rw [show Y.toArray.size = 32 from HYY.out.1]; exact info49
          have hw7 := hw6.setAll (vs := Y.toArray) (by rw [zb_size]; exact HYY.out.1.symm)
          have hb7 : Below wr.heap.size wr ((wr.alloc (.cells (zb 32) 49)).setCells wr.heap.size 0 Y.toArray.toList) := below_setCells wr wr.heap.size _ 0 ((Below.refl _ _).alloc (Nat.le_refl _) _) (Nat.le_refl _)
          change Below wr.heap.size wr ((wr.alloc (.cells (zb 32) 49)).setCells wr.heap.size 0 Y) at hb7
          change Whole ((wr.alloc (.cells (zb 32) 49)).setCells wr.heap.size 0 Y) wr.heap.size 49 Y.toArray at hw7
          show wpList _ _ _ _ _ ((wr.alloc (.cells (zb 32) 49)).setCells wr.heap.size 0 Y)
          generalize (wr.alloc (.cells (zb 32) 49)).setCells wr.heap.size 0 Y = w7 at *
          have f7 := hw7.free q
          have c7 := hw7.at_ (i := q) (v := .int .u8 x.toNat) (by rw [List.getElem?_toArray]; exact HYY.out.2.2)
          have HB7 := Lib.hid (And.intro hw7 hb7)
          clear hw6 hw7 hb7
          obtain ⟨gv, hgv⟩ : ∃ gv, wr.heap.size = gv := ⟨_, rfl⟩
          rw [hgv] at HB7 f7 c7 ⊢
          have HGV := Lib.hid hgv
          clear hgv HRG
          go_wp2_with fail
          go_roundg gn
          case measure => omega
          case rel =>
            have hb8 : ∀ u, Below wr.heap.size wr (w7.setCell ⟨gv, q, none⟩ u) := fun u => by rw [HGV.out]; exact HB7.out.2.setCell (p := ⟨gv, q, none⟩) (Nat.le_refl _) u
            exact ⟨j + 1, by omega, rfl, HX.out.1.below (hb8 _) HX.out.1.lt, HX.out.2.1.on (hb8 _), HX.out.2.2.1.on (hb8 _), HX.out.2.2.2.trans ((hb8 _).mono hsx)⟩
        | zero =>
          obtain rfl : j = i + 1 := by omega
          have HA := Lib.hid (at_any wr l 64 (1 + i) 1 _ hL (by omega) (by omega))
          rw [ptr_some] at HA
          have HL6 := Lib.hid hL
          have HT6 := Lib.hid hT
          have HB6 := Lib.hid hb
          clear hW hL hT hb hj
          go_wp2_with fail
          refine HA.out.mono ?_
          rintro e w6 hpost
          rcases hpost with ⟨h1, _⟩ | ⟨t, g6, h1, h2, h3, rfl, _, hT7, hb7⟩
          · exact absurd (by simp) h1
          have ht : t = o := by
            rw [show 1 - (1 + i + 1 - (o :: List.replicate i none).length) = 0 by simp] at h3
            injection h3 with h3
            exact h3.symm
          subst ht
          have hs7 := hb7.size
          have HL7 := Lib.hid (HL6.out.on hb7)
          have HT7 := Lib.hid (HT6.out.on hb7)
          have HX7 := Lib.hid hT7
          have HB7 := Lib.hid (HB6.out.trans (hb7.mono hsx))
          rw [ptr_some]
          clear h1 h2 h3 hT7 hb7 HA HL6 HT6 HB6
          go_upto_region 16 with (fail)
          have hTr : True := trivial
          obtain ⟨Y, hY⟩ : ∃ Y, Sh.bcells (osum t) = Y := ⟨_, rfl⟩
          have e1 : ∀ w, Sem.run Tryd.prog (Op.equalIn 10000 49 (.agg Y) (.agg Y)) w = .ok true w := fun w => by
            have := run_eq49 (osum t) (osum t) (osum32 t) (osum32 t) w
            rw [hY, show (osum t == osum t) = true by simp] at this
            exact this
          have HY := Lib.hid hY
          have hLr : ∀ (w : World) (gg : Nat), Whole w gg 49 ((sums (t :: List.replicate i none)).map V8).toArray → w.rangeAt gg 0 Y.toList := fun w gg h => by
            have := sums_range (j := 0) (t := t) h rfl
            rw [Nat.zero_mul] at this
            rw [← hY]; exact this
          have HLR := Lib.hid hLr
          have hYs : Y.toList.length = 32 := by rw [← hY]; simp [Sh.bcells, osum32]
          have HYS := Lib.hid hYs
          clear hY hLr hYs
          refine wp_region_held_drew (S := fun _ => True) (by kernel_rfl) trivial (fun hHeld => ?_)
          refine wpAnyH_take (i := 0) (oi := { dst := some 61, op := Op.move (Operand.tmp 6), type := 34, pos := "law.go:86", after := #[], guard := none }) (v := ?_) rfl (by kernel_rfl) (by kernel_rfl) (by kernel_rfl) (fun _ _ _ h => h) (Or.inl ⟨by rfl, ?_⟩) (by assumption) ?_
          rotate_left
          · first | (intro w hSw; (try dsimp only at hSw); go_simp; done) | (intro w hSw; (try dsimp only at hSw); go_simp; with_reducible rfl)
          simp only [Act.put, List.setIfInBounds_toArray, List.set_cons_zero, List.set_cons_succ]
          refine wpAnyH_take (i := 1) (oi := { dst := some 62, op := Op.binOp BinOp.eql 34 (Operand.tmp 61) (Operand.const (Value.int IntKind.i64 0)) 34, type := 4, pos := "law.go:86", after := #[{ on := 0, ground := Ground.data }], guard := none }) (v := ?_) rfl (by kernel_rfl) (by kernel_rfl) (by kernel_rfl) (fun _ _ _ h => h) (Or.inl ⟨by rfl, ?_⟩) (by assumption) ?_
          rotate_left
          · first | (intro w hSw; (try dsimp only at hSw); go_simp; done) | (intro w hSw; (try dsimp only at hSw); go_simp; with_reducible rfl)
          simp only [Act.put, List.setIfInBounds_toArray, List.set_cons_zero, List.set_cons_succ]
          refine wpAnyH_take (i := 2) (oi := { dst := some 63, op := Op.move (Operand.tmp 62), type := 4, pos := "law.go:86", after := #[{ on := 1, ground := Ground.data }], guard := none }) (v := ?_) rfl (by kernel_rfl) (by kernel_rfl) (by kernel_rfl) (fun _ _ _ h => h) (Or.inl ⟨by rfl, ?_⟩) (by assumption) ?_
          rotate_left
          · first | (intro w hSw; (try dsimp only at hSw); go_simp; done) | (intro w hSw; (try dsimp only at hSw); go_simp; with_reducible rfl)
          simp only [Act.put, List.setIfInBounds_toArray, List.set_cons_zero, List.set_cons_succ]
          refine wpAnyH_take (i := 3) (oi := { dst := some 64, op := Op.move (Operand.tmp 10), type := 34, pos := "law.go:86", after := #[{ on := 2, ground := Ground.guard }], guard := some (2, true) }) (v := ?_) rfl (by kernel_rfl) (by kernel_rfl) (by kernel_rfl) (fun _ _ _ h => h) (Or.inl ⟨by rfl, ?_⟩) (by assumption) ?_
          rotate_left
          · first | (intro w hSw; (try dsimp only at hSw); go_simp; done) | (intro w hSw; (try dsimp only at hSw); go_simp; with_reducible rfl)
          simp only [Act.put, List.setIfInBounds_toArray, List.set_cons_zero, List.set_cons_succ]
          refine wpAnyH_take (i := 4) (oi := { dst := some 65, op := Op.binOp BinOp.eql 34 (Operand.tmp 64) (Operand.const (Value.int IntKind.i64 0)) 34, type := 4, pos := "law.go:86", after := #[{ on := 3, ground := Ground.data }, { on := 2, ground := Ground.guard }], guard := some (2, true) }) (v := ?_) rfl (by kernel_rfl) (by kernel_rfl) (by kernel_rfl) (fun _ _ _ h => h) (Or.inl ⟨by rfl, ?_⟩) (by assumption) ?_
          rotate_left
          · first | (intro w hSw; (try dsimp only at hSw); go_simp; done) | (intro w hSw; (try dsimp only at hSw); go_simp; with_reducible rfl)
          simp only [Act.put, List.setIfInBounds_toArray, List.set_cons_zero, List.set_cons_succ]
          refine wpAnyH_take (i := 5) (oi := { dst := some 66, op := Op.pick (Operand.tmp 63) (Operand.tmp 65) (Operand.const (Value.bool false)), type := 4, pos := "law.go:86", after := #[{ on := 2, ground := Ground.data }, { on := 4, ground := Ground.data }], guard := none }) (v := ?_) rfl (by kernel_rfl) (by kernel_rfl) (by kernel_rfl) (fun _ _ _ h => h) (Or.inl ⟨by rfl, ?_⟩) (by assumption) ?_
          rotate_left
          · first | (intro w hSw; (try dsimp only at hSw); go_simp; done) | (intro w hSw; (try dsimp only at hSw); go_simp; with_reducible rfl)
          simp only [Act.put, List.setIfInBounds_toArray, List.set_cons_zero, List.set_cons_succ]
          refine wpAnyH_take (i := 6) (oi := { dst := some 67, op := Op.move (Operand.tmp 66), type := 4, pos := "law.go:86", after := #[{ on := 5, ground := Ground.data }, { on := 2, ground := Ground.chain }], guard := none }) (v := ?_) rfl (by kernel_rfl) (by kernel_rfl) (by kernel_rfl) (fun _ _ _ h => h) (Or.inl ⟨by rfl, ?_⟩) (by assumption) ?_
          rotate_left
          · first | (intro w hSw; (try dsimp only at hSw); go_simp; done) | (intro w hSw; (try dsimp only at hSw); go_simp; with_reducible rfl)
          simp only [Act.put, List.setIfInBounds_toArray, List.set_cons_zero, List.set_cons_succ]
          refine wpAnyH_take (i := 7) (oi := { dst := some 68, op := Op.move (Operand.tmp 14), type := 34, pos := "law.go:86", after := #[{ on := 6, ground := Ground.guard }], guard := some (6, true) }) (v := ?_) rfl (by kernel_rfl) (by kernel_rfl) (by kernel_rfl) (fun _ _ _ h => h) (Or.inl ⟨by rfl, ?_⟩) (by assumption) ?_
          rotate_left
          · first | (intro w hSw; (try dsimp only at hSw); go_simp; done) | (intro w hSw; (try dsimp only at hSw); go_simp; with_reducible rfl)
          simp only [Act.put, List.setIfInBounds_toArray, List.set_cons_zero, List.set_cons_succ]
          refine wpAnyH_take (i := 8) (oi := { dst := some 69, op := Op.binOp BinOp.eql 34 (Operand.tmp 68) (Operand.const (Value.int IntKind.i64 0)) 34, type := 4, pos := "law.go:86", after := #[{ on := 7, ground := Ground.data }, { on := 6, ground := Ground.guard }], guard := some (6, true) }) (v := ?_) rfl (by kernel_rfl) (by kernel_rfl) (by kernel_rfl) (fun _ _ _ h => h) (Or.inl ⟨by rfl, ?_⟩) (by assumption) ?_
          rotate_left
          · first | (intro w hSw; (try dsimp only at hSw); go_simp; done) | (intro w hSw; (try dsimp only at hSw); go_simp; with_reducible rfl)
          simp only [Act.put, List.setIfInBounds_toArray, List.set_cons_zero, List.set_cons_succ]
          refine wpAnyH_take (i := 9) (oi := { dst := some 70, op := Op.pick (Operand.tmp 67) (Operand.tmp 69) (Operand.const (Value.bool false)), type := 4, pos := "law.go:86", after := #[{ on := 6, ground := Ground.data }, { on := 8, ground := Ground.data }], guard := none }) (v := ?_) rfl (by kernel_rfl) (by kernel_rfl) (by kernel_rfl) (fun _ _ _ h => h) (Or.inl ⟨by rfl, ?_⟩) (by assumption) ?_
          rotate_left
          · first | (intro w hSw; (try dsimp only at hSw); go_simp; done) | (intro w hSw; (try dsimp only at hSw); go_simp; with_reducible rfl)
          simp only [Act.put, List.setIfInBounds_toArray, List.set_cons_zero, List.set_cons_succ]
          refine wpAnyH_take (i := 10) (oi := { dst := some 71, op := Op.move (Operand.tmp 70), type := 4, pos := "law.go:86", after := #[{ on := 9, ground := Ground.data }, { on := 6, ground := Ground.chain }], guard := none }) (v := ?_) rfl (by kernel_rfl) (by kernel_rfl) (by kernel_rfl) (fun _ _ _ h => h) (Or.inl ⟨by rfl, ?_⟩) (by assumption) ?_
          rotate_left
          · first | (intro w hSw; (try dsimp only at hSw); go_simp; done) | (intro w hSw; (try dsimp only at hSw); go_simp; with_reducible rfl)
          simp only [Act.put, List.setIfInBounds_toArray, List.set_cons_zero, List.set_cons_succ]
          refine wpAnyH_take (i := 11) (oi := { dst := some 72, op := Op.move (Operand.tmp 9), type := 60, pos := "law.go:86", after := #[{ on := 10, ground := Ground.guard }], guard := some (10, true) }) (v := ?_) rfl (by kernel_rfl) (by kernel_rfl) (by kernel_rfl) (fun _ _ _ h => h) (Or.inl ⟨by rfl, ?_⟩) (by assumption) ?_
          rotate_left
          · first | (intro w hSw; (try dsimp only at hSw); go_simp; done) | (intro w hSw; (try dsimp only at hSw); go_simp; with_reducible rfl)
          simp only [Act.put, List.setIfInBounds_toArray, List.set_cons_zero, List.set_cons_succ]
          refine wpAnyH_take (i := 12) (oi := { dst := some 73, op := Op.binOp BinOp.eql 60 (Operand.tmp 72) (Operand.const (Value.int IntKind.u64 1)) 60, type := 4, pos := "law.go:86", after := #[{ on := 11, ground := Ground.data }, { on := 10, ground := Ground.guard }], guard := some (10, true) }) (v := ?_) rfl (by kernel_rfl) (by kernel_rfl) (by kernel_rfl) (fun _ _ _ h => h) (Or.inl ⟨by rfl, ?_⟩) (by assumption) ?_
          rotate_left
          · first | (intro w hSw; (try dsimp only at hSw); go_simp; done) | (intro w hSw; (try dsimp only at hSw); go_simp; with_reducible rfl)
          simp only [Act.put, List.setIfInBounds_toArray, List.set_cons_zero, List.set_cons_succ]
          refine wpAnyH_take (i := 13) (oi := { dst := some 74, op := Op.pick (Operand.tmp 71) (Operand.tmp 73) (Operand.const (Value.bool false)), type := 4, pos := "law.go:86", after := #[{ on := 10, ground := Ground.data }, { on := 12, ground := Ground.data }], guard := none }) (v := ?_) rfl (by kernel_rfl) (by kernel_rfl) (by kernel_rfl) (fun _ _ _ h => h) (Or.inl ⟨by rfl, ?_⟩) (by assumption) ?_
          rotate_left
          · first | (intro w hSw; (try dsimp only at hSw); go_simp; done) | (intro w hSw; (try dsimp only at hSw); go_simp; with_reducible rfl)
          simp only [Act.put, List.setIfInBounds_toArray, List.set_cons_zero, List.set_cons_succ]
          refine wpAnyH_take (i := 14) (oi := { dst := some 75, op := Op.move (Operand.tmp 74), type := 4, pos := "law.go:86", after := #[{ on := 13, ground := Ground.data }, { on := 10, ground := Ground.chain }], guard := none }) (v := ?_) rfl (by kernel_rfl) (by kernel_rfl) (by kernel_rfl) (fun _ _ _ h => h) (Or.inl ⟨by rfl, ?_⟩) (by assumption) ?_
          rotate_left
          · first | (intro w hSw; (try dsimp only at hSw); go_simp; done) | (intro w hSw; (try dsimp only at hSw); go_simp; with_reducible rfl)
          simp only [Act.put, List.setIfInBounds_toArray, List.set_cons_zero, List.set_cons_succ]
          refine wpAnyH_take (i := 15) (oi := { dst := some 76, op := Op.move (Operand.tmp 13), type := 24, pos := "law.go:86", after := #[{ on := 14, ground := Ground.guard }], guard := some (14, true) }) (v := ?_) rfl (by kernel_rfl) (by kernel_rfl) (by kernel_rfl) (fun _ _ _ h => h) (Or.inl ⟨by rfl, ?_⟩) (by assumption) ?_
          rotate_left
          · first | (intro w hSw; (try dsimp only at hSw); go_simp; done) | (intro w hSw; (try dsimp only at hSw); go_simp; with_reducible rfl)
          simp only [Act.put, List.setIfInBounds_toArray, List.set_cons_zero, List.set_cons_succ]
          refine wpAnyH_take (i := 17) (oi := { dst := some 78, op := Op.move (Operand.tmp 7), type := 24, pos := "law.go:86", after := #[{ on := 14, ground := Ground.guard }], guard := some (14, true) }) (v := ?_) rfl (by kernel_rfl) (by kernel_rfl) (by kernel_rfl) (fun _ _ _ h => h) (Or.inl ⟨by rfl, ?_⟩) (by assumption) ?_
          rotate_left
          · first | (intro w hSw; (try dsimp only at hSw); go_simp; done) | (intro w hSw; (try dsimp only at hSw); go_simp; with_reducible rfl)
          simp only [Act.put, List.setIfInBounds_toArray, List.set_cons_zero, List.set_cons_succ]
          have HL8 : Hid (LIn w6.drew l 64 (1 + i) (t :: List.replicate i none)) := Lib.hid (HL7.out.on (Below.refl _ _).drew)
          have HT8 : Hid (TIn (Out l) w6.drew w6.drew.heap.size t g) := Lib.hid (HT7.out.on (Below.refl _ _).drew)
          have HX8 : Hid (TIn (Out l) w6.drew w6.drew.heap.size t g6) := Lib.hid (HX7.out.on (Below.refl _ _).drew)
          have HB8 : Hid (Below w.heap.size w w6.drew) := Lib.hid HB7.out.drew
          have hs8 : wr.heap.size ≤ w6.drew.heap.size := hs7
          clear HL7 HT7 HX7 HB7 hs7 hHeld
          generalize w6.drew = w8 at *
          have HC1 := Lib.hid (root_any (some t) (some g6) w8 ⟨g6, rfl, HX8.out⟩ (Sh.tab_below HT.out HB8.out hw) (by omega))
          rw [ptr_some, show topOf (some t) = t from rfl, HY.out] at HC1
          refine wpAnyH_ready (rs := [16]) (by kernel_rfl) (by simp) ?_
          refine AllReadyH.cons rfl (fun K hK => ?_) AllReadyH.nil
          go_simp
          refine HC1.out.mono ?_
          rintro e w9 ⟨rfl, hb9⟩
          have hs9 := hb9.size
          have HL9 := Lib.hid (HL8.out.on hb9)
          have HT9 := Lib.hid (HT8.out.on hb9)
          have HB9 := Lib.hid (HB8.out.trans (hb9.mono (by omega)))
          clear hb9 HC1 HL8 HT8 HB8 HX8
          refine hK.out _ _ trivial (fun _ => ?_)
          clear hK K
          have HC2 := Lib.hid (root_any (some t) (some g) w9 ⟨g, rfl, HT9.out⟩ (Sh.tab_below HT.out HB9.out hw) (by omega))
          rw [ptr_some, show topOf (some t) = t from rfl, HY.out] at HC2
          refine wpAnyH_ready (rs := [18]) (by kernel_rfl) (by simp) ?_
          refine AllReadyH.cons rfl (fun K hK => ?_) AllReadyH.nil
          go_simp
          refine HC2.out.mono ?_
          rintro e w10 ⟨rfl, hb10⟩
          have hs10 := hb10.size
          have HL10 := Lib.hid (HL9.out.on hb10)
          have HT10 := Lib.hid (HT9.out.on hb10)
          have HB10 := Lib.hid (HB9.out.trans (hb10.mono (by omega)))
          clear hb10 HC2 HL9 HT9 HB9
          refine hK.out _ _ trivial (fun _ => ?_)
          clear hK K
          refine wpAnyH_take (i := 19) (oi := { dst := some 80, op := Op.binOp BinOp.eql 49 (Operand.tmp 77) (Operand.tmp 79) 49, type := 4, pos := "law.go:86", after := #[{ on := 16, ground := Ground.data }, { on := 18, ground := Ground.data }, { on := 14, ground := Ground.guard }], guard := some (14, true) }) (v := ?_) rfl (by kernel_rfl) (by kernel_rfl) (by kernel_rfl) (fun _ _ _ h => h) (Or.inl ⟨by rfl, ?_⟩) (by assumption) ?_
          rotate_left
          · first | (intro w hSw; (try dsimp only at hSw); go_simp; done) | (intro w hSw; (try dsimp only at hSw); go_simp; with_reducible rfl)
          simp only [Act.put, List.setIfInBounds_toArray, List.set_cons_zero, List.set_cons_succ]
          refine wpAnyH_take (i := 20) (oi := { dst := some 81, op := Op.pick (Operand.tmp 75) (Operand.tmp 80) (Operand.const (Value.bool false)), type := 4, pos := "law.go:86", after := #[{ on := 14, ground := Ground.data }, { on := 19, ground := Ground.data }], guard := none }) (v := ?_) rfl (by kernel_rfl) (by kernel_rfl) (by kernel_rfl) (fun _ _ _ h => h) (Or.inl ⟨by rfl, ?_⟩) (by assumption) ?_
          rotate_left
          · first | (intro w hSw; (try dsimp only at hSw); go_simp; done) | (intro w hSw; (try dsimp only at hSw); go_simp; with_reducible rfl)
          simp only [Act.put, List.setIfInBounds_toArray, List.set_cons_zero, List.set_cons_succ]
          refine wpAnyH_take (i := 21) (oi := { dst := some 82, op := Op.move (Operand.tmp 81), type := 4, pos := "law.go:86", after := #[{ on := 20, ground := Ground.data }, { on := 18, ground := Ground.chain }], guard := none }) (v := ?_) rfl (by kernel_rfl) (by kernel_rfl) (by kernel_rfl) (fun _ _ _ h => h) (Or.inl ⟨by rfl, ?_⟩) (by assumption) ?_
          rotate_left
          · first | (intro w hSw; (try dsimp only at hSw); go_simp; done) | (intro w hSw; (try dsimp only at hSw); go_simp; with_reducible rfl)
          simp only [Act.put, List.setIfInBounds_toArray, List.set_cons_zero, List.set_cons_succ]
          refine wpAnyH_take (i := 22) (oi := { dst := some 83, op := Op.move (Operand.tmp 5), type := 73, pos := "law.go:86", after := #[{ on := 21, ground := Ground.guard }], guard := some (21, true) }) (v := ?_) rfl (by kernel_rfl) (by kernel_rfl) (by kernel_rfl) (fun _ _ _ h => h) (Or.inl ⟨by rfl, ?_⟩) (by assumption) ?_
          rotate_left
          · first | (intro w hSw; (try dsimp only at hSw); go_simp; done) | (intro w hSw; (try dsimp only at hSw); go_simp; with_reducible rfl)
          simp only [Act.put, List.setIfInBounds_toArray, List.set_cons_zero, List.set_cons_succ]
          refine wpAnyH_take (i := 26) (oi := { dst := some 87, op := Op.move (Operand.tmp 7), type := 24, pos := "law.go:86", after := #[{ on := 21, ground := Ground.guard }], guard := some (21, true) }) (v := ?_) rfl (by kernel_rfl) (by kernel_rfl) (by kernel_rfl) (fun _ _ _ h => h) (Or.inl ⟨by rfl, ?_⟩) (by assumption) ?_
          rotate_left
          · first | (intro w hSw; (try dsimp only at hSw); go_simp; done) | (intro w hSw; (try dsimp only at hSw); go_simp; with_reducible rfl)
          simp only [Act.put, List.setIfInBounds_toArray, List.set_cons_zero, List.set_cons_succ]
          have HC3 := Lib.hid (roots_any w10 l 64 (1 + i) _ HL10.out (Sh.tab_below HT.out HB10.out hw) (by omega))
          rw [ptr_some] at HC3
          refine wpAnyH_ready (rs := [23]) (by kernel_rfl) (by simp) ?_
          refine AllReadyH.cons rfl (fun K hK => ?_) AllReadyH.nil
          go_simp
          refine HC3.out.mono ?_
          rintro e w11 ⟨g11, rfl, _, hW11, hb11⟩
          rw [show (t :: List.replicate i none).length = i + 1 by simp]
          have hs11 := hb11.size
          have HT11 := Lib.hid (HT10.out.on hb11)
          have HB11 := Lib.hid (HB10.out.trans (hb11.mono (by omega)))
          have hrg := HLR.out _ _ hW11
          have hS11 : w11.rangeAt g11 0 Y.toList := hrg
          clear hb11 HC3 HL10 HT10 HB10
          have hi0 : (0 : Int) < (i : Int) + 1 := by omega
          refine hK.out _ _ trivial (fun _ => ?_)
          clear hK K
          refine heldMore (S' := fun w' => w'.rangeAt g11 0 Y.toList) (fun _ _ => trivial) _ _ _ _ ?_
          refine wpAnyH_take (i := 24) (oi := { dst := some 85, op := Op.indexAddr 76 (Operand.tmp 84) (Operand.const (Value.int IntKind.i64 0)), type := 0, pos := "law.go:86", after := #[{ on := 23, ground := Ground.data }, { on := 21, ground := Ground.guard }], guard := some (21, true) }) (v := ?_) rfl (by kernel_rfl) (by kernel_rfl) (by kernel_rfl) (fun _ _ _ h => h) (Or.inl ⟨by rfl, ?_⟩) (by assumption) ?_
          rotate_left
          · first | (intro w hSw; (try dsimp only at hSw); go_simp; done) | (intro w hSw; (try dsimp only at hSw); go_simp; with_reducible rfl)
          simp only [Act.put, List.setIfInBounds_toArray, List.set_cons_zero, List.set_cons_succ]
          refine wpAnyH_take (i := 25) (oi := { dst := some 86, op := Op.load 49 (Operand.tmp 85), type := 49, pos := "law.go:86", after := #[{ on := 24, ground := Ground.data }, { on := 21, ground := Ground.guard }], guard := some (21, true) }) (v := .agg Y.toList.toArray) rfl (by kernel_rfl) (by kernel_rfl) (by kernel_rfl) (fun _ _ _ h => h) (yieldsIf_load_mid (by rfl) 49 (.tmp 85) rfl g11 0 rfl Y.toList _ (fun _ h => h) Tryd.underlying49 rfl (by rw [HYS.out]; exact info49)) (by assumption) ?_
          rw [Array.toArray_toList]
          simp only [Act.put, List.setIfInBounds_toArray, List.set_cons_zero, List.set_cons_succ]
          have HC4 := Lib.hid (root_any (some t) (some g) w11 ⟨g, rfl, HT11.out⟩ (Sh.tab_below HT.out HB11.out hw) (by omega))
          rw [ptr_some, show topOf (some t) = t from rfl, HY.out] at HC4
          have hgl := hW11.lt
          refine wpAnyH_ready (rs := [27]) (by kernel_rfl) (by simp) ?_
          refine AllReadyH.cons rfl (fun K hK => ?_) AllReadyH.nil
          go_simp
          refine HC4.out.mono ?_
          rintro e w12 ⟨rfl, hb12⟩
          have hS12 : w12.rangeAt g11 0 Y.toList := fun j v hv => (hb12.cell (p := ⟨g11, 0 + j, none⟩) hgl).trans (hS11 j v hv)
          have HB12 := Lib.hid (HB11.out.trans (hb12.mono (by omega)))
          clear hb12 HC4 HB11 HT11
          refine hK.out _ _ hS12 (fun _ => ?_)
          clear hK K
          refine wpAnyH_take (i := 28) (oi := { dst := some 89, op := Op.binOp BinOp.eql 49 (Operand.tmp 86) (Operand.tmp 88) 49, type := 4, pos := "law.go:86", after := #[{ on := 25, ground := Ground.data }, { on := 27, ground := Ground.data }, { on := 21, ground := Ground.guard }], guard := some (21, true) }) (v := ?_) rfl (by kernel_rfl) (by kernel_rfl) (by kernel_rfl) (fun _ _ _ h => h) (Or.inl ⟨by rfl, ?_⟩) (by assumption) ?_
          rotate_left
          · first | (intro w hSw; (try dsimp only at hSw); go_simp; done) | (intro w hSw; (try dsimp only at hSw); go_simp; with_reducible rfl)
          simp only [Act.put, List.setIfInBounds_toArray, List.set_cons_zero, List.set_cons_succ]
          refine wpAnyH_take (i := 29) (oi := { dst := some 90, op := Op.pick (Operand.tmp 82) (Operand.tmp 89) (Operand.const (Value.bool false)), type := 4, pos := "law.go:86", after := #[{ on := 21, ground := Ground.data }, { on := 28, ground := Ground.data }], guard := none }) (v := ?_) rfl (by kernel_rfl) (by kernel_rfl) (by kernel_rfl) (fun _ _ _ h => h) (Or.inl ⟨by rfl, ?_⟩) (by assumption) ?_
          rotate_left
          · first | (intro w hSw; (try dsimp only at hSw); go_simp; done) | (intro w hSw; (try dsimp only at hSw); go_simp; with_reducible rfl)
          simp only [Act.put, List.setIfInBounds_toArray, List.set_cons_zero, List.set_cons_succ]
          refine wpAnyH_take (i := 30) (oi := { dst := some 4, op := Op.assign (Operand.tmp 90), type := 4, pos := "law.go:86", after := #[{ on := 29, ground := Ground.data }, { on := 27, ground := Ground.chain }, { on := 0, ground := Ground.phase }, { on := 1, ground := Ground.phase }, { on := 2, ground := Ground.phase }, { on := 3, ground := Ground.phase }, { on := 4, ground := Ground.phase }, { on := 5, ground := Ground.phase }, { on := 6, ground := Ground.phase }, { on := 7, ground := Ground.phase }, { on := 8, ground := Ground.phase }, { on := 9, ground := Ground.phase }, { on := 10, ground := Ground.phase }, { on := 11, ground := Ground.phase }, { on := 12, ground := Ground.phase }, { on := 13, ground := Ground.phase }, { on := 14, ground := Ground.phase }, { on := 15, ground := Ground.phase }, { on := 16, ground := Ground.phase }, { on := 17, ground := Ground.phase }, { on := 18, ground := Ground.phase }, { on := 19, ground := Ground.phase }, { on := 20, ground := Ground.phase }, { on := 21, ground := Ground.phase }, { on := 22, ground := Ground.phase }, { on := 23, ground := Ground.phase }, { on := 24, ground := Ground.phase }, { on := 25, ground := Ground.phase }, { on := 26, ground := Ground.phase }, { on := 27, ground := Ground.phase }, { on := 28, ground := Ground.phase }, { on := 29, ground := Ground.phase }], guard := none }) (v := ?_) rfl (by kernel_rfl) (by kernel_rfl) (by kernel_rfl) (fun _ _ _ h => h) (Or.inl ⟨by rfl, ?_⟩) (by assumption) ?_
          rotate_left
          · first | (intro w hSw; (try dsimp only at hSw); go_simp; done) | (intro w hSw; (try dsimp only at hSw); go_simp; with_reducible rfl)
          simp only [Act.put, List.setIfInBounds_toArray, List.set_cons_zero, List.set_cons_succ]
          refine wpAnyH_done (by kernel_rfl) ?_ _
          go_wp2_with fail
          go_ret
          exact ⟨rfl, HB12.out⟩
end Go.Proofs.YtbhmldoehgkhfaaDoor
