/-
  The law EpochPlays returns true for any number and calls; conditions: the calls are read, the table holds its words.
-/
import Derived.Test.YtbhmldoehgkhfaaDoorLogB
namespace Go.Proofs.YtbhmldoehgkhfaaDoor
open Go.RowKit
open Tr

/-- The last so many. -/
def lastN (k : Nat) (all : List (Option T)) : List (Option T) := all.drop (all.length - k)
theorem lastN_len (k : Nat) (all : List (Option T)) : (lastN k all).length = min k all.length := by
  unfold lastN
  rw [List.length_drop]
  omega
theorem push_lastN (k : Nat) (all : List (Option T)) (o : Option T) (h : 1 ≤ k) : push k (lastN k all) o = lastN k (all ++ [o]) := by
  have hl := lastN_len k all
  unfold push
  by_cases hk : all.length < k
  · rw [if_neg (by omega)]
    unfold lastN
    rw [List.length_append, show all.length - k = 0 by omega, show all.length + [o].length - k = 0 by simp; omega]
    rfl
  · rw [if_pos (by omega)]
    unfold lastN
    rw [List.length_append, show all.length + [o].length - k = 1 + (all.length - k) by simp; omega, ← List.drop_drop, ← List.drop_append_of_le_length (by omega), List.drop_drop, List.drop_drop, Nat.add_comm]
theorem lastN_at (k j : Nat) (all : List (Option T)) : (lastN k all)[j]? = all[all.length - k + j]? := by
  unfold lastN
  rw [List.getElem?_drop]
def Ac.cut50 (a : Ac) : List UInt8 := a.val.take 50
theorem Ac.cut50_take (a : Ac) (n2 : Nat) (h : a.val.length = n2) (M : Nat) (hM : M = min 50 n2) : a.val.take M = a.cut50 := by
  unfold Ac.cut50
  subst hM
  rcases Nat.le_total 50 n2 with h1 | h1
  · rw [Nat.min_eq_left h1]
  · rw [Nat.min_eq_right h1, List.take_of_length_le (by omega), List.take_of_length_le (by omega)]

/-- Blocks that are neither the log's nor the row's. -/
def Gv (l : Nat) (v : Value) (b : Nat) : Prop := b ≠ l ∧ some b ≠ v.ownBlock
/-- How memory stands at the head of a round. -/
structure EAt (w wx : World) (l k i : Nat) (all : List (Option T)) (o : Option T) (g : Nat) (v : Value) : Prop where
  log : LIn (Gv l v) wx l k i (lastN k all)
  tree : TIn (Gv l v) wx wx.heap.size o g
  row : wx.ownsRow (l + 1) 49 32 v i ((sums all).map V8)
  len : all.length = i
  few : oln o ≤ i
  bel : Below w.heap.size w wx
theorem EAt.on {w wx w' : World} {l k i : Nat} {all : List (Option T)} {o : Option T} {g : Nat} {v : Value} (h : EAt w wx l k i all o g v) (hb : Below wx.heap.size wx w') : EAt w w' l k i all o g v :=
  ⟨h.log.on hb, h.tree.on hb, own_turn h.row hb, h.len, h.few, h.bel.trans (hb.mono h.bel.size)⟩
theorem EAt.room {w wx : World} {l k i : Nat} {all : List (Option T)} {o : Option T} {g : Nat} {v : Value} (h : EAt w wx l k i all o g v) (h1 : 1 < wx.heap.size) : Room (Gv l v) wx :=
  ⟨h1, fun b hb => ⟨by have := h.log.lt; omega, fun e => by have := (h.row.lt b e.symm).2; omega⟩⟩
theorem own_out {w w' : World} {l e size n : Nat} {v : Value} {xs : List Value} (h : w.ownsRow (l + 1) e size v n xs) (ht : Turn l w w') : w'.ownsRow (l + 1) e size v n xs := by
  refine ⟨h.1, ?_⟩
  rcases h.2 with h0 | ⟨g, cap, cur, hv, hb1, hg, hr⟩
  · exact .inl h0
  · exact .inr ⟨g, cap, cur, hv, hb1, (ht.block g (Array.getElem?_eq_some_iff.1 hg).1 (by omega)).trans hg, hr⟩

set_option maxRecDepth 100000 in
set_option maxHeartbeats 4000000 in
theorem epochPlays_any (keep : Int) (A : Option Addr) (n c : Nat) (cs : List Ac) (w : World) (hc : ARd w w.heap.size A n cs) (hn : n ≤ 9223372036854775807) (ht : Sh.Tab w 1) (hw : 1 < w.heap.size) :
    Calls Tryd.prog 7 #[.int .i64 keep, .slice A n c] w fun e w' => e = .returned (.bool true) ∧ Below w.heap.size w w' := by
  have HAW := Lib.hid (awake6_any w ht hw)
  have HC := Lib.hid hc
  have HT := Lib.hid ht
  have HLEN := Lib.hid hc.1
  clear hc ht
  by_cases hk1 : keep < 1
  · go_enter Tryd.func7, Tryd.ntmps7
    go_wp2_with fail
    refine HAW.out.mono ?_
    rintro e w1 ⟨rfl, hb1⟩
    have HB1 := Lib.hid hb1
    clear hb1 HAW
    go_wp2_with fail
    refine (lnew_bad keep (.inl hk1) w1).mono ?_
    rintro e w2 ⟨rfl, rfl⟩
    go_wp2_with fail
    go_ret
    exact ⟨rfl, HB1.out⟩
  by_cases hk2 : 64 < keep
  · go_enter Tryd.func7, Tryd.ntmps7
    go_wp2_with fail
    refine HAW.out.mono ?_
    rintro e w1 ⟨rfl, hb1⟩
    have HB1 := Lib.hid hb1
    clear hb1 HAW
    go_wp2_with fail
    refine (lnew_bad keep (.inr hk2) w1).mono ?_
    rintro e w2 ⟨rfl, rfl⟩
    go_wp2_with fail
    go_ret
    exact ⟨rfl, HB1.out⟩
  obtain ⟨k, rfl⟩ : ∃ k : Nat, keep = k := ⟨keep.toNat, by omega⟩
  have h1k : 1 ≤ k := by omega
  have hk64 : k ≤ 64 := by omega
  go_enter Tryd.func7, Tryd.ntmps7
  go_wp2_with fail
  refine HAW.out.mono ?_
  rintro e w1 ⟨rfl, hb1⟩
  have hs1 := hb1.size
  have HB1 := Lib.hid hb1
  clear hb1 HAW
  go_wp2_with fail
  refine (lnew_ok k h1k hk64 w1).mono ?_
  rintro e w2 ⟨l, rfl, hl, hL, hb2⟩
  have hs2 := hb2.size
  have HL2 := Lib.hid hL
  have HB2 := Lib.hid (HB1.out.trans (hb2.mono hs1))
  have HLL : Hid (w.heap.size ≤ l) := Lib.hid (by omega)
  have HN := Lib.hid (new_any (G := Out l) w2 (room_out hL.lt (by omega)))
  clear hb2 HB1 hl hL
  rw [ptr_some]
  go_wp2_with fail
  refine HN.out.mono ?_
  rintro e w3 ⟨g0, rfl, _, hT3, hb3⟩
  have hs3 := hb3.size
  have HE : Hid (EAt w w3 l k 0 [] none g0 (.slice none 0 0)) := Lib.hid ⟨by
    rw [show lastN k [] = [] from List.drop_nil]
    exact (HL2.out.on hb3).regood (Nat.le_refl _) rfl (fun _ _ _ => rfl) (fun b _ hb => ⟨hb, fun h => by cases h⟩) (fun _ h => h.1), hT3.regood fun b _ hb => ⟨hb, fun h => by cases h⟩, World.ownsRow_nil _ _ _ _, rfl, Nat.le_refl _, HB2.out.trans (hb3.mono (by omega))⟩
  clear hT3 hb3 HL2 HB2 HN
  go_wp2_with fail
  go_loopg [7, 8, 43] n (fun gk s7 s8 s43 wx => ∃ i all o g v, i + gk = n ∧ i ≤ 81 ∧ s43 = .int .i64 (i : Nat) ∧ s7 = ptr (some g) ∧ s8 = v ∧ EAt w wx l k i all o g v)
  case atStart => exact ⟨0, [], none, g0, _, by omega, by omega, rfl, rfl, rfl, HE.out⟩
  case round =>
    clear HE
    obtain ⟨i, all, o, g, v, hi, hi81, rfl, rfl, rfl, hE⟩ := hrel
    have HE := Lib.hid hE
    have hsw := hE.bel.size
    obtain ⟨Ar, cr, rfl, hrc, hrm⟩ := own_form hE.row
    clear hE
    cases gk with
    | zero =>
      obtain rfl : i = n := by omega
      have hen := HE.out.len
      obtain ⟨F, hF⟩ : ∃ F : Nat, F = i - k := ⟨_, rfl⟩
      have hFe : (if k < i then (i : Int) - (k : Int) else 0) = (F : Int) := by split <;> omega
      obtain ⟨R, hR⟩ : ∃ R : Nat, R = i - F := ⟨_, rfl⟩
      have hlR : (lastN k all).length = R := by rw [lastN_len, hen]; omega
      have hRF : wrap64 ((i : Int) - (F : Int)) = (R : Int) := by unfold wrap64; omega
      have HFR := Lib.hid (And.intro hF (And.intro hR (And.intro hlR hen)))
      have HRO := Lib.hid (roots_any wr l k i _ HE.out.log (Sh.tab_below HT.out HE.out.bel hw) (by have := HE.out.bel.size; omega))
      rw [ptr_some] at HRO
      clear hF hR hlR hen
      go_upto_region 19 with (fail)
      clear hFe
      go_wp2_with fail
      refine HRO.out.mono ?_
      rintro e w20 ⟨gq, rfl, _, hW20, hb20⟩
      rw [HFR.out.2.2.1]
      have HE20 := Lib.hid (HE.out.on hb20)
      have HW20 := Lib.hid hW20
      have hs20 := hb20.size
      clear hW20 hb20 HRO
      go_wp2_with fail
      rw [hRF]
      clear hRF
      go_loopg [114] (i + 2) (fun gk s114 wx => ∃ j, j + gk = i + 2 ∧ s114 = .int .i64 (j : Nat) ∧ EAt w wx l k i all o g (.slice Ar i cr) ∧ Whole wx gq 49 ((sums (lastN k all)).map V8).toArray)
      case atStart => exact ⟨0, by omega, rfl, HE20.out, HW20.out⟩
      case round =>
        clear HE20 HW20
        obtain ⟨j, hj, rfl, hE, hW⟩ := hrel
        have hsx := hE.bel.size
        have HEj := Lib.hid hE
        have HWj := Lib.hid hW
        clear hE hW
        cases gk with
        | zero =>
          obtain rfl : j = i + 2 := by omega
          have HAT := Lib.hid (at_any (G := Gv l (.slice Ar i cr)) wr l k i 18446744073709551615 _ HEj.out.log (by omega) (by omega) (HEj.out.room (by omega)))
          rw [ptr_some] at HAT
          have hwi : IntKind.u64.wrap (i : Int) = (i : Int) := IntWalk.u64_in _ ⟨by omega, by omega⟩
          go_wp2_with fail
          refine HAT.out.mono ?_
          rintro e w21 hpost
          rcases hpost with ⟨_, rfl, hb21⟩ | ⟨t, gt, h1, h2, _⟩
          rotate_left
          · exact absurd h2 (by omega)
          have HE21 := Lib.hid (HEj.out.on hb21)
          have HLA := Lib.hid (last_any w21 l k i _ HE21.out.log)
          rw [ptr_some] at HLA
          clear hb21 HAT
          go_wp2_with fail
          refine HLA.out.mono ?_
          rintro e w22 ⟨rfl, rfl⟩
          go_wp2_with fail
          go_ret
          exact ⟨rfl, HE21.out.bel⟩
        | succ gn =>
          have hj2 : j < i + 2 := by omega
          have HAT := Lib.hid (at_any (G := Gv l (.slice Ar i cr)) wr l k i j _ HEj.out.log (by omega) (by omega) (HEj.out.room (by omega)))
          rw [ptr_some] at HAT
          have hwj : IntKind.u64.wrap (j : Int) = (j : Int) := IntWalk.u64_in _ ⟨by omega, by omega⟩
          go_wp2_with fail
          refine HAT.out.mono ?_
          rintro e w21 hpost
          rcases hpost with ⟨hno, rfl, hb21⟩ | ⟨t, gt, h1, h2, ht, rfl, _, hT21, hb21⟩
          · have HE21 := Lib.hid (HEj.out.on hb21)
            have HW21 := Lib.hid (HWj.out.below hb21 HWj.out.lt)
            have hno' : ¬ (F < j ∧ j ≤ i) := by
              obtain ⟨f1, f2, f3, f4⟩ := HFR.out
              rw [f3] at hno
              omega
            clear hno hb21 HAT
            obtain ⟨D2, hD2⟩ : ∃ D2, decide (j ≤ i) = D2 := ⟨_, rfl⟩
            obtain ⟨D1, hD1⟩ : ∃ D1, decide (F < j) = D1 := ⟨_, rfl⟩
            have hDD : (D1 && D2) = false := by
              rw [← hD1, ← hD2, ← Bool.not_eq_true, Bool.and_eq_true, decide_eq_true_iff, decide_eq_true_iff]
              omega
            have HNO := Lib.hid hno'
            clear hno'
            cases D1 with
            | false =>
              go_upto_region 27 with (fail)
              go_quiet (fail)
              have hbd : Below w21.heap.size w21 (w21.drewN nq) := below_drewN (Below.refl _ _) nq
              have HEd := Lib.hid (HE21.out.on hbd)
              have HWd := Lib.hid (HW21.out.drewN nq)
              clear hbd HE21 HW21
              generalize w21.drewN nq = w22 at *
              go_wp2_with fail
              go_roundg gn
              case measure => omega
              case rel => exact ⟨j + 1, by omega, congrArg (Value.int .i64) (by omega), HEd.out, HWd.out⟩
            | true =>
              obtain rfl : D2 = false := by simpa using hDD
              go_upto_region 27 with (fail)
              go_quiet (fail)
              have hbd : Below w21.heap.size w21 (w21.drewN nq) := below_drewN (Below.refl _ _) nq
              have HEd := Lib.hid (HE21.out.on hbd)
              have HWd := Lib.hid (HW21.out.drewN nq)
              clear hbd HE21 HW21
              generalize w21.drewN nq = w22 at *
              go_wp2_with fail
              go_roundg gn
              case measure => omega
              case rel => exact ⟨j + 1, by omega, congrArg (Value.int .i64) (by omega), HEd.out, HWd.out⟩
          · obtain ⟨hFj, hji, P, hP, B, hB, hall⟩ : F < j ∧ j ≤ i ∧ ∃ P, P = j - 1 ∧ ∃ B, B = P - F ∧ (lastN k all)[B]? = some t ∧ all[P]? = some t := by
              obtain ⟨f1, f2, f3, f4⟩ := HFR.out
              rw [f3] at h1 ht
              refine ⟨by omega, h2, j - 1, rfl, j - 1 - F, rfl, ?_, ?_⟩
              · rw [← ht]; congr 1; omega
              · rw [lastN_at] at ht
                rw [← ht]; congr 1; omega
            have HE21 := Lib.hid (HEj.out.on hb21)
            have HW21 := Lib.hid (HWj.out.below hb21 HWj.out.lt)
            have HT21 := Lib.hid hT21
            have hd1 : decide (F < j) = true := decide_eq_true hFj
            have hd2 : decide (j ≤ i) = true := decide_eq_true hji
            have hPi : P < i := by omega
            have hBR : B < R := by have := HFR.out.2.1; omega
            have hwP : wrap64 ((j : Int) - 1) = (P : Int) := by unfold wrap64; omega
            have hwB : wrap64 ((P : Int) - (F : Int)) = (B : Int) := by unfold wrap64; omega
            have hwP' : IntKind.i64.wrap ((j : Int) - 1) = (P : Int) := by rw [show (j : Int) - 1 = (P : Int) by omega]; exact IntWalk.i64_in _ ⟨by omega, by omega⟩
            have hwB' : IntKind.i64.wrap ((P : Int) - (F : Int)) = (B : Int) := by rw [show (P : Int) - (F : Int) = (B : Int) by omega]; exact IntWalk.i64_in _ ⟨by omega, by omega⟩
            obtain ⟨gr, cr2, hvr, _, _⟩ := HE21.out.row.form (by omega)
            obtain ⟨rfl, rfl⟩ : Ar = some ⟨gr, 0, none⟩ ∧ cr = cr2 := by cases hvr; exact ⟨rfl, rfl⟩
            have HAL := Lib.hid (And.intro hall (And.intro hP (And.intro hB (And.intro hFj hji))))
            obtain ⟨Y, hY⟩ : ∃ Y, Sh.bcells (osum t) = Y := ⟨_, rfl⟩
            have e1 : ∀ w, Sem.run Tryd.prog (Op.equalIn 10000 49 (.agg Y) (.agg Y)) w = .ok true w := fun w => by
              have := run_eq49 (osum t) (osum t) (osum32 t) (osum32 t) w
              rw [hY, show (osum t == osum t) = true by simp] at this
              exact this
            have hYs : Y.toList.length = 32 := by rw [← hY]; simp [Sh.bcells, osum32]
            have hS0 : w21.drew.rangeAt gr (P * 32) Y.toList ∧ w21.drew.rangeAt gq (B * 32) Y.toList := by
              rw [← hY]
              exact ⟨own_sum HE21.out.row hall.2, sums_range HW21.out hall.1⟩
            have HYS := Lib.hid (And.intro hYs hY)
            rw [ptr_some]
            clear h1 h2 ht hT21 hb21 HAT hall hFj hji hP hB hYs hY hvr
            go_upto_region 27 with (fail)
            refine wp_region_held_drew (S := fun w' => w'.rangeAt gr (P * 32) Y.toList ∧ w'.rangeAt gq (B * 32) Y.toList) (by kernel_rfl) hS0 (fun hHeld => ?_)
            refine wpAnyH_take (i := 0) (oi := { dst := some 133, op := Op.move (Operand.tmp 17), type := 34, pos := "law.go:50", after := #[], guard := none }) (v := ?_) rfl (by kernel_rfl) (by kernel_rfl) (by kernel_rfl) (fun _ _ _ h => h) (Or.inl ⟨by rfl, ?_⟩) (by assumption) ?_
            rotate_left
            · first | (intro w hSw; (try dsimp only at hSw); go_simp; done) | (intro w hSw; (try dsimp only at hSw); go_simp; with_reducible rfl)
            simp only [Act.put, List.setIfInBounds_toArray, List.set_cons_zero, List.set_cons_succ]
            refine wpAnyH_take (i := 1) (oi := { dst := some 134, op := Op.binOp BinOp.eql 34 (Operand.tmp 133) (Operand.const (Value.int IntKind.i64 0)) 34, type := 4, pos := "law.go:50", after := #[{ on := 0, ground := Ground.data }], guard := none }) (v := ?_) rfl (by kernel_rfl) (by kernel_rfl) (by kernel_rfl) (fun _ _ _ h => h) (Or.inl ⟨by rfl, ?_⟩) (by assumption) ?_
            rotate_left
            · first | (intro w hSw; (try dsimp only at hSw); go_simp; done) | (intro w hSw; (try dsimp only at hSw); go_simp; with_reducible rfl)
            simp only [Act.put, List.setIfInBounds_toArray, List.set_cons_zero, List.set_cons_succ]
            refine wpAnyH_take (i := 2) (oi := { dst := some 135, op := Op.move (Operand.tmp 18), type := 4, pos := "law.go:50", after := #[], guard := none }) (v := ?_) rfl (by kernel_rfl) (by kernel_rfl) (by kernel_rfl) (fun _ _ _ h => h) (Or.inl ⟨by rfl, ?_⟩) (by assumption) ?_
            rotate_left
            · first | (intro w hSw; (try dsimp only at hSw); go_simp; done) | (intro w hSw; (try dsimp only at hSw); go_simp; with_reducible rfl)
            simp only [Act.put, List.setIfInBounds_toArray, List.set_cons_zero, List.set_cons_succ]
            refine wpAnyH_take (i := 3) (oi := { dst := some 136, op := Op.binOp BinOp.neq 4 (Operand.tmp 134) (Operand.tmp 135) 4, type := 4, pos := "law.go:50", after := #[{ on := 1, ground := Ground.data }, { on := 2, ground := Ground.data }], guard := none }) (v := ?_) rfl (by kernel_rfl) (by kernel_rfl) (by kernel_rfl) (fun _ _ _ h => h) (Or.inl ⟨by rfl, ?_⟩) (by assumption) ?_
            rotate_left
            · first | (intro w hSw; (try dsimp only at hSw); go_simp; done) | (intro w hSw; (try dsimp only at hSw); go_simp; with_reducible rfl)
            simp only [Act.put, List.setIfInBounds_toArray, List.set_cons_zero, List.set_cons_succ]
            refine wpAnyH_take (i := 4) (oi := { dst := some 137, op := Op.move (Operand.tmp 136), type := 4, pos := "law.go:50", after := #[{ on := 3, ground := Ground.data }], guard := none }) (v := ?_) rfl (by kernel_rfl) (by kernel_rfl) (by kernel_rfl) (fun _ _ _ h => h) (Or.inl ⟨by rfl, ?_⟩) (by assumption) ?_
            rotate_left
            · first | (intro w hSw; (try dsimp only at hSw); go_simp; done) | (intro w hSw; (try dsimp only at hSw); go_simp; with_reducible rfl)
            simp only [Act.put, List.setIfInBounds_toArray, List.set_cons_zero, List.set_cons_succ]
            refine wpAnyH_take (i := 5) (oi := { dst := some 138, op := Op.move (Operand.tmp 18), type := 4, pos := "law.go:50", after := #[{ on := 4, ground := Ground.guard }], guard := some (4, false) }) (v := ?_) rfl (by kernel_rfl) (by kernel_rfl) (by kernel_rfl) (fun _ _ _ h => h) (Or.inl ⟨by rfl, ?_⟩) (by assumption) ?_
            rotate_left
            · first | (intro w hSw; (try dsimp only at hSw); go_simp; done) | (intro w hSw; (try dsimp only at hSw); go_simp; with_reducible rfl)
            simp only [Act.put, List.setIfInBounds_toArray, List.set_cons_zero, List.set_cons_succ]
            refine wpAnyH_take (i := 6) (oi := { dst := some 139, op := Op.unOp UnOp.not 4 (Operand.tmp 138), type := 4, pos := "law.go:50", after := #[{ on := 5, ground := Ground.data }, { on := 4, ground := Ground.guard }], guard := some (4, false) }) (v := ?_) rfl (by kernel_rfl) (by kernel_rfl) (by kernel_rfl) (fun _ _ _ h => h) (Or.inl ⟨by rfl, ?_⟩) (by assumption) ?_
            rotate_left
            · first | (intro w hSw; (try dsimp only at hSw); go_simp; done) | (intro w hSw; (try dsimp only at hSw); go_simp; with_reducible rfl)
            simp only [Act.put, List.setIfInBounds_toArray, List.set_cons_zero, List.set_cons_succ]
            refine wpAnyH_take (i := 7) (oi := { dst := some 140, op := Op.move (Operand.tmp 139), type := 4, pos := "law.go:50", after := #[{ on := 6, ground := Ground.data }, { on := 4, ground := Ground.chain }, { on := 4, ground := Ground.guard }], guard := some (4, false) }) (v := ?_) rfl (by kernel_rfl) (by kernel_rfl) (by kernel_rfl) (fun _ _ _ h => h) (Or.inl ⟨by rfl, ?_⟩) (by assumption) ?_
            rotate_left
            · first | (intro w hSw; (try dsimp only at hSw); go_simp; done) | (intro w hSw; (try dsimp only at hSw); go_simp; with_reducible rfl)
            simp only [Act.put, List.setIfInBounds_toArray, List.set_cons_zero, List.set_cons_succ]
            refine wpAnyH_take (i := 8) (oi := { dst := some 141, op := Op.move (Operand.tmp 17), type := 34, pos := "law.go:50", after := #[{ on := 7, ground := Ground.guard }], guard := some (7, true) }) (v := undef) rfl (by kernel_rfl) (by kernel_rfl) (by kernel_rfl) (fun _ _ _ h => h) (Or.inr ⟨by rfl, rfl⟩) (by assumption) ?_
            simp only [Act.put, List.setIfInBounds_toArray, List.set_cons_zero, List.set_cons_succ]
            refine wpAnyH_take (i := 9) (oi := { dst := some 142, op := Op.binOp BinOp.neq 34 (Operand.tmp 141) (Operand.const (Value.int IntKind.i64 11)) 34, type := 4, pos := "law.go:50", after := #[{ on := 8, ground := Ground.data }, { on := 7, ground := Ground.guard }], guard := some (7, true) }) (v := undef) rfl (by kernel_rfl) (by kernel_rfl) (by kernel_rfl) (fun _ _ _ h => h) (Or.inr ⟨by rfl, rfl⟩) (by assumption) ?_
            simp only [Act.put, List.setIfInBounds_toArray, List.set_cons_zero, List.set_cons_succ]
            refine wpAnyH_take (i := 10) (oi := { dst := some 143, op := Op.move (Operand.tmp 142), type := 4, pos := "law.go:50", after := #[{ on := 9, ground := Ground.data }, { on := 7, ground := Ground.chain }, { on := 7, ground := Ground.guard }], guard := some (7, true) }) (v := undef) rfl (by kernel_rfl) (by kernel_rfl) (by kernel_rfl) (fun _ _ _ h => h) (Or.inr ⟨by rfl, rfl⟩) (by assumption) ?_
            simp only [Act.put, List.setIfInBounds_toArray, List.set_cons_zero, List.set_cons_succ]
            refine wpAnyH_take (i := 11) (oi := { dst := some 144, op := Op.move (Operand.tmp 16), type := 24, pos := "law.go:50", after := #[{ on := 10, ground := Ground.guard }], guard := some (10, false) }) (v := undef) rfl (by kernel_rfl) (by kernel_rfl) (by kernel_rfl) (fun _ _ _ h => h) (Or.inr ⟨by rfl, rfl⟩) (by assumption) ?_
            simp only [Act.put, List.setIfInBounds_toArray, List.set_cons_zero, List.set_cons_succ]
            refine wpAnyH_take (i := 12) (oi := { dst := some 145, op := Op.binOp BinOp.neq 24 (Operand.tmp 144) (Operand.const (Value.pointer none)) 24, type := 4, pos := "law.go:50", after := #[{ on := 11, ground := Ground.data }, { on := 10, ground := Ground.guard }], guard := some (10, false) }) (v := undef) rfl (by kernel_rfl) (by kernel_rfl) (by kernel_rfl) (fun _ _ _ h => h) (Or.inr ⟨by rfl, rfl⟩) (by assumption) ?_
            simp only [Act.put, List.setIfInBounds_toArray, List.set_cons_zero, List.set_cons_succ]
            refine wpAnyH_take (i := 13) (oi := { dst := some 146, op := Op.pick (Operand.tmp 143) (Operand.const (Value.bool true)) (Operand.tmp 145), type := 4, pos := "law.go:50", after := #[{ on := 10, ground := Ground.data }, { on := 12, ground := Ground.data }, { on := 7, ground := Ground.guard }], guard := some (7, true) }) (v := undef) rfl (by kernel_rfl) (by kernel_rfl) (by kernel_rfl) (fun _ _ _ h => h) (Or.inr ⟨by rfl, rfl⟩) (by assumption) ?_
            simp only [Act.put, List.setIfInBounds_toArray, List.set_cons_zero, List.set_cons_succ]
            refine wpAnyH_take (i := 14) (oi := { dst := some 147, op := Op.pick (Operand.tmp 140) (Operand.tmp 146) (Operand.const (Value.bool false)), type := 4, pos := "law.go:50", after := #[{ on := 7, ground := Ground.data }, { on := 13, ground := Ground.data }, { on := 4, ground := Ground.guard }], guard := some (4, false) }) (v := ?_) rfl (by kernel_rfl) (by kernel_rfl) (by kernel_rfl) (fun _ _ _ h => h) (Or.inl ⟨by rfl, ?_⟩) (by assumption) ?_
            rotate_left
            · first | (intro w hSw; (try dsimp only at hSw); go_simp; done) | (intro w hSw; (try dsimp only at hSw); go_simp; with_reducible rfl)
            simp only [Act.put, List.setIfInBounds_toArray, List.set_cons_zero, List.set_cons_succ]
            refine wpAnyH_take (i := 15) (oi := { dst := some 148, op := Op.pick (Operand.tmp 137) (Operand.const (Value.bool true)) (Operand.tmp 147), type := 4, pos := "law.go:50", after := #[{ on := 4, ground := Ground.data }, { on := 14, ground := Ground.data }], guard := none }) (v := ?_) rfl (by kernel_rfl) (by kernel_rfl) (by kernel_rfl) (fun _ _ _ h => h) (Or.inl ⟨by rfl, ?_⟩) (by assumption) ?_
            rotate_left
            · first | (intro w hSw; (try dsimp only at hSw); go_simp; done) | (intro w hSw; (try dsimp only at hSw); go_simp; with_reducible rfl)
            simp only [Act.put, List.setIfInBounds_toArray, List.set_cons_zero, List.set_cons_succ]
            refine wpAnyH_take (i := 16) (oi := { dst := some 149, op := Op.move (Operand.tmp 148), type := 4, pos := "law.go:50", after := #[{ on := 15, ground := Ground.data }, { on := 10, ground := Ground.chain }], guard := none }) (v := ?_) rfl (by kernel_rfl) (by kernel_rfl) (by kernel_rfl) (fun _ _ _ h => h) (Or.inl ⟨by rfl, ?_⟩) (by assumption) ?_
            rotate_left
            · first | (intro w hSw; (try dsimp only at hSw); go_simp; done) | (intro w hSw; (try dsimp only at hSw); go_simp; with_reducible rfl)
            simp only [Act.put, List.setIfInBounds_toArray, List.set_cons_zero, List.set_cons_succ]
            refine wpAnyH_take (i := 17) (oi := { dst := some 150, op := Op.move (Operand.tmp 18), type := 4, pos := "law.go:50", after := #[{ on := 16, ground := Ground.guard }], guard := some (16, false) }) (v := ?_) rfl (by kernel_rfl) (by kernel_rfl) (by kernel_rfl) (fun _ _ _ h => h) (Or.inl ⟨by rfl, ?_⟩) (by assumption) ?_
            rotate_left
            · first | (intro w hSw; (try dsimp only at hSw); go_simp; done) | (intro w hSw; (try dsimp only at hSw); go_simp; with_reducible rfl)
            simp only [Act.put, List.setIfInBounds_toArray, List.set_cons_zero, List.set_cons_succ]
            refine wpAnyH_take (i := 18) (oi := { dst := some 151, op := Op.move (Operand.tmp 150), type := 4, pos := "law.go:50", after := #[{ on := 17, ground := Ground.data }, { on := 16, ground := Ground.chain }, { on := 16, ground := Ground.guard }], guard := some (16, false) }) (v := ?_) rfl (by kernel_rfl) (by kernel_rfl) (by kernel_rfl) (fun _ _ _ h => h) (Or.inl ⟨by rfl, ?_⟩) (by assumption) ?_
            rotate_left
            · first | (intro w hSw; (try dsimp only at hSw); go_simp; done) | (intro w hSw; (try dsimp only at hSw); go_simp; with_reducible rfl)
            simp only [Act.put, List.setIfInBounds_toArray, List.set_cons_zero, List.set_cons_succ]
            refine wpAnyH_take (i := 19) (oi := { dst := some 152, op := Op.move (Operand.tmp 16), type := 24, pos := "law.go:50", after := #[{ on := 18, ground := Ground.guard }], guard := some (18, true) }) (v := ?_) rfl (by kernel_rfl) (by kernel_rfl) (by kernel_rfl) (fun _ _ _ h => h) (Or.inl ⟨by rfl, ?_⟩) (by assumption) ?_
            rotate_left
            · first | (intro w hSw; (try dsimp only at hSw); go_simp; done) | (intro w hSw; (try dsimp only at hSw); go_simp; with_reducible rfl)
            simp only [Act.put, List.setIfInBounds_toArray, List.set_cons_zero, List.set_cons_succ]
            refine wpAnyH_take (i := 21) (oi := { dst := some 154, op := Op.move (Operand.tmp 8), type := 76, pos := "law.go:50", after := #[{ on := 18, ground := Ground.guard }], guard := some (18, true) }) (v := ?_) rfl (by kernel_rfl) (by kernel_rfl) (by kernel_rfl) (fun _ _ _ h => h) (Or.inl ⟨by rfl, ?_⟩) (by assumption) ?_
            rotate_left
            · first | (intro w hSw; (try dsimp only at hSw); go_simp; done) | (intro w hSw; (try dsimp only at hSw); go_simp; with_reducible rfl)
            simp only [Act.put, List.setIfInBounds_toArray, List.set_cons_zero, List.set_cons_succ]
            refine wpAnyH_take (i := 22) (oi := { dst := some 155, op := Op.move (Operand.tmp 15), type := 3, pos := "law.go:50", after := #[{ on := 18, ground := Ground.guard }], guard := some (18, true) }) (v := ?_) rfl (by kernel_rfl) (by kernel_rfl) (by kernel_rfl) (fun _ _ _ h => h) (Or.inl ⟨by rfl, ?_⟩) (by assumption) ?_
            rotate_left
            · first | (intro w hSw; (try dsimp only at hSw); go_simp; done) | (intro w hSw; (try dsimp only at hSw); go_simp; with_reducible rfl)
            simp only [Act.put, List.setIfInBounds_toArray, List.set_cons_zero, List.set_cons_succ]
            refine wpAnyH_take (i := 23) (oi := { dst := some 156, op := Op.binOp BinOp.sub 3 (Operand.tmp 155) (Operand.const (Value.int IntKind.i64 1)) 3, type := 3, pos := "law.go:50", after := #[{ on := 22, ground := Ground.data }, { on := 18, ground := Ground.guard }], guard := some (18, true) }) (v := ?_) rfl (by kernel_rfl) (by kernel_rfl) (by kernel_rfl) (fun _ _ _ h => h) (Or.inl ⟨by rfl, ?_⟩) (by assumption) ?_
            rotate_left
            · first | (intro w hSw; (try dsimp only at hSw); go_simp; done) | (intro w hSw; (try dsimp only at hSw); go_simp; with_reducible rfl)
            simp only [Act.put, List.setIfInBounds_toArray, List.set_cons_zero, List.set_cons_succ]
            refine wpAnyH_take (i := 24) (oi := { dst := some 157, op := Op.indexAddr 76 (Operand.tmp 154) (Operand.tmp 156), type := 0, pos := "law.go:50", after := #[{ on := 21, ground := Ground.data }, { on := 23, ground := Ground.data }, { on := 18, ground := Ground.guard }], guard := some (18, true) }) (v := ?_) rfl (by kernel_rfl) (by kernel_rfl) (by kernel_rfl) (fun _ _ _ h => h) (Or.inl ⟨by rfl, ?_⟩) (by assumption) ?_
            rotate_left
            · first | (intro w hSw; (try dsimp only at hSw); go_simp; done) | (intro w hSw; (try dsimp only at hSw); go_simp; with_reducible rfl)
            simp only [Act.put, List.setIfInBounds_toArray, List.set_cons_zero, List.set_cons_succ]
            refine wpAnyH_take (i := 25) (oi := { dst := some 158, op := Op.load 49 (Operand.tmp 157), type := 49, pos := "law.go:50", after := #[{ on := 24, ground := Ground.data }, { on := 18, ground := Ground.guard }], guard := some (18, true) }) (v := .agg Y.toList.toArray) rfl (by kernel_rfl) (by kernel_rfl) (by kernel_rfl) (fun _ _ _ h => h) (yieldsIf_load_mid (by rfl) 49 (.tmp 157) rfl gr (P * 32) rfl Y.toList _ (fun _ h => h.1) Tryd.underlying49 rfl (by rw [HYS.out.1]; exact info49)) (by assumption) ?_
            rw [Array.toArray_toList]
            simp only [Act.put, List.setIfInBounds_toArray, List.set_cons_zero, List.set_cons_succ]
            have HEd : Hid (EAt w w21.drew l k i all o g (.slice (some ⟨gr, 0, none⟩) i cr)) := Lib.hid (HE21.out.on (Below.refl _ _).drew)
            have HWd : Hid (Whole w21.drew gq 49 ((sums (lastN k all)).map V8).toArray) := Lib.hid HW21.out
            have HTd : Hid (TIn (Gv l (.slice (some ⟨gr, 0, none⟩) i cr)) w21.drew w21.drew.heap.size t gt) := Lib.hid (HT21.out.on (Below.refl _ _).drew)
            clear hHeld hS0 HE21 HW21 HT21
            generalize w21.drew = w22 at *
            have HRT := Lib.hid (root_any (some t) (some gt) w22 ⟨gt, rfl, HTd.out⟩ (Sh.tab_below HT.out HEd.out.bel hw) (by have := HEd.out.bel.size; omega))
            rw [ptr_some, show topOf (some t) = t from rfl, HYS.out.2] at HRT
            refine wpAnyH_ready (rs := [20]) (by kernel_rfl) (by simp) ?_
            refine AllReadyH.cons rfl (fun K hK => ?_) AllReadyH.nil
            go_simp
            refine HRT.out.mono ?_
            rintro e w23 ⟨rfl, hb23⟩
            have HE23 := Lib.hid (HEd.out.on hb23)
            have HW23 := Lib.hid (HWd.out.below hb23 HWd.out.lt)
            have hS3 : w23.rangeAt gr (P * 32) Y.toList ∧ w23.rangeAt gq (B * 32) Y.toList := by
              rw [← HYS.out.2]
              exact ⟨own_sum HE23.out.row HAL.out.1.2, sums_range HW23.out HAL.out.1.1⟩
            refine hK.out _ _ hS3 (fun hHeld => ?_)
            clear hK K hb23 HRT HEd HWd HTd
            refine wpAnyH_take (i := 26) (oi := { dst := some 159, op := Op.binOp BinOp.neq 49 (Operand.tmp 153) (Operand.tmp 158) 49, type := 4, pos := "law.go:50", after := #[{ on := 20, ground := Ground.data }, { on := 25, ground := Ground.data }, { on := 18, ground := Ground.guard }], guard := some (18, true) }) (v := ?_) rfl (by kernel_rfl) (by kernel_rfl) (by kernel_rfl) (fun _ _ _ h => h) (Or.inl ⟨by rfl, ?_⟩) (by assumption) ?_
            rotate_left
            · first | (intro w hSw; (try dsimp only at hSw); go_simp; done) | (intro w hSw; (try dsimp only at hSw); go_simp; with_reducible rfl)
            simp only [Act.put, List.setIfInBounds_toArray, List.set_cons_zero, List.set_cons_succ]
            refine wpAnyH_take (i := 27) (oi := { dst := some 160, op := Op.move (Operand.tmp 159), type := 4, pos := "law.go:50", after := #[{ on := 26, ground := Ground.data }, { on := 20, ground := Ground.chain }, { on := 18, ground := Ground.guard }], guard := some (18, true) }) (v := ?_) rfl (by kernel_rfl) (by kernel_rfl) (by kernel_rfl) (fun _ _ _ h => h) (Or.inl ⟨by rfl, ?_⟩) (by assumption) ?_
            rotate_left
            · first | (intro w hSw; (try dsimp only at hSw); go_simp; done) | (intro w hSw; (try dsimp only at hSw); go_simp; with_reducible rfl)
            simp only [Act.put, List.setIfInBounds_toArray, List.set_cons_zero, List.set_cons_succ]
            refine wpAnyH_take (i := 28) (oi := { dst := some 161, op := Op.move (Operand.tmp 14), type := 76, pos := "law.go:50", after := #[{ on := 27, ground := Ground.guard }], guard := some (27, false) }) (v := ?_) rfl (by kernel_rfl) (by kernel_rfl) (by kernel_rfl) (fun _ _ _ h => h) (Or.inl ⟨by rfl, ?_⟩) (by assumption) ?_
            rotate_left
            · first | (intro w hSw; (try dsimp only at hSw); go_simp; done) | (intro w hSw; (try dsimp only at hSw); go_simp; with_reducible rfl)
            simp only [Act.put, List.setIfInBounds_toArray, List.set_cons_zero, List.set_cons_succ]
            refine wpAnyH_take (i := 29) (oi := { dst := some 162, op := Op.move (Operand.tmp 15), type := 3, pos := "law.go:50", after := #[{ on := 27, ground := Ground.guard }], guard := some (27, false) }) (v := ?_) rfl (by kernel_rfl) (by kernel_rfl) (by kernel_rfl) (fun _ _ _ h => h) (Or.inl ⟨by rfl, ?_⟩) (by assumption) ?_
            rotate_left
            · first | (intro w hSw; (try dsimp only at hSw); go_simp; done) | (intro w hSw; (try dsimp only at hSw); go_simp; with_reducible rfl)
            simp only [Act.put, List.setIfInBounds_toArray, List.set_cons_zero, List.set_cons_succ]
            refine wpAnyH_take (i := 30) (oi := { dst := some 163, op := Op.binOp BinOp.sub 3 (Operand.tmp 162) (Operand.const (Value.int IntKind.i64 1)) 3, type := 3, pos := "law.go:50", after := #[{ on := 29, ground := Ground.data }, { on := 27, ground := Ground.guard }], guard := some (27, false) }) (v := ?_) rfl (by kernel_rfl) (by kernel_rfl) (by kernel_rfl) (fun _ _ _ h => h) (Or.inl ⟨by rfl, ?_⟩) (by assumption) ?_
            rotate_left
            · first | (intro w hSw; (try dsimp only at hSw); go_simp; done) | (intro w hSw; (try dsimp only at hSw); go_simp; with_reducible rfl)
            simp only [Act.put, List.setIfInBounds_toArray, List.set_cons_zero, List.set_cons_succ]
            refine wpAnyH_take (i := 31) (oi := { dst := some 164, op := Op.move (Operand.tmp 13), type := 3, pos := "law.go:50", after := #[{ on := 27, ground := Ground.guard }], guard := some (27, false) }) (v := ?_) rfl (by kernel_rfl) (by kernel_rfl) (by kernel_rfl) (fun _ _ _ h => h) (Or.inl ⟨by rfl, ?_⟩) (by assumption) ?_
            rotate_left
            · first | (intro w hSw; (try dsimp only at hSw); go_simp; done) | (intro w hSw; (try dsimp only at hSw); go_simp; with_reducible rfl)
            simp only [Act.put, List.setIfInBounds_toArray, List.set_cons_zero, List.set_cons_succ]
            refine wpAnyH_take (i := 32) (oi := { dst := some 165, op := Op.binOp BinOp.sub 3 (Operand.tmp 163) (Operand.tmp 164) 3, type := 3, pos := "law.go:50", after := #[{ on := 30, ground := Ground.data }, { on := 31, ground := Ground.data }, { on := 27, ground := Ground.guard }], guard := some (27, false) }) (v := ?_) rfl (by kernel_rfl) (by kernel_rfl) (by kernel_rfl) (fun _ _ _ h => h) (Or.inl ⟨by rfl, ?_⟩) (by assumption) ?_
            rotate_left
            · first | (intro w hSw; (try dsimp only at hSw); go_simp; done) | (intro w hSw; (try dsimp only at hSw); go_simp; with_reducible rfl)
            simp only [Act.put, List.setIfInBounds_toArray, List.set_cons_zero, List.set_cons_succ]
            refine wpAnyH_take (i := 33) (oi := { dst := some 166, op := Op.indexAddr 76 (Operand.tmp 161) (Operand.tmp 165), type := 0, pos := "law.go:50", after := #[{ on := 28, ground := Ground.data }, { on := 32, ground := Ground.data }, { on := 27, ground := Ground.guard }], guard := some (27, false) }) (v := ?_) rfl (by kernel_rfl) (by kernel_rfl) (by kernel_rfl) (fun _ _ _ h => h) (Or.inl ⟨by rfl, ?_⟩) (by assumption) ?_
            rotate_left
            · first | (intro w hSw; (try dsimp only at hSw); go_simp; done) | (intro w hSw; (try dsimp only at hSw); go_simp; with_reducible rfl)
            simp only [Act.put, List.setIfInBounds_toArray, List.set_cons_zero, List.set_cons_succ]
            refine wpAnyH_take (i := 34) (oi := { dst := some 167, op := Op.load 49 (Operand.tmp 166), type := 49, pos := "law.go:50", after := #[{ on := 33, ground := Ground.data }, { on := 27, ground := Ground.guard }], guard := some (27, false) }) (v := .agg Y.toList.toArray) rfl (by kernel_rfl) (by kernel_rfl) (by kernel_rfl) (fun _ _ _ h => h) (yieldsIf_load_mid (by rfl) 49 (.tmp 166) rfl gq (B * 32) rfl Y.toList _ (fun _ h => h.2) Tryd.underlying49 rfl (by rw [HYS.out.1]; exact info49)) (by assumption) ?_
            rw [Array.toArray_toList]
            simp only [Act.put, List.setIfInBounds_toArray, List.set_cons_zero, List.set_cons_succ]
            refine wpAnyH_take (i := 35) (oi := { dst := some 168, op := Op.move (Operand.tmp 8), type := 76, pos := "law.go:50", after := #[{ on := 27, ground := Ground.guard }], guard := some (27, false) }) (v := ?_) rfl (by kernel_rfl) (by kernel_rfl) (by kernel_rfl) (fun _ _ _ h => h) (Or.inl ⟨by rfl, ?_⟩) (by assumption) ?_
            rotate_left
            · first | (intro w hSw; (try dsimp only at hSw); go_simp; done) | (intro w hSw; (try dsimp only at hSw); go_simp; with_reducible rfl)
            simp only [Act.put, List.setIfInBounds_toArray, List.set_cons_zero, List.set_cons_succ]
            refine wpAnyH_take (i := 36) (oi := { dst := some 169, op := Op.move (Operand.tmp 15), type := 3, pos := "law.go:50", after := #[{ on := 27, ground := Ground.guard }], guard := some (27, false) }) (v := ?_) rfl (by kernel_rfl) (by kernel_rfl) (by kernel_rfl) (fun _ _ _ h => h) (Or.inl ⟨by rfl, ?_⟩) (by assumption) ?_
            rotate_left
            · first | (intro w hSw; (try dsimp only at hSw); go_simp; done) | (intro w hSw; (try dsimp only at hSw); go_simp; with_reducible rfl)
            simp only [Act.put, List.setIfInBounds_toArray, List.set_cons_zero, List.set_cons_succ]
            refine wpAnyH_take (i := 37) (oi := { dst := some 170, op := Op.binOp BinOp.sub 3 (Operand.tmp 169) (Operand.const (Value.int IntKind.i64 1)) 3, type := 3, pos := "law.go:50", after := #[{ on := 36, ground := Ground.data }, { on := 27, ground := Ground.guard }], guard := some (27, false) }) (v := ?_) rfl (by kernel_rfl) (by kernel_rfl) (by kernel_rfl) (fun _ _ _ h => h) (Or.inl ⟨by rfl, ?_⟩) (by assumption) ?_
            rotate_left
            · first | (intro w hSw; (try dsimp only at hSw); go_simp; done) | (intro w hSw; (try dsimp only at hSw); go_simp; with_reducible rfl)
            simp only [Act.put, List.setIfInBounds_toArray, List.set_cons_zero, List.set_cons_succ]
            refine wpAnyH_take (i := 38) (oi := { dst := some 171, op := Op.indexAddr 76 (Operand.tmp 168) (Operand.tmp 170), type := 0, pos := "law.go:50", after := #[{ on := 35, ground := Ground.data }, { on := 37, ground := Ground.data }, { on := 27, ground := Ground.guard }], guard := some (27, false) }) (v := ?_) rfl (by kernel_rfl) (by kernel_rfl) (by kernel_rfl) (fun _ _ _ h => h) (Or.inl ⟨by rfl, ?_⟩) (by assumption) ?_
            rotate_left
            · first | (intro w hSw; (try dsimp only at hSw); go_simp; done) | (intro w hSw; (try dsimp only at hSw); go_simp; with_reducible rfl)
            simp only [Act.put, List.setIfInBounds_toArray, List.set_cons_zero, List.set_cons_succ]
            refine wpAnyH_take (i := 39) (oi := { dst := some 172, op := Op.load 49 (Operand.tmp 171), type := 49, pos := "law.go:50", after := #[{ on := 38, ground := Ground.data }, { on := 27, ground := Ground.guard }], guard := some (27, false) }) (v := .agg Y.toList.toArray) rfl (by kernel_rfl) (by kernel_rfl) (by kernel_rfl) (fun _ _ _ h => h) (yieldsIf_load_mid (by rfl) 49 (.tmp 171) rfl gr (P * 32) rfl Y.toList _ (fun _ h => h.1) Tryd.underlying49 rfl (by rw [HYS.out.1]; exact info49)) (by assumption) ?_
            rw [Array.toArray_toList]
            simp only [Act.put, List.setIfInBounds_toArray, List.set_cons_zero, List.set_cons_succ]
            refine wpAnyH_take (i := 40) (oi := { dst := some 173, op := Op.binOp BinOp.neq 49 (Operand.tmp 167) (Operand.tmp 172) 49, type := 4, pos := "law.go:50", after := #[{ on := 34, ground := Ground.data }, { on := 39, ground := Ground.data }, { on := 27, ground := Ground.guard }], guard := some (27, false) }) (v := ?_) rfl (by kernel_rfl) (by kernel_rfl) (by kernel_rfl) (fun _ _ _ h => h) (Or.inl ⟨by rfl, ?_⟩) (by assumption) ?_
            rotate_left
            · first | (intro w hSw; (try dsimp only at hSw); go_simp; done) | (intro w hSw; (try dsimp only at hSw); go_simp; with_reducible rfl)
            simp only [Act.put, List.setIfInBounds_toArray, List.set_cons_zero, List.set_cons_succ]
            refine wpAnyH_take (i := 41) (oi := { dst := some 174, op := Op.pick (Operand.tmp 160) (Operand.const (Value.bool true)) (Operand.tmp 173), type := 4, pos := "law.go:50", after := #[{ on := 27, ground := Ground.data }, { on := 40, ground := Ground.data }, { on := 18, ground := Ground.guard }], guard := some (18, true) }) (v := ?_) rfl (by kernel_rfl) (by kernel_rfl) (by kernel_rfl) (fun _ _ _ h => h) (Or.inl ⟨by rfl, ?_⟩) (by assumption) ?_
            rotate_left
            · first | (intro w hSw; (try dsimp only at hSw); go_simp; done) | (intro w hSw; (try dsimp only at hSw); go_simp; with_reducible rfl)
            simp only [Act.put, List.setIfInBounds_toArray, List.set_cons_zero, List.set_cons_succ]
            refine wpAnyH_take (i := 42) (oi := { dst := some 175, op := Op.pick (Operand.tmp 151) (Operand.tmp 174) (Operand.const (Value.bool false)), type := 4, pos := "law.go:50", after := #[{ on := 18, ground := Ground.data }, { on := 41, ground := Ground.data }, { on := 16, ground := Ground.guard }], guard := some (16, false) }) (v := ?_) rfl (by kernel_rfl) (by kernel_rfl) (by kernel_rfl) (fun _ _ _ h => h) (Or.inl ⟨by rfl, ?_⟩) (by assumption) ?_
            rotate_left
            · first | (intro w hSw; (try dsimp only at hSw); go_simp; done) | (intro w hSw; (try dsimp only at hSw); go_simp; with_reducible rfl)
            simp only [Act.put, List.setIfInBounds_toArray, List.set_cons_zero, List.set_cons_succ]
            refine wpAnyH_take (i := 43) (oi := { dst := some 176, op := Op.pick (Operand.tmp 149) (Operand.const (Value.bool true)) (Operand.tmp 175), type := 4, pos := "law.go:50", after := #[{ on := 16, ground := Ground.data }, { on := 42, ground := Ground.data }], guard := none }) (v := ?_) rfl (by kernel_rfl) (by kernel_rfl) (by kernel_rfl) (fun _ _ _ h => h) (Or.inl ⟨by rfl, ?_⟩) (by assumption) ?_
            rotate_left
            · first | (intro w hSw; (try dsimp only at hSw); go_simp; done) | (intro w hSw; (try dsimp only at hSw); go_simp; with_reducible rfl)
            simp only [Act.put, List.setIfInBounds_toArray, List.set_cons_zero, List.set_cons_succ]
            refine wpAnyH_done (by kernel_rfl) ?_ _
            clear hHeld hS3 e1
            go_wp2_with fail
            go_roundg gn
            case measure => omega
            case rel => exact ⟨j + 1, by omega, congrArg (Value.int .i64) (by omega), HE23.out, HW23.out⟩
    | succ gn =>
      have hin : i < n := by omega
      obtain ⟨a, hai⟩ : ∃ a, cs[i]? = some a := ⟨_, List.getElem?_eq_getElem (by rw [HLEN.out]; exact hin)⟩
      obtain ⟨b, ob, A1, n1, c1, A2, n2, c2, rfl, hbb, k0, k1, k2, k3, m1, m2, m3, m4, r1, r2⟩ := HC.out.2 i a hai
      have HR := Lib.hid (And.intro r1 r2)
      have hcw : ∀ q, wr.cell? ⟨b, q, none⟩ = w.cell? ⟨b, q, none⟩ := fun q => HE.out.bel.cell (p := ⟨b, q, none⟩) hbb
      rw [← hcw] at k0 k1 k2 k3
      clear hai r1 r2 hcw
      have hz29 := zero29
      go_upto_region 10 with (fail)
      refine wp_region_lit ?_
      iterate 15 go_step
      clear hz29 k0 k1 k2 k3
      have hw2 := Whole.made wr 29 #[.int .u8 0, .int .u8 0, .slice none 0 0, .slice none 0 0]
      refine wpList_store_mid rfl 29 (.tmp 10) (.tmp 47) rfl wr.heap.size 0 (a.cells A1 n1 c1 A2 n2 c2) rfl rfl ?_ ?_ (a.one ..) ?_
      · exact hw2.there_
      · exact info29
      have hw3 := hw2.setAll (vs := a.cells A1 n1 c1 A2 n2 c2) rfl
      have hb3 : Below wr.heap.size wr ((wr.alloc (.cells #[.int .u8 0, .int .u8 0, .slice none 0 0, .slice none 0 0] 29)).setCells wr.heap.size 0 (a.cells A1 n1 c1 A2 n2 c2).toList) := below_setCells wr wr.heap.size _ 0 ((Below.refl _ _).alloc (Nat.le_refl _) _) (Nat.le_refl _)
      generalize (wr.alloc (.cells #[.int .u8 0, .int .u8 0, .slice none 0 0, .slice none 0 0] 29)).setCells wr.heap.size 0 (a.cells A1 n1 c1 A2 n2 c2).toList = w3 at *
      have hs3 : wr.heap.size < w3.heap.size := hw3.lt
      have HW3 := Lib.hid hw3
      have HE3 := Lib.hid (HE.out.on hb3)
      clear hw2 hw3 hb3 HE
      generalize wr.heap.size = g3 at *
      by_cases hi80 : 80 < i
      · have hd80 : decide ((80 : Int) < (i : Int)) = true := decide_eq_true (by omega)
        clear hi80
        have hen := HE3.out.len
        obtain ⟨F, hF⟩ : ∃ F : Nat, F = i - k := ⟨_, rfl⟩
        have hFe : (if k < i then (i : Int) - (k : Int) else 0) = (F : Int) := by split <;> omega
        obtain ⟨R, hR⟩ : ∃ R : Nat, R = i - F := ⟨_, rfl⟩
        have hlR : (lastN k all).length = R := by rw [lastN_len, hen]; omega
        have hRF : wrap64 ((i : Int) - (F : Int)) = (R : Int) := by unfold wrap64; omega
        have HFR := Lib.hid (And.intro hF (And.intro hR (And.intro hlR hen)))
        have HRO := Lib.hid (roots_any w3 l k i _ HE3.out.log (Sh.tab_below HT.out HE3.out.bel hw) (by have := HE3.out.bel.size; omega))
        rw [ptr_some] at HRO
        clear hF hR hlR hen
        go_upto_region 19 with (fail)
        clear hFe
        go_wp2_with fail
        refine HRO.out.mono ?_
        rintro e w20 ⟨gq, rfl, _, hW20, hb20⟩
        rw [HFR.out.2.2.1]
        have HE20 := Lib.hid (HE3.out.on hb20)
        have HW20 := Lib.hid hW20
        have hs20 := hb20.size
        clear hW20 hb20 HRO
        go_wp2_with fail
        rw [hRF]
        clear hRF
        go_loopg [114] (i + 2) (fun gk s114 wx => ∃ j, j + gk = i + 2 ∧ s114 = .int .i64 (j : Nat) ∧ EAt w wx l k i all o g (.slice Ar i cr) ∧ Whole wx gq 49 ((sums (lastN k all)).map V8).toArray)
        case atStart => exact ⟨0, by omega, rfl, HE20.out, HW20.out⟩
        case round =>
          clear HE20 HW20
          obtain ⟨j, hj, rfl, hE, hW⟩ := hrel
          have hsx := hE.bel.size
          have HEj := Lib.hid hE
          have HWj := Lib.hid hW
          clear hE hW
          cases gk with
          | zero =>
            obtain rfl : j = i + 2 := by omega
            have HAT := Lib.hid (at_any (G := Gv l (.slice Ar i cr)) wr l k i 18446744073709551615 _ HEj.out.log (by omega) (by omega) (HEj.out.room (by omega)))
            rw [ptr_some] at HAT
            have hwi : IntKind.u64.wrap (i : Int) = (i : Int) := IntWalk.u64_in _ ⟨by omega, by omega⟩
            go_wp2_with fail
            refine HAT.out.mono ?_
            rintro e w21 hpost
            rcases hpost with ⟨_, rfl, hb21⟩ | ⟨t, gt, h1, h2, _⟩
            rotate_left
            · exact absurd h2 (by omega)
            have HE21 := Lib.hid (HEj.out.on hb21)
            have HLA := Lib.hid (last_any w21 l k i _ HE21.out.log)
            rw [ptr_some] at HLA
            clear hb21 HAT
            go_wp2_with fail
            refine HLA.out.mono ?_
            rintro e w22 ⟨rfl, rfl⟩
            go_wp2_with fail
            go_ret
            exact ⟨rfl, HE21.out.bel⟩
          | succ gn =>
            have hj2 : j < i + 2 := by omega
            have HAT := Lib.hid (at_any (G := Gv l (.slice Ar i cr)) wr l k i j _ HEj.out.log (by omega) (by omega) (HEj.out.room (by omega)))
            rw [ptr_some] at HAT
            have hwj : IntKind.u64.wrap (j : Int) = (j : Int) := IntWalk.u64_in _ ⟨by omega, by omega⟩
            go_wp2_with fail
            refine HAT.out.mono ?_
            rintro e w21 hpost
            rcases hpost with ⟨hno, rfl, hb21⟩ | ⟨t, gt, h1, h2, ht, rfl, _, hT21, hb21⟩
            · have HE21 := Lib.hid (HEj.out.on hb21)
              have HW21 := Lib.hid (HWj.out.below hb21 HWj.out.lt)
              have hno' : ¬ (F < j ∧ j ≤ i) := by
                obtain ⟨f1, f2, f3, f4⟩ := HFR.out
                rw [f3] at hno
                omega
              clear hno hb21 HAT
              obtain ⟨D2, hD2⟩ : ∃ D2, decide (j ≤ i) = D2 := ⟨_, rfl⟩
              obtain ⟨D1, hD1⟩ : ∃ D1, decide (F < j) = D1 := ⟨_, rfl⟩
              have hDD : (D1 && D2) = false := by
                rw [← hD1, ← hD2, ← Bool.not_eq_true, Bool.and_eq_true, decide_eq_true_iff, decide_eq_true_iff]
                omega
              have HNO := Lib.hid hno'
              clear hno'
              cases D1 with
              | false =>
                go_upto_region 27 with (fail)
                go_quiet (fail)
                have hbd : Below w21.heap.size w21 (w21.drewN nq) := below_drewN (Below.refl _ _) nq
                have HEd := Lib.hid (HE21.out.on hbd)
                have HWd := Lib.hid (HW21.out.drewN nq)
                clear hbd HE21 HW21
                generalize w21.drewN nq = w22 at *
                go_wp2_with fail
                go_roundg gn
                case measure => omega
                case rel => exact ⟨j + 1, by omega, congrArg (Value.int .i64) (by omega), HEd.out, HWd.out⟩
              | true =>
                obtain rfl : D2 = false := by simpa using hDD
                go_upto_region 27 with (fail)
                go_quiet (fail)
                have hbd : Below w21.heap.size w21 (w21.drewN nq) := below_drewN (Below.refl _ _) nq
                have HEd := Lib.hid (HE21.out.on hbd)
                have HWd := Lib.hid (HW21.out.drewN nq)
                clear hbd HE21 HW21
                generalize w21.drewN nq = w22 at *
                go_wp2_with fail
                go_roundg gn
                case measure => omega
                case rel => exact ⟨j + 1, by omega, congrArg (Value.int .i64) (by omega), HEd.out, HWd.out⟩
            · obtain ⟨hFj, hji, P, hP, B, hB, hall⟩ : F < j ∧ j ≤ i ∧ ∃ P, P = j - 1 ∧ ∃ B, B = P - F ∧ (lastN k all)[B]? = some t ∧ all[P]? = some t := by
                obtain ⟨f1, f2, f3, f4⟩ := HFR.out
                rw [f3] at h1 ht
                refine ⟨by omega, h2, j - 1, rfl, j - 1 - F, rfl, ?_, ?_⟩
                · rw [← ht]; congr 1; omega
                · rw [lastN_at] at ht
                  rw [← ht]; congr 1; omega
              have HE21 := Lib.hid (HEj.out.on hb21)
              have HW21 := Lib.hid (HWj.out.below hb21 HWj.out.lt)
              have HT21 := Lib.hid hT21
              have hd1 : decide (F < j) = true := decide_eq_true hFj
              have hd2 : decide (j ≤ i) = true := decide_eq_true hji
              have hPi : P < i := by omega
              have hBR : B < R := by have := HFR.out.2.1; omega
              have hwP : wrap64 ((j : Int) - 1) = (P : Int) := by unfold wrap64; omega
              have hwB : wrap64 ((P : Int) - (F : Int)) = (B : Int) := by unfold wrap64; omega
              have hwP' : IntKind.i64.wrap ((j : Int) - 1) = (P : Int) := by rw [show (j : Int) - 1 = (P : Int) by omega]; exact IntWalk.i64_in _ ⟨by omega, by omega⟩
              have hwB' : IntKind.i64.wrap ((P : Int) - (F : Int)) = (B : Int) := by rw [show (P : Int) - (F : Int) = (B : Int) by omega]; exact IntWalk.i64_in _ ⟨by omega, by omega⟩
              obtain ⟨gr, cr2, hvr, _, _⟩ := HE21.out.row.form (by omega)
              obtain ⟨rfl, rfl⟩ : Ar = some ⟨gr, 0, none⟩ ∧ cr = cr2 := by cases hvr; exact ⟨rfl, rfl⟩
              have HAL := Lib.hid (And.intro hall (And.intro hP (And.intro hB (And.intro hFj hji))))
              obtain ⟨Y, hY⟩ : ∃ Y, Sh.bcells (osum t) = Y := ⟨_, rfl⟩
              have e1 : ∀ w, Sem.run Tryd.prog (Op.equalIn 10000 49 (.agg Y) (.agg Y)) w = .ok true w := fun w => by
                have := run_eq49 (osum t) (osum t) (osum32 t) (osum32 t) w
                rw [hY, show (osum t == osum t) = true by simp] at this
                exact this
              have hYs : Y.toList.length = 32 := by rw [← hY]; simp [Sh.bcells, osum32]
              have hS0 : w21.drew.rangeAt gr (P * 32) Y.toList ∧ w21.drew.rangeAt gq (B * 32) Y.toList := by
                rw [← hY]
                exact ⟨own_sum HE21.out.row hall.2, sums_range HW21.out hall.1⟩
              have HYS := Lib.hid (And.intro hYs hY)
              rw [ptr_some]
              clear h1 h2 ht hT21 hb21 HAT hall hFj hji hP hB hYs hY hvr
              go_upto_region 27 with (fail)
              refine wp_region_held_drew (S := fun w' => w'.rangeAt gr (P * 32) Y.toList ∧ w'.rangeAt gq (B * 32) Y.toList) (by kernel_rfl) hS0 (fun hHeld => ?_)
              refine wpAnyH_take (i := 0) (oi := { dst := some 133, op := Op.move (Operand.tmp 17), type := 34, pos := "law.go:50", after := #[], guard := none }) (v := ?_) rfl (by kernel_rfl) (by kernel_rfl) (by kernel_rfl) (fun _ _ _ h => h) (Or.inl ⟨by rfl, ?_⟩) (by assumption) ?_
              rotate_left
              · first | (intro w hSw; (try dsimp only at hSw); go_simp; done) | (intro w hSw; (try dsimp only at hSw); go_simp; with_reducible rfl)
              simp only [Act.put, List.setIfInBounds_toArray, List.set_cons_zero, List.set_cons_succ]
              refine wpAnyH_take (i := 1) (oi := { dst := some 134, op := Op.binOp BinOp.eql 34 (Operand.tmp 133) (Operand.const (Value.int IntKind.i64 0)) 34, type := 4, pos := "law.go:50", after := #[{ on := 0, ground := Ground.data }], guard := none }) (v := ?_) rfl (by kernel_rfl) (by kernel_rfl) (by kernel_rfl) (fun _ _ _ h => h) (Or.inl ⟨by rfl, ?_⟩) (by assumption) ?_
              rotate_left
              · first | (intro w hSw; (try dsimp only at hSw); go_simp; done) | (intro w hSw; (try dsimp only at hSw); go_simp; with_reducible rfl)
              simp only [Act.put, List.setIfInBounds_toArray, List.set_cons_zero, List.set_cons_succ]
              refine wpAnyH_take (i := 2) (oi := { dst := some 135, op := Op.move (Operand.tmp 18), type := 4, pos := "law.go:50", after := #[], guard := none }) (v := ?_) rfl (by kernel_rfl) (by kernel_rfl) (by kernel_rfl) (fun _ _ _ h => h) (Or.inl ⟨by rfl, ?_⟩) (by assumption) ?_
              rotate_left
              · first | (intro w hSw; (try dsimp only at hSw); go_simp; done) | (intro w hSw; (try dsimp only at hSw); go_simp; with_reducible rfl)
              simp only [Act.put, List.setIfInBounds_toArray, List.set_cons_zero, List.set_cons_succ]
              refine wpAnyH_take (i := 3) (oi := { dst := some 136, op := Op.binOp BinOp.neq 4 (Operand.tmp 134) (Operand.tmp 135) 4, type := 4, pos := "law.go:50", after := #[{ on := 1, ground := Ground.data }, { on := 2, ground := Ground.data }], guard := none }) (v := ?_) rfl (by kernel_rfl) (by kernel_rfl) (by kernel_rfl) (fun _ _ _ h => h) (Or.inl ⟨by rfl, ?_⟩) (by assumption) ?_
              rotate_left
              · first | (intro w hSw; (try dsimp only at hSw); go_simp; done) | (intro w hSw; (try dsimp only at hSw); go_simp; with_reducible rfl)
              simp only [Act.put, List.setIfInBounds_toArray, List.set_cons_zero, List.set_cons_succ]
              refine wpAnyH_take (i := 4) (oi := { dst := some 137, op := Op.move (Operand.tmp 136), type := 4, pos := "law.go:50", after := #[{ on := 3, ground := Ground.data }], guard := none }) (v := ?_) rfl (by kernel_rfl) (by kernel_rfl) (by kernel_rfl) (fun _ _ _ h => h) (Or.inl ⟨by rfl, ?_⟩) (by assumption) ?_
              rotate_left
              · first | (intro w hSw; (try dsimp only at hSw); go_simp; done) | (intro w hSw; (try dsimp only at hSw); go_simp; with_reducible rfl)
              simp only [Act.put, List.setIfInBounds_toArray, List.set_cons_zero, List.set_cons_succ]
              refine wpAnyH_take (i := 5) (oi := { dst := some 138, op := Op.move (Operand.tmp 18), type := 4, pos := "law.go:50", after := #[{ on := 4, ground := Ground.guard }], guard := some (4, false) }) (v := ?_) rfl (by kernel_rfl) (by kernel_rfl) (by kernel_rfl) (fun _ _ _ h => h) (Or.inl ⟨by rfl, ?_⟩) (by assumption) ?_
              rotate_left
              · first | (intro w hSw; (try dsimp only at hSw); go_simp; done) | (intro w hSw; (try dsimp only at hSw); go_simp; with_reducible rfl)
              simp only [Act.put, List.setIfInBounds_toArray, List.set_cons_zero, List.set_cons_succ]
              refine wpAnyH_take (i := 6) (oi := { dst := some 139, op := Op.unOp UnOp.not 4 (Operand.tmp 138), type := 4, pos := "law.go:50", after := #[{ on := 5, ground := Ground.data }, { on := 4, ground := Ground.guard }], guard := some (4, false) }) (v := ?_) rfl (by kernel_rfl) (by kernel_rfl) (by kernel_rfl) (fun _ _ _ h => h) (Or.inl ⟨by rfl, ?_⟩) (by assumption) ?_
              rotate_left
              · first | (intro w hSw; (try dsimp only at hSw); go_simp; done) | (intro w hSw; (try dsimp only at hSw); go_simp; with_reducible rfl)
              simp only [Act.put, List.setIfInBounds_toArray, List.set_cons_zero, List.set_cons_succ]
              refine wpAnyH_take (i := 7) (oi := { dst := some 140, op := Op.move (Operand.tmp 139), type := 4, pos := "law.go:50", after := #[{ on := 6, ground := Ground.data }, { on := 4, ground := Ground.chain }, { on := 4, ground := Ground.guard }], guard := some (4, false) }) (v := ?_) rfl (by kernel_rfl) (by kernel_rfl) (by kernel_rfl) (fun _ _ _ h => h) (Or.inl ⟨by rfl, ?_⟩) (by assumption) ?_
              rotate_left
              · first | (intro w hSw; (try dsimp only at hSw); go_simp; done) | (intro w hSw; (try dsimp only at hSw); go_simp; with_reducible rfl)
              simp only [Act.put, List.setIfInBounds_toArray, List.set_cons_zero, List.set_cons_succ]
              refine wpAnyH_take (i := 8) (oi := { dst := some 141, op := Op.move (Operand.tmp 17), type := 34, pos := "law.go:50", after := #[{ on := 7, ground := Ground.guard }], guard := some (7, true) }) (v := undef) rfl (by kernel_rfl) (by kernel_rfl) (by kernel_rfl) (fun _ _ _ h => h) (Or.inr ⟨by rfl, rfl⟩) (by assumption) ?_
              simp only [Act.put, List.setIfInBounds_toArray, List.set_cons_zero, List.set_cons_succ]
              refine wpAnyH_take (i := 9) (oi := { dst := some 142, op := Op.binOp BinOp.neq 34 (Operand.tmp 141) (Operand.const (Value.int IntKind.i64 11)) 34, type := 4, pos := "law.go:50", after := #[{ on := 8, ground := Ground.data }, { on := 7, ground := Ground.guard }], guard := some (7, true) }) (v := undef) rfl (by kernel_rfl) (by kernel_rfl) (by kernel_rfl) (fun _ _ _ h => h) (Or.inr ⟨by rfl, rfl⟩) (by assumption) ?_
              simp only [Act.put, List.setIfInBounds_toArray, List.set_cons_zero, List.set_cons_succ]
              refine wpAnyH_take (i := 10) (oi := { dst := some 143, op := Op.move (Operand.tmp 142), type := 4, pos := "law.go:50", after := #[{ on := 9, ground := Ground.data }, { on := 7, ground := Ground.chain }, { on := 7, ground := Ground.guard }], guard := some (7, true) }) (v := undef) rfl (by kernel_rfl) (by kernel_rfl) (by kernel_rfl) (fun _ _ _ h => h) (Or.inr ⟨by rfl, rfl⟩) (by assumption) ?_
              simp only [Act.put, List.setIfInBounds_toArray, List.set_cons_zero, List.set_cons_succ]
              refine wpAnyH_take (i := 11) (oi := { dst := some 144, op := Op.move (Operand.tmp 16), type := 24, pos := "law.go:50", after := #[{ on := 10, ground := Ground.guard }], guard := some (10, false) }) (v := undef) rfl (by kernel_rfl) (by kernel_rfl) (by kernel_rfl) (fun _ _ _ h => h) (Or.inr ⟨by rfl, rfl⟩) (by assumption) ?_
              simp only [Act.put, List.setIfInBounds_toArray, List.set_cons_zero, List.set_cons_succ]
              refine wpAnyH_take (i := 12) (oi := { dst := some 145, op := Op.binOp BinOp.neq 24 (Operand.tmp 144) (Operand.const (Value.pointer none)) 24, type := 4, pos := "law.go:50", after := #[{ on := 11, ground := Ground.data }, { on := 10, ground := Ground.guard }], guard := some (10, false) }) (v := undef) rfl (by kernel_rfl) (by kernel_rfl) (by kernel_rfl) (fun _ _ _ h => h) (Or.inr ⟨by rfl, rfl⟩) (by assumption) ?_
              simp only [Act.put, List.setIfInBounds_toArray, List.set_cons_zero, List.set_cons_succ]
              refine wpAnyH_take (i := 13) (oi := { dst := some 146, op := Op.pick (Operand.tmp 143) (Operand.const (Value.bool true)) (Operand.tmp 145), type := 4, pos := "law.go:50", after := #[{ on := 10, ground := Ground.data }, { on := 12, ground := Ground.data }, { on := 7, ground := Ground.guard }], guard := some (7, true) }) (v := undef) rfl (by kernel_rfl) (by kernel_rfl) (by kernel_rfl) (fun _ _ _ h => h) (Or.inr ⟨by rfl, rfl⟩) (by assumption) ?_
              simp only [Act.put, List.setIfInBounds_toArray, List.set_cons_zero, List.set_cons_succ]
              refine wpAnyH_take (i := 14) (oi := { dst := some 147, op := Op.pick (Operand.tmp 140) (Operand.tmp 146) (Operand.const (Value.bool false)), type := 4, pos := "law.go:50", after := #[{ on := 7, ground := Ground.data }, { on := 13, ground := Ground.data }, { on := 4, ground := Ground.guard }], guard := some (4, false) }) (v := ?_) rfl (by kernel_rfl) (by kernel_rfl) (by kernel_rfl) (fun _ _ _ h => h) (Or.inl ⟨by rfl, ?_⟩) (by assumption) ?_
              rotate_left
              · first | (intro w hSw; (try dsimp only at hSw); go_simp; done) | (intro w hSw; (try dsimp only at hSw); go_simp; with_reducible rfl)
              simp only [Act.put, List.setIfInBounds_toArray, List.set_cons_zero, List.set_cons_succ]
              refine wpAnyH_take (i := 15) (oi := { dst := some 148, op := Op.pick (Operand.tmp 137) (Operand.const (Value.bool true)) (Operand.tmp 147), type := 4, pos := "law.go:50", after := #[{ on := 4, ground := Ground.data }, { on := 14, ground := Ground.data }], guard := none }) (v := ?_) rfl (by kernel_rfl) (by kernel_rfl) (by kernel_rfl) (fun _ _ _ h => h) (Or.inl ⟨by rfl, ?_⟩) (by assumption) ?_
              rotate_left
              · first | (intro w hSw; (try dsimp only at hSw); go_simp; done) | (intro w hSw; (try dsimp only at hSw); go_simp; with_reducible rfl)
              simp only [Act.put, List.setIfInBounds_toArray, List.set_cons_zero, List.set_cons_succ]
              refine wpAnyH_take (i := 16) (oi := { dst := some 149, op := Op.move (Operand.tmp 148), type := 4, pos := "law.go:50", after := #[{ on := 15, ground := Ground.data }, { on := 10, ground := Ground.chain }], guard := none }) (v := ?_) rfl (by kernel_rfl) (by kernel_rfl) (by kernel_rfl) (fun _ _ _ h => h) (Or.inl ⟨by rfl, ?_⟩) (by assumption) ?_
              rotate_left
              · first | (intro w hSw; (try dsimp only at hSw); go_simp; done) | (intro w hSw; (try dsimp only at hSw); go_simp; with_reducible rfl)
              simp only [Act.put, List.setIfInBounds_toArray, List.set_cons_zero, List.set_cons_succ]
              refine wpAnyH_take (i := 17) (oi := { dst := some 150, op := Op.move (Operand.tmp 18), type := 4, pos := "law.go:50", after := #[{ on := 16, ground := Ground.guard }], guard := some (16, false) }) (v := ?_) rfl (by kernel_rfl) (by kernel_rfl) (by kernel_rfl) (fun _ _ _ h => h) (Or.inl ⟨by rfl, ?_⟩) (by assumption) ?_
              rotate_left
              · first | (intro w hSw; (try dsimp only at hSw); go_simp; done) | (intro w hSw; (try dsimp only at hSw); go_simp; with_reducible rfl)
              simp only [Act.put, List.setIfInBounds_toArray, List.set_cons_zero, List.set_cons_succ]
              refine wpAnyH_take (i := 18) (oi := { dst := some 151, op := Op.move (Operand.tmp 150), type := 4, pos := "law.go:50", after := #[{ on := 17, ground := Ground.data }, { on := 16, ground := Ground.chain }, { on := 16, ground := Ground.guard }], guard := some (16, false) }) (v := ?_) rfl (by kernel_rfl) (by kernel_rfl) (by kernel_rfl) (fun _ _ _ h => h) (Or.inl ⟨by rfl, ?_⟩) (by assumption) ?_
              rotate_left
              · first | (intro w hSw; (try dsimp only at hSw); go_simp; done) | (intro w hSw; (try dsimp only at hSw); go_simp; with_reducible rfl)
              simp only [Act.put, List.setIfInBounds_toArray, List.set_cons_zero, List.set_cons_succ]
              refine wpAnyH_take (i := 19) (oi := { dst := some 152, op := Op.move (Operand.tmp 16), type := 24, pos := "law.go:50", after := #[{ on := 18, ground := Ground.guard }], guard := some (18, true) }) (v := ?_) rfl (by kernel_rfl) (by kernel_rfl) (by kernel_rfl) (fun _ _ _ h => h) (Or.inl ⟨by rfl, ?_⟩) (by assumption) ?_
              rotate_left
              · first | (intro w hSw; (try dsimp only at hSw); go_simp; done) | (intro w hSw; (try dsimp only at hSw); go_simp; with_reducible rfl)
              simp only [Act.put, List.setIfInBounds_toArray, List.set_cons_zero, List.set_cons_succ]
              refine wpAnyH_take (i := 21) (oi := { dst := some 154, op := Op.move (Operand.tmp 8), type := 76, pos := "law.go:50", after := #[{ on := 18, ground := Ground.guard }], guard := some (18, true) }) (v := ?_) rfl (by kernel_rfl) (by kernel_rfl) (by kernel_rfl) (fun _ _ _ h => h) (Or.inl ⟨by rfl, ?_⟩) (by assumption) ?_
              rotate_left
              · first | (intro w hSw; (try dsimp only at hSw); go_simp; done) | (intro w hSw; (try dsimp only at hSw); go_simp; with_reducible rfl)
              simp only [Act.put, List.setIfInBounds_toArray, List.set_cons_zero, List.set_cons_succ]
              refine wpAnyH_take (i := 22) (oi := { dst := some 155, op := Op.move (Operand.tmp 15), type := 3, pos := "law.go:50", after := #[{ on := 18, ground := Ground.guard }], guard := some (18, true) }) (v := ?_) rfl (by kernel_rfl) (by kernel_rfl) (by kernel_rfl) (fun _ _ _ h => h) (Or.inl ⟨by rfl, ?_⟩) (by assumption) ?_
              rotate_left
              · first | (intro w hSw; (try dsimp only at hSw); go_simp; done) | (intro w hSw; (try dsimp only at hSw); go_simp; with_reducible rfl)
              simp only [Act.put, List.setIfInBounds_toArray, List.set_cons_zero, List.set_cons_succ]
              refine wpAnyH_take (i := 23) (oi := { dst := some 156, op := Op.binOp BinOp.sub 3 (Operand.tmp 155) (Operand.const (Value.int IntKind.i64 1)) 3, type := 3, pos := "law.go:50", after := #[{ on := 22, ground := Ground.data }, { on := 18, ground := Ground.guard }], guard := some (18, true) }) (v := ?_) rfl (by kernel_rfl) (by kernel_rfl) (by kernel_rfl) (fun _ _ _ h => h) (Or.inl ⟨by rfl, ?_⟩) (by assumption) ?_
              rotate_left
              · first | (intro w hSw; (try dsimp only at hSw); go_simp; done) | (intro w hSw; (try dsimp only at hSw); go_simp; with_reducible rfl)
              simp only [Act.put, List.setIfInBounds_toArray, List.set_cons_zero, List.set_cons_succ]
              refine wpAnyH_take (i := 24) (oi := { dst := some 157, op := Op.indexAddr 76 (Operand.tmp 154) (Operand.tmp 156), type := 0, pos := "law.go:50", after := #[{ on := 21, ground := Ground.data }, { on := 23, ground := Ground.data }, { on := 18, ground := Ground.guard }], guard := some (18, true) }) (v := ?_) rfl (by kernel_rfl) (by kernel_rfl) (by kernel_rfl) (fun _ _ _ h => h) (Or.inl ⟨by rfl, ?_⟩) (by assumption) ?_
              rotate_left
              · first | (intro w hSw; (try dsimp only at hSw); go_simp; done) | (intro w hSw; (try dsimp only at hSw); go_simp; with_reducible rfl)
              simp only [Act.put, List.setIfInBounds_toArray, List.set_cons_zero, List.set_cons_succ]
              refine wpAnyH_take (i := 25) (oi := { dst := some 158, op := Op.load 49 (Operand.tmp 157), type := 49, pos := "law.go:50", after := #[{ on := 24, ground := Ground.data }, { on := 18, ground := Ground.guard }], guard := some (18, true) }) (v := .agg Y.toList.toArray) rfl (by kernel_rfl) (by kernel_rfl) (by kernel_rfl) (fun _ _ _ h => h) (yieldsIf_load_mid (by rfl) 49 (.tmp 157) rfl gr (P * 32) rfl Y.toList _ (fun _ h => h.1) Tryd.underlying49 rfl (by rw [HYS.out.1]; exact info49)) (by assumption) ?_
              rw [Array.toArray_toList]
              simp only [Act.put, List.setIfInBounds_toArray, List.set_cons_zero, List.set_cons_succ]
              have HEd : Hid (EAt w w21.drew l k i all o g (.slice (some ⟨gr, 0, none⟩) i cr)) := Lib.hid (HE21.out.on (Below.refl _ _).drew)
              have HWd : Hid (Whole w21.drew gq 49 ((sums (lastN k all)).map V8).toArray) := Lib.hid HW21.out
              have HTd : Hid (TIn (Gv l (.slice (some ⟨gr, 0, none⟩) i cr)) w21.drew w21.drew.heap.size t gt) := Lib.hid (HT21.out.on (Below.refl _ _).drew)
              clear hHeld hS0 HE21 HW21 HT21
              generalize w21.drew = w22 at *
              have HRT := Lib.hid (root_any (some t) (some gt) w22 ⟨gt, rfl, HTd.out⟩ (Sh.tab_below HT.out HEd.out.bel hw) (by have := HEd.out.bel.size; omega))
              rw [ptr_some, show topOf (some t) = t from rfl, HYS.out.2] at HRT
              refine wpAnyH_ready (rs := [20]) (by kernel_rfl) (by simp) ?_
              refine AllReadyH.cons rfl (fun K hK => ?_) AllReadyH.nil
              go_simp
              refine HRT.out.mono ?_
              rintro e w23 ⟨rfl, hb23⟩
              have HE23 := Lib.hid (HEd.out.on hb23)
              have HW23 := Lib.hid (HWd.out.below hb23 HWd.out.lt)
              have hS3 : w23.rangeAt gr (P * 32) Y.toList ∧ w23.rangeAt gq (B * 32) Y.toList := by
                rw [← HYS.out.2]
                exact ⟨own_sum HE23.out.row HAL.out.1.2, sums_range HW23.out HAL.out.1.1⟩
              refine hK.out _ _ hS3 (fun hHeld => ?_)
              clear hK K hb23 HRT HEd HWd HTd
              refine wpAnyH_take (i := 26) (oi := { dst := some 159, op := Op.binOp BinOp.neq 49 (Operand.tmp 153) (Operand.tmp 158) 49, type := 4, pos := "law.go:50", after := #[{ on := 20, ground := Ground.data }, { on := 25, ground := Ground.data }, { on := 18, ground := Ground.guard }], guard := some (18, true) }) (v := ?_) rfl (by kernel_rfl) (by kernel_rfl) (by kernel_rfl) (fun _ _ _ h => h) (Or.inl ⟨by rfl, ?_⟩) (by assumption) ?_
              rotate_left
              · first | (intro w hSw; (try dsimp only at hSw); go_simp; done) | (intro w hSw; (try dsimp only at hSw); go_simp; with_reducible rfl)
              simp only [Act.put, List.setIfInBounds_toArray, List.set_cons_zero, List.set_cons_succ]
              refine wpAnyH_take (i := 27) (oi := { dst := some 160, op := Op.move (Operand.tmp 159), type := 4, pos := "law.go:50", after := #[{ on := 26, ground := Ground.data }, { on := 20, ground := Ground.chain }, { on := 18, ground := Ground.guard }], guard := some (18, true) }) (v := ?_) rfl (by kernel_rfl) (by kernel_rfl) (by kernel_rfl) (fun _ _ _ h => h) (Or.inl ⟨by rfl, ?_⟩) (by assumption) ?_
              rotate_left
              · first | (intro w hSw; (try dsimp only at hSw); go_simp; done) | (intro w hSw; (try dsimp only at hSw); go_simp; with_reducible rfl)
              simp only [Act.put, List.setIfInBounds_toArray, List.set_cons_zero, List.set_cons_succ]
              refine wpAnyH_take (i := 28) (oi := { dst := some 161, op := Op.move (Operand.tmp 14), type := 76, pos := "law.go:50", after := #[{ on := 27, ground := Ground.guard }], guard := some (27, false) }) (v := ?_) rfl (by kernel_rfl) (by kernel_rfl) (by kernel_rfl) (fun _ _ _ h => h) (Or.inl ⟨by rfl, ?_⟩) (by assumption) ?_
              rotate_left
              · first | (intro w hSw; (try dsimp only at hSw); go_simp; done) | (intro w hSw; (try dsimp only at hSw); go_simp; with_reducible rfl)
              simp only [Act.put, List.setIfInBounds_toArray, List.set_cons_zero, List.set_cons_succ]
              refine wpAnyH_take (i := 29) (oi := { dst := some 162, op := Op.move (Operand.tmp 15), type := 3, pos := "law.go:50", after := #[{ on := 27, ground := Ground.guard }], guard := some (27, false) }) (v := ?_) rfl (by kernel_rfl) (by kernel_rfl) (by kernel_rfl) (fun _ _ _ h => h) (Or.inl ⟨by rfl, ?_⟩) (by assumption) ?_
              rotate_left
              · first | (intro w hSw; (try dsimp only at hSw); go_simp; done) | (intro w hSw; (try dsimp only at hSw); go_simp; with_reducible rfl)
              simp only [Act.put, List.setIfInBounds_toArray, List.set_cons_zero, List.set_cons_succ]
              refine wpAnyH_take (i := 30) (oi := { dst := some 163, op := Op.binOp BinOp.sub 3 (Operand.tmp 162) (Operand.const (Value.int IntKind.i64 1)) 3, type := 3, pos := "law.go:50", after := #[{ on := 29, ground := Ground.data }, { on := 27, ground := Ground.guard }], guard := some (27, false) }) (v := ?_) rfl (by kernel_rfl) (by kernel_rfl) (by kernel_rfl) (fun _ _ _ h => h) (Or.inl ⟨by rfl, ?_⟩) (by assumption) ?_
              rotate_left
              · first | (intro w hSw; (try dsimp only at hSw); go_simp; done) | (intro w hSw; (try dsimp only at hSw); go_simp; with_reducible rfl)
              simp only [Act.put, List.setIfInBounds_toArray, List.set_cons_zero, List.set_cons_succ]
              refine wpAnyH_take (i := 31) (oi := { dst := some 164, op := Op.move (Operand.tmp 13), type := 3, pos := "law.go:50", after := #[{ on := 27, ground := Ground.guard }], guard := some (27, false) }) (v := ?_) rfl (by kernel_rfl) (by kernel_rfl) (by kernel_rfl) (fun _ _ _ h => h) (Or.inl ⟨by rfl, ?_⟩) (by assumption) ?_
              rotate_left
              · first | (intro w hSw; (try dsimp only at hSw); go_simp; done) | (intro w hSw; (try dsimp only at hSw); go_simp; with_reducible rfl)
              simp only [Act.put, List.setIfInBounds_toArray, List.set_cons_zero, List.set_cons_succ]
              refine wpAnyH_take (i := 32) (oi := { dst := some 165, op := Op.binOp BinOp.sub 3 (Operand.tmp 163) (Operand.tmp 164) 3, type := 3, pos := "law.go:50", after := #[{ on := 30, ground := Ground.data }, { on := 31, ground := Ground.data }, { on := 27, ground := Ground.guard }], guard := some (27, false) }) (v := ?_) rfl (by kernel_rfl) (by kernel_rfl) (by kernel_rfl) (fun _ _ _ h => h) (Or.inl ⟨by rfl, ?_⟩) (by assumption) ?_
              rotate_left
              · first | (intro w hSw; (try dsimp only at hSw); go_simp; done) | (intro w hSw; (try dsimp only at hSw); go_simp; with_reducible rfl)
              simp only [Act.put, List.setIfInBounds_toArray, List.set_cons_zero, List.set_cons_succ]
              refine wpAnyH_take (i := 33) (oi := { dst := some 166, op := Op.indexAddr 76 (Operand.tmp 161) (Operand.tmp 165), type := 0, pos := "law.go:50", after := #[{ on := 28, ground := Ground.data }, { on := 32, ground := Ground.data }, { on := 27, ground := Ground.guard }], guard := some (27, false) }) (v := ?_) rfl (by kernel_rfl) (by kernel_rfl) (by kernel_rfl) (fun _ _ _ h => h) (Or.inl ⟨by rfl, ?_⟩) (by assumption) ?_
              rotate_left
              · first | (intro w hSw; (try dsimp only at hSw); go_simp; done) | (intro w hSw; (try dsimp only at hSw); go_simp; with_reducible rfl)
              simp only [Act.put, List.setIfInBounds_toArray, List.set_cons_zero, List.set_cons_succ]
              refine wpAnyH_take (i := 34) (oi := { dst := some 167, op := Op.load 49 (Operand.tmp 166), type := 49, pos := "law.go:50", after := #[{ on := 33, ground := Ground.data }, { on := 27, ground := Ground.guard }], guard := some (27, false) }) (v := .agg Y.toList.toArray) rfl (by kernel_rfl) (by kernel_rfl) (by kernel_rfl) (fun _ _ _ h => h) (yieldsIf_load_mid (by rfl) 49 (.tmp 166) rfl gq (B * 32) rfl Y.toList _ (fun _ h => h.2) Tryd.underlying49 rfl (by rw [HYS.out.1]; exact info49)) (by assumption) ?_
              rw [Array.toArray_toList]
              simp only [Act.put, List.setIfInBounds_toArray, List.set_cons_zero, List.set_cons_succ]
              refine wpAnyH_take (i := 35) (oi := { dst := some 168, op := Op.move (Operand.tmp 8), type := 76, pos := "law.go:50", after := #[{ on := 27, ground := Ground.guard }], guard := some (27, false) }) (v := ?_) rfl (by kernel_rfl) (by kernel_rfl) (by kernel_rfl) (fun _ _ _ h => h) (Or.inl ⟨by rfl, ?_⟩) (by assumption) ?_
              rotate_left
              · first | (intro w hSw; (try dsimp only at hSw); go_simp; done) | (intro w hSw; (try dsimp only at hSw); go_simp; with_reducible rfl)
              simp only [Act.put, List.setIfInBounds_toArray, List.set_cons_zero, List.set_cons_succ]
              refine wpAnyH_take (i := 36) (oi := { dst := some 169, op := Op.move (Operand.tmp 15), type := 3, pos := "law.go:50", after := #[{ on := 27, ground := Ground.guard }], guard := some (27, false) }) (v := ?_) rfl (by kernel_rfl) (by kernel_rfl) (by kernel_rfl) (fun _ _ _ h => h) (Or.inl ⟨by rfl, ?_⟩) (by assumption) ?_
              rotate_left
              · first | (intro w hSw; (try dsimp only at hSw); go_simp; done) | (intro w hSw; (try dsimp only at hSw); go_simp; with_reducible rfl)
              simp only [Act.put, List.setIfInBounds_toArray, List.set_cons_zero, List.set_cons_succ]
              refine wpAnyH_take (i := 37) (oi := { dst := some 170, op := Op.binOp BinOp.sub 3 (Operand.tmp 169) (Operand.const (Value.int IntKind.i64 1)) 3, type := 3, pos := "law.go:50", after := #[{ on := 36, ground := Ground.data }, { on := 27, ground := Ground.guard }], guard := some (27, false) }) (v := ?_) rfl (by kernel_rfl) (by kernel_rfl) (by kernel_rfl) (fun _ _ _ h => h) (Or.inl ⟨by rfl, ?_⟩) (by assumption) ?_
              rotate_left
              · first | (intro w hSw; (try dsimp only at hSw); go_simp; done) | (intro w hSw; (try dsimp only at hSw); go_simp; with_reducible rfl)
              simp only [Act.put, List.setIfInBounds_toArray, List.set_cons_zero, List.set_cons_succ]
              refine wpAnyH_take (i := 38) (oi := { dst := some 171, op := Op.indexAddr 76 (Operand.tmp 168) (Operand.tmp 170), type := 0, pos := "law.go:50", after := #[{ on := 35, ground := Ground.data }, { on := 37, ground := Ground.data }, { on := 27, ground := Ground.guard }], guard := some (27, false) }) (v := ?_) rfl (by kernel_rfl) (by kernel_rfl) (by kernel_rfl) (fun _ _ _ h => h) (Or.inl ⟨by rfl, ?_⟩) (by assumption) ?_
              rotate_left
              · first | (intro w hSw; (try dsimp only at hSw); go_simp; done) | (intro w hSw; (try dsimp only at hSw); go_simp; with_reducible rfl)
              simp only [Act.put, List.setIfInBounds_toArray, List.set_cons_zero, List.set_cons_succ]
              refine wpAnyH_take (i := 39) (oi := { dst := some 172, op := Op.load 49 (Operand.tmp 171), type := 49, pos := "law.go:50", after := #[{ on := 38, ground := Ground.data }, { on := 27, ground := Ground.guard }], guard := some (27, false) }) (v := .agg Y.toList.toArray) rfl (by kernel_rfl) (by kernel_rfl) (by kernel_rfl) (fun _ _ _ h => h) (yieldsIf_load_mid (by rfl) 49 (.tmp 171) rfl gr (P * 32) rfl Y.toList _ (fun _ h => h.1) Tryd.underlying49 rfl (by rw [HYS.out.1]; exact info49)) (by assumption) ?_
              rw [Array.toArray_toList]
              simp only [Act.put, List.setIfInBounds_toArray, List.set_cons_zero, List.set_cons_succ]
              refine wpAnyH_take (i := 40) (oi := { dst := some 173, op := Op.binOp BinOp.neq 49 (Operand.tmp 167) (Operand.tmp 172) 49, type := 4, pos := "law.go:50", after := #[{ on := 34, ground := Ground.data }, { on := 39, ground := Ground.data }, { on := 27, ground := Ground.guard }], guard := some (27, false) }) (v := ?_) rfl (by kernel_rfl) (by kernel_rfl) (by kernel_rfl) (fun _ _ _ h => h) (Or.inl ⟨by rfl, ?_⟩) (by assumption) ?_
              rotate_left
              · first | (intro w hSw; (try dsimp only at hSw); go_simp; done) | (intro w hSw; (try dsimp only at hSw); go_simp; with_reducible rfl)
              simp only [Act.put, List.setIfInBounds_toArray, List.set_cons_zero, List.set_cons_succ]
              refine wpAnyH_take (i := 41) (oi := { dst := some 174, op := Op.pick (Operand.tmp 160) (Operand.const (Value.bool true)) (Operand.tmp 173), type := 4, pos := "law.go:50", after := #[{ on := 27, ground := Ground.data }, { on := 40, ground := Ground.data }, { on := 18, ground := Ground.guard }], guard := some (18, true) }) (v := ?_) rfl (by kernel_rfl) (by kernel_rfl) (by kernel_rfl) (fun _ _ _ h => h) (Or.inl ⟨by rfl, ?_⟩) (by assumption) ?_
              rotate_left
              · first | (intro w hSw; (try dsimp only at hSw); go_simp; done) | (intro w hSw; (try dsimp only at hSw); go_simp; with_reducible rfl)
              simp only [Act.put, List.setIfInBounds_toArray, List.set_cons_zero, List.set_cons_succ]
              refine wpAnyH_take (i := 42) (oi := { dst := some 175, op := Op.pick (Operand.tmp 151) (Operand.tmp 174) (Operand.const (Value.bool false)), type := 4, pos := "law.go:50", after := #[{ on := 18, ground := Ground.data }, { on := 41, ground := Ground.data }, { on := 16, ground := Ground.guard }], guard := some (16, false) }) (v := ?_) rfl (by kernel_rfl) (by kernel_rfl) (by kernel_rfl) (fun _ _ _ h => h) (Or.inl ⟨by rfl, ?_⟩) (by assumption) ?_
              rotate_left
              · first | (intro w hSw; (try dsimp only at hSw); go_simp; done) | (intro w hSw; (try dsimp only at hSw); go_simp; with_reducible rfl)
              simp only [Act.put, List.setIfInBounds_toArray, List.set_cons_zero, List.set_cons_succ]
              refine wpAnyH_take (i := 43) (oi := { dst := some 176, op := Op.pick (Operand.tmp 149) (Operand.const (Value.bool true)) (Operand.tmp 175), type := 4, pos := "law.go:50", after := #[{ on := 16, ground := Ground.data }, { on := 42, ground := Ground.data }], guard := none }) (v := ?_) rfl (by kernel_rfl) (by kernel_rfl) (by kernel_rfl) (fun _ _ _ h => h) (Or.inl ⟨by rfl, ?_⟩) (by assumption) ?_
              rotate_left
              · first | (intro w hSw; (try dsimp only at hSw); go_simp; done) | (intro w hSw; (try dsimp only at hSw); go_simp; with_reducible rfl)
              simp only [Act.put, List.setIfInBounds_toArray, List.set_cons_zero, List.set_cons_succ]
              refine wpAnyH_done (by kernel_rfl) ?_ _
              clear hHeld hS3 e1
              go_wp2_with fail
              go_roundg gn
              case measure => omega
              case rel => exact ⟨j + 1, by omega, congrArg (Value.int .i64) (by omega), HE23.out, HW23.out⟩
      have hnc1 : n1 ≤ c1 := m1
      have hd80 : decide ((80 : Int) < (i : Int)) = false := decide_eq_false (by omega)
      have HCK := Lib.hid (key_any a A1 A2 n1 c1 n2 c2 w3 ((HR.out.1.below HE3.out.bel (Nat.le_refl _)).more HE3.out.bel.size) m1)
      go_upto_region 11 with (fail)
      refine wp_region_lit ?_
      iterate 9 go_step
      refine wpList_load_w rfl 29 (.tmp 10) rfl g3 0 rfl [.int .u8 a.kind.toNat, .int .u8 a.no.toNat, .slice A1 n1 c1, .slice A2 n2 c2] _ HW3.out.range Tryd.underlying29 rfl (by exact info29) ?_
      go_wp2_with fail
      refine HCK.out.mono ?_
      rintro e w4 ⟨Ak, nk, ck, rfl, hrk, hnck, hb4⟩
      have HKL := Lib.hid hrk.len
      have HW4 := Lib.hid (HW3.out.below hb4 hs3)
      have HE4 := Lib.hid (HE3.out.on hb4)
      have hs4 : g3 < w4.heap.size := Nat.lt_of_lt_of_le hs3 hb4.size
      clear hrk hb4 HCK HW3 HE3 hs3
      by_cases hk90 : 90 < nk
      · have hen := HE4.out.len
        obtain ⟨F, hF⟩ : ∃ F : Nat, F = i - k := ⟨_, rfl⟩
        have hFe : (if k < i then (i : Int) - (k : Int) else 0) = (F : Int) := by split <;> omega
        obtain ⟨R, hR⟩ : ∃ R : Nat, R = i - F := ⟨_, rfl⟩
        have hlR : (lastN k all).length = R := by rw [lastN_len, hen]; omega
        have hRF : wrap64 ((i : Int) - (F : Int)) = (R : Int) := by unfold wrap64; omega
        have HFR := Lib.hid (And.intro hF (And.intro hR (And.intro hlR hen)))
        have HRO := Lib.hid (roots_any w4 l k i _ HE4.out.log (Sh.tab_below HT.out HE4.out.bel hw) (by have := HE4.out.bel.size; omega))
        rw [ptr_some] at HRO
        clear hF hR hlR hen
        go_upto_region 19 with (fail)
        clear hFe
        go_wp2_with fail
        refine HRO.out.mono ?_
        rintro e w20 ⟨gq, rfl, _, hW20, hb20⟩
        rw [HFR.out.2.2.1]
        have HE20 := Lib.hid (HE4.out.on hb20)
        have HW20 := Lib.hid hW20
        have hs20 := hb20.size
        clear hW20 hb20 HRO
        go_wp2_with fail
        rw [hRF]
        clear hRF
        go_loopg [114] (i + 2) (fun gk s114 wx => ∃ j, j + gk = i + 2 ∧ s114 = .int .i64 (j : Nat) ∧ EAt w wx l k i all o g (.slice Ar i cr) ∧ Whole wx gq 49 ((sums (lastN k all)).map V8).toArray)
        case atStart => exact ⟨0, by omega, rfl, HE20.out, HW20.out⟩
        case round =>
          clear HE20 HW20
          obtain ⟨j, hj, rfl, hE, hW⟩ := hrel
          have hsx := hE.bel.size
          have HEj := Lib.hid hE
          have HWj := Lib.hid hW
          clear hE hW
          cases gk with
          | zero =>
            obtain rfl : j = i + 2 := by omega
            have HAT := Lib.hid (at_any (G := Gv l (.slice Ar i cr)) wr l k i 18446744073709551615 _ HEj.out.log (by omega) (by omega) (HEj.out.room (by omega)))
            rw [ptr_some] at HAT
            have hwi : IntKind.u64.wrap (i : Int) = (i : Int) := IntWalk.u64_in _ ⟨by omega, by omega⟩
            go_wp2_with fail
            refine HAT.out.mono ?_
            rintro e w21 hpost
            rcases hpost with ⟨_, rfl, hb21⟩ | ⟨t, gt, h1, h2, _⟩
            rotate_left
            · exact absurd h2 (by omega)
            have HE21 := Lib.hid (HEj.out.on hb21)
            have HLA := Lib.hid (last_any w21 l k i _ HE21.out.log)
            rw [ptr_some] at HLA
            clear hb21 HAT
            go_wp2_with fail
            refine HLA.out.mono ?_
            rintro e w22 ⟨rfl, rfl⟩
            go_wp2_with fail
            go_ret
            exact ⟨rfl, HE21.out.bel⟩
          | succ gn =>
            have hj2 : j < i + 2 := by omega
            have HAT := Lib.hid (at_any (G := Gv l (.slice Ar i cr)) wr l k i j _ HEj.out.log (by omega) (by omega) (HEj.out.room (by omega)))
            rw [ptr_some] at HAT
            have hwj : IntKind.u64.wrap (j : Int) = (j : Int) := IntWalk.u64_in _ ⟨by omega, by omega⟩
            go_wp2_with fail
            refine HAT.out.mono ?_
            rintro e w21 hpost
            rcases hpost with ⟨hno, rfl, hb21⟩ | ⟨t, gt, h1, h2, ht, rfl, _, hT21, hb21⟩
            · have HE21 := Lib.hid (HEj.out.on hb21)
              have HW21 := Lib.hid (HWj.out.below hb21 HWj.out.lt)
              have hno' : ¬ (F < j ∧ j ≤ i) := by
                obtain ⟨f1, f2, f3, f4⟩ := HFR.out
                rw [f3] at hno
                omega
              clear hno hb21 HAT
              obtain ⟨D2, hD2⟩ : ∃ D2, decide (j ≤ i) = D2 := ⟨_, rfl⟩
              obtain ⟨D1, hD1⟩ : ∃ D1, decide (F < j) = D1 := ⟨_, rfl⟩
              have hDD : (D1 && D2) = false := by
                rw [← hD1, ← hD2, ← Bool.not_eq_true, Bool.and_eq_true, decide_eq_true_iff, decide_eq_true_iff]
                omega
              have HNO := Lib.hid hno'
              clear hno'
              cases D1 with
              | false =>
                go_upto_region 27 with (fail)
                go_quiet (fail)
                have hbd : Below w21.heap.size w21 (w21.drewN nq) := below_drewN (Below.refl _ _) nq
                have HEd := Lib.hid (HE21.out.on hbd)
                have HWd := Lib.hid (HW21.out.drewN nq)
                clear hbd HE21 HW21
                generalize w21.drewN nq = w22 at *
                go_wp2_with fail
                go_roundg gn
                case measure => omega
                case rel => exact ⟨j + 1, by omega, congrArg (Value.int .i64) (by omega), HEd.out, HWd.out⟩
              | true =>
                obtain rfl : D2 = false := by simpa using hDD
                go_upto_region 27 with (fail)
                go_quiet (fail)
                have hbd : Below w21.heap.size w21 (w21.drewN nq) := below_drewN (Below.refl _ _) nq
                have HEd := Lib.hid (HE21.out.on hbd)
                have HWd := Lib.hid (HW21.out.drewN nq)
                clear hbd HE21 HW21
                generalize w21.drewN nq = w22 at *
                go_wp2_with fail
                go_roundg gn
                case measure => omega
                case rel => exact ⟨j + 1, by omega, congrArg (Value.int .i64) (by omega), HEd.out, HWd.out⟩
            · obtain ⟨hFj, hji, P, hP, B, hB, hall⟩ : F < j ∧ j ≤ i ∧ ∃ P, P = j - 1 ∧ ∃ B, B = P - F ∧ (lastN k all)[B]? = some t ∧ all[P]? = some t := by
                obtain ⟨f1, f2, f3, f4⟩ := HFR.out
                rw [f3] at h1 ht
                refine ⟨by omega, h2, j - 1, rfl, j - 1 - F, rfl, ?_, ?_⟩
                · rw [← ht]; congr 1; omega
                · rw [lastN_at] at ht
                  rw [← ht]; congr 1; omega
              have HE21 := Lib.hid (HEj.out.on hb21)
              have HW21 := Lib.hid (HWj.out.below hb21 HWj.out.lt)
              have HT21 := Lib.hid hT21
              have hd1 : decide (F < j) = true := decide_eq_true hFj
              have hd2 : decide (j ≤ i) = true := decide_eq_true hji
              have hPi : P < i := by omega
              have hBR : B < R := by have := HFR.out.2.1; omega
              have hwP : wrap64 ((j : Int) - 1) = (P : Int) := by unfold wrap64; omega
              have hwB : wrap64 ((P : Int) - (F : Int)) = (B : Int) := by unfold wrap64; omega
              have hwP' : IntKind.i64.wrap ((j : Int) - 1) = (P : Int) := by rw [show (j : Int) - 1 = (P : Int) by omega]; exact IntWalk.i64_in _ ⟨by omega, by omega⟩
              have hwB' : IntKind.i64.wrap ((P : Int) - (F : Int)) = (B : Int) := by rw [show (P : Int) - (F : Int) = (B : Int) by omega]; exact IntWalk.i64_in _ ⟨by omega, by omega⟩
              obtain ⟨gr, cr2, hvr, _, _⟩ := HE21.out.row.form (by omega)
              obtain ⟨rfl, rfl⟩ : Ar = some ⟨gr, 0, none⟩ ∧ cr = cr2 := by cases hvr; exact ⟨rfl, rfl⟩
              have HAL := Lib.hid (And.intro hall (And.intro hP (And.intro hB (And.intro hFj hji))))
              obtain ⟨Y, hY⟩ : ∃ Y, Sh.bcells (osum t) = Y := ⟨_, rfl⟩
              have e1 : ∀ w, Sem.run Tryd.prog (Op.equalIn 10000 49 (.agg Y) (.agg Y)) w = .ok true w := fun w => by
                have := run_eq49 (osum t) (osum t) (osum32 t) (osum32 t) w
                rw [hY, show (osum t == osum t) = true by simp] at this
                exact this
              have hYs : Y.toList.length = 32 := by rw [← hY]; simp [Sh.bcells, osum32]
              have hS0 : w21.drew.rangeAt gr (P * 32) Y.toList ∧ w21.drew.rangeAt gq (B * 32) Y.toList := by
                rw [← hY]
                exact ⟨own_sum HE21.out.row hall.2, sums_range HW21.out hall.1⟩
              have HYS := Lib.hid (And.intro hYs hY)
              rw [ptr_some]
              clear h1 h2 ht hT21 hb21 HAT hall hFj hji hP hB hYs hY hvr
              go_upto_region 27 with (fail)
              refine wp_region_held_drew (S := fun w' => w'.rangeAt gr (P * 32) Y.toList ∧ w'.rangeAt gq (B * 32) Y.toList) (by kernel_rfl) hS0 (fun hHeld => ?_)
              refine wpAnyH_take (i := 0) (oi := { dst := some 133, op := Op.move (Operand.tmp 17), type := 34, pos := "law.go:50", after := #[], guard := none }) (v := ?_) rfl (by kernel_rfl) (by kernel_rfl) (by kernel_rfl) (fun _ _ _ h => h) (Or.inl ⟨by rfl, ?_⟩) (by assumption) ?_
              rotate_left
              · first | (intro w hSw; (try dsimp only at hSw); go_simp; done) | (intro w hSw; (try dsimp only at hSw); go_simp; with_reducible rfl)
              simp only [Act.put, List.setIfInBounds_toArray, List.set_cons_zero, List.set_cons_succ]
              refine wpAnyH_take (i := 1) (oi := { dst := some 134, op := Op.binOp BinOp.eql 34 (Operand.tmp 133) (Operand.const (Value.int IntKind.i64 0)) 34, type := 4, pos := "law.go:50", after := #[{ on := 0, ground := Ground.data }], guard := none }) (v := ?_) rfl (by kernel_rfl) (by kernel_rfl) (by kernel_rfl) (fun _ _ _ h => h) (Or.inl ⟨by rfl, ?_⟩) (by assumption) ?_
              rotate_left
              · first | (intro w hSw; (try dsimp only at hSw); go_simp; done) | (intro w hSw; (try dsimp only at hSw); go_simp; with_reducible rfl)
              simp only [Act.put, List.setIfInBounds_toArray, List.set_cons_zero, List.set_cons_succ]
              refine wpAnyH_take (i := 2) (oi := { dst := some 135, op := Op.move (Operand.tmp 18), type := 4, pos := "law.go:50", after := #[], guard := none }) (v := ?_) rfl (by kernel_rfl) (by kernel_rfl) (by kernel_rfl) (fun _ _ _ h => h) (Or.inl ⟨by rfl, ?_⟩) (by assumption) ?_
              rotate_left
              · first | (intro w hSw; (try dsimp only at hSw); go_simp; done) | (intro w hSw; (try dsimp only at hSw); go_simp; with_reducible rfl)
              simp only [Act.put, List.setIfInBounds_toArray, List.set_cons_zero, List.set_cons_succ]
              refine wpAnyH_take (i := 3) (oi := { dst := some 136, op := Op.binOp BinOp.neq 4 (Operand.tmp 134) (Operand.tmp 135) 4, type := 4, pos := "law.go:50", after := #[{ on := 1, ground := Ground.data }, { on := 2, ground := Ground.data }], guard := none }) (v := ?_) rfl (by kernel_rfl) (by kernel_rfl) (by kernel_rfl) (fun _ _ _ h => h) (Or.inl ⟨by rfl, ?_⟩) (by assumption) ?_
              rotate_left
              · first | (intro w hSw; (try dsimp only at hSw); go_simp; done) | (intro w hSw; (try dsimp only at hSw); go_simp; with_reducible rfl)
              simp only [Act.put, List.setIfInBounds_toArray, List.set_cons_zero, List.set_cons_succ]
              refine wpAnyH_take (i := 4) (oi := { dst := some 137, op := Op.move (Operand.tmp 136), type := 4, pos := "law.go:50", after := #[{ on := 3, ground := Ground.data }], guard := none }) (v := ?_) rfl (by kernel_rfl) (by kernel_rfl) (by kernel_rfl) (fun _ _ _ h => h) (Or.inl ⟨by rfl, ?_⟩) (by assumption) ?_
              rotate_left
              · first | (intro w hSw; (try dsimp only at hSw); go_simp; done) | (intro w hSw; (try dsimp only at hSw); go_simp; with_reducible rfl)
              simp only [Act.put, List.setIfInBounds_toArray, List.set_cons_zero, List.set_cons_succ]
              refine wpAnyH_take (i := 5) (oi := { dst := some 138, op := Op.move (Operand.tmp 18), type := 4, pos := "law.go:50", after := #[{ on := 4, ground := Ground.guard }], guard := some (4, false) }) (v := ?_) rfl (by kernel_rfl) (by kernel_rfl) (by kernel_rfl) (fun _ _ _ h => h) (Or.inl ⟨by rfl, ?_⟩) (by assumption) ?_
              rotate_left
              · first | (intro w hSw; (try dsimp only at hSw); go_simp; done) | (intro w hSw; (try dsimp only at hSw); go_simp; with_reducible rfl)
              simp only [Act.put, List.setIfInBounds_toArray, List.set_cons_zero, List.set_cons_succ]
              refine wpAnyH_take (i := 6) (oi := { dst := some 139, op := Op.unOp UnOp.not 4 (Operand.tmp 138), type := 4, pos := "law.go:50", after := #[{ on := 5, ground := Ground.data }, { on := 4, ground := Ground.guard }], guard := some (4, false) }) (v := ?_) rfl (by kernel_rfl) (by kernel_rfl) (by kernel_rfl) (fun _ _ _ h => h) (Or.inl ⟨by rfl, ?_⟩) (by assumption) ?_
              rotate_left
              · first | (intro w hSw; (try dsimp only at hSw); go_simp; done) | (intro w hSw; (try dsimp only at hSw); go_simp; with_reducible rfl)
              simp only [Act.put, List.setIfInBounds_toArray, List.set_cons_zero, List.set_cons_succ]
              refine wpAnyH_take (i := 7) (oi := { dst := some 140, op := Op.move (Operand.tmp 139), type := 4, pos := "law.go:50", after := #[{ on := 6, ground := Ground.data }, { on := 4, ground := Ground.chain }, { on := 4, ground := Ground.guard }], guard := some (4, false) }) (v := ?_) rfl (by kernel_rfl) (by kernel_rfl) (by kernel_rfl) (fun _ _ _ h => h) (Or.inl ⟨by rfl, ?_⟩) (by assumption) ?_
              rotate_left
              · first | (intro w hSw; (try dsimp only at hSw); go_simp; done) | (intro w hSw; (try dsimp only at hSw); go_simp; with_reducible rfl)
              simp only [Act.put, List.setIfInBounds_toArray, List.set_cons_zero, List.set_cons_succ]
              refine wpAnyH_take (i := 8) (oi := { dst := some 141, op := Op.move (Operand.tmp 17), type := 34, pos := "law.go:50", after := #[{ on := 7, ground := Ground.guard }], guard := some (7, true) }) (v := undef) rfl (by kernel_rfl) (by kernel_rfl) (by kernel_rfl) (fun _ _ _ h => h) (Or.inr ⟨by rfl, rfl⟩) (by assumption) ?_
              simp only [Act.put, List.setIfInBounds_toArray, List.set_cons_zero, List.set_cons_succ]
              refine wpAnyH_take (i := 9) (oi := { dst := some 142, op := Op.binOp BinOp.neq 34 (Operand.tmp 141) (Operand.const (Value.int IntKind.i64 11)) 34, type := 4, pos := "law.go:50", after := #[{ on := 8, ground := Ground.data }, { on := 7, ground := Ground.guard }], guard := some (7, true) }) (v := undef) rfl (by kernel_rfl) (by kernel_rfl) (by kernel_rfl) (fun _ _ _ h => h) (Or.inr ⟨by rfl, rfl⟩) (by assumption) ?_
              simp only [Act.put, List.setIfInBounds_toArray, List.set_cons_zero, List.set_cons_succ]
              refine wpAnyH_take (i := 10) (oi := { dst := some 143, op := Op.move (Operand.tmp 142), type := 4, pos := "law.go:50", after := #[{ on := 9, ground := Ground.data }, { on := 7, ground := Ground.chain }, { on := 7, ground := Ground.guard }], guard := some (7, true) }) (v := undef) rfl (by kernel_rfl) (by kernel_rfl) (by kernel_rfl) (fun _ _ _ h => h) (Or.inr ⟨by rfl, rfl⟩) (by assumption) ?_
              simp only [Act.put, List.setIfInBounds_toArray, List.set_cons_zero, List.set_cons_succ]
              refine wpAnyH_take (i := 11) (oi := { dst := some 144, op := Op.move (Operand.tmp 16), type := 24, pos := "law.go:50", after := #[{ on := 10, ground := Ground.guard }], guard := some (10, false) }) (v := undef) rfl (by kernel_rfl) (by kernel_rfl) (by kernel_rfl) (fun _ _ _ h => h) (Or.inr ⟨by rfl, rfl⟩) (by assumption) ?_
              simp only [Act.put, List.setIfInBounds_toArray, List.set_cons_zero, List.set_cons_succ]
              refine wpAnyH_take (i := 12) (oi := { dst := some 145, op := Op.binOp BinOp.neq 24 (Operand.tmp 144) (Operand.const (Value.pointer none)) 24, type := 4, pos := "law.go:50", after := #[{ on := 11, ground := Ground.data }, { on := 10, ground := Ground.guard }], guard := some (10, false) }) (v := undef) rfl (by kernel_rfl) (by kernel_rfl) (by kernel_rfl) (fun _ _ _ h => h) (Or.inr ⟨by rfl, rfl⟩) (by assumption) ?_
              simp only [Act.put, List.setIfInBounds_toArray, List.set_cons_zero, List.set_cons_succ]
              refine wpAnyH_take (i := 13) (oi := { dst := some 146, op := Op.pick (Operand.tmp 143) (Operand.const (Value.bool true)) (Operand.tmp 145), type := 4, pos := "law.go:50", after := #[{ on := 10, ground := Ground.data }, { on := 12, ground := Ground.data }, { on := 7, ground := Ground.guard }], guard := some (7, true) }) (v := undef) rfl (by kernel_rfl) (by kernel_rfl) (by kernel_rfl) (fun _ _ _ h => h) (Or.inr ⟨by rfl, rfl⟩) (by assumption) ?_
              simp only [Act.put, List.setIfInBounds_toArray, List.set_cons_zero, List.set_cons_succ]
              refine wpAnyH_take (i := 14) (oi := { dst := some 147, op := Op.pick (Operand.tmp 140) (Operand.tmp 146) (Operand.const (Value.bool false)), type := 4, pos := "law.go:50", after := #[{ on := 7, ground := Ground.data }, { on := 13, ground := Ground.data }, { on := 4, ground := Ground.guard }], guard := some (4, false) }) (v := ?_) rfl (by kernel_rfl) (by kernel_rfl) (by kernel_rfl) (fun _ _ _ h => h) (Or.inl ⟨by rfl, ?_⟩) (by assumption) ?_
              rotate_left
              · first | (intro w hSw; (try dsimp only at hSw); go_simp; done) | (intro w hSw; (try dsimp only at hSw); go_simp; with_reducible rfl)
              simp only [Act.put, List.setIfInBounds_toArray, List.set_cons_zero, List.set_cons_succ]
              refine wpAnyH_take (i := 15) (oi := { dst := some 148, op := Op.pick (Operand.tmp 137) (Operand.const (Value.bool true)) (Operand.tmp 147), type := 4, pos := "law.go:50", after := #[{ on := 4, ground := Ground.data }, { on := 14, ground := Ground.data }], guard := none }) (v := ?_) rfl (by kernel_rfl) (by kernel_rfl) (by kernel_rfl) (fun _ _ _ h => h) (Or.inl ⟨by rfl, ?_⟩) (by assumption) ?_
              rotate_left
              · first | (intro w hSw; (try dsimp only at hSw); go_simp; done) | (intro w hSw; (try dsimp only at hSw); go_simp; with_reducible rfl)
              simp only [Act.put, List.setIfInBounds_toArray, List.set_cons_zero, List.set_cons_succ]
              refine wpAnyH_take (i := 16) (oi := { dst := some 149, op := Op.move (Operand.tmp 148), type := 4, pos := "law.go:50", after := #[{ on := 15, ground := Ground.data }, { on := 10, ground := Ground.chain }], guard := none }) (v := ?_) rfl (by kernel_rfl) (by kernel_rfl) (by kernel_rfl) (fun _ _ _ h => h) (Or.inl ⟨by rfl, ?_⟩) (by assumption) ?_
              rotate_left
              · first | (intro w hSw; (try dsimp only at hSw); go_simp; done) | (intro w hSw; (try dsimp only at hSw); go_simp; with_reducible rfl)
              simp only [Act.put, List.setIfInBounds_toArray, List.set_cons_zero, List.set_cons_succ]
              refine wpAnyH_take (i := 17) (oi := { dst := some 150, op := Op.move (Operand.tmp 18), type := 4, pos := "law.go:50", after := #[{ on := 16, ground := Ground.guard }], guard := some (16, false) }) (v := ?_) rfl (by kernel_rfl) (by kernel_rfl) (by kernel_rfl) (fun _ _ _ h => h) (Or.inl ⟨by rfl, ?_⟩) (by assumption) ?_
              rotate_left
              · first | (intro w hSw; (try dsimp only at hSw); go_simp; done) | (intro w hSw; (try dsimp only at hSw); go_simp; with_reducible rfl)
              simp only [Act.put, List.setIfInBounds_toArray, List.set_cons_zero, List.set_cons_succ]
              refine wpAnyH_take (i := 18) (oi := { dst := some 151, op := Op.move (Operand.tmp 150), type := 4, pos := "law.go:50", after := #[{ on := 17, ground := Ground.data }, { on := 16, ground := Ground.chain }, { on := 16, ground := Ground.guard }], guard := some (16, false) }) (v := ?_) rfl (by kernel_rfl) (by kernel_rfl) (by kernel_rfl) (fun _ _ _ h => h) (Or.inl ⟨by rfl, ?_⟩) (by assumption) ?_
              rotate_left
              · first | (intro w hSw; (try dsimp only at hSw); go_simp; done) | (intro w hSw; (try dsimp only at hSw); go_simp; with_reducible rfl)
              simp only [Act.put, List.setIfInBounds_toArray, List.set_cons_zero, List.set_cons_succ]
              refine wpAnyH_take (i := 19) (oi := { dst := some 152, op := Op.move (Operand.tmp 16), type := 24, pos := "law.go:50", after := #[{ on := 18, ground := Ground.guard }], guard := some (18, true) }) (v := ?_) rfl (by kernel_rfl) (by kernel_rfl) (by kernel_rfl) (fun _ _ _ h => h) (Or.inl ⟨by rfl, ?_⟩) (by assumption) ?_
              rotate_left
              · first | (intro w hSw; (try dsimp only at hSw); go_simp; done) | (intro w hSw; (try dsimp only at hSw); go_simp; with_reducible rfl)
              simp only [Act.put, List.setIfInBounds_toArray, List.set_cons_zero, List.set_cons_succ]
              refine wpAnyH_take (i := 21) (oi := { dst := some 154, op := Op.move (Operand.tmp 8), type := 76, pos := "law.go:50", after := #[{ on := 18, ground := Ground.guard }], guard := some (18, true) }) (v := ?_) rfl (by kernel_rfl) (by kernel_rfl) (by kernel_rfl) (fun _ _ _ h => h) (Or.inl ⟨by rfl, ?_⟩) (by assumption) ?_
              rotate_left
              · first | (intro w hSw; (try dsimp only at hSw); go_simp; done) | (intro w hSw; (try dsimp only at hSw); go_simp; with_reducible rfl)
              simp only [Act.put, List.setIfInBounds_toArray, List.set_cons_zero, List.set_cons_succ]
              refine wpAnyH_take (i := 22) (oi := { dst := some 155, op := Op.move (Operand.tmp 15), type := 3, pos := "law.go:50", after := #[{ on := 18, ground := Ground.guard }], guard := some (18, true) }) (v := ?_) rfl (by kernel_rfl) (by kernel_rfl) (by kernel_rfl) (fun _ _ _ h => h) (Or.inl ⟨by rfl, ?_⟩) (by assumption) ?_
              rotate_left
              · first | (intro w hSw; (try dsimp only at hSw); go_simp; done) | (intro w hSw; (try dsimp only at hSw); go_simp; with_reducible rfl)
              simp only [Act.put, List.setIfInBounds_toArray, List.set_cons_zero, List.set_cons_succ]
              refine wpAnyH_take (i := 23) (oi := { dst := some 156, op := Op.binOp BinOp.sub 3 (Operand.tmp 155) (Operand.const (Value.int IntKind.i64 1)) 3, type := 3, pos := "law.go:50", after := #[{ on := 22, ground := Ground.data }, { on := 18, ground := Ground.guard }], guard := some (18, true) }) (v := ?_) rfl (by kernel_rfl) (by kernel_rfl) (by kernel_rfl) (fun _ _ _ h => h) (Or.inl ⟨by rfl, ?_⟩) (by assumption) ?_
              rotate_left
              · first | (intro w hSw; (try dsimp only at hSw); go_simp; done) | (intro w hSw; (try dsimp only at hSw); go_simp; with_reducible rfl)
              simp only [Act.put, List.setIfInBounds_toArray, List.set_cons_zero, List.set_cons_succ]
              refine wpAnyH_take (i := 24) (oi := { dst := some 157, op := Op.indexAddr 76 (Operand.tmp 154) (Operand.tmp 156), type := 0, pos := "law.go:50", after := #[{ on := 21, ground := Ground.data }, { on := 23, ground := Ground.data }, { on := 18, ground := Ground.guard }], guard := some (18, true) }) (v := ?_) rfl (by kernel_rfl) (by kernel_rfl) (by kernel_rfl) (fun _ _ _ h => h) (Or.inl ⟨by rfl, ?_⟩) (by assumption) ?_
              rotate_left
              · first | (intro w hSw; (try dsimp only at hSw); go_simp; done) | (intro w hSw; (try dsimp only at hSw); go_simp; with_reducible rfl)
              simp only [Act.put, List.setIfInBounds_toArray, List.set_cons_zero, List.set_cons_succ]
              refine wpAnyH_take (i := 25) (oi := { dst := some 158, op := Op.load 49 (Operand.tmp 157), type := 49, pos := "law.go:50", after := #[{ on := 24, ground := Ground.data }, { on := 18, ground := Ground.guard }], guard := some (18, true) }) (v := .agg Y.toList.toArray) rfl (by kernel_rfl) (by kernel_rfl) (by kernel_rfl) (fun _ _ _ h => h) (yieldsIf_load_mid (by rfl) 49 (.tmp 157) rfl gr (P * 32) rfl Y.toList _ (fun _ h => h.1) Tryd.underlying49 rfl (by rw [HYS.out.1]; exact info49)) (by assumption) ?_
              rw [Array.toArray_toList]
              simp only [Act.put, List.setIfInBounds_toArray, List.set_cons_zero, List.set_cons_succ]
              have HEd : Hid (EAt w w21.drew l k i all o g (.slice (some ⟨gr, 0, none⟩) i cr)) := Lib.hid (HE21.out.on (Below.refl _ _).drew)
              have HWd : Hid (Whole w21.drew gq 49 ((sums (lastN k all)).map V8).toArray) := Lib.hid HW21.out
              have HTd : Hid (TIn (Gv l (.slice (some ⟨gr, 0, none⟩) i cr)) w21.drew w21.drew.heap.size t gt) := Lib.hid (HT21.out.on (Below.refl _ _).drew)
              clear hHeld hS0 HE21 HW21 HT21
              generalize w21.drew = w22 at *
              have HRT := Lib.hid (root_any (some t) (some gt) w22 ⟨gt, rfl, HTd.out⟩ (Sh.tab_below HT.out HEd.out.bel hw) (by have := HEd.out.bel.size; omega))
              rw [ptr_some, show topOf (some t) = t from rfl, HYS.out.2] at HRT
              refine wpAnyH_ready (rs := [20]) (by kernel_rfl) (by simp) ?_
              refine AllReadyH.cons rfl (fun K hK => ?_) AllReadyH.nil
              go_simp
              refine HRT.out.mono ?_
              rintro e w23 ⟨rfl, hb23⟩
              have HE23 := Lib.hid (HEd.out.on hb23)
              have HW23 := Lib.hid (HWd.out.below hb23 HWd.out.lt)
              have hS3 : w23.rangeAt gr (P * 32) Y.toList ∧ w23.rangeAt gq (B * 32) Y.toList := by
                rw [← HYS.out.2]
                exact ⟨own_sum HE23.out.row HAL.out.1.2, sums_range HW23.out HAL.out.1.1⟩
              refine hK.out _ _ hS3 (fun hHeld => ?_)
              clear hK K hb23 HRT HEd HWd HTd
              refine wpAnyH_take (i := 26) (oi := { dst := some 159, op := Op.binOp BinOp.neq 49 (Operand.tmp 153) (Operand.tmp 158) 49, type := 4, pos := "law.go:50", after := #[{ on := 20, ground := Ground.data }, { on := 25, ground := Ground.data }, { on := 18, ground := Ground.guard }], guard := some (18, true) }) (v := ?_) rfl (by kernel_rfl) (by kernel_rfl) (by kernel_rfl) (fun _ _ _ h => h) (Or.inl ⟨by rfl, ?_⟩) (by assumption) ?_
              rotate_left
              · first | (intro w hSw; (try dsimp only at hSw); go_simp; done) | (intro w hSw; (try dsimp only at hSw); go_simp; with_reducible rfl)
              simp only [Act.put, List.setIfInBounds_toArray, List.set_cons_zero, List.set_cons_succ]
              refine wpAnyH_take (i := 27) (oi := { dst := some 160, op := Op.move (Operand.tmp 159), type := 4, pos := "law.go:50", after := #[{ on := 26, ground := Ground.data }, { on := 20, ground := Ground.chain }, { on := 18, ground := Ground.guard }], guard := some (18, true) }) (v := ?_) rfl (by kernel_rfl) (by kernel_rfl) (by kernel_rfl) (fun _ _ _ h => h) (Or.inl ⟨by rfl, ?_⟩) (by assumption) ?_
              rotate_left
              · first | (intro w hSw; (try dsimp only at hSw); go_simp; done) | (intro w hSw; (try dsimp only at hSw); go_simp; with_reducible rfl)
              simp only [Act.put, List.setIfInBounds_toArray, List.set_cons_zero, List.set_cons_succ]
              refine wpAnyH_take (i := 28) (oi := { dst := some 161, op := Op.move (Operand.tmp 14), type := 76, pos := "law.go:50", after := #[{ on := 27, ground := Ground.guard }], guard := some (27, false) }) (v := ?_) rfl (by kernel_rfl) (by kernel_rfl) (by kernel_rfl) (fun _ _ _ h => h) (Or.inl ⟨by rfl, ?_⟩) (by assumption) ?_
              rotate_left
              · first | (intro w hSw; (try dsimp only at hSw); go_simp; done) | (intro w hSw; (try dsimp only at hSw); go_simp; with_reducible rfl)
              simp only [Act.put, List.setIfInBounds_toArray, List.set_cons_zero, List.set_cons_succ]
              refine wpAnyH_take (i := 29) (oi := { dst := some 162, op := Op.move (Operand.tmp 15), type := 3, pos := "law.go:50", after := #[{ on := 27, ground := Ground.guard }], guard := some (27, false) }) (v := ?_) rfl (by kernel_rfl) (by kernel_rfl) (by kernel_rfl) (fun _ _ _ h => h) (Or.inl ⟨by rfl, ?_⟩) (by assumption) ?_
              rotate_left
              · first | (intro w hSw; (try dsimp only at hSw); go_simp; done) | (intro w hSw; (try dsimp only at hSw); go_simp; with_reducible rfl)
              simp only [Act.put, List.setIfInBounds_toArray, List.set_cons_zero, List.set_cons_succ]
              refine wpAnyH_take (i := 30) (oi := { dst := some 163, op := Op.binOp BinOp.sub 3 (Operand.tmp 162) (Operand.const (Value.int IntKind.i64 1)) 3, type := 3, pos := "law.go:50", after := #[{ on := 29, ground := Ground.data }, { on := 27, ground := Ground.guard }], guard := some (27, false) }) (v := ?_) rfl (by kernel_rfl) (by kernel_rfl) (by kernel_rfl) (fun _ _ _ h => h) (Or.inl ⟨by rfl, ?_⟩) (by assumption) ?_
              rotate_left
              · first | (intro w hSw; (try dsimp only at hSw); go_simp; done) | (intro w hSw; (try dsimp only at hSw); go_simp; with_reducible rfl)
              simp only [Act.put, List.setIfInBounds_toArray, List.set_cons_zero, List.set_cons_succ]
              refine wpAnyH_take (i := 31) (oi := { dst := some 164, op := Op.move (Operand.tmp 13), type := 3, pos := "law.go:50", after := #[{ on := 27, ground := Ground.guard }], guard := some (27, false) }) (v := ?_) rfl (by kernel_rfl) (by kernel_rfl) (by kernel_rfl) (fun _ _ _ h => h) (Or.inl ⟨by rfl, ?_⟩) (by assumption) ?_
              rotate_left
              · first | (intro w hSw; (try dsimp only at hSw); go_simp; done) | (intro w hSw; (try dsimp only at hSw); go_simp; with_reducible rfl)
              simp only [Act.put, List.setIfInBounds_toArray, List.set_cons_zero, List.set_cons_succ]
              refine wpAnyH_take (i := 32) (oi := { dst := some 165, op := Op.binOp BinOp.sub 3 (Operand.tmp 163) (Operand.tmp 164) 3, type := 3, pos := "law.go:50", after := #[{ on := 30, ground := Ground.data }, { on := 31, ground := Ground.data }, { on := 27, ground := Ground.guard }], guard := some (27, false) }) (v := ?_) rfl (by kernel_rfl) (by kernel_rfl) (by kernel_rfl) (fun _ _ _ h => h) (Or.inl ⟨by rfl, ?_⟩) (by assumption) ?_
              rotate_left
              · first | (intro w hSw; (try dsimp only at hSw); go_simp; done) | (intro w hSw; (try dsimp only at hSw); go_simp; with_reducible rfl)
              simp only [Act.put, List.setIfInBounds_toArray, List.set_cons_zero, List.set_cons_succ]
              refine wpAnyH_take (i := 33) (oi := { dst := some 166, op := Op.indexAddr 76 (Operand.tmp 161) (Operand.tmp 165), type := 0, pos := "law.go:50", after := #[{ on := 28, ground := Ground.data }, { on := 32, ground := Ground.data }, { on := 27, ground := Ground.guard }], guard := some (27, false) }) (v := ?_) rfl (by kernel_rfl) (by kernel_rfl) (by kernel_rfl) (fun _ _ _ h => h) (Or.inl ⟨by rfl, ?_⟩) (by assumption) ?_
              rotate_left
              · first | (intro w hSw; (try dsimp only at hSw); go_simp; done) | (intro w hSw; (try dsimp only at hSw); go_simp; with_reducible rfl)
              simp only [Act.put, List.setIfInBounds_toArray, List.set_cons_zero, List.set_cons_succ]
              refine wpAnyH_take (i := 34) (oi := { dst := some 167, op := Op.load 49 (Operand.tmp 166), type := 49, pos := "law.go:50", after := #[{ on := 33, ground := Ground.data }, { on := 27, ground := Ground.guard }], guard := some (27, false) }) (v := .agg Y.toList.toArray) rfl (by kernel_rfl) (by kernel_rfl) (by kernel_rfl) (fun _ _ _ h => h) (yieldsIf_load_mid (by rfl) 49 (.tmp 166) rfl gq (B * 32) rfl Y.toList _ (fun _ h => h.2) Tryd.underlying49 rfl (by rw [HYS.out.1]; exact info49)) (by assumption) ?_
              rw [Array.toArray_toList]
              simp only [Act.put, List.setIfInBounds_toArray, List.set_cons_zero, List.set_cons_succ]
              refine wpAnyH_take (i := 35) (oi := { dst := some 168, op := Op.move (Operand.tmp 8), type := 76, pos := "law.go:50", after := #[{ on := 27, ground := Ground.guard }], guard := some (27, false) }) (v := ?_) rfl (by kernel_rfl) (by kernel_rfl) (by kernel_rfl) (fun _ _ _ h => h) (Or.inl ⟨by rfl, ?_⟩) (by assumption) ?_
              rotate_left
              · first | (intro w hSw; (try dsimp only at hSw); go_simp; done) | (intro w hSw; (try dsimp only at hSw); go_simp; with_reducible rfl)
              simp only [Act.put, List.setIfInBounds_toArray, List.set_cons_zero, List.set_cons_succ]
              refine wpAnyH_take (i := 36) (oi := { dst := some 169, op := Op.move (Operand.tmp 15), type := 3, pos := "law.go:50", after := #[{ on := 27, ground := Ground.guard }], guard := some (27, false) }) (v := ?_) rfl (by kernel_rfl) (by kernel_rfl) (by kernel_rfl) (fun _ _ _ h => h) (Or.inl ⟨by rfl, ?_⟩) (by assumption) ?_
              rotate_left
              · first | (intro w hSw; (try dsimp only at hSw); go_simp; done) | (intro w hSw; (try dsimp only at hSw); go_simp; with_reducible rfl)
              simp only [Act.put, List.setIfInBounds_toArray, List.set_cons_zero, List.set_cons_succ]
              refine wpAnyH_take (i := 37) (oi := { dst := some 170, op := Op.binOp BinOp.sub 3 (Operand.tmp 169) (Operand.const (Value.int IntKind.i64 1)) 3, type := 3, pos := "law.go:50", after := #[{ on := 36, ground := Ground.data }, { on := 27, ground := Ground.guard }], guard := some (27, false) }) (v := ?_) rfl (by kernel_rfl) (by kernel_rfl) (by kernel_rfl) (fun _ _ _ h => h) (Or.inl ⟨by rfl, ?_⟩) (by assumption) ?_
              rotate_left
              · first | (intro w hSw; (try dsimp only at hSw); go_simp; done) | (intro w hSw; (try dsimp only at hSw); go_simp; with_reducible rfl)
              simp only [Act.put, List.setIfInBounds_toArray, List.set_cons_zero, List.set_cons_succ]
              refine wpAnyH_take (i := 38) (oi := { dst := some 171, op := Op.indexAddr 76 (Operand.tmp 168) (Operand.tmp 170), type := 0, pos := "law.go:50", after := #[{ on := 35, ground := Ground.data }, { on := 37, ground := Ground.data }, { on := 27, ground := Ground.guard }], guard := some (27, false) }) (v := ?_) rfl (by kernel_rfl) (by kernel_rfl) (by kernel_rfl) (fun _ _ _ h => h) (Or.inl ⟨by rfl, ?_⟩) (by assumption) ?_
              rotate_left
              · first | (intro w hSw; (try dsimp only at hSw); go_simp; done) | (intro w hSw; (try dsimp only at hSw); go_simp; with_reducible rfl)
              simp only [Act.put, List.setIfInBounds_toArray, List.set_cons_zero, List.set_cons_succ]
              refine wpAnyH_take (i := 39) (oi := { dst := some 172, op := Op.load 49 (Operand.tmp 171), type := 49, pos := "law.go:50", after := #[{ on := 38, ground := Ground.data }, { on := 27, ground := Ground.guard }], guard := some (27, false) }) (v := .agg Y.toList.toArray) rfl (by kernel_rfl) (by kernel_rfl) (by kernel_rfl) (fun _ _ _ h => h) (yieldsIf_load_mid (by rfl) 49 (.tmp 171) rfl gr (P * 32) rfl Y.toList _ (fun _ h => h.1) Tryd.underlying49 rfl (by rw [HYS.out.1]; exact info49)) (by assumption) ?_
              rw [Array.toArray_toList]
              simp only [Act.put, List.setIfInBounds_toArray, List.set_cons_zero, List.set_cons_succ]
              refine wpAnyH_take (i := 40) (oi := { dst := some 173, op := Op.binOp BinOp.neq 49 (Operand.tmp 167) (Operand.tmp 172) 49, type := 4, pos := "law.go:50", after := #[{ on := 34, ground := Ground.data }, { on := 39, ground := Ground.data }, { on := 27, ground := Ground.guard }], guard := some (27, false) }) (v := ?_) rfl (by kernel_rfl) (by kernel_rfl) (by kernel_rfl) (fun _ _ _ h => h) (Or.inl ⟨by rfl, ?_⟩) (by assumption) ?_
              rotate_left
              · first | (intro w hSw; (try dsimp only at hSw); go_simp; done) | (intro w hSw; (try dsimp only at hSw); go_simp; with_reducible rfl)
              simp only [Act.put, List.setIfInBounds_toArray, List.set_cons_zero, List.set_cons_succ]
              refine wpAnyH_take (i := 41) (oi := { dst := some 174, op := Op.pick (Operand.tmp 160) (Operand.const (Value.bool true)) (Operand.tmp 173), type := 4, pos := "law.go:50", after := #[{ on := 27, ground := Ground.data }, { on := 40, ground := Ground.data }, { on := 18, ground := Ground.guard }], guard := some (18, true) }) (v := ?_) rfl (by kernel_rfl) (by kernel_rfl) (by kernel_rfl) (fun _ _ _ h => h) (Or.inl ⟨by rfl, ?_⟩) (by assumption) ?_
              rotate_left
              · first | (intro w hSw; (try dsimp only at hSw); go_simp; done) | (intro w hSw; (try dsimp only at hSw); go_simp; with_reducible rfl)
              simp only [Act.put, List.setIfInBounds_toArray, List.set_cons_zero, List.set_cons_succ]
              refine wpAnyH_take (i := 42) (oi := { dst := some 175, op := Op.pick (Operand.tmp 151) (Operand.tmp 174) (Operand.const (Value.bool false)), type := 4, pos := "law.go:50", after := #[{ on := 18, ground := Ground.data }, { on := 41, ground := Ground.data }, { on := 16, ground := Ground.guard }], guard := some (16, false) }) (v := ?_) rfl (by kernel_rfl) (by kernel_rfl) (by kernel_rfl) (fun _ _ _ h => h) (Or.inl ⟨by rfl, ?_⟩) (by assumption) ?_
              rotate_left
              · first | (intro w hSw; (try dsimp only at hSw); go_simp; done) | (intro w hSw; (try dsimp only at hSw); go_simp; with_reducible rfl)
              simp only [Act.put, List.setIfInBounds_toArray, List.set_cons_zero, List.set_cons_succ]
              refine wpAnyH_take (i := 43) (oi := { dst := some 176, op := Op.pick (Operand.tmp 149) (Operand.const (Value.bool true)) (Operand.tmp 175), type := 4, pos := "law.go:50", after := #[{ on := 16, ground := Ground.data }, { on := 42, ground := Ground.data }], guard := none }) (v := ?_) rfl (by kernel_rfl) (by kernel_rfl) (by kernel_rfl) (fun _ _ _ h => h) (Or.inl ⟨by rfl, ?_⟩) (by assumption) ?_
              rotate_left
              · first | (intro w hSw; (try dsimp only at hSw); go_simp; done) | (intro w hSw; (try dsimp only at hSw); go_simp; with_reducible rfl)
              simp only [Act.put, List.setIfInBounds_toArray, List.set_cons_zero, List.set_cons_succ]
              refine wpAnyH_done (by kernel_rfl) ?_ _
              clear hHeld hS3 e1
              go_wp2_with fail
              go_roundg gn
              case measure => omega
              case rel => exact ⟨j + 1, by omega, congrArg (Value.int .i64) (by omega), HE23.out, HW23.out⟩
      have hk1n : 1 ≤ nk := by have := a.key_pos; have := HKL.out; omega
      go_upto_region 12 with (fail)
      have hS0 : w4.drew.rangeAt g3 0 [.int .u8 a.kind.toNat, .int .u8 a.no.toNat, .slice A1 n1 c1, .slice A2 n2 c2] ∧ w4.drew.cell? ⟨g3, 3, none⟩ = some (.slice A2 n2 c2) := ⟨HW4.out.range, HW4.out.at_ rfl⟩
      refine wp_region_held_drew (S := fun w' => w'.rangeAt g3 0 [.int .u8 a.kind.toNat, .int .u8 a.no.toNat, .slice A1 n1 c1, .slice A2 n2 c2] ∧ w'.cell? ⟨g3, 3, none⟩ = some (.slice A2 n2 c2)) (by kernel_rfl) hS0 (fun hHeld => ?_)
      obtain ⟨M, hM⟩ : ∃ M : Nat, M = min 50 n2 := ⟨_, rfl⟩
      have hmin : (if (50 : Int) < (n2 : Int) then (50 : Int) else (n2 : Int)) = (M : Int) := by split <;> omega
      have hM1 : M ≤ n2 := by omega
      have hM3 : M ≤ c2 := by omega
      have hM2 : M ≤ 50 := by omega
      have HM := Lib.hid hM
      clear hM
      refine wpAnyH_take (i := 0) (oi := { dst := some 57, op := Op.move (Operand.tmp 7), type := 24, pos := "law.go:36", after := #[], guard := none }) (v := ?_) rfl (by kernel_rfl) (by kernel_rfl) (by kernel_rfl) (fun _ _ _ h => h) (Or.inl ⟨by rfl, ?_⟩) (by assumption) ?_
      rotate_left
      · first | (intro w hSw; (try dsimp only at hSw); go_simp; done) | (intro w hSw; (try dsimp only at hSw); go_simp; with_reducible rfl)
      simp only [Act.put, List.setIfInBounds_toArray, List.set_cons_zero, List.set_cons_succ]
      refine wpAnyH_take (i := 1) (oi := { dst := some 58, op := Op.load 29 (Operand.tmp 10), type := 29, pos := "law.go:36", after := #[], guard := none }) (v := .agg #[.int .u8 a.kind.toNat, .int .u8 a.no.toNat, .slice A1 n1 c1, .slice A2 n2 c2]) rfl (by kernel_rfl) (by kernel_rfl) (by kernel_rfl) (fun _ _ _ h => h) (yieldsIf_load_mid (by rfl) 29 (.tmp 10) rfl g3 0 rfl [.int .u8 a.kind.toNat, .int .u8 a.no.toNat, .slice A1 n1 c1, .slice A2 n2 c2] _ (fun _ h => h.1) Tryd.underlying29 rfl (by exact info29)) (by assumption) ?_
      simp only [Act.put, List.setIfInBounds_toArray, List.set_cons_zero, List.set_cons_succ]
      refine wpAnyH_take (i := 3) (oi := { dst := some 60, op := Op.fieldAddr 29 (Operand.tmp 10) 3, type := 0, pos := "law.go:36", after := #[], guard := none }) (v := ?_) rfl (by kernel_rfl) (by kernel_rfl) (by kernel_rfl) (fun _ _ _ h => h) (Or.inl ⟨by rfl, ?_⟩) (by assumption) ?_
      rotate_left
      · first | (intro w hSw; (try dsimp only at hSw); go_simp; done) | (intro w hSw; (try dsimp only at hSw); go_simp; with_reducible rfl)
      simp only [Act.put, List.setIfInBounds_toArray, List.set_cons_zero, List.set_cons_succ]
      refine wpAnyH_take (i := 4) (oi := { dst := some 61, op := Op.load 27 (Operand.tmp 60), type := 27, pos := "law.go:36", after := #[{ on := 3, ground := Ground.data }], guard := none }) (v := ?_) rfl (by kernel_rfl) (by kernel_rfl) (by kernel_rfl) (fun _ _ _ h => h) (Or.inl ⟨by rfl, ?_⟩) (by assumption) ?_
      rotate_left
      · first | (intro w hSw; (try dsimp only at hSw); go_simp; done) | (intro w hSw; (try dsimp only at hSw); go_simp; with_reducible rfl)
      simp only [Act.put, List.setIfInBounds_toArray, List.set_cons_zero, List.set_cons_succ]
      refine wpAnyH_take (i := 5) (oi := { dst := some 62, op := Op.fieldAddr 29 (Operand.tmp 10) 3, type := 0, pos := "law.go:36", after := #[], guard := none }) (v := ?_) rfl (by kernel_rfl) (by kernel_rfl) (by kernel_rfl) (fun _ _ _ h => h) (Or.inl ⟨by rfl, ?_⟩) (by assumption) ?_
      rotate_left
      · first | (intro w hSw; (try dsimp only at hSw); go_simp; done) | (intro w hSw; (try dsimp only at hSw); go_simp; with_reducible rfl)
      simp only [Act.put, List.setIfInBounds_toArray, List.set_cons_zero, List.set_cons_succ]
      refine wpAnyH_take (i := 6) (oi := { dst := some 63, op := Op.load 27 (Operand.tmp 62), type := 27, pos := "law.go:36", after := #[{ on := 5, ground := Ground.data }], guard := none }) (v := ?_) rfl (by kernel_rfl) (by kernel_rfl) (by kernel_rfl) (fun _ _ _ h => h) (Or.inl ⟨by rfl, ?_⟩) (by assumption) ?_
      rotate_left
      · first | (intro w hSw; (try dsimp only at hSw); go_simp; done) | (intro w hSw; (try dsimp only at hSw); go_simp; with_reducible rfl)
      simp only [Act.put, List.setIfInBounds_toArray, List.set_cons_zero, List.set_cons_succ]
      refine wpAnyH_take (i := 7) (oi := { dst := some 64, op := Op.call { callee := Callee.builtin Builtin.len, args := #[Operand.tmp 63], argTypes := #[27] }, type := 3, pos := "law.go:36", after := #[{ on := 6, ground := Ground.data }], guard := none }) (v := ?_) rfl (by kernel_rfl) (by kernel_rfl) (by kernel_rfl) (fun _ _ _ h => h) (Or.inl ⟨by rfl, ?_⟩) (by assumption) ?_
      rotate_left
      · first | (intro w hSw; (try dsimp only at hSw); go_simp; done) | (intro w hSw; (try dsimp only at hSw); go_simp; with_reducible rfl)
      simp only [Act.put, List.setIfInBounds_toArray, List.set_cons_zero, List.set_cons_succ]
      refine wpAnyH_take (i := 8) (oi := { dst := some 65, op := Op.call { callee := Callee.builtin Builtin.min, args := #[Operand.tmp 64, Operand.const (Value.int IntKind.i64 50)], argTypes := #[3, 3] }, type := 3, pos := "law.go:36", after := #[{ on := 7, ground := Ground.data }], guard := none }) (v := ?_) rfl (by kernel_rfl) (by kernel_rfl) (by kernel_rfl) (fun _ _ _ h => h) (Or.inl ⟨by rfl, ?_⟩) (by assumption) ?_
      rotate_left
      · first | (intro w hSw; (try dsimp only at hSw); go_simp; done) | (intro w hSw; (try dsimp only at hSw); go_simp; with_reducible rfl)
      simp only [Act.put, List.setIfInBounds_toArray, List.set_cons_zero, List.set_cons_succ]
      refine wpAnyH_take (i := 9) (oi := { dst := some 66, op := Op.slice 27 (Operand.tmp 61) none (some (Operand.tmp 65)) none, type := 27, pos := "law.go:36", after := #[{ on := 4, ground := Ground.data }, { on := 8, ground := Ground.data }], guard := none }) (v := ?_) rfl (by kernel_rfl) (by kernel_rfl) (by kernel_rfl) (fun _ _ _ h => h) (Or.inl ⟨by rfl, ?_⟩) (by assumption) ?_
      rotate_left
      · first | (intro w hSw; (try dsimp only at hSw); go_simp; done) | (intro w hSw; (try dsimp only at hSw); go_simp; with_reducible rfl)
      simp only [Act.put, List.setIfInBounds_toArray, List.set_cons_zero, List.set_cons_succ]
      clear hmin hS0 hHeld
      have HW5 : Hid (Whole w4.drew g3 29 (a.cells A1 n1 c1 A2 n2 c2)) := Lib.hid HW4.out
      have HE5 := Lib.hid (HE4.out.on (Below.refl _ _).drew)
      have hs5 : g3 < w4.drew.heap.size := hs4
      clear HW4 HE4 hs4
      generalize w4.drew = w5 at *
      have HCK := Lib.hid (key_any a A1 A2 n1 c1 n2 c2 w5 ((HR.out.1.below HE5.out.bel (Nat.le_refl _)).more HE5.out.bel.size) m1)
      refine wpAnyH_ready (rs := [2]) (by kernel_rfl) (by simp) ?_
      refine AllReadyH.cons rfl (fun K hK => ?_) AllReadyH.nil
      go_simp
      refine HCK.out.mono ?_
      rintro e w6 ⟨Aq, nq, cq, rfl, hrk, hncq, hb6⟩
      obtain rfl : nk = nq := by have := hrk.len; have := HKL.out; omega
      have hs6 : g3 < w6.heap.size := Nat.lt_of_lt_of_le hs5 hb6.size
      have HW6 := Lib.hid (HW5.out.below hb6 hs5)
      have HE6 := Lib.hid (HE5.out.on hb6)
      have hS6 : w6.rangeAt g3 0 [.int .u8 a.kind.toNat, .int .u8 a.no.toNat, .slice A1 n1 c1, .slice A2 n2 c2] ∧ w6.cell? ⟨g3, 3, none⟩ = some (.slice A2 n2 c2) := ⟨HW6.out.range, HW6.out.at_ rfl⟩
      have hw6s : 1 < w6.heap.size := by have := HE6.out.bel.size; omega
      have HRV := Lib.hid (show Rd w6 w6.heap.size A2 M a.cut50 by
        have h := ((HR.out.2.below HE6.out.bel (Nat.le_refl _)).more HE6.out.bel.size).pre M hM1
        rwa [a.cut50_take n2 HR.out.2.len M HM.out] at h)
      have hfew := HE6.out.few
      have HP := Lib.hid (put_any (G := Gv l (.slice Ar i cr)) o g Aq A2 nk cq M c2 a.key a.cut50 w6 HE6.out.tree hrk HRV.out hk1n (by omega) (by omega) (by omega) (Sh.tab_below HT.out HE6.out.bel hw) (HE6.out.room hw6s))
      refine hK.out _ _ hS6 (fun _ => ?_)
      clear hK K hb6 HCK HW5 HE5 hs5 hfew hrk hS6
      rw [ptr_some] at HP
      refine wpAnyH_ready (rs := [10]) (by kernel_rfl) (by simp) ?_
      refine AllReadyH.cons rfl (fun K hK => ?_) AllReadyH.nil
      rw [ptr_some]
      go_simp
      refine HP.out.mono ?_
      rintro e w7 ⟨g7, rfl, _, hT7, hb7⟩
      obtain ⟨o', ho'⟩ : ∃ o', oput o a.key a.cut50 = o' := ⟨_, rfl⟩
      have hof : oln (some o') ≤ i + 1 := by rw [← ho']; exact Nat.le_trans (oput_n o a.key a.cut50) (Nat.succ_le_succ HE6.out.few)
      rw [ho'] at hT7
      have hs7 := hb7.size
      have hS7 : w7.rangeAt g3 0 [.int .u8 a.kind.toNat, .int .u8 a.no.toNat, .slice A1 n1 c1, .slice A2 n2 c2] ∧ w7.cell? ⟨g3, 3, none⟩ = some (.slice A2 n2 c2) := ⟨(HW6.out.below hb7 hs6).range, (HW6.out.below hb7 hs6).at_ rfl⟩
      have HL7 := Lib.hid (HE6.out.log.on hb7)
      have HRW7 := Lib.hid (own_turn HE6.out.row hb7)
      have HB7 := Lib.hid (HE6.out.bel.trans (hb7.mono HE6.out.bel.size))
      have HRM7 := Lib.hid ((HE6.out.room hw6s).on hb7)
      have HLEN7 := Lib.hid (And.intro HE6.out.len hof)
      have HCM := Lib.hid (commit_any (G := Gv l (.slice Ar i cr)) w7 l k i g7 (lastN k all) (some o') HL7.out HRM7.out hT7 (by omega))
      have HT7 := Lib.hid hT7
      refine hK.out _ _ hS7 (fun hHeld => ?_)
      clear hK K hb7 HP HE6 HW6 hT7 ho' hof HRV HKL
      rw [ptr_some]
      refine wpAnyH_take (i := 11) (oi := { dst := some 56, op := Op.move (Operand.tmp 67), type := 35, pos := "law.go:36", after := #[{ on := 10, ground := Ground.data }], guard := none }) (v := ?_) rfl (by kernel_rfl) (by kernel_rfl) (by kernel_rfl) (fun _ _ _ h => h) (Or.inl ⟨by rfl, ?_⟩) (by assumption) ?_
      rotate_left
      · first | (intro w hSw; (try dsimp only at hSw); go_simp; done) | (intro w hSw; (try dsimp only at hSw); go_simp; with_reducible rfl)
      simp only [Act.put, List.setIfInBounds_toArray, List.set_cons_zero, List.set_cons_succ]
      refine wpAnyH_take (i := 12) (oi := { dst := some 68, op := Op.extract (Operand.tmp 56) 0, type := 24, pos := "law.go:36", after := #[{ on := 11, ground := Ground.data }], guard := none }) (v := ?_) rfl (by kernel_rfl) (by kernel_rfl) (by kernel_rfl) (fun _ _ _ h => h) (Or.inl ⟨by rfl, ?_⟩) (by assumption) ?_
      rotate_left
      · first | (intro w hSw; (try dsimp only at hSw); go_simp; done) | (intro w hSw; (try dsimp only at hSw); go_simp; with_reducible rfl)
      simp only [Act.put, List.setIfInBounds_toArray, List.set_cons_zero, List.set_cons_succ]
      refine wpAnyH_take (i := 13) (oi := { dst := some 69, op := Op.extract (Operand.tmp 56) 1, type := 34, pos := "law.go:36", after := #[{ on := 11, ground := Ground.data }, { on := 14, ground := Ground.gcOnly Departure.lateStores }], guard := none }) (v := ?_) rfl (by kernel_rfl) (by kernel_rfl) (by kernel_rfl) (fun _ _ _ h => h) (Or.inl ⟨by rfl, ?_⟩) (by assumption) ?_
      rotate_left
      · first | (intro w hSw; (try dsimp only at hSw); go_simp; done) | (intro w hSw; (try dsimp only at hSw); go_simp; with_reducible rfl)
      simp only [Act.put, List.setIfInBounds_toArray, List.set_cons_zero, List.set_cons_succ]
      refine wpAnyH_take (i := 14) (oi := { dst := some 7, op := Op.assign (Operand.tmp 68), type := 24, pos := "law.go:36", after := #[{ on := 12, ground := Ground.data }, { on := 10, ground := Ground.chain }, { on := 0, ground := Ground.phase }, { on := 1, ground := Ground.phase }, { on := 2, ground := Ground.phase }, { on := 3, ground := Ground.phase }, { on := 4, ground := Ground.phase }, { on := 5, ground := Ground.phase }, { on := 6, ground := Ground.phase }, { on := 7, ground := Ground.phase }, { on := 8, ground := Ground.phase }, { on := 9, ground := Ground.phase }, { on := 10, ground := Ground.phase }, { on := 11, ground := Ground.phase }, { on := 12, ground := Ground.phase }, { on := 13, ground := Ground.textOnly Departure.lateStores }], guard := none }) (v := ?_) rfl (by kernel_rfl) (by kernel_rfl) (by kernel_rfl) (fun _ _ _ h => h) (Or.inl ⟨by rfl, ?_⟩) (by assumption) ?_
      rotate_left
      · first | (intro w hSw; (try dsimp only at hSw); go_simp; done) | (intro w hSw; (try dsimp only at hSw); go_simp; with_reducible rfl)
      simp only [Act.put, List.setIfInBounds_toArray, List.set_cons_zero, List.set_cons_succ]
      refine wpAnyH_done (by kernel_rfl) ?_ _
      clear hHeld hS7
      rw [ptr_some, ptr_some] at HCM
      go_wp2_with fail
      refine HCM.out.mono ?_
      rintro e w8 ⟨rfl, hL8, ht8⟩
      rw [push_lastN k all _ h1k] at hL8
      have hs8 := ht8.size
      have HL8 := Lib.hid hL8
      have HT8 := Lib.hid (TIn.turn (fun b h => h.1) HT7.out ht8)
      have HRW8 := Lib.hid (own_out HRW7.out ht8)
      have HB8 := Lib.hid (HB7.out.trans (ht8.below HLL.out HB7.out.size))
      have HRT := Lib.hid (root_any (some (some o')) (some g7) w8 ⟨g7, rfl, HT8.out⟩ (Sh.tab_below HT.out HB8.out hw) (by have := HB8.out.size; omega))
      rw [ptr_some, show topOf (some (some o')) = some o' from rfl] at HRT
      clear hL8 ht8 HL7 HT7 HRW7 HB7 HRM7 HCM
      go_wp2_with fail
      refine HRT.out.mono ?_
      rintro e w9 ⟨rfl, hb9⟩
      have hs9 := hb9.size
      have HL9 := Lib.hid (HL8.out.on hb9)
      have HT9 := Lib.hid (HT8.out.on hb9)
      have HRW9 := Lib.hid (own_turn HRW8.out hb9)
      have HB9 := Lib.hid (HB8.out.trans (hb9.mono HB8.out.size))
      clear hb9 HL8 HT8 HRW8 HB8 HRT
      simp only []
      go_step
      refine wpList_build_sum rfl (.tmp 78) rfl (Sh.bcells (osum (some o'))) (by rw [Sh.bcells_size, osum32]) rfl ?_
      refine wpList_append_sum rfl (.tmp 76) (.tmp 79) rfl (l + 1) _ i all (some o') rfl HRW9.out rfl (by omega) HL9.out.lt ?_
      intro v10 w10 hown10 hgr10 hv10
      have hgl : ∀ b, b < w9.heap.size → Gv l (.slice Ar i cr) b → Gv l v10 b := fun b hb h => ⟨h.1, fun e => by
        rcases hv10 with h0 | ⟨q, h0, h1⟩
        · rw [h0] at e; exact h.2 e
        · rw [h0] at e; injection e with e; omega⟩
      have hll : w10.heap[l]? = w9.heap[l]? := hgr10.block l HL9.out.lt (fun e => by have := (HRW9.out.lt l e.symm).1; omega)
      have hL10 := HL9.out.regood hgr10.size hll (fun b hb h => hgr10.block b hb h.2) hgl (fun b h => h.1)
      have hT10 := ((HT9.out.keepG (fun b hb h => hgr10.block b hb h.2)).regood hgl).more hgr10.size
      have hB10 := HB9.out.grown hgr10 HB9.out.size (fun q e => by have := (HRW9.out.lt q e).1; have := HLL.out; omega)
      have HE10 : Hid (EAt w w10 l k (i + 1) (all ++ [some o']) (some o') g7 v10) := Lib.hid ⟨hL10, hT10, hown10, by rw [List.length_append, HLEN7.out.1]; rfl, HLEN7.out.2, hB10⟩
      obtain ⟨A10, c10, rfl, hc10, _⟩ := own_form hown10
      clear hown10 hgr10 hv10 hgl hll hL10 hT10 hB10 HL9 HT9 HRW9 HB9
      have HLA := Lib.hid (last_any w10 l k (i + 1) _ HE10.out.log)
      rw [ptr_some] at HLA
      have hwu : IntKind.u64.wrap ((i : Int) + 1) = (i : Int) + 1 := IntWalk.u64_in _ ⟨by omega, by omega⟩
      go_simp
      go_wp2_with fail
      refine HLA.out.mono ?_
      rintro e w11 ⟨rfl, rfl⟩
      go_wp2_with fail
      go_roundg gn
      case measure => omega
      case rel => exact ⟨i + 1, _, _, g7, _, by omega, by omega, congrArg (Value.int .i64) (by omega), rfl, rfl, HE10.out⟩
end Go.Proofs.YtbhmldoehgkhfaaDoor
