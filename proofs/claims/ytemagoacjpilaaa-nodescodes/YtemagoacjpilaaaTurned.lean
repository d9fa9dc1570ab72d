/-
  What the statements' Turned returns: some bytes, no more than came in, in new memory; conditions: what is handed over is read. It only makes memory of its own.
-/
import Derived.Test.YtemagoacjpilaaaRes
import Derived.ArgAppend
import Derived.Laws.BitsAllLaws
namespace Go.Proofs.Ytemagoacjpilaaa
open Go.RowKit

/-- A slice of numbers that is read. -/
def RdI (w : World) (B : Nat) (A : Option Addr) (n : Nat) : Prop := 0 < n → ∃ b o, A = some ⟨b, o, none⟩ ∧ b < B ∧ ∀ j, j < n → ∃ z : Int, w.cell? ⟨b, o + j, none⟩ = some (.int .i64 z)

/-- Bytes in a row of the call's own. -/
def OutAt (base : Nat) (wx : World) (v : Value) (N : Nat) : Prop :=
  ∃ (A : Option Addr) (n c : Nat) (bs : List UInt8), v = .slice A n c ∧ n ≤ N ∧ n ≤ c ∧ c ≤ 9223372036854775807 ∧ bs.length = n ∧
    (0 < n → ∃ g, A = some ⟨g, 0, none⟩ ∧ base ≤ g ∧ g < wx.heap.size ∧ (∀ j x, bs[j]? = some x → wx.cell? ⟨g, j, none⟩ = some (V8 x)) ∧ ∀ j, wx.frozen? ⟨g, j, none⟩ = false)

theorem outAt_own {base : Nat} {wx : World} {v : Value} {n N : Nat} {bs : List UInt8} (h : wx.ownsRow base 5 1 v n (bs.map V8)) (hN : n ≤ N) : OutAt base wx v N := by
  have hl : bs.length = n := by simpa using h.1
  rcases h.2 with ⟨rfl, rfl⟩ | ⟨g, cap, cur, rfl, hb, hg, hnc, hm, hcur, ht⟩
  · exact ⟨none, 0, 0, bs, rfl, hN, Nat.le_refl _, by omega, hl, fun h => absurd h (by omega)⟩
  · refine ⟨_, n, cap, bs, rfl, hN, hnc, by unfold maxLen at hm; omega, hl, fun _ => ⟨g, rfl, hb, (Array.getElem?_eq_some_iff.1 hg).1, fun j x hx => ?_, fun j => by simp [World.frozen?, hg]⟩⟩
    have hj : j < n := by have := (List.getElem?_eq_some_iff.1 hx).1; omega
    have h1 : cur.toList[j]? = some (V8 x) := by
      have : (cur.toList.take (n * 1))[j]? = some (V8 x) := by rw [ht, List.getElem?_map, hx]; rfl
      rw [List.getElem?_take, if_pos (by omega)] at this
      exact this
    exact (cell_of_row wx g j cur 5 (0, 0) hg).trans (by simpa using h1)

theorem OutAt.rd {base n : Nat} {wx : World} {A : Option Addr} {bs : List UInt8} (hl : bs.length = n) (h : 0 < n → ∃ g, A = some ⟨g, 0, none⟩ ∧ base ≤ g ∧ g < wx.heap.size ∧ (∀ j x, bs[j]? = some x → wx.cell? ⟨g, j, none⟩ = some (V8 x)) ∧ ∀ j, wx.frozen? ⟨g, j, none⟩ = false) :
    Rd wx wx.heap.size A n bs := by
  rcases Nat.eq_zero_or_pos n with rfl | hn
  · obtain rfl : bs = [] := List.eq_nil_of_length_eq_zero hl
    exact Rd.nil
  · obtain ⟨g, rfl, _, hg, hc, _⟩ := h hn
    exact Rd.mk_ hl g 0 hg fun j v hv => by rw [Nat.zero_add]; exact hc j v hv

/-- A byte is left out: what is behind it is appended to what is ahead of it, with no room. -/
theorem del_run {base : Nat} {wx : World} {g m nx cx M N : Nat} {A' : Option Addr} {xs : List UInt8} (ty : TypeId) (hg : base ≤ g) (hgl : g < wx.heap.size) (hM : M = m + 1) (hm : m < nx) (hxl : xs.length = nx) (hxc : nx ≤ cx) (hN : nx ≤ N) (hN2 : nx ≤ 1000000) (hbase : base ≤ wx.heap.size)
    (hcells : ∀ j x, xs[j]? = some x → wx.cell? ⟨g, j, none⟩ = some (V8 x)) (hfree : ∀ j, wx.frozen? ⟨g, j, none⟩ = false) (hif : (if cx = M then some (⟨g, 0, none⟩ : Addr) else some ⟨g, M, none⟩) = A') :
    ∃ v' w', (Builtin.append_ #[22, 22] ty #[.slice (some ⟨g, 0, none⟩) m m, .slice A' (nx - M) (cx - M)]).run Try.prog wx = .ok v' w' ∧ OutAt base w' v' N ∧ Below base wx w' := by
  obtain ⟨i, hi, hz, hsz, hby⟩ := info_of info5
  by_cases h0 : nx = M
  · refine ⟨.slice (some ⟨g, 0, none⟩) m m, wx, ?_, ⟨some ⟨g, 0, none⟩, m, m, xs.take m, rfl, by omega, Nat.le_refl _, by omega, by rw [List.length_take]; omega, fun _ => ⟨g, rfl, hg, hgl, fun j x hx => ?_, hfree⟩⟩, Below.refl _ _⟩
    · rw [h0, Nat.sub_self]
      cases A' with
      | none => simp [Builtin.append_, run_underlying Try.underlying22, sizeOf, typeInfo, hi, Builtin.lenOf, Builtin.firstCells, storeCells]
      | some ad =>
        have hl : (loadCells ad 0).run Try.prog wx = .ok #[] wx := run_loadCells_list (P := Try.prog) wx ad [] (fun j v hv => by simp at hv)
        simp [Builtin.append_, run_underlying Try.underlying22, sizeOf, typeInfo, hi, Builtin.lenOf, Builtin.firstCells, storeCells, hl]
    · rw [List.getElem?_take] at hx
      split at hx
      · exact hcells j x hx
      · cases hx
  · rw [if_neg (by omega)] at hif
    subst hif
    obtain ⟨v', w', hrun, hown, hgr⟩ := run_append_arg_grows (P := Try.prog) wx 22 ty 5 i (.int .u8 0) 1 1 Try.underlying22 hi hz hsz hby rfl (by omega) ⟨g, 0, none⟩ m m ((xs.take m).map V8) (by rw [List.length_map, List.length_take]; omega)
      (fun j u hu => by
        rw [List.getElem?_map, Option.map_eq_some_iff] at hu
        obtain ⟨x, hx, rfl⟩ := hu
        rw [Addr.add_mid, Nat.zero_add]
        rw [List.getElem?_take] at hx
        split at hx
        · exact hcells j x hx
        · cases hx)
      ⟨g, M, none⟩ (nx - M) (cx - M) ((xs.drop M).map V8) (by rw [List.length_map, List.length_drop]; omega)
      (fun j u hu => by
        rw [List.getElem?_map, Option.map_eq_some_iff] at hu
        obtain ⟨x, hx, rfl⟩ := hu
        rw [Addr.add_mid]
        rw [List.getElem?_drop] at hx
        exact hcells _ x hx)
      (by omega) (by unfold maxLen; omega) (by omega)
    rw [← List.map_append] at hown
    obtain ⟨A1, n1, c1, bs1, e1, e2, e3, e4, e5, e6⟩ := outAt_own hown (Nat.le_refl _)
    refine ⟨v', w', hrun, ⟨A1, n1, c1, bs1, e1, by omega, e3, e4, e5, fun hp => ?_⟩, (Below.refl base wx).grown hgr hbase (fun k hk => by cases hk)⟩
    obtain ⟨g', k1, k2, k3⟩ := e6 hp
    exact ⟨g', k1, Nat.le_trans hbase k2, k3⟩
theorem wpList_append_run {ops : Array Oper} {rest : List Oper} {o : Oper} {a : Act} {w w' : World} {Q : Exit → Act → World → Prop} (hgd : o.guard = none) (s x : Operand)
    (ho : o.op = .call { callee := .builtin .append, args := #[s, x], argTypes := #[22, 22] }) (v y v' : Value) (hs : a.eval s = v) (hx : a.eval x = y)
    (hrun : (Builtin.append_ #[22, 22] o.type #[v, y]).run Try.prog w = .ok v' w') (h : wpList Try.prog ops Q rest (a.put o.dst v') w') : wpList Try.prog ops Q (o :: rest) a w := by
  refine wpList_plain hgd fun K hK => ?_
  unfold Oper.wp execOp
  simp only [ho, resolve, invoke, builtin, Sem.run_bind, Sem.run_pure, Result.andThen_ok, List.map_toArray, List.map_cons, List.map_nil, hs, hx, hrun]
  exact hK _ _ h
theorem u8_wrap (L : Int) : 0 ≤ IntKind.u8.wrap L ∧ IntKind.u8.wrap L < 256 := by
  simp only [IntKind.wrap]
  simp [IntKind.bits, IntKind.signed]
  omega
theorem xor_byte (x : UInt8) (L : Int) : ∃ x' : UInt8, bits .xor .u8 (x.toNat : Int) (IntKind.u8.wrap L) = (x'.toNat : Int) := by
  obtain ⟨h1, h2⟩ := u8_wrap L
  have hx := x.toNat_lt
  refine ⟨UInt8.ofNat (x.toNat ^^^ (IntKind.u8.wrap L).toNat), ?_⟩
  rw [u8_xor _ _ (by omega) (by omega) h1 h2, UInt8.toNat_ofNat']
  have : x.toNat ^^^ (IntKind.u8.wrap L).toNat < 2 ^ 8 := Nat.xor_lt_two_pow (by omega) (by omega)
  rw [Int.toNat_natCast, Nat.mod_eq_of_lt this]
theorem outAt_set {base N g nx cx m : Nat} {wx : World} {xs : List UInt8} (x' : UInt8) (hg : base ≤ g) (hgl : g < wx.heap.size) (hm : m < nx) (hxl : xs.length = nx) (hxc : nx ≤ cx) (hcm : cx ≤ 9223372036854775807) (hN : nx ≤ N)
    (hcells : ∀ j x, xs[j]? = some x → wx.cell? ⟨g, j, none⟩ = some (V8 x)) (hfree : ∀ j, wx.frozen? ⟨g, j, none⟩ = false) : OutAt base (wx.setCell ⟨g, m, none⟩ (.int .u8 x'.toNat)) (.slice (some ⟨g, 0, none⟩) nx cx) N := by
  refine ⟨_, nx, cx, xs.set m x', rfl, hN, hxc, hcm, by rw [List.length_set]; exact hxl, fun _ => ⟨g, rfl, hg, by simpa [World.setCell] using hgl, fun j x hx => ?_, fun j => by rw [World.frozen?_setCell]; exact hfree j⟩⟩
  rw [List.getElem?_set] at hx
  split at hx
  · rename_i e
    subst e
    rw [if_pos (by omega)] at hx
    injection hx with hx
    subst hx
    exact World.cell?_setCell_same _ _ _ (hcells m (xs[m]'(by omega)) (List.getElem?_eq_getElem _))
  · rename_i e
    have hne : (⟨g, m, none⟩ : Addr) ≠ ⟨g, j, none⟩ := fun h => by
      injection h with _ h
      exact e h
    rw [World.cell?_setCell_other _ _ _ _ hne]
    exact hcells j x hx
theorem WalkArith_wrap (M : Nat) (h : M ≤ 1000001) : IntKind.i64.wrap (M : Int) = M := by
  simp only [IntKind.wrap]
  simp [IntKind.bits, IntKind.signed]
  omega
theorem at_small (z : Int) (n : Nat) (h : 0 < n) (hn : n ≤ 1000000) : ∃ m : Nat, m < n ∧ wrap64 ((IntKind.u64.wrap z).tmod n) = m := by
  have h0 : 0 ≤ IntKind.u64.wrap z := by
    simp only [IntKind.wrap]
    simp [IntKind.bits, IntKind.signed]
    omega
  rw [Int.tmod_eq_emod_of_nonneg h0]
  have h1 : 0 ≤ IntKind.u64.wrap z % (n : Int) := Int.emod_nonneg _ (by omega)
  have h2 : IntKind.u64.wrap z % (n : Int) < n := Int.emod_lt_of_pos _ (by omega)
  generalize IntKind.u64.wrap z % (n : Int) = q at *
  refine ⟨q.toNat, by omega, ?_⟩
  unfold wrap64
  omega

set_option maxRecDepth 100000 in
set_option maxHeartbeats 1000000 in
theorem turned_any (A : Option Addr) (n c : Nat) (bs : List UInt8) (A2 : Option Addr) (n2 c2 : Nat) (A3 : Option Addr) (n3 c3 : Nat) (ys : List UInt8) (w : World) (hr : Rd w w.heap.size A n bs) (hn : n ≤ 1000000)
    (hi : RdI w w.heap.size A2 n2) (hy : Rd w w.heap.size A3 n3 ys) (h2 : n2 ≤ 9223372036854775807) (h3 : n3 ≤ 9223372036854775807) :
    Calls Try.prog 8 #[.slice A n c, .slice A2 n2 c2, .slice A3 n3 c3] w fun e w' => ∃ A' n' c' bs', e = .returned (.slice A' n' c') ∧ Rd w' w'.heap.size A' n' bs' ∧ n' ≤ c' ∧ n' ≤ n ∧ Below w.heap.size w w' := by
  have HR := Lib.hid hr
  have HI := Lib.hid hi
  have HY := Lib.hid hy
  clear hr hi hy
  go_enter Try.func8, Try.ntmps8
  go_upto_region 1 with (fail)
  refine wp_region_lit ?_
  iterate 6 go_step
  have hb0 : Below w.heap.size w (w.alloc (.cells #[] 5)) := (Below.refl _ _).alloc (Nat.le_refl _) _
  refine wpList_append_b rfl (.tmp 10) (.tmp 11) rfl w.heap.size _ 0 [] rfl (World.ownsRow_lit w #[] 0 (Nat.le_refl _) (by unfold maxLen; omega) rfl) _ A n c bs rfl (HR.out.below hb0 (Nat.le_refl _)) (by omega) (by simp) ?_
  intro v1 w1 hown hb1
  rw [Nat.zero_add, List.nil_append] at hown
  have HO := Lib.hid (And.intro (outAt_own hown (Nat.le_refl n)) (hb0.trans hb1))
  clear hown hb0 hb1
  go_simp
  go_wp2_with fail
  go_loopw [8, 7] (fun i v wx => ∃ k : Nat, k ≤ 4 ∧ i = .int .i64 k ∧ OutAt w.heap.size wx v n ∧ Below w.heap.size w wx) (fun i _ _ => 4 - (intOf i).toNat)
  case atStart => exact ⟨0, by omega, rfl, HO.out.1, HO.out.2⟩
  case round =>
    clear HO
    obtain ⟨k, hk, rfl, hout, hbl⟩ := hrel
    obtain ⟨Ax, nx, cx, xs, rfl, hxN, hxc, hcm, hxl, hx⟩ := hout
    have HX := Lib.hid hx
    have HB := Lib.hid hbl
    have HXL := Lib.hid hxl
    clear hx hbl hxl
    by_cases hgo : k < n2 ∧ k < n3 ∧ k < 4 ∧ 0 < nx
    · obtain ⟨g1, g2, g3, g4⟩ := hgo
      obtain ⟨g, rfl, hg, hgl, hcells, hfree⟩ := HX.out g4
      obtain ⟨b2, o2, rfl, hb2, hz⟩ := HI.out (by omega)
      obtain ⟨z, hz⟩ := hz k g1
      obtain ⟨b3, o3, rfl, hb3, hyc⟩ := HY.out.at_ (by omega)
      obtain ⟨y, hy⟩ : ∃ y, ys[k]? = some y := ⟨ys[k]'(by rw [HY.out.len]; exact g2), List.getElem?_eq_getElem _⟩
      have hz' := (HB.out.cell (p := ⟨b2, o2 + k, none⟩) hb2).trans hz
      have hy' := (HB.out.cell (p := ⟨b3, o3 + k, none⟩) hb3).trans (hyc k y hy)
      have HC := Lib.hid hcells
      clear hcells hz hyc hy
      obtain ⟨m, hm, hmw⟩ := at_small z nx g4 (by omega)
      have HM := Lib.hid hm
      by_cases h8 : y.toNat % 9 = 8
      · have q8 : ((y.toNat : Int) % 9 == 8) = true := by simp; omega
        obtain ⟨M, hM⟩ : ∃ M, M = m + 1 := ⟨_, rfl⟩
        have hwM : IntKind.i64.wrap ((m : Int) + 1) = (M : Int) := by
          rw [show ((m : Int) + 1) = (M : Int) by omega]
          exact WalkArith_wrap M (by omega)
        have i2 : (m : Int) ≤ (cx : Int) := by omega
        have i3 : (M : Int) ≤ (nx : Int) := by omega
        obtain ⟨A', hif⟩ : ∃ A' : Option Addr, (if cx = M then some (⟨g, 0, none⟩ : Addr) else some ⟨g, M, none⟩) = A' := ⟨_, rfl⟩
        have HM1 := Lib.hid hM
        have i4 : M ≤ nx := by omega
        clear hM
        go_upto_region 7 with (fail)
        go_still_tail 8, (by kernel_rfl)
        change wpList _ _ _ _ _ wr.drew
        obtain ⟨v', w', hrun, hout, hbb⟩ := del_run (wx := wr.drew) 35 hg hgl HM1.out hm HXL.out hxc hxN (by omega) HB.out.drew.size HC.out hfree hif
        have HO := Lib.hid (And.intro hout (HB.out.drew.trans hbb))
        refine wpList_append_run rfl (.tmp 53) (.tmp 57) rfl _ _ _ rfl rfl hrun ?_
        clear hrun hout hbb
        go_simp
        go_wp2_with fail
        go_roundw
        case rel => exact ⟨k + 1, by omega, by go_num, HO.out.1, HO.out.2⟩
        case measure => simp [intOf]; omega
      · have q8 : ((y.toNat : Int) % 9 == 8) = false := by simp; omega
        have hmx : ∃ x, xs[m]? = some x := ⟨xs[m]'(by rw [HXL.out]; exact hm), List.getElem?_eq_getElem _⟩
        obtain ⟨x, hmx⟩ := hmx
        have c1 : wr.cell? ⟨g, m, none⟩ = some (.int .u8 x.toNat) := HC.out m x hmx
        have f1 := hfree m
        obtain ⟨t, ht, hty⟩ : ∃ t : Nat, t < 8 ∧ ((y.toNat : Int)).tmod 9 = (t : Int) := ⟨y.toNat % 9, by omega, by rw [Int.tmod_eq_emod_of_nonneg (by omega)]; omega⟩
        have HFR := Lib.hid hfree
        clear hfree hmx
        go_upto_region 8 with (fail)
        rcases (show t = 0 ∨ t = 1 ∨ t = 2 ∨ t = 3 ∨ t = 4 ∨ t = 5 ∨ t = 6 ∨ t = 7 by omega) with rfl | rfl | rfl | rfl | rfl | rfl | rfl | rfl
        · obtain ⟨x', hx'⟩ := xor_byte x 1
          go_still_tail 12, (by kernel_rfl)
          change wpList _ _ _ _ _ wr.drew
          have c2 : wr.drew.cell? ⟨g, m, none⟩ = some (.int .u8 x.toNat) := c1
          have f2 : wr.drew.frozen? ⟨g, m, none⟩ = false := f1
          have HO := Lib.hid (And.intro (outAt_set (wx := wr.drew) (base := w.heap.size) x' hg hgl hm HXL.out hxc hcm hxN HC.out HFR.out) (HB.out.drew.setCell (p := ⟨g, m, none⟩) hg (.int .u8 x'.toNat)))
          generalize wr.drew = wd at *
          clear c1 f1
          go_wp2_with fail
          go_roundw
          case rel => exact ⟨k + 1, by omega, by go_num, HO.out.1, HO.out.2⟩
          case measure => simp [intOf]; omega
        · obtain ⟨x', hx'⟩ := xor_byte x 2
          go_still_tail 12, (by kernel_rfl)
          change wpList _ _ _ _ _ wr.drew
          have c2 : wr.drew.cell? ⟨g, m, none⟩ = some (.int .u8 x.toNat) := c1
          have f2 : wr.drew.frozen? ⟨g, m, none⟩ = false := f1
          have HO := Lib.hid (And.intro (outAt_set (wx := wr.drew) (base := w.heap.size) x' hg hgl hm HXL.out hxc hcm hxN HC.out HFR.out) (HB.out.drew.setCell (p := ⟨g, m, none⟩) hg (.int .u8 x'.toNat)))
          generalize wr.drew = wd at *
          clear c1 f1
          go_wp2_with fail
          go_roundw
          case rel => exact ⟨k + 1, by omega, by go_num, HO.out.1, HO.out.2⟩
          case measure => simp [intOf]; omega
        · obtain ⟨x', hx'⟩ := xor_byte x 4
          go_still_tail 12, (by kernel_rfl)
          change wpList _ _ _ _ _ wr.drew
          have c2 : wr.drew.cell? ⟨g, m, none⟩ = some (.int .u8 x.toNat) := c1
          have f2 : wr.drew.frozen? ⟨g, m, none⟩ = false := f1
          have HO := Lib.hid (And.intro (outAt_set (wx := wr.drew) (base := w.heap.size) x' hg hgl hm HXL.out hxc hcm hxN HC.out HFR.out) (HB.out.drew.setCell (p := ⟨g, m, none⟩) hg (.int .u8 x'.toNat)))
          generalize wr.drew = wd at *
          clear c1 f1
          go_wp2_with fail
          go_roundw
          case rel => exact ⟨k + 1, by omega, by go_num, HO.out.1, HO.out.2⟩
          case measure => simp [intOf]; omega
        · obtain ⟨x', hx'⟩ := xor_byte x 8
          go_still_tail 12, (by kernel_rfl)
          change wpList _ _ _ _ _ wr.drew
          have c2 : wr.drew.cell? ⟨g, m, none⟩ = some (.int .u8 x.toNat) := c1
          have f2 : wr.drew.frozen? ⟨g, m, none⟩ = false := f1
          have HO := Lib.hid (And.intro (outAt_set (wx := wr.drew) (base := w.heap.size) x' hg hgl hm HXL.out hxc hcm hxN HC.out HFR.out) (HB.out.drew.setCell (p := ⟨g, m, none⟩) hg (.int .u8 x'.toNat)))
          generalize wr.drew = wd at *
          clear c1 f1
          go_wp2_with fail
          go_roundw
          case rel => exact ⟨k + 1, by omega, by go_num, HO.out.1, HO.out.2⟩
          case measure => simp [intOf]; omega
        · obtain ⟨x', hx'⟩ := xor_byte x 16
          go_still_tail 12, (by kernel_rfl)
          change wpList _ _ _ _ _ wr.drew
          have c2 : wr.drew.cell? ⟨g, m, none⟩ = some (.int .u8 x.toNat) := c1
          have f2 : wr.drew.frozen? ⟨g, m, none⟩ = false := f1
          have HO := Lib.hid (And.intro (outAt_set (wx := wr.drew) (base := w.heap.size) x' hg hgl hm HXL.out hxc hcm hxN HC.out HFR.out) (HB.out.drew.setCell (p := ⟨g, m, none⟩) hg (.int .u8 x'.toNat)))
          generalize wr.drew = wd at *
          clear c1 f1
          go_wp2_with fail
          go_roundw
          case rel => exact ⟨k + 1, by omega, by go_num, HO.out.1, HO.out.2⟩
          case measure => simp [intOf]; omega
        · obtain ⟨x', hx'⟩ := xor_byte x 32
          go_still_tail 12, (by kernel_rfl)
          change wpList _ _ _ _ _ wr.drew
          have c2 : wr.drew.cell? ⟨g, m, none⟩ = some (.int .u8 x.toNat) := c1
          have f2 : wr.drew.frozen? ⟨g, m, none⟩ = false := f1
          have HO := Lib.hid (And.intro (outAt_set (wx := wr.drew) (base := w.heap.size) x' hg hgl hm HXL.out hxc hcm hxN HC.out HFR.out) (HB.out.drew.setCell (p := ⟨g, m, none⟩) hg (.int .u8 x'.toNat)))
          generalize wr.drew = wd at *
          clear c1 f1
          go_wp2_with fail
          go_roundw
          case rel => exact ⟨k + 1, by omega, by go_num, HO.out.1, HO.out.2⟩
          case measure => simp [intOf]; omega
        · obtain ⟨x', hx'⟩ := xor_byte x 64
          go_still_tail 12, (by kernel_rfl)
          change wpList _ _ _ _ _ wr.drew
          have c2 : wr.drew.cell? ⟨g, m, none⟩ = some (.int .u8 x.toNat) := c1
          have f2 : wr.drew.frozen? ⟨g, m, none⟩ = false := f1
          have HO := Lib.hid (And.intro (outAt_set (wx := wr.drew) (base := w.heap.size) x' hg hgl hm HXL.out hxc hcm hxN HC.out HFR.out) (HB.out.drew.setCell (p := ⟨g, m, none⟩) hg (.int .u8 x'.toNat)))
          generalize wr.drew = wd at *
          clear c1 f1
          go_wp2_with fail
          go_roundw
          case rel => exact ⟨k + 1, by omega, by go_num, HO.out.1, HO.out.2⟩
          case measure => simp [intOf]; omega
        · obtain ⟨x', hx'⟩ := xor_byte x 128
          go_still_tail 12, (by kernel_rfl)
          change wpList _ _ _ _ _ wr.drew
          have c2 : wr.drew.cell? ⟨g, m, none⟩ = some (.int .u8 x.toNat) := c1
          have f2 : wr.drew.frozen? ⟨g, m, none⟩ = false := f1
          have HO := Lib.hid (And.intro (outAt_set (wx := wr.drew) (base := w.heap.size) x' hg hgl hm HXL.out hxc hcm hxN HC.out HFR.out) (HB.out.drew.setCell (p := ⟨g, m, none⟩) hg (.int .u8 x'.toNat)))
          generalize wr.drew = wd at *
          clear c1 f1
          go_wp2_with fail
          go_roundw
          case rel => exact ⟨k + 1, by omega, by go_num, HO.out.1, HO.out.2⟩
          case measure => simp [intOf]; omega
    · have HRD := Lib.hid (OutAt.rd HXL.out HX.out)
      by_cases a1 : k < n2
      · by_cases a2 : k < n3
        · by_cases a3 : k < 4
          · obtain rfl : nx = 0 := by omega
            go_wp2_with fail
            go_ret
            exact ⟨Ax, 0, cx, xs, rfl, HRD.out, hxc, hxN, HB.out⟩
          · have p1 : decide ((k : Int) < 4) = false := by simp; omega
            go_wp2_with fail
            go_ret
            exact ⟨Ax, nx, cx, xs, rfl, HRD.out, hxc, hxN, HB.out⟩
        · have p1 : decide ((k : Int) < (n3 : Int)) = false := by simp; omega
          go_wp2_with fail
          go_ret
          exact ⟨Ax, nx, cx, xs, rfl, HRD.out, hxc, hxN, HB.out⟩
      · have p1 : decide ((k : Int) < (n2 : Int)) = false := by simp; omega
        go_wp2_with fail
        go_ret
        exact ⟨Ax, nx, cx, xs, rfl, HRD.out, hxc, hxN, HB.out⟩
end Go.Proofs.Ytemagoacjpilaaa
