/-
  What Grow returns: the tree of calls, and its pairs; conditions: the calls are read, the table holds its words. It only makes memory of its own.
-/
import Derived.Test.YtolkpjbbfopmnaaDoorPairsA
namespace Go.Proofs.YtolkpjbbfopmnaaDoor
open Go.RowKit
open Tr

theorem zero29 : ∀ w, (zeroValue 33).run Tryd.prog w = .ok (.agg #[.int .u8 0, .int .u8 0, .slice none 0 0, .slice none 0 0]) w := (zero_of_info (P := Tryd.prog) (t := 33) (v := .agg #[.int .u8 0, .int .u8 0, .slice none 0 0, .slice none 0 0]) (n := 4) (by kernel_rfl)).1
theorem info29 : (Tryd.prog.info? 33).map (·.size) = some 4 := by kernel_rfl
theorem TIn.on {G : Nat → Prop} {w w' : World} {o : Option T} {g : Nat} (h : TIn G w w.heap.size o g) (hb : Below w.heap.size w w') : TIn G w' w'.heap.size o g := (h.below hb (Nat.le_refl _)).more hb.size

def GrowPost (G : Nat → Prop) (most : Nat) (o : Option T) (w : World) (e : Ending) (w' : World) : Prop := ∃ g A n c, e = .returned (.tuple #[ptr (some g), .slice A n c]) ∧ TIn G w' w'.heap.size o g ∧ PRd w' w'.heap.size A n (optLeaves o) ∧ n ≤ c ∧ (A = none → c = 0) ∧ Fine o ∧ oln o ≤ most ∧ Below w.heap.size w w'

theorem Ac.one (a : Ac) (A1 : Option Addr) (n1 c1 : Nat) (A2 : Option Addr) (n2 c2 : Nat) : (a.cells A1 n1 c1 A2 n2 c2).all (·.oneCell') = true := by
  unfold Ac.cells
  exact all_oneCell_toArray (fun u hu => by
    simp only [List.mem_cons, List.not_mem_nil, or_false] at hu
    rcases hu with rfl | rfl | rfl | rfl <;> rfl)
theorem Rd.pre {w : World} {B n : Nat} {A : Option Addr} {bs : List UInt8} (h : Rd w B A n bs) (m : Nat) (hm : m ≤ n) : Rd w B A m (bs.take m) := by
  have hl := h.len
  refine ⟨by simp; omega, fun hn => ?_⟩
  obtain ⟨b, o, e, hb, hc⟩ := h.2 (by omega)
  refine ⟨b, o, e, hb, fun j u hu => ?_⟩
  rw [List.getElem?_map, List.getElem?_take] at hu
  split at hu
  · exact hc j u (by rw [List.getElem?_map]; exact hu)
  · cases hu
theorem Ac.cut_take (a : Ac) (n2 : Nat) (h : a.val.length = n2) (M : Nat) (hM : M = min 100 n2) : a.val.take M = a.cut := by
  unfold Ac.cut
  subst hM
  rcases Nat.le_total 100 n2 with h1 | h1
  · rw [Nat.min_eq_left h1]
  · rw [Nat.min_eq_right h1, List.take_of_length_le (by omega), List.take_of_length_le (by omega)]
theorem Ac.cut_len (a : Ac) : a.cut.length ≤ 100 := by unfold Ac.cut; rw [List.length_take]; omega

/-- How memory stands at the head of a round. -/
structure GAt (G : Nat → Prop) (W : World) (wx : World) (i : Nat) (o : Option T) (g : Nat) (A : Option Addr) (n c : Nat) : Prop where
  tree : TIn G wx wx.heap.size o g
  prs : PRd wx wx.heap.size A n (optLeaves o)
  nc : n ≤ c
  anc : A = none → c = 0
  fine : Fine o
  few : oln o ≤ i
  bel : Below W.heap.size W wx

theorem GAt.on {G : Nat → Prop} {W wx w' : World} {i : Nat} {o : Option T} {g : Nat} {A : Option Addr} {n c : Nat} (h : GAt G W wx i o g A n c) (hb : Below wx.heap.size wx w') : GAt G W w' i o g A n c :=
  ⟨h.tree.on hb, h.prs.on hb, h.nc, h.anc, h.fine, h.few, h.bel.trans (hb.mono h.bel.size)⟩

set_option maxRecDepth 100000 in
set_option maxHeartbeats 2000000 in
theorem grow_any (G : Nat → Prop) (A : Option Addr) (n c : Nat) (cs : List Ac) (most : Nat) (w : World) (hc : ARd w w.heap.size A n cs) (hn : n ≤ 9223372036854775807) (hm : most ≤ 1000) (ht : Sh.Tab w 1) (hG : Room G w) :
    Calls Tryd.prog 7 #[.slice A n c, .int .i64 most] w (GrowPost G most (grow most cs none) w) := by
  have HC := Lib.hid hc
  have HT := Lib.hid ht
  have HLEN := Lib.hid hc.1
  have hw := hG.1
  have HRM := Lib.hid hG
  clear hc ht hG
  go_enter Tryd.func7, Tryd.ntmps7
  go_wp2_with fail
  refine (new_any (G := G) w HRM.out).mono ?_
  rintro e w1 ⟨g0, rfl, _, hT1, hb1⟩
  have HG1 := Lib.hid (GAt.mk (G := G) (A := none) (n := 0) (c := 0) (i := 0) hT1 PRd.nil (Nat.le_refl _) (fun _ => rfl) Fine.none (Nat.le_refl _) hb1)
  clear hT1 hb1
  go_wp2_with fail
  go_loopg [6, 7, 15] n (fun gk s6 s7 s15 wx => ∃ i o g A' n' c', i + gk = n ∧ i ≤ most ∧ s15 = .int .i64 (i : Nat) ∧ s6 = ptr (some g) ∧ s7 = .slice A' n' c' ∧ GAt G w wx i o g A' n' c' ∧ grow (most - i) (cs.drop i) o = grow most cs none)
  case atStart => exact ⟨0, none, g0, none, 0, 0, by omega, by omega, rfl, rfl, rfl, HG1.out, rfl⟩
  case round =>
    clear HG1
    obtain ⟨i, o, g, A', n', c', hi, him, rfl, rfl, rfl, hG, hgr⟩ := hrel
    have HG := Lib.hid hG
    have HGR := Lib.hid hgr
    have hs := hG.bel.size
    clear hG hgr
    cases gk with
    | zero =>
      obtain rfl : i = n := by omega
      go_wp2_with fail
      go_ret2
      have hgr := HGR.out
      rw [List.drop_eq_nil_of_le (by rw [HLEN.out]; exact Nat.le_refl _), grow_nil] at hgr
      subst hgr
      exact ⟨g, A', n', c', rfl, HG.out.tree, HG.out.prs, HG.out.nc, HG.out.anc, HG.out.fine, Nat.le_trans HG.out.few (by omega), HG.out.bel⟩
    | succ gn =>
      have hin : i < n := by omega
      obtain ⟨a, hai⟩ : ∃ a, cs[i]? = some a := ⟨_, List.getElem?_eq_getElem (by rw [HLEN.out]; exact hin)⟩
      have HDC : Hid (cs.drop i = a :: cs.drop (i + 1)) := Lib.hid (by obtain ⟨hl, rfl⟩ := List.getElem?_eq_some_iff.1 hai; exact List.drop_eq_getElem_cons hl)
      obtain ⟨b, ob, A1, n1, c1, A2, n2, c2, rfl, hbb, k0, k1, k2, k3, m1, m2, m3, m4, r1, r2⟩ := HC.out.2 i a hai
      have HR := Lib.hid (And.intro r1 r2)
      have hcw : ∀ q, wr.cell? ⟨b, q, none⟩ = w.cell? ⟨b, q, none⟩ := fun q => HG.out.bel.cell (p := ⟨b, q, none⟩) hbb
      rw [← hcw] at k0 k1 k2 k3
      clear hai r1 r2 hcw
      have hz29 := zero29
      go_upto_region 5 with (fail)
      refine wp_region_lit ?_
      iterate 15 go_step
      clear hz29 k0 k1 k2 k3
      have hw2 := Whole.made wr 33 #[.int .u8 0, .int .u8 0, .slice none 0 0, .slice none 0 0]
      refine wpList_store_mid rfl 33 (.tmp 9) (.tmp 19) rfl wr.heap.size 0 (a.cells A1 n1 c1 A2 n2 c2) rfl rfl ?_ ?_ (a.one ..) ?_
      · exact hw2.there_
      · exact info29
      have hw3 := hw2.setAll (vs := a.cells A1 n1 c1 A2 n2 c2) rfl
      have hb3 : Below wr.heap.size wr ((wr.alloc (.cells #[.int .u8 0, .int .u8 0, .slice none 0 0, .slice none 0 0] 33)).setCells wr.heap.size 0 (a.cells A1 n1 c1 A2 n2 c2).toList) := below_setCells wr wr.heap.size _ 0 ((Below.refl _ _).alloc (Nat.le_refl _) _) (Nat.le_refl _)
      generalize (wr.alloc (.cells #[.int .u8 0, .int .u8 0, .slice none 0 0, .slice none 0 0] 33)).setCells wr.heap.size 0 (a.cells A1 n1 c1 A2 n2 c2).toList = w3 at *
      have hs3 : wr.heap.size < w3.heap.size := hw3.lt
      have HW3 := Lib.hid hw3
      have HG3 := Lib.hid (HG.out.on hb3)
      clear hw2 hw3 hb3 HG
      generalize wr.heap.size = g3 at *
      go_upto_region 6 with (fail)
      have hS0 : w3.drew.cell? ⟨g3, 0, none⟩ = some (.int .u8 a.kind.toNat) ∧ w3.drew.cell? ⟨g3, 1, none⟩ = some (.int .u8 a.no.toNat) ∧ w3.drew.cell? ⟨g3, 2, none⟩ = some (.slice A1 n1 c1) ∧ w3.drew.cell? ⟨g3, 3, none⟩ = some (.slice A2 n2 c2) := ⟨HW3.out.at_ rfl, HW3.out.at_ rfl, HW3.out.at_ rfl, HW3.out.at_ rfl⟩
      refine wp_region_held_drew (S := fun w' => w'.cell? ⟨g3, 0, none⟩ = some (.int .u8 a.kind.toNat) ∧ w'.cell? ⟨g3, 1, none⟩ = some (.int .u8 a.no.toNat) ∧ w'.cell? ⟨g3, 2, none⟩ = some (.slice A1 n1 c1) ∧ w'.cell? ⟨g3, 3, none⟩ = some (.slice A2 n2 c2)) (by kernel_rfl) hS0 (fun hHeld => ?_)
      obtain ⟨M, hM⟩ : ∃ M : Nat, M = min 100 n2 := ⟨_, rfl⟩
      have hmin : (if (100 : Int) < (n2 : Int) then (100 : Int) else (n2 : Int)) = (M : Int) := by split <;> omega
      have hM1 : M ≤ n2 := by omega
      have hM3 : M ≤ c2 := by omega
      have hM2 : M ≤ 100 := by omega
      have HM := Lib.hid hM
      clear hM
      refine wpAnyH_take (i := 0) (oi := { dst := some 20, op := Op.load 33 (Operand.tmp 9), type := 33, pos := "law.go:42", after := #[], guard := none }) (v := ?_) rfl (by kernel_rfl) (by kernel_rfl) (by kernel_rfl) (fun _ _ _ h => h) (Or.inl ⟨by rfl, ?_⟩) (by assumption) ?_
      rotate_left
      · first | (intro w hSw; (try dsimp only at hSw); go_simp; done) | (intro w hSw; (try dsimp only at hSw); go_simp; with_reducible rfl)
      simp only [Act.put, List.setIfInBounds_toArray, List.set_cons_zero, List.set_cons_succ]
      refine wpAnyH_take (i := 2) (oi := { dst := some 22, op := Op.fieldAddr 33 (Operand.tmp 9) 3, type := 0, pos := "law.go:42", after := #[], guard := none }) (v := ?_) rfl (by kernel_rfl) (by kernel_rfl) (by kernel_rfl) (fun _ _ _ h => h) (Or.inl ⟨by rfl, ?_⟩) (by assumption) ?_
      rotate_left
      · first | (intro w hSw; (try dsimp only at hSw); go_simp; done) | (intro w hSw; (try dsimp only at hSw); go_simp; with_reducible rfl)
      simp only [Act.put, List.setIfInBounds_toArray, List.set_cons_zero, List.set_cons_succ]
      refine wpAnyH_take (i := 3) (oi := { dst := some 23, op := Op.load 31 (Operand.tmp 22), type := 31, pos := "law.go:42", after := #[{ on := 2, ground := Ground.data }], guard := none }) (v := ?_) rfl (by kernel_rfl) (by kernel_rfl) (by kernel_rfl) (fun _ _ _ h => h) (Or.inl ⟨by rfl, ?_⟩) (by assumption) ?_
      rotate_left
      · first | (intro w hSw; (try dsimp only at hSw); go_simp; done) | (intro w hSw; (try dsimp only at hSw); go_simp; with_reducible rfl)
      simp only [Act.put, List.setIfInBounds_toArray, List.set_cons_zero, List.set_cons_succ]
      refine wpAnyH_take (i := 4) (oi := { dst := some 24, op := Op.fieldAddr 33 (Operand.tmp 9) 3, type := 0, pos := "law.go:42", after := #[], guard := none }) (v := ?_) rfl (by kernel_rfl) (by kernel_rfl) (by kernel_rfl) (fun _ _ _ h => h) (Or.inl ⟨by rfl, ?_⟩) (by assumption) ?_
      rotate_left
      · first | (intro w hSw; (try dsimp only at hSw); go_simp; done) | (intro w hSw; (try dsimp only at hSw); go_simp; with_reducible rfl)
      simp only [Act.put, List.setIfInBounds_toArray, List.set_cons_zero, List.set_cons_succ]
      refine wpAnyH_take (i := 5) (oi := { dst := some 25, op := Op.load 31 (Operand.tmp 24), type := 31, pos := "law.go:42", after := #[{ on := 4, ground := Ground.data }], guard := none }) (v := ?_) rfl (by kernel_rfl) (by kernel_rfl) (by kernel_rfl) (fun _ _ _ h => h) (Or.inl ⟨by rfl, ?_⟩) (by assumption) ?_
      rotate_left
      · first | (intro w hSw; (try dsimp only at hSw); go_simp; done) | (intro w hSw; (try dsimp only at hSw); go_simp; with_reducible rfl)
      simp only [Act.put, List.setIfInBounds_toArray, List.set_cons_zero, List.set_cons_succ]
      refine wpAnyH_take (i := 6) (oi := { dst := some 26, op := Op.call { callee := Callee.builtin Builtin.len, args := #[Operand.tmp 25], argTypes := #[31] }, type := 3, pos := "law.go:42", after := #[{ on := 5, ground := Ground.data }], guard := none }) (v := ?_) rfl (by kernel_rfl) (by kernel_rfl) (by kernel_rfl) (fun _ _ _ h => h) (Or.inl ⟨by rfl, ?_⟩) (by assumption) ?_
      rotate_left
      · first | (intro w hSw; (try dsimp only at hSw); go_simp; done) | (intro w hSw; (try dsimp only at hSw); go_simp; with_reducible rfl)
      simp only [Act.put, List.setIfInBounds_toArray, List.set_cons_zero, List.set_cons_succ]
      refine wpAnyH_take (i := 7) (oi := { dst := some 27, op := Op.call { callee := Callee.builtin Builtin.min, args := #[Operand.tmp 26, Operand.const (Value.int IntKind.i64 100)], argTypes := #[3, 3] }, type := 3, pos := "law.go:42", after := #[{ on := 6, ground := Ground.data }], guard := none }) (v := ?_) rfl (by kernel_rfl) (by kernel_rfl) (by kernel_rfl) (fun _ _ _ h => h) (Or.inl ⟨by rfl, ?_⟩) (by assumption) ?_
      rotate_left
      · first | (intro w hSw; (try dsimp only at hSw); go_simp; done) | (intro w hSw; (try dsimp only at hSw); go_simp; with_reducible rfl)
      simp only [Act.put, List.setIfInBounds_toArray, List.set_cons_zero, List.set_cons_succ]
      refine wpAnyH_take (i := 8) (oi := { dst := some 28, op := Op.slice 31 (Operand.tmp 23) none (some (Operand.tmp 27)) none, type := 31, pos := "law.go:42", after := #[{ on := 3, ground := Ground.data }, { on := 7, ground := Ground.data }], guard := none }) (v := ?_) rfl (by kernel_rfl) (by kernel_rfl) (by kernel_rfl) (fun _ _ _ h => h) (Or.inl ⟨by rfl, ?_⟩) (by assumption) ?_
      rotate_left
      · first | (intro w hSw; (try dsimp only at hSw); go_simp; done) | (intro w hSw; (try dsimp only at hSw); go_simp; with_reducible rfl)
      simp only [Act.put, List.setIfInBounds_toArray, List.set_cons_zero, List.set_cons_succ]
      clear hmin hS0 hHeld
      have HW4 : Hid (Whole w3.drew g3 33 (a.cells A1 n1 c1 A2 n2 c2)) := Lib.hid HW3.out
      have HG4 := Lib.hid (HG3.out.on (Below.refl _ _).drew)
      have hs4 : g3 < w3.drew.heap.size := hs3
      clear HW3 HG3 hs3
      generalize w3.drew = w4 at *
      have HCK := Lib.hid (key_any a A1 A2 n1 c1 n2 c2 w4 ((HR.out.1.below HG4.out.bel (Nat.le_refl _)).more HG4.out.bel.size) m1)
      refine wpAnyH_ready (rs := [1]) (by kernel_rfl) (by simp) ?_
      refine AllReadyH.cons rfl (fun K hK => ?_) AllReadyH.nil
      go_simp
      refine HCK.out.mono ?_
      rintro e w5 ⟨Ak, nk, ck, rfl, hrk, hnck, hb5⟩
      have HW5 := Lib.hid (HW4.out.below hb5 hs4)
      have HG5 := Lib.hid (HG4.out.on hb5)
      have hs5 := hb5.size
      have HRK := Lib.hid hrk
      have hS5 : w5.cell? ⟨g3, 0, none⟩ = some (.int .u8 a.kind.toNat) ∧ w5.cell? ⟨g3, 1, none⟩ = some (.int .u8 a.no.toNat) ∧ w5.cell? ⟨g3, 2, none⟩ = some (.slice A1 n1 c1) ∧ w5.cell? ⟨g3, 3, none⟩ = some (.slice A2 n2 c2) := ⟨HW5.out.at_ rfl, HW5.out.at_ rfl, HW5.out.at_ rfl, HW5.out.at_ rfl⟩
      refine hK.out _ _ hS5 (fun hHeld => ?_)
      clear hK K HCK hrk hb5 HW4 HG4
      refine wpAnyH_take (i := 9) (oi := { dst := some 10, op := Op.assign (Operand.tmp 21), type := 31, pos := "law.go:42", after := #[{ on := 1, ground := Ground.data }, { on := 1, ground := Ground.chain }, { on := 0, ground := Ground.phase }, { on := 1, ground := Ground.phase }, { on := 2, ground := Ground.textOnly Departure.lateStores }, { on := 3, ground := Ground.textOnly Departure.lateStores }, { on := 4, ground := Ground.textOnly Departure.lateStores }, { on := 5, ground := Ground.textOnly Departure.lateStores }, { on := 6, ground := Ground.textOnly Departure.lateStoresUnsure }, { on := 7, ground := Ground.textOnly Departure.lateStoresUnsure }, { on := 8, ground := Ground.textOnly Departure.lateStoresUnsure }], guard := none }) (v := ?_) rfl (by kernel_rfl) (by kernel_rfl) (by kernel_rfl) (fun _ _ _ h => h) (Or.inl ⟨by rfl, ?_⟩) (by assumption) ?_
      rotate_left
      · first | (intro w hSw; (try dsimp only at hSw); go_simp; done) | (intro w hSw; (try dsimp only at hSw); go_simp; with_reducible rfl)
      simp only [Act.put, List.setIfInBounds_toArray, List.set_cons_zero, List.set_cons_succ]
      refine wpAnyH_take (i := 10) (oi := { dst := some 11, op := Op.assign (Operand.tmp 28), type := 31, pos := "law.go:42", after := #[{ on := 8, ground := Ground.data }, { on := 9, ground := Ground.chain }, { on := 0, ground := Ground.phase }, { on := 1, ground := Ground.phase }, { on := 2, ground := Ground.phase }, { on := 3, ground := Ground.phase }, { on := 4, ground := Ground.phase }, { on := 5, ground := Ground.phase }, { on := 6, ground := Ground.phase }, { on := 7, ground := Ground.phase }, { on := 8, ground := Ground.phase }, { on := 9, ground := Ground.phase }], guard := none }) (v := ?_) rfl (by kernel_rfl) (by kernel_rfl) (by kernel_rfl) (fun _ _ _ h => h) (Or.inl ⟨by rfl, ?_⟩) (by assumption) ?_
      rotate_left
      · first | (intro w hSw; (try dsimp only at hSw); go_simp; done) | (intro w hSw; (try dsimp only at hSw); go_simp; with_reducible rfl)
      simp only [Act.put, List.setIfInBounds_toArray, List.set_cons_zero, List.set_cons_succ]
      refine wpAnyH_done (by kernel_rfl) ?_ _
      clear hHeld
      obtain ⟨q0, -⟩ := hS5
      have HKL : Hid (a.key.length = nk) := Lib.hid HRK.out.len
      have HRV := Lib.hid (show Rd w5 w5.heap.size A2 M a.cut by
        have h := ((HR.out.2.below HG5.out.bel (Nat.le_refl _)).more HG5.out.bel.size).pre M hM1
        rwa [a.cut_take n2 HR.out.2.len M HM.out] at h)
      have hnk1 : 1 ≤ nk := by have := a.key_pos; have := HKL.out; omega
      have HTB := Lib.hid (Sh.tab_below HT.out HG5.out.bel hw)
      have hws : 1 < w5.heap.size := by have := HG5.out.bel.size; omega
      by_cases him2 : i < most
      · by_cases hk90 : 90 < nk
        · have HX := HDC
          have HY := HKL
          go_wp2_with fail
          go_ret2
          have hgr := HGR.out
          rw [HDC.out, grow_stop _ _ _ _ (by rw [HKL.out]; exact hk90)] at hgr
          subst hgr
          exact ⟨g, A', n', c', rfl, HG5.out.tree, HG5.out.prs, HG5.out.nc, HG5.out.anc, HG5.out.fine, Nat.le_trans HG5.out.few (by omega), HG5.out.bel⟩
        · have hnk : nk ≤ 90 := by omega
          have HGS : Hid (grow (most - (i + 1)) (cs.drop (i + 1)) (gstep o a) = grow most cs none) := Lib.hid (by
            rw [← HGR.out, HDC.out, show most - i = (most - (i + 1)) + 1 by omega, grow_step _ _ _ _ (by rw [HKL.out]; exact hk90)])
          have hfew : oln o ≤ i := HG5.out.few
          have hpl : n' ≤ i := by have h1 := HG5.out.prs.len; have h2 := oln_leaves o; omega
          by_cases hk6 : a.kind.toNat % 6 < 4
          · have hk6' : (a.kind.toNat : Int) % 6 < 4 := by omega
            have HC1 := Lib.hid (put_any o g Ak A2 nk ck M c2 a.key a.cut w5 HG5.out.tree HRK.out HRV.out hnk1 (by omega) (by omega) (by omega) HTB.out (HRM.out.on HG5.out.bel))
            clear HGR HDC
            go_wp2_with fail
            refine HC1.out.mono ?_
            rintro e w6 ⟨g6, rfl, hg6, hT6, hb6⟩
            have hs6 := hb6.size
            have HC2 := Lib.hid (putPair_any A' n' c' Ak nk ck A2 M c2 (optLeaves o) a.key a.cut w6 (HG5.out.prs.on hb6) HG5.out.nc HG5.out.anc ((HRK.out.below hb6 (Nat.le_refl _)).more hs6) hnck ((HRV.out.below hb6 (Nat.le_refl _)).more hs6) (by omega) (by omega))
            have HT6 := Lib.hid hT6
            have HB6 := Lib.hid (HG5.out.bel.trans (hb6.mono HG5.out.bel.size))
            clear hT6 hb6 HC1
            go_wp2_with fail
            refine HC2.out.mono ?_
            rintro e w7 ⟨A7, n7, c7, rfl, hp7, hnc7, hA7, hb7⟩
            have HG7 := Lib.hid (GAt.mk (G := G) (i := i + 1) (W := w) (HT6.out.on hb7) (by rw [show optLeaves (some (oput o a.key a.cut)) = (oput o a.key a.cut).leaves from rfl, oput_leaves o _ _ HG5.out.fine.srt]; exact hp7) hnc7 hA7 (HG5.out.fine.put a.key a.cut) (Nat.le_trans (oput_n o a.key a.cut) (by omega)) (HB6.out.trans (hb7.mono HB6.out.size)))
            clear hp7 hA7 hb7 HC2 HT6 HB6
            go_wp2_with fail
            go_roundg gn
            case measure => omega
            case rel => exact ⟨i + 1, some (oput o a.key a.cut), g6, A7, n7, c7, by omega, by omega, congrArg (Value.int .i64) (by omega), rfl, rfl, HG7.out, by rw [← HGS.out, gstep_put hk6]⟩
          · have hk6' : 4 ≤ (a.kind.toNat : Int) % 6 := by omega
            have HC1 := Lib.hid (cut_any (some o) (some g) Ak nk ck a.key w5 ⟨g, rfl, HG5.out.tree⟩ HRK.out (by show oln o ≤ _; omega) HTB.out (HRM.out.on HG5.out.bel))
            clear HGR HDC
            go_wp2_with fail
            refine HC1.out.mono ?_
            rintro e w6 hpost
            rcases hpost with ⟨hf, rfl, rfl⟩ | ⟨v, g6, hf, rfl, hg6, hT6, hb6⟩
            · have HC2 := Lib.hid (cutPair_any A' n' c' Ak nk ck (optLeaves o) a.key w5 HG5.out.prs HRK.out (by omega))
              have HF := Lib.hid hf
              clear hf HC1
              go_wp2_with fail
              refine HC2.out.mono ?_
              rintro e w7 ⟨A7, n7, c7, rfl, hp7, hnc7, hA7, hb7⟩
              have hfo : ofind o a.key = none := HF.out
              rw [findL_none_cut (by rw [← ofind_leaves o _ HG5.out.fine.srt]; exact hfo)] at hp7
              have HG7 := Lib.hid (GAt.mk (G := G) (i := i + 1) (W := w) (HG5.out.tree.on hb7) hp7 hnc7 hA7 HG5.out.fine (by omega) (HG5.out.bel.trans (hb7.mono HG5.out.bel.size)))
              have HE : Hid (gstep o a = o) := Lib.hid (by unfold gstep; rw [if_neg hk6, hfo]; rfl)
              clear hp7 hA7 hb7 HC2 hfo
              go_wp2_with fail
              go_roundg gn
              case measure => omega
              case rel => exact ⟨i + 1, o, g, A7, n7, c7, by omega, by omega, congrArg (Value.int .i64) (by omega), rfl, rfl, HG7.out, by rw [← HGS.out, HE.out]⟩
            · have hs6 := hb6.size
              have HC2 := Lib.hid (cutPair_any A' n' c' Ak nk ck (optLeaves o) a.key w6 (HG5.out.prs.on hb6) ((HRK.out.below hb6 (Nat.le_refl _)).more hs6) (by omega))
              have HF := Lib.hid hf
              have HT6 := Lib.hid hT6
              have HB6 := Lib.hid (HG5.out.bel.trans (hb6.mono HG5.out.bel.size))
              clear hf HC1 hT6 hb6
              go_wp2_with fail
              refine HC2.out.mono ?_
              rintro e w7 ⟨A7, n7, c7, rfl, hp7, hnc7, hA7, hb7⟩
              have hfs : (ofind o a.key).isSome = true := by rw [show ofind o a.key = some v from HF.out]; rfl
              have hcl := ocut_leaves o a.key HG5.out.fine.srt hfs
              have HG7 := Lib.hid (GAt.mk (G := G) (i := i + 1) (W := w) (HT6.out.on hb7) (by show PRd w7 w7.heap.size A7 n7 (optLeaves (ocut o a.key)); rw [hcl]; exact hp7) hnc7 hA7 (HG5.out.fine.cut a.key hfs) (by rw [← oln_leaves, show topOf (some o) = o from rfl, hcl]; have h1 := cutL_le (optLeaves o) a.key; rw [oln_leaves] at h1; omega) (HB6.out.trans (hb7.mono HB6.out.size)))
              have HE : Hid (gstep o a = ocut o a.key) := Lib.hid (by unfold gstep; rw [if_neg hk6, if_pos hfs])
              clear hp7 hA7 hb7 HC2 hfs hcl HT6 HB6
              go_wp2_with fail
              go_roundg gn
              case measure => omega
              case rel => exact ⟨i + 1, ocut o a.key, g6, A7, n7, c7, by omega, by omega, congrArg (Value.int .i64) (by omega), rfl, rfl, HG7.out, by rw [← HGS.out, HE.out]⟩
      · obtain rfl : i = most := by omega
        go_wp2_with fail
        go_ret2
        have hgr := HGR.out
        rw [Nat.sub_self, show grow 0 (cs.drop i) o = o from rfl] at hgr
        subst hgr
        exact ⟨g, A', n', c', rfl, HG5.out.tree, HG5.out.prs, HG5.out.nc, HG5.out.anc, HG5.out.fine, Nat.le_trans HG5.out.few (by omega), HG5.out.bel⟩
end Go.Proofs.YtolkpjbbfopmnaaDoor
