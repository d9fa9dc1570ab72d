/-
  What the document's Eight returns: the eight bytes of a number, the highest first: no condition.
  What the document's Hash returns: the sum of the text that the chapter gives; conditions: the node's bytes are read, there are no more than 90000 of them, the document's table holds its words. It only makes memory of its own.
-/
import Derived.Test.YtbhmldoehgkhfaaDoorFindA
import Derived.Test.YtbhmldoehgkhfaaDoorShaRef
namespace Go.Proofs.YtbhmldoehgkhfaaDoor
open Go.RowKit
open Tr

/-- append of bytes, at an operation of a region that draws. -/
theorem step_append_b {ops : Array Oper} {o : Oper} {a : Act} {w : World} {K : Act → World → Prop} {Q : Exit → Act → World → Prop} {F : Prop} (hgd : o.guard = none) (s x : Operand)
    (ho : o.op = .call { callee := .builtin .append, args := #[s, x], argTypes := #[27, 27] })
    (base : Nat) (v : Value) (n : Nat) (bs : List UInt8) (hs : a.eval s = v) (hown : w.ownsRow base 5 1 v n (bs.map V8))
    (B : Nat) (A : Option Addr) (m c : Nat) (cs : List UInt8) (hx : a.eval x = .slice A m c) (hr : Rd w B A m cs)
    (hb : n + m ≤ 140737488355328) (hbase : base ≤ w.heap.size)
    (h : ∀ v' w', w'.ownsRow base 5 1 v' (n + m) ((bs ++ cs).map V8) → w.grownBy w' v.ownBlock → (v'.ownBlock = v.ownBlock ∨ v'.ownBlock = some w.heap.size) → K (a.put o.dst v') w') :
    if Region.wanted o (yielded ops a.tmps) = true then Oper.wp Tryd.prog o a w K Q else F := by
  have hw : Region.wanted o (yielded ops a.tmps) = true := by simp [Region.wanted, hgd]
  rw [if_pos hw]
  obtain ⟨v', w', hrun, h2, h3, h4⟩ := run_append_rd w base 27 o.type 5 _ 1 1 Tryd.underlying27 info5 rfl (by omega) v n _ hown B A m c _ hr (one_bytes cs) (by unfold maxLen; omega) (by omega) hbase
  unfold Oper.wp execOp
  simp only [ho, resolve, invoke, builtin, Sem.run_bind, Sem.run_pure, Result.andThen_ok, List.map_toArray, List.map_cons, List.map_nil, hs, hx, hrun]
  exact h v' w' (by rw [List.map_append]; exact h2) h3 h4

set_option maxRecDepth 100000 in
theorem eight_any (z : UInt64) (w : World) : Calls Tryd.prog 69 #[.int .u64 z.toNat] w (BytesPost w (Sh.Sha.be8 z)) := by
  go_enter Tryd.func69, Tryd.ntmps69
  go_wp2_with fail
  go_loopg [3, 4] 8 (fun gk o i wx => ∃ k : Nat, k + gk = 8 ∧ i = .int .i64 k ∧ wx.ownsRow w.heap.size 5 1 o k (((Sh.Sha.be8 z).take k).map V8) ∧ Below w.heap.size w wx)
  case atStart => exact ⟨0, by omega, rfl, World.ownsRow_nil _ _ _ _, Below.refl _ _⟩
  case round =>
    obtain ⟨k, hk, rfl, hown, hbl⟩ := hrel
    obtain ⟨A0, c0, rfl, _, _⟩ := own_form hown
    have HO := Lib.hid hown
    have HB := Lib.hid hbl
    have hbs : w.heap.size ≤ wr.heap.size := hbl.size
    clear hown hbl
    cases gk with
    | succ gn =>
      have hi8 : k < 8 := by omega
      have hsh : (56 - 8 * (k : Int)).toNat = 56 - 8 * k := by omega
      have z0 : 0 ≤ 56 - 8 * (k : Int) := by omega
      have z1 : 56 - 8 * (k : Int) ≤ 64 := by omega
      obtain ⟨v, hv⟩ : ∃ v, (z >>> UInt64.ofNat (56 - 8 * k)).toUInt8 = v := ⟨_, rfl⟩
      have hbyte := Sh.Sha.be8_byte z k hi8
      rw [hv] at hbyte
      have HV : Hid ((Sh.Sha.be8 z).take (k + 1) = (Sh.Sha.be8 z).take k ++ [v]) := Lib.hid (by rw [Sh.Sha.be8_take z k hi8, hv])
      clear hv
      go_upto_region 5 with (fail)
      refine wp_region_lit ?_
      iterate 24 go_step
      have hb0 : Below w.heap.size w (wr.alloc (.cells #[.int .u8 v.toNat] 5)) := HB.out.alloc hbs _
      refine wpList_append_b rfl (.tmp 9) (.tmp 16) rfl w.heap.size _ k _ rfl (HO.out.alloc _) _ _ 1 1 [v] rfl (rd_new wr 5 _ 1 rfl _ rfl) (by omega) (by simp; omega) ?_
      intro v1 w1 hown hb1
      rw [← HV.out] at hown
      have hb : Below w.heap.size w w1 := hb0.trans hb1
      have HH := Lib.hid (And.intro hown hb)
      clear hb0 hb1 hown hb HO HB hsh hbyte
      go_simp
      go_wp2_with fail
      go_roundg gn
      case measure => omega
      case rel => exact ⟨k + 1, by omega, congrArg (Value.int .i64) (by omega), HH.out.1, HH.out.2⟩
    | zero =>
      obtain rfl : k = 8 := by omega
      have hown := HO.out
      rw [List.take_of_length_le (by rw [Sh.Sha.be8_length]; exact Nat.le_refl _)] at hown
      obtain ⟨A1, c1, e, hc, _⟩ := own_form hown
      injection e with e1 _ e2
      subst e1 e2
      have HH := Lib.hid (Rd.of_own hown)
      clear hown HO
      go_wp2_with fail
      go_ret
      exact ⟨A0, 8, c0, rfl, HH.out, hc, HB.out⟩
end Go.Proofs.YtbhmldoehgkhfaaDoor
namespace Go.Proofs.YtbhmldoehgkhfaaDoor
open Go.RowKit
open Tr

theorem tab0_below {w w' : World} (h : Sh.Tab w 0) (hb : Below w.heap.size w w') (hw : 1 < w.heap.size) : Sh.Tab w' 0 := fun j hj =>
  (hb.cell (p := ⟨0, j, none⟩) (by show 0 < _; omega)).trans (h j hj)

set_option maxRecDepth 100000 in
set_option maxHeartbeats 2000000 in
theorem refHash_leaf (A : Option Addr) (n c : Nat) (A' : Option Addr) (n' c' : Nat) (z : Nat) (l r k v : List UInt8) (w : World) (hk : Rd w w.heap.size A n k) (hv : Rd w w.heap.size A' n' v) (hn : n ≤ 90000) (hn' : n' ≤ 90000)
    (ht : Sh.Tab w 0) (hw : 1 < w.heap.size) :
    Calls Tryd.prog 53 #[.agg (acells (.slice A n c) (.slice A' n' c') 0 z l r).toArray] w fun e w' => e = .returned (.agg (Sh.bcells (Sh.Sha.sum (leafText k v)))) ∧ Below w.heap.size w w' := by
  have hz49 := zero49
  have HK := Lib.hid hk
  have HV := Lib.hid hv
  have HT := Lib.hid ht
  clear hk hv ht
  go_enter Tryd.func53, Tryd.ntmps53
  go_upto_region 1 with (fail)
  clear hz49
  have hb : Below w.heap.size w ((w.alloc (.cells (acells (.slice A n c) (.slice A' n' c') 0 z l r).toArray 64)).alloc (.cells (zb 32) 49)) := ((Below.refl _ _).alloc (Nat.le_refl _) _).alloc (by simp) _
  have hw1 := (Whole.made w 64 (acells (.slice A n c) (.slice A' n' c') 0 z l r).toArray).alloc (.cells (zb 32) 49)
  have hw2 := Whole.made (w.alloc (.cells (acells (.slice A n c) (.slice A' n' c') 0 z l r).toArray 64)) 49 (zb 32)
  rw [size_alloc] at hw2
  have hs : w.heap.size + 1 < ((w.alloc (.cells (acells (.slice A n c) (.slice A' n' c') 0 z l r).toArray 64)).alloc (.cells (zb 32) 49)).heap.size := by simp
  generalize (w.alloc (.cells (acells (.slice A n c) (.slice A' n' c') 0 z l r).toArray 64)).alloc (.cells (zb 32) 49) = w1 at *
  obtain ⟨c0, c1, c2, c3⟩ := abox hw1
  have hv1 := HV.out.below hb (Nat.le_refl _)
  have HSUM := Lib.hid (Sh.ref_any A' n' c' v w1 (reads_of_rd hv1 hb.size) (by omega) (tab0_below HT.out hb hw) (by omega))
  have HB := Lib.hid hb
  have HW1 := Lib.hid hw1
  have HW2 := Lib.hid hw2
  clear hb hw1 hw2 hv1 c3
  generalize (acells (.slice A n c) (.slice A' n' c') 0 z l r).toArray = X at *
  go_wp2_with fail
  refine HSUM.out.mono ?_
  rintro e w2 ⟨rfl, hbx⟩
  have HBX := Lib.hid hbx
  clear HSUM hbx
  obtain ⟨S, hS⟩ : ∃ S, Sh.Sha.sum v = S := ⟨_, rfl⟩
  have hS32 : S.length = 32 := by rw [← hS]; exact Sh.sum_length _
  rw [hS]
  have HS := Lib.hid (And.intro hS hS32)
  clear hS hS32
  simp only []
  have hz49 := zero49
  iterate 4 go_step
  clear hz49
  have hw3 := Whole.made w2 49 (zb 32)
  have hsizeS : (Sh.bcells S).size = 32 := (Sh.bcells_size S).trans HS.out.2
  refine wpList_store_mid rfl 49 (.tmp 3) (.tmp 10) rfl w2.heap.size 0 (Sh.bcells S) rfl rfl ?_ ?_ (Sh.bcells_one S) ?_
  · rw [hsizeS]; have := hw3.there_; rw [zb_size] at this; exact this
  · rw [hsizeS]; exact info49
  have hw4 := hw3.setAll (vs := Sh.bcells S) (by rw [zb_size, hsizeS])
  have hb4 : Below w1.heap.size w1 ((w2.alloc (.cells (zb 32) 49)).setCells w2.heap.size 0 (Sh.bcells S).toList) := below_setCells w1 w2.heap.size _ 0 (HBX.out.alloc HBX.out.size _) HBX.out.size
  have hs4 : w1.heap.size ≤ w2.heap.size := HBX.out.size
  have hlt4 : w2.heap.size < ((w2.alloc (.cells (zb 32) 49)).setCells w2.heap.size 0 (Sh.bcells S).toList).heap.size := by rw [size_setCells, size_alloc]; omega
  generalize (w2.alloc (.cells (zb 32) 49)).setCells w2.heap.size 0 (Sh.bcells S).toList = w4 at *
  have d0 : w4.cell? ⟨w.heap.size, 0, none⟩ = some (.slice A n c) := by rw [hb4.cell (p := ⟨w.heap.size, 0, none⟩) (by show w.heap.size < _; omega)]; exact c0
  have HB4 := Lib.hid (HB.out.trans (hb4.mono HB.out.size))
  have HW4 := Lib.hid hw4
  have HR4 := Lib.hid (HW2.out.below hb4 hs)
  generalize w2.heap.size = g3 at *
  clear hw3 hsizeS hw4 hb4 HBX HW2 HB HW1 c0 c1 c2
  go_upto_region 3 with (fail)
  have hS0 : w4.drew.cell? ⟨w.heap.size, 0, none⟩ = some (.slice A n c) := d0
  refine wp_region_held_drew (S := fun w' => w'.cell? ⟨w.heap.size, 0, none⟩ = some (.slice A n c)) (by kernel_rfl) hS0 (fun hHeld => ?_)
  refine wpAnyH_take (i := 0) (oi := { dst := some 11, op := Op.fieldAddr 64 (Operand.tmp 1) 0, type := 0, pos := "ref.go:21", after := #[], guard := none }) (v := ?_) rfl (by kernel_rfl) (by kernel_rfl) (by kernel_rfl) (fun _ _ _ h => h) (Or.inl ⟨by rfl, ?_⟩) (by assumption) ?_
  rotate_left
  · first | (intro w hSw; (try dsimp only at hSw); go_simp; done) | (intro w hSw; (try dsimp only at hSw); go_simp; with_reducible rfl)
  simp only [Act.put, List.setIfInBounds_toArray, List.set_cons_zero, List.set_cons_succ]
  refine wpAnyH_take (i := 1) (oi := { dst := some 12, op := Op.load 27 (Operand.tmp 11), type := 27, pos := "ref.go:21", after := #[{ on := 0, ground := Ground.data }], guard := none }) (v := ?_) rfl (by kernel_rfl) (by kernel_rfl) (by kernel_rfl) (fun _ _ _ h => h) (Or.inl ⟨by rfl, ?_⟩) (by assumption) ?_
  rotate_left
  · first | (intro w hSw; (try dsimp only at hSw); go_simp; done) | (intro w hSw; (try dsimp only at hSw); go_simp; with_reducible rfl)
  simp only [Act.put, List.setIfInBounds_toArray, List.set_cons_zero, List.set_cons_succ]
  refine wpAnyH_take (i := 2) (oi := { dst := some 13, op := Op.call { callee := Callee.builtin Builtin.len, args := #[Operand.tmp 12], argTypes := #[27] }, type := 3, pos := "ref.go:21", after := #[{ on := 1, ground := Ground.data }], guard := none }) (v := ?_) rfl (by kernel_rfl) (by kernel_rfl) (by kernel_rfl) (fun _ _ _ h => h) (Or.inl ⟨by rfl, ?_⟩) (by assumption) ?_
  rotate_left
  · first | (intro w hSw; (try dsimp only at hSw); go_simp; done) | (intro w hSw; (try dsimp only at hSw); go_simp; with_reducible rfl)
  simp only [Act.put, List.setIfInBounds_toArray, List.set_cons_zero, List.set_cons_succ]
  refine wpAnyH_take (i := 3) (oi := { dst := some 14, op := Op.convert 3 5 (Operand.tmp 13), type := 5, pos := "ref.go:21", after := #[{ on := 2, ground := Ground.data }], guard := none }) (v := ?_) rfl (by kernel_rfl) (by kernel_rfl) (by kernel_rfl) (fun _ _ _ h => h) (Or.inl ⟨by rfl, ?_⟩) (by assumption) ?_
  rotate_left
  · first | (intro w hSw; (try dsimp only at hSw); go_simp; done) | (intro w hSw; (try dsimp only at hSw); go_simp; with_reducible rfl)
  simp only [Act.put, List.setIfInBounds_toArray, List.set_cons_zero, List.set_cons_succ]
  refine wpAnyH_take (i := 5) (oi := { dst := some 16, op := Op.fieldAddr 64 (Operand.tmp 1) 0, type := 0, pos := "ref.go:21", after := #[], guard := none }) (v := ?_) rfl (by kernel_rfl) (by kernel_rfl) (by kernel_rfl) (fun _ _ _ h => h) (Or.inl ⟨by rfl, ?_⟩) (by assumption) ?_
  rotate_left
  · first | (intro w hSw; (try dsimp only at hSw); go_simp; done) | (intro w hSw; (try dsimp only at hSw); go_simp; with_reducible rfl)
  simp only [Act.put, List.setIfInBounds_toArray, List.set_cons_zero, List.set_cons_succ]
  refine wpAnyH_take (i := 6) (oi := { dst := some 17, op := Op.load 27 (Operand.tmp 16), type := 27, pos := "ref.go:21", after := #[{ on := 5, ground := Ground.data }], guard := none }) (v := ?_) rfl (by kernel_rfl) (by kernel_rfl) (by kernel_rfl) (fun _ _ _ h => h) (Or.inl ⟨by rfl, ?_⟩) (by assumption) ?_
  rotate_left
  · first | (intro w hSw; (try dsimp only at hSw); go_simp; done) | (intro w hSw; (try dsimp only at hSw); go_simp; with_reducible rfl)
  simp only [Act.put, List.setIfInBounds_toArray, List.set_cons_zero, List.set_cons_succ]
  refine wpAnyH_take (i := 8) (oi := { dst := some 19, op := Op.slice 49 (Operand.tmp 3) none none none, type := 27, pos := "ref.go:21", after := #[], guard := none }) (v := ?_) rfl (by kernel_rfl) (by kernel_rfl) (by kernel_rfl) (fun _ _ _ h => h) (Or.inl ⟨by rfl, ?_⟩) (by assumption) ?_
  rotate_left
  · first | (intro w hSw; (try dsimp only at hSw); go_simp; done) | (intro w hSw; (try dsimp only at hSw); go_simp; with_reducible rfl)
  simp only [Act.put, List.setIfInBounds_toArray, List.set_cons_zero, List.set_cons_succ]
  refine wpAnyH_ready (rs := [4]) (by kernel_rfl) (by simp) ?_
  refine AllReadyH.cons rfl (fun K hK => ?_) AllReadyH.nil
  go_simp
  have hb5 : Below w4.heap.size w4 (w4.alloc (.cells #[.int .u8 0, .int .u8 (IntKind.u8.wrap (n : Int))] 5)).drew := ((Below.refl _ _).alloc (Nat.le_refl _) _).drew
  have ho5 : (w4.alloc (.cells #[.int .u8 0, .int .u8 (IntKind.u8.wrap (n : Int))] 5)).drew.ownsRow w4.heap.size 5 1 (.slice (some ⟨w4.heap.size, 0, none⟩) 2 2) 2 (([0, UInt8.ofNat n] : List UInt8).map V8) := by
    have := World.ownsRow_lit (base := w4.heap.size) (e := 5) (size := 1) w4 #[.int .u8 0, .int .u8 (IntKind.u8.wrap (n : Int))] 2 (Nat.le_refl _) (by unfold maxLen; omega) rfl
    rw [u8_len] at this ⊢
    exact this
  have hsz5 : (w4.alloc (.cells #[.int .u8 0, .int .u8 (IntKind.u8.wrap (n : Int))] 5)).drew.heap.size = w4.heap.size + 1 := size_alloc _ _
  generalize (w4.alloc (.cells #[.int .u8 0, .int .u8 (IntKind.u8.wrap (n : Int))] 5)).drew = w5 at *
  have d5 : w5.cell? ⟨w.heap.size, 0, none⟩ = some (.slice A n c) := by rw [hb5.cell (p := ⟨w.heap.size, 0, none⟩) (by show w.heap.size < _; omega)]; exact d0
  have HO5 := Lib.hid ho5
  have HBB5 := Lib.hid hb5
  refine hK.out _ _ d5 (fun _ => ?_)
  clear hK K hHeld hS0 ho5 hb5
  have hk5 := HK.out.below (HB4.out.trans (HBB5.out.mono HB4.out.size)) (Nat.le_refl _)
  refine wpAnyH_ready (rs := [7]) (by kernel_rfl) (by simp) ?_
  refine AllReadyH.cons (o := { dst := some 18, op := Op.call { callee := Callee.builtin Builtin.append, args := #[Operand.tmp 15, Operand.tmp 17], argTypes := #[27, 27] }, type := 27, pos := "ref.go:21", after := #[{ on := 4, ground := Ground.data }, { on := 6, ground := Ground.data }], guard := none }) rfl (fun K hK => ?_) AllReadyH.nil
  refine step_append_b rfl (.tmp 15) (.tmp 17) rfl w4.heap.size _ 2 _ rfl HO5.out _ A n c k rfl hk5 (by omega) (by omega) ?_
  intro v6 w6 ho6 hg6 _
  have hb6 : Below w4.heap.size w4 w6 := HBB5.out.grown hg6 (by omega) (fun i hi => (HO5.out.lt i hi).1)
  have d6 : w6.cell? ⟨w.heap.size, 0, none⟩ = some (.slice A n c) := by rw [hb6.cell (p := ⟨w.heap.size, 0, none⟩) (by show w.heap.size < _; omega)]; exact d0
  obtain ⟨A6, c6, rfl, hc6, _⟩ := own_form ho6
  have HO6 := Lib.hid ho6
  have HBB6 := Lib.hid hb6
  have hs6 := hb6.size
  refine hK.out _ _ d6 (fun _ => ?_)
  clear hK K ho6 hg6 hb6 HO5 HBB5 hk5 d5 hsz5
  simp only [Act.put, List.setIfInBounds_toArray, List.set_cons_zero, List.set_cons_succ]
  have hv6 : Rd w6 w6.heap.size (some ⟨g3, 0, none⟩) 32 S := Rd.mk_ HS.out.2 g3 0 (by omega) fun j u hu => (HW4.out.below HBB6.out hlt4).at_ (by rw [Nat.zero_add, Sh.bcells, List.getElem?_toArray, List.getElem?_map, hu]; rfl)
  refine wpAnyH_ready (rs := [9]) (by kernel_rfl) (by simp) ?_
  refine AllReadyH.cons (o := { dst := some 20, op := Op.call { callee := Callee.builtin Builtin.append, args := #[Operand.tmp 18, Operand.tmp 19], argTypes := #[27, 27] }, type := 27, pos := "ref.go:21", after := #[{ on := 7, ground := Ground.data }, { on := 8, ground := Ground.data }, { on := 7, ground := Ground.chain }], guard := none }) rfl (fun K hK => ?_) AllReadyH.nil
  refine step_append_b rfl (.tmp 18) (.tmp 19) rfl w4.heap.size _ (2 + n) _ rfl HO6.out _ (some ⟨g3, 0, none⟩) 32 32 S rfl hv6 (by omega) (by omega) ?_
  intro v7 w7 ho7 hg7 _
  have hb7 : Below w4.heap.size w4 w7 := HBB6.out.grown hg7 (by omega) (fun i hi => (HO6.out.lt i hi).1)
  have d7 : w7.cell? ⟨w.heap.size, 0, none⟩ = some (.slice A n c) := by rw [hb7.cell (p := ⟨w.heap.size, 0, none⟩) (by show w.heap.size < _; omega)]; exact d0
  obtain ⟨A7, c7, rfl, hc7, _⟩ := own_form ho7
  have htxt : [0, UInt8.ofNat n] ++ k ++ S = leafText k v := by
    rw [leafText, HS.out.1, HK.out.len]; simp
  rw [htxt] at ho7
  have hs7 := hb7.size
  have HB7 := Lib.hid (HB4.out.trans (hb7.mono HB4.out.size))
  have HSUM := Lib.hid (Sh.ref_any A7 (2 + n + 32) c7 (leafText k v) w7 (reads_of_rd (Rd.of_own ho7) (Nat.le_refl _)) (by omega) (tab0_below HT.out HB7.out hw) (by omega))
  have HR7 := Lib.hid (HR4.out.below hb7 (by omega))
  refine hK.out _ _ d7 (fun _ => ?_)
  clear hK K ho7 hg7 hb7 HO6 HBB6 hv6 d6 htxt HW4 HR4
  simp only [Act.put, List.setIfInBounds_toArray, List.set_cons_zero, List.set_cons_succ]
  refine wpAnyH_ready (rs := [10]) (by kernel_rfl) (by simp) ?_
  refine AllReadyH.cons rfl (fun K hK => ?_) AllReadyH.nil
  go_simp
  refine HSUM.out.mono ?_
  rintro e w8 ⟨rfl, hb8⟩
  have d8 : w8.cell? ⟨w.heap.size, 0, none⟩ = some (.slice A n c) := by rw [hb8.cell (p := ⟨w.heap.size, 0, none⟩) (by show w.heap.size < _; omega)]; exact d7
  have HR8 := Lib.hid (HR7.out.below hb8 (by omega))
  have HB8 := Lib.hid (HB7.out.trans (hb8.mono HB7.out.size))
  clear hb8 HSUM HR7 HB7 d7
  obtain ⟨Y, hY⟩ : ∃ Y, Sh.bcells (Sh.Sha.sum (leafText k v)) = Y := ⟨_, rfl⟩
  have hsizeY : Y.size = 32 := by rw [← hY, Sh.bcells_size, Sh.sum_length]
  have honeY : Y.all (·.oneCell') = true := by rw [← hY]; exact Sh.bcells_one _
  rw [hY]
  have HY := Lib.hid hY
  clear hY
  refine hK.out _ _ d8 (fun _ => ?_)
  clear hK K
  refine wpAnyH_ready (rs := [11]) (by kernel_rfl) (by simp) ?_
  refine AllReadyH.cons rfl (fun K hK => ?_) AllReadyH.nil
  refine Eq.mpr (if_pos (by rfl)) ?_
  refine wp_store_none (by rfl) 49 (.tmp 2) (.tmp 21) rfl (w.heap.size + 1) 0 Y rfl rfl ?_ ?_ honeY ?_
  · rw [hsizeY]; have := HR8.out.there_; rw [zb_size] at this; exact this
  · rw [hsizeY]; exact info49
  have hw9 := HR8.out.setAll (vs := Y) (by rw [zb_size, hsizeY])
  have hb9 := below_setCells w (w.heap.size + 1) Y.toList 0 HB8.out (by omega)
  have d9 : (w8.setCells (w.heap.size + 1) 0 Y.toList).cell? ⟨w.heap.size, 0, none⟩ = some (.slice A n c) := by
    rw [(below_setCells (B := w.heap.size + 1) w8 (w.heap.size + 1) Y.toList 0 (Below.refl _ _) (Nat.le_refl _)).cell (p := ⟨w.heap.size, 0, none⟩) (by show w.heap.size < _; omega)]; exact d8
  refine hK.out _ _ d9 (fun _ => ?_)
  clear hK K d8 d9 HR8 HB8
  generalize w8.setCells (w.heap.size + 1) 0 Y.toList = w9 at *
  have HW9 := Lib.hid hw9
  have HB9 := Lib.hid hb9
  clear hw9 hb9
  refine wpAnyH_done (by kernel_rfl) ?_ _
  go_wp2_with fail
  refine bodyPost_ret (results_cell1 Tryd.results53 _ _ _ ⟨w.heap.size + 1, 0, none⟩ _ rfl (load_whole HW9.out 49 _ Tryd.underlying49 rfl (by rw [hsizeY]; exact info49))) rfl ⟨by rw [HY.out], HB9.out⟩

theorem own_on {w w' : World} {base size n : Nat} {e : TypeId} {v : Value} {xs : List Value} (h : w.ownsRow base e size v n xs) (hb : Below w.heap.size w w') : w'.ownsRow base e size v n xs :=
  h.kept (row := none) ⟨hb.os, hb.tape, hb.output, hb.size, fun i hi _ => hb.block i hi⟩ (by cases v.ownBlock <;> simp)
theorem own_base {w : World} {base base' size n : Nat} {e : TypeId} {v : Value} {xs : List Value} (h : w.ownsRow base e size v n xs) (hb : base' ≤ base) : w.ownsRow base' e size v n xs := by
  refine ⟨h.1, ?_⟩
  rcases h.2 with h | ⟨g, cap, cur, h1, h2, h3⟩
  · exact .inl h
  · exact .inr ⟨g, cap, cur, h1, Nat.le_trans hb h2, h3⟩

set_option maxRecDepth 100000 in
set_option maxHeartbeats 2000000 in
theorem refHash_inner (kv vv : Value) (h : Int) (hb8 : UInt8) (z : UInt64) (l r : List UInt8) (w : World) (hh : h ≠ 0) (hbyte : IntKind.u8.wrap h = (hb8.toNat : Int)) (hl : l.length = 32) (hr : r.length = 32)
    (ht : Sh.Tab w 0) (hw : 1 < w.heap.size) :
    Calls Tryd.prog 53 #[.agg (acells kv vv h z.toNat l r).toArray] w fun e w' => e = .returned (.agg (Sh.bcells (Sh.Sha.sum (innerText hb8 z l r)))) ∧ Below w.heap.size w w' := by
  have hz49 := zero49
  have HT := Lib.hid ht
  have HL := Lib.hid (And.intro hl hr)
  have HBY := Lib.hid hbyte
  have hh0 : (h == 0) = false := by rw [beq_eq_false_iff_ne]; exact hh
  clear ht hl hr hbyte hh
  go_enter Tryd.func53, Tryd.ntmps53
  go_upto_region 1 with (fail)
  clear hz49
  have hb : Below w.heap.size w ((w.alloc (.cells (acells kv vv h z.toNat l r).toArray 64)).alloc (.cells (zb 32) 49)) := ((Below.refl _ _).alloc (Nat.le_refl _) _).alloc (by simp) _
  have hw1 := (Whole.made w 64 (acells kv vv h z.toNat l r).toArray).alloc (.cells (zb 32) 49)
  have hw2 := Whole.made (w.alloc (.cells (acells kv vv h z.toNat l r).toArray 64)) 49 (zb 32)
  rw [size_alloc] at hw2
  have hs : w.heap.size + 1 < ((w.alloc (.cells (acells kv vv h z.toNat l r).toArray 64)).alloc (.cells (zb 32) 49)).heap.size := by simp
  generalize (w.alloc (.cells (acells kv vv h z.toNat l r).toArray 64)).alloc (.cells (zb 32) 49) = w1 at *
  obtain ⟨_, _, c2, c3⟩ := abox hw1
  have HB := Lib.hid hb
  have HW1 := Lib.hid hw1
  have HW2 := Lib.hid hw2
  clear hb hw1 hw2
  obtain ⟨X, hX⟩ : ∃ X, (acells kv vv h z.toNat l r).toArray = X := ⟨_, rfl⟩
  rw [hX] at HW1 ⊢
  have HX := Lib.hid hX
  clear hX
  go_upto_region 4 with (fail)
  have hS0 : w1.drew.cell? ⟨w.heap.size, 2, none⟩ = some (.int .i64 h) ∧ w1.drew.cell? ⟨w.heap.size, 3, none⟩ = some (.int .u64 z.toNat) := ⟨c2, c3⟩
  refine wp_region_held_drew (S := fun w' => w'.cell? ⟨w.heap.size, 2, none⟩ = some (.int .i64 h) ∧ w'.cell? ⟨w.heap.size, 3, none⟩ = some (.int .u64 z.toNat)) (by kernel_rfl) hS0 (fun hHeld => ?_)
  refine wpAnyH_take (i := 0) (oi := { dst := some 22, op := Op.fieldAddr 64 (Operand.tmp 1) 2, type := 0, pos := "ref.go:23", after := #[], guard := none }) (v := ?_) rfl (by kernel_rfl) (by kernel_rfl) (by kernel_rfl) (fun _ _ _ h => h) (Or.inl ⟨by rfl, ?_⟩) (by assumption) ?_
  rotate_left
  · first | (intro w hSw; (try dsimp only at hSw); go_simp; done) | (intro w hSw; (try dsimp only at hSw); go_simp; with_reducible rfl)
  simp only [Act.put, List.setIfInBounds_toArray, List.set_cons_zero, List.set_cons_succ]
  refine wpAnyH_take (i := 1) (oi := { dst := some 23, op := Op.load 3 (Operand.tmp 22), type := 3, pos := "ref.go:23", after := #[{ on := 0, ground := Ground.data }], guard := none }) (v := ?_) rfl (by kernel_rfl) (by kernel_rfl) (by kernel_rfl) (fun _ _ _ h => h) (Or.inl ⟨by rfl, ?_⟩) (by assumption) ?_
  rotate_left
  · first | (intro w hSw; (try dsimp only at hSw); go_simp; done) | (intro w hSw; (try dsimp only at hSw); go_simp; with_reducible rfl)
  simp only [Act.put, List.setIfInBounds_toArray, List.set_cons_zero, List.set_cons_succ]
  refine wpAnyH_take (i := 2) (oi := { dst := some 24, op := Op.convert 3 5 (Operand.tmp 23), type := 5, pos := "ref.go:23", after := #[{ on := 1, ground := Ground.data }], guard := none }) (v := ?_) rfl (by kernel_rfl) (by kernel_rfl) (by kernel_rfl) (fun _ _ _ h => h) (Or.inl ⟨by rfl, ?_⟩) (by assumption) ?_
  rotate_left
  · first | (intro w hSw; (try dsimp only at hSw); go_simp; done) | (intro w hSw; (try dsimp only at hSw); go_simp; with_reducible rfl)
  simp only [Act.put, List.setIfInBounds_toArray, List.set_cons_zero, List.set_cons_succ]
  refine wpAnyH_take (i := 4) (oi := { dst := some 26, op := Op.fieldAddr 64 (Operand.tmp 1) 3, type := 0, pos := "ref.go:23", after := #[], guard := none }) (v := ?_) rfl (by kernel_rfl) (by kernel_rfl) (by kernel_rfl) (fun _ _ _ h => h) (Or.inl ⟨by rfl, ?_⟩) (by assumption) ?_
  rotate_left
  · first | (intro w hSw; (try dsimp only at hSw); go_simp; done) | (intro w hSw; (try dsimp only at hSw); go_simp; with_reducible rfl)
  simp only [Act.put, List.setIfInBounds_toArray, List.set_cons_zero, List.set_cons_succ]
  refine wpAnyH_take (i := 5) (oi := { dst := some 27, op := Op.load 60 (Operand.tmp 26), type := 60, pos := "ref.go:23", after := #[{ on := 4, ground := Ground.data }], guard := none }) (v := ?_) rfl (by kernel_rfl) (by kernel_rfl) (by kernel_rfl) (fun _ _ _ h => h) (Or.inl ⟨by rfl, ?_⟩) (by assumption) ?_
  rotate_left
  · first | (intro w hSw; (try dsimp only at hSw); go_simp; done) | (intro w hSw; (try dsimp only at hSw); go_simp; with_reducible rfl)
  simp only [Act.put, List.setIfInBounds_toArray, List.set_cons_zero, List.set_cons_succ]
  have d1 : w1.drew.cell? ⟨w.heap.size, 2, none⟩ = some (.int .i64 h) ∧ w1.drew.cell? ⟨w.heap.size, 3, none⟩ = some (.int .u64 z.toNat) := ⟨c2, c3⟩
  have HW1d : Hid (Whole w1.drew w.heap.size 64 X) := Lib.hid HW1.out
  have HW2d : Hid (Whole w1.drew (w.heap.size + 1) 49 (zb 32)) := Lib.hid HW2.out
  have HBd := Lib.hid HB.out.drew
  have hsd : w.heap.size + 1 < w1.drew.heap.size := hs
  clear c2 c3 hS0 hHeld hh0 HW1 HW2 HB hs
  generalize w1.drew = w1 at *
  refine wpAnyH_ready (rs := [3, 6]) (by kernel_rfl) (by simp) ?_
  refine AllReadyH.cons rfl (fun K hK => ?_) (AllReadyH.cons rfl (fun K hK => ?_) AllReadyH.nil)
  · go_simp
    have hba : Below w1.heap.size w1 (w1.alloc (.cells #[.int .u8 1, .int .u8 (IntKind.u8.wrap h)] 5)) := (Below.refl _ _).alloc (Nat.le_refl _) _
    have hoa : (w1.alloc (.cells #[.int .u8 1, .int .u8 (IntKind.u8.wrap h)] 5)).ownsRow w1.heap.size 5 1 (.slice (some ⟨w1.heap.size, 0, none⟩) 2 2) 2 (([1, hb8] : List UInt8).map V8) := by
      have := World.ownsRow_lit (base := w1.heap.size) (e := 5) (size := 1) w1 #[.int .u8 1, .int .u8 (IntKind.u8.wrap h)] 2 (Nat.le_refl _) (by unfold maxLen; omega) rfl
      rw [HBY.out] at this ⊢
      exact this
    have hsa : (w1.alloc (.cells #[.int .u8 1, .int .u8 (IntKind.u8.wrap h)] 5)).heap.size = w1.heap.size + 1 := size_alloc _ _
    generalize w1.alloc (.cells #[.int .u8 1, .int .u8 (IntKind.u8.wrap h)] 5) = w2 at *
    have HBW0 := Lib.hid hba
    have HO0 := Lib.hid hoa
    have d2 : w2.cell? ⟨w.heap.size, 2, none⟩ = some (.int .i64 h) ∧ w2.cell? ⟨w.heap.size, 3, none⟩ = some (.int .u64 z.toNat) := by
      rw [hba.cell (p := ⟨w.heap.size, 2, none⟩) (by show w.heap.size < _; omega), hba.cell (p := ⟨w.heap.size, 3, none⟩) (by show w.heap.size < _; omega)]; exact d1
    refine hK.out _ _ d2 (fun _ => ?_)
    clear hK K hba hoa
    have HC := Lib.hid (eight_any z w2)
    refine wpAnyH_ready (rs := [6]) (by kernel_rfl) (by simp) ?_
    refine AllReadyH.cons rfl (fun K hK => ?_) AllReadyH.nil
    go_simp
    refine HC.out.mono ?_
    rintro e w3 ⟨Ae, ne, ce, rfl, hre, hnce, hbe⟩
    have HNE : Hid (ne = 8) := Lib.hid (by rw [← hre.len]; exact Sh.Sha.be8_length z)
    have HE := Lib.hid hre
    have HBW := Lib.hid (HBW0.out.trans (hbe.mono (by omega)))
    have HO := Lib.hid (own_on HO0.out hbe)
    have d3 : w3.cell? ⟨w.heap.size, 2, none⟩ = some (.int .i64 h) ∧ w3.cell? ⟨w.heap.size, 3, none⟩ = some (.int .u64 z.toNat) := by
      rw [hbe.cell (p := ⟨w.heap.size, 2, none⟩) (by show w.heap.size < _; omega), hbe.cell (p := ⟨w.heap.size, 3, none⟩) (by show w.heap.size < _; omega)]; exact d2
    refine hK.out _ _ d3 (fun _ => ?_)
    clear hK K HC hre hbe HBW0 HO0 d2 d3
    have hbB : w.heap.size ≤ w1.heap.size := HBd.out.size
    refine wpAnyH_ready (rs := [7]) (by kernel_rfl) (by simp) ?_
    refine AllReadyH.cons (o := { dst := some 29, op := Op.call { callee := Callee.builtin Builtin.append, args := #[Operand.tmp 25, Operand.tmp 28], argTypes := #[27, 27] }, type := 27, pos := "ref.go:23", after := #[{ on := 3, ground := Ground.data }, { on := 6, ground := Ground.data }, { on := 6, ground := Ground.chain }], guard := none }) rfl (fun K hK => ?_) AllReadyH.nil
    refine step_append_b rfl (.tmp 25) (.tmp 28) rfl w1.heap.size _ 2 _ rfl HO.out _ Ae ne ce (Sh.Sha.be8 z) rfl HE.out (by have := HNE.out; omega) HBW.out.size ?_
    intro v6 w6 ho6 hg6 _
    have hb6 : Below w1.heap.size w1 w6 := HBW.out.grown hg6 HBW.out.size (fun i hi => (HO.out.lt i hi).1)
    have d6 : w6.cell? ⟨w.heap.size, 2, none⟩ = some (.int .i64 h) ∧ w6.cell? ⟨w.heap.size, 3, none⟩ = some (.int .u64 z.toNat) := by
      rw [hb6.cell (p := ⟨w.heap.size, 2, none⟩) (by show w.heap.size < _; omega), hb6.cell (p := ⟨w.heap.size, 3, none⟩) (by show w.heap.size < _; omega)]; exact d1
    obtain ⟨A6, c6, rfl, hc6, _⟩ := own_form ho6
    have HO6 := Lib.hid ho6
    have HBW6 := Lib.hid hb6
    refine hK.out _ _ d6 (fun _ => ?_)
    have hHeld := d6
    clear hK K ho6 hg6 hb6 HO HE HBW
    simp only [Act.put, List.setIfInBounds_toArray, List.set_cons_zero, List.set_cons_succ]
    refine wpAnyH_take (i := 8) (oi := { dst := some 4, op := Op.assign (Operand.tmp 29), type := 27, pos := "ref.go:23", after := #[{ on := 7, ground := Ground.data }, { on := 7, ground := Ground.chain }, { on := 0, ground := Ground.phase }, { on := 1, ground := Ground.phase }, { on := 2, ground := Ground.phase }, { on := 3, ground := Ground.phase }, { on := 4, ground := Ground.phase }, { on := 5, ground := Ground.phase }, { on := 6, ground := Ground.phase }, { on := 7, ground := Ground.phase }], guard := none }) (v := ?_) rfl (by kernel_rfl) (by kernel_rfl) (by kernel_rfl) (fun _ _ _ h => h) (Or.inl ⟨by rfl, ?_⟩) (by assumption) ?_
    rotate_left
    · first | (intro w hSw; (try dsimp only at hSw); go_simp; done) | (intro w hSw; (try dsimp only at hSw); go_simp; with_reducible rfl)
    simp only [Act.put, List.setIfInBounds_toArray, List.set_cons_zero, List.set_cons_succ]
    clear hHeld d6
    refine wpAnyH_done (by kernel_rfl) ?_ _
    have hs6 := HBW6.out.size
    go_upto_region 5 with (fail)
    refine wp_region_held_drew (S := fun _ => True) (by kernel_rfl) trivial (fun hHeld => ?_)
    refine wpAnyH_take (i := 0) (oi := { dst := some 30, op := Op.move (Operand.tmp 4), type := 27, pos := "ref.go:24", after := #[], guard := none }) (v := ?_) rfl (by kernel_rfl) (by kernel_rfl) (by kernel_rfl) (fun _ _ _ h => h) (Or.inl ⟨by rfl, ?_⟩) (by assumption) ?_
    rotate_left
    · first | (intro w hSw; (try dsimp only at hSw); go_simp; done) | (intro w hSw; (try dsimp only at hSw); go_simp; with_reducible rfl)
    simp only [Act.put, List.setIfInBounds_toArray, List.set_cons_zero, List.set_cons_succ]
    refine wpAnyH_take (i := 1) (oi := { dst := some 31, op := Op.fieldAddr 64 (Operand.tmp 1) 4, type := 0, pos := "ref.go:24", after := #[], guard := none }) (v := ?_) rfl (by kernel_rfl) (by kernel_rfl) (by kernel_rfl) (fun _ _ _ h => h) (Or.inl ⟨by rfl, ?_⟩) (by assumption) ?_
    rotate_left
    · first | (intro w hSw; (try dsimp only at hSw); go_simp; done) | (intro w hSw; (try dsimp only at hSw); go_simp; with_reducible rfl)
    simp only [Act.put, List.setIfInBounds_toArray, List.set_cons_zero, List.set_cons_succ]
    refine wpAnyH_take (i := 2) (oi := { dst := some 32, op := Op.slice 49 (Operand.tmp 31) none none none, type := 27, pos := "ref.go:24", after := #[{ on := 1, ground := Ground.data }], guard := none }) (v := ?_) rfl (by kernel_rfl) (by kernel_rfl) (by kernel_rfl) (fun _ _ _ h => h) (Or.inl ⟨by rfl, ?_⟩) (by assumption) ?_
    rotate_left
    · first | (intro w hSw; (try dsimp only at hSw); go_simp; done) | (intro w hSw; (try dsimp only at hSw); go_simp; with_reducible rfl)
    simp only [Act.put, List.setIfInBounds_toArray, List.set_cons_zero, List.set_cons_succ]
    refine wpAnyH_take (i := 4) (oi := { dst := some 34, op := Op.fieldAddr 64 (Operand.tmp 1) 5, type := 0, pos := "ref.go:24", after := #[], guard := none }) (v := ?_) rfl (by kernel_rfl) (by kernel_rfl) (by kernel_rfl) (fun _ _ _ h => h) (Or.inl ⟨by rfl, ?_⟩) (by assumption) ?_
    rotate_left
    · first | (intro w hSw; (try dsimp only at hSw); go_simp; done) | (intro w hSw; (try dsimp only at hSw); go_simp; with_reducible rfl)
    simp only [Act.put, List.setIfInBounds_toArray, List.set_cons_zero, List.set_cons_succ]
    refine wpAnyH_take (i := 5) (oi := { dst := some 35, op := Op.slice 49 (Operand.tmp 34) none none none, type := 27, pos := "ref.go:24", after := #[{ on := 4, ground := Ground.data }], guard := none }) (v := ?_) rfl (by kernel_rfl) (by kernel_rfl) (by kernel_rfl) (fun _ _ _ h => h) (Or.inl ⟨by rfl, ?_⟩) (by assumption) ?_
    rotate_left
    · first | (intro w hSw; (try dsimp only at hSw); go_simp; done) | (intro w hSw; (try dsimp only at hSw); go_simp; with_reducible rfl)
    simp only [Act.put, List.setIfInBounds_toArray, List.set_cons_zero, List.set_cons_succ]
    have HO6d : Hid (w6.drew.ownsRow w1.heap.size 5 1 (.slice A6 (2 + ne) c6) (2 + ne) (([1, hb8] ++ Sh.Sha.be8 z).map V8)) := Lib.hid HO6.out
    have HBW6d := Lib.hid HBW6.out.drew
    have hs6d : w1.heap.size ≤ w6.drew.heap.size := hs6
    clear HO6 HBW6 hs6
    generalize w6.drew = w6 at *
    have hX6 := HW1d.out.below HBW6d.out (by omega)
    rw [← HX.out] at hX6
    refine wpAnyH_ready (rs := [3]) (by kernel_rfl) (by simp) ?_
    refine AllReadyH.cons (o := { dst := some 33, op := Op.call { callee := Callee.builtin Builtin.append, args := #[Operand.tmp 30, Operand.tmp 32], argTypes := #[27, 27] }, type := 27, pos := "ref.go:24", after := #[{ on := 0, ground := Ground.data }, { on := 2, ground := Ground.data }], guard := none }) rfl (fun K hK => ?_) AllReadyH.nil
    refine step_append_b rfl (.tmp 30) (.tmp 32) rfl w1.heap.size _ (2 + ne) _ rfl HO6d.out _ (some ⟨w.heap.size, 4, none⟩) 32 32 l rfl (abox_l hX6 HL.out.1) (by have := HNE.out; omega) hs6d ?_
    intro v7 w7 ho7 hg7 _
    have hb7 : Below w1.heap.size w1 w7 := HBW6d.out.grown hg7 hs6d (fun i hi => (HO6d.out.lt i hi).1)
    obtain ⟨A7, c7, rfl, hc7, _⟩ := own_form ho7
    have hs7 := hb7.size
    refine hK.out _ _ trivial (fun _ => ?_)
    have HO7 := Lib.hid ho7
    have HBW7 := Lib.hid hb7
    clear hK K ho7 hg7 hb7 HO6d HBW6d hX6
    simp only [Act.put, List.setIfInBounds_toArray, List.set_cons_zero, List.set_cons_succ]
    have hX7 := HW1d.out.below HBW7.out (by omega)
    rw [← HX.out] at hX7
    refine wpAnyH_ready (rs := [6]) (by kernel_rfl) (by simp) ?_
    refine AllReadyH.cons (o := { dst := some 36, op := Op.call { callee := Callee.builtin Builtin.append, args := #[Operand.tmp 33, Operand.tmp 35], argTypes := #[27, 27] }, type := 27, pos := "ref.go:24", after := #[{ on := 3, ground := Ground.data }, { on := 5, ground := Ground.data }, { on := 3, ground := Ground.chain }], guard := none }) rfl (fun K hK => ?_) AllReadyH.nil
    refine step_append_b rfl (.tmp 33) (.tmp 35) rfl w1.heap.size _ (2 + ne + 32) _ rfl HO7.out _ (some ⟨w.heap.size, 36, none⟩) 32 32 r rfl (abox_r hX7 HL.out.1 HL.out.2) (by have := HNE.out; omega) hs7 ?_
    intro v8 w8 ho8 hg8 _
    have hb8' : Below w1.heap.size w1 w8 := HBW7.out.grown hg8 hs7 (fun i hi => (HO7.out.lt i hi).1)
    obtain ⟨A8, c8, rfl, hc8, _⟩ := own_form ho8
    have htxt : [1, hb8] ++ Sh.Sha.be8 z ++ l ++ r = innerText hb8 z l r := by rw [innerText]; simp
    rw [htxt] at ho8
    have hs8 := hb8'.size
    have HB8 := Lib.hid (HBd.out.trans (hb8'.mono HBd.out.size))
    have HSUM := Lib.hid (Sh.ref_any A8 (2 + ne + 32 + 32) c8 (innerText hb8 z l r) w8 (reads_of_rd (Rd.of_own ho8) (Nat.le_refl _)) (by have := HNE.out; omega) (tab0_below HT.out HB8.out hw) (by omega))
    have HR8 := Lib.hid (HW2d.out.below hb8' (by omega))
    refine hK.out _ _ trivial (fun _ => ?_)
    clear hK K ho8 hg8 hb8' HO7 HBW7 hX7 htxt
    simp only [Act.put, List.setIfInBounds_toArray, List.set_cons_zero, List.set_cons_succ]
    refine wpAnyH_ready (rs := [7]) (by kernel_rfl) (by simp) ?_
    refine AllReadyH.cons rfl (fun K hK => ?_) AllReadyH.nil
    go_simp
    refine HSUM.out.mono ?_
    rintro e w9 ⟨rfl, hb9⟩
    have HR9 := Lib.hid (HR8.out.below hb9 (by omega))
    have HB9 := Lib.hid (HB8.out.trans (hb9.mono HB8.out.size))
    clear hb9 HSUM HR8 HB8
    obtain ⟨Y, hY⟩ : ∃ Y, Sh.bcells (Sh.Sha.sum (innerText hb8 z l r)) = Y := ⟨_, rfl⟩
    have hsizeY : Y.size = 32 := by rw [← hY, Sh.bcells_size, Sh.sum_length]
    have honeY : Y.all (·.oneCell') = true := by rw [← hY]; exact Sh.bcells_one _
    rw [hY]
    have HY := Lib.hid hY
    clear hY
    refine hK.out _ _ trivial (fun _ => ?_)
    clear hK K
    refine wpAnyH_ready (rs := [8]) (by kernel_rfl) (by simp) ?_
    refine AllReadyH.cons rfl (fun K hK => ?_) AllReadyH.nil
    refine Eq.mpr (if_pos (by rfl)) ?_
    refine wp_store_none (by rfl) 49 (.tmp 2) (.tmp 37) rfl (w.heap.size + 1) 0 Y rfl rfl ?_ ?_ honeY ?_
    · rw [hsizeY]; have := HR9.out.there_; rw [zb_size] at this; exact this
    · rw [hsizeY]; exact info49
    have hwA := HR9.out.setAll (vs := Y) (by rw [zb_size, hsizeY])
    have hbA := below_setCells w (w.heap.size + 1) Y.toList 0 HB9.out (by omega)
    refine hK.out _ _ trivial (fun _ => ?_)
    clear hK K HR9 HB9
    generalize w9.setCells (w.heap.size + 1) 0 Y.toList = wA at *
    have HWA := Lib.hid hwA
    have HBA := Lib.hid hbA
    clear hwA hbA
    refine wpAnyH_done (by kernel_rfl) ?_ _
    go_wp2_with fail
    refine bodyPost_ret (results_cell1 Tryd.results53 _ _ _ ⟨w.heap.size + 1, 0, none⟩ _ rfl (load_whole HWA.out 49 _ Tryd.underlying49 rfl (by rw [hsizeY]; exact info49))) rfl ⟨by rw [HY.out], HBA.out⟩
  · have HC := Lib.hid (eight_any z w1)
    go_simp
    refine HC.out.mono ?_
    rintro e w2 ⟨Ae, ne, ce, rfl, hre, hnce, hbe⟩
    have HNE : Hid (ne = 8) := Lib.hid (by rw [← hre.len]; exact Sh.Sha.be8_length z)
    have hse := hbe.size
    have HE0 := Lib.hid hre
    have HBE := Lib.hid hbe
    have d2 : w2.cell? ⟨w.heap.size, 2, none⟩ = some (.int .i64 h) ∧ w2.cell? ⟨w.heap.size, 3, none⟩ = some (.int .u64 z.toNat) := by
      rw [hbe.cell (p := ⟨w.heap.size, 2, none⟩) (by show w.heap.size < _; omega), hbe.cell (p := ⟨w.heap.size, 3, none⟩) (by show w.heap.size < _; omega)]; exact d1
    refine hK.out _ _ d2 (fun _ => ?_)
    clear hK K HC hre hbe
    refine wpAnyH_ready (rs := [3]) (by kernel_rfl) (by simp) ?_
    refine AllReadyH.cons rfl (fun K hK => ?_) AllReadyH.nil
    go_simp
    have hba : Below w2.heap.size w2 (w2.alloc (.cells #[.int .u8 1, .int .u8 (IntKind.u8.wrap h)] 5)) := (Below.refl _ _).alloc (Nat.le_refl _) _
    have hoa : (w2.alloc (.cells #[.int .u8 1, .int .u8 (IntKind.u8.wrap h)] 5)).ownsRow w2.heap.size 5 1 (.slice (some ⟨w2.heap.size, 0, none⟩) 2 2) 2 (([1, hb8] : List UInt8).map V8) := by
      have := World.ownsRow_lit (base := w2.heap.size) (e := 5) (size := 1) w2 #[.int .u8 1, .int .u8 (IntKind.u8.wrap h)] 2 (Nat.le_refl _) (by unfold maxLen; omega) rfl
      rw [HBY.out] at this ⊢
      exact this
    have hsa : (w2.alloc (.cells #[.int .u8 1, .int .u8 (IntKind.u8.wrap h)] 5)).heap.size = w2.heap.size + 1 := size_alloc _ _
    generalize w2.alloc (.cells #[.int .u8 1, .int .u8 (IntKind.u8.wrap h)] 5) = w3 at *
    have HE := Lib.hid (HE0.out.below hba (Nat.le_refl _))
    have HBW := Lib.hid (HBE.out.trans (hba.mono hse))
    have HO := Lib.hid (own_base hoa hse)
    have d3 : w3.cell? ⟨w.heap.size, 2, none⟩ = some (.int .i64 h) ∧ w3.cell? ⟨w.heap.size, 3, none⟩ = some (.int .u64 z.toNat) := by
      rw [hba.cell (p := ⟨w.heap.size, 2, none⟩) (by show w.heap.size < _; omega), hba.cell (p := ⟨w.heap.size, 3, none⟩) (by show w.heap.size < _; omega)]; exact d2
    refine hK.out _ _ d3 (fun _ => ?_)
    clear hK K hba hoa HE0 HBE d2 d3
    have hbB : w.heap.size ≤ w1.heap.size := HBd.out.size
    refine wpAnyH_ready (rs := [7]) (by kernel_rfl) (by simp) ?_
    refine AllReadyH.cons (o := { dst := some 29, op := Op.call { callee := Callee.builtin Builtin.append, args := #[Operand.tmp 25, Operand.tmp 28], argTypes := #[27, 27] }, type := 27, pos := "ref.go:23", after := #[{ on := 3, ground := Ground.data }, { on := 6, ground := Ground.data }, { on := 6, ground := Ground.chain }], guard := none }) rfl (fun K hK => ?_) AllReadyH.nil
    refine step_append_b rfl (.tmp 25) (.tmp 28) rfl w1.heap.size _ 2 _ rfl HO.out _ Ae ne ce (Sh.Sha.be8 z) rfl HE.out (by have := HNE.out; omega) HBW.out.size ?_
    intro v6 w6 ho6 hg6 _
    have hb6 : Below w1.heap.size w1 w6 := HBW.out.grown hg6 HBW.out.size (fun i hi => (HO.out.lt i hi).1)
    have d6 : w6.cell? ⟨w.heap.size, 2, none⟩ = some (.int .i64 h) ∧ w6.cell? ⟨w.heap.size, 3, none⟩ = some (.int .u64 z.toNat) := by
      rw [hb6.cell (p := ⟨w.heap.size, 2, none⟩) (by show w.heap.size < _; omega), hb6.cell (p := ⟨w.heap.size, 3, none⟩) (by show w.heap.size < _; omega)]; exact d1
    obtain ⟨A6, c6, rfl, hc6, _⟩ := own_form ho6
    have HO6 := Lib.hid ho6
    have HBW6 := Lib.hid hb6
    refine hK.out _ _ d6 (fun _ => ?_)
    have hHeld := d6
    clear hK K ho6 hg6 hb6 HO HE HBW
    simp only [Act.put, List.setIfInBounds_toArray, List.set_cons_zero, List.set_cons_succ]
    refine wpAnyH_take (i := 8) (oi := { dst := some 4, op := Op.assign (Operand.tmp 29), type := 27, pos := "ref.go:23", after := #[{ on := 7, ground := Ground.data }, { on := 7, ground := Ground.chain }, { on := 0, ground := Ground.phase }, { on := 1, ground := Ground.phase }, { on := 2, ground := Ground.phase }, { on := 3, ground := Ground.phase }, { on := 4, ground := Ground.phase }, { on := 5, ground := Ground.phase }, { on := 6, ground := Ground.phase }, { on := 7, ground := Ground.phase }], guard := none }) (v := ?_) rfl (by kernel_rfl) (by kernel_rfl) (by kernel_rfl) (fun _ _ _ h => h) (Or.inl ⟨by rfl, ?_⟩) (by assumption) ?_
    rotate_left
    · first | (intro w hSw; (try dsimp only at hSw); go_simp; done) | (intro w hSw; (try dsimp only at hSw); go_simp; with_reducible rfl)
    simp only [Act.put, List.setIfInBounds_toArray, List.set_cons_zero, List.set_cons_succ]
    clear hHeld d6
    refine wpAnyH_done (by kernel_rfl) ?_ _
    have hs6 := HBW6.out.size
    go_upto_region 5 with (fail)
    refine wp_region_held_drew (S := fun _ => True) (by kernel_rfl) trivial (fun hHeld => ?_)
    refine wpAnyH_take (i := 0) (oi := { dst := some 30, op := Op.move (Operand.tmp 4), type := 27, pos := "ref.go:24", after := #[], guard := none }) (v := ?_) rfl (by kernel_rfl) (by kernel_rfl) (by kernel_rfl) (fun _ _ _ h => h) (Or.inl ⟨by rfl, ?_⟩) (by assumption) ?_
    rotate_left
    · first | (intro w hSw; (try dsimp only at hSw); go_simp; done) | (intro w hSw; (try dsimp only at hSw); go_simp; with_reducible rfl)
    simp only [Act.put, List.setIfInBounds_toArray, List.set_cons_zero, List.set_cons_succ]
    refine wpAnyH_take (i := 1) (oi := { dst := some 31, op := Op.fieldAddr 64 (Operand.tmp 1) 4, type := 0, pos := "ref.go:24", after := #[], guard := none }) (v := ?_) rfl (by kernel_rfl) (by kernel_rfl) (by kernel_rfl) (fun _ _ _ h => h) (Or.inl ⟨by rfl, ?_⟩) (by assumption) ?_
    rotate_left
    · first | (intro w hSw; (try dsimp only at hSw); go_simp; done) | (intro w hSw; (try dsimp only at hSw); go_simp; with_reducible rfl)
    simp only [Act.put, List.setIfInBounds_toArray, List.set_cons_zero, List.set_cons_succ]
    refine wpAnyH_take (i := 2) (oi := { dst := some 32, op := Op.slice 49 (Operand.tmp 31) none none none, type := 27, pos := "ref.go:24", after := #[{ on := 1, ground := Ground.data }], guard := none }) (v := ?_) rfl (by kernel_rfl) (by kernel_rfl) (by kernel_rfl) (fun _ _ _ h => h) (Or.inl ⟨by rfl, ?_⟩) (by assumption) ?_
    rotate_left
    · first | (intro w hSw; (try dsimp only at hSw); go_simp; done) | (intro w hSw; (try dsimp only at hSw); go_simp; with_reducible rfl)
    simp only [Act.put, List.setIfInBounds_toArray, List.set_cons_zero, List.set_cons_succ]
    refine wpAnyH_take (i := 4) (oi := { dst := some 34, op := Op.fieldAddr 64 (Operand.tmp 1) 5, type := 0, pos := "ref.go:24", after := #[], guard := none }) (v := ?_) rfl (by kernel_rfl) (by kernel_rfl) (by kernel_rfl) (fun _ _ _ h => h) (Or.inl ⟨by rfl, ?_⟩) (by assumption) ?_
    rotate_left
    · first | (intro w hSw; (try dsimp only at hSw); go_simp; done) | (intro w hSw; (try dsimp only at hSw); go_simp; with_reducible rfl)
    simp only [Act.put, List.setIfInBounds_toArray, List.set_cons_zero, List.set_cons_succ]
    refine wpAnyH_take (i := 5) (oi := { dst := some 35, op := Op.slice 49 (Operand.tmp 34) none none none, type := 27, pos := "ref.go:24", after := #[{ on := 4, ground := Ground.data }], guard := none }) (v := ?_) rfl (by kernel_rfl) (by kernel_rfl) (by kernel_rfl) (fun _ _ _ h => h) (Or.inl ⟨by rfl, ?_⟩) (by assumption) ?_
    rotate_left
    · first | (intro w hSw; (try dsimp only at hSw); go_simp; done) | (intro w hSw; (try dsimp only at hSw); go_simp; with_reducible rfl)
    simp only [Act.put, List.setIfInBounds_toArray, List.set_cons_zero, List.set_cons_succ]
    have HO6d : Hid (w6.drew.ownsRow w1.heap.size 5 1 (.slice A6 (2 + ne) c6) (2 + ne) (([1, hb8] ++ Sh.Sha.be8 z).map V8)) := Lib.hid HO6.out
    have HBW6d := Lib.hid HBW6.out.drew
    have hs6d : w1.heap.size ≤ w6.drew.heap.size := hs6
    clear HO6 HBW6 hs6
    generalize w6.drew = w6 at *
    have hX6 := HW1d.out.below HBW6d.out (by omega)
    rw [← HX.out] at hX6
    refine wpAnyH_ready (rs := [3]) (by kernel_rfl) (by simp) ?_
    refine AllReadyH.cons (o := { dst := some 33, op := Op.call { callee := Callee.builtin Builtin.append, args := #[Operand.tmp 30, Operand.tmp 32], argTypes := #[27, 27] }, type := 27, pos := "ref.go:24", after := #[{ on := 0, ground := Ground.data }, { on := 2, ground := Ground.data }], guard := none }) rfl (fun K hK => ?_) AllReadyH.nil
    refine step_append_b rfl (.tmp 30) (.tmp 32) rfl w1.heap.size _ (2 + ne) _ rfl HO6d.out _ (some ⟨w.heap.size, 4, none⟩) 32 32 l rfl (abox_l hX6 HL.out.1) (by have := HNE.out; omega) hs6d ?_
    intro v7 w7 ho7 hg7 _
    have hb7 : Below w1.heap.size w1 w7 := HBW6d.out.grown hg7 hs6d (fun i hi => (HO6d.out.lt i hi).1)
    obtain ⟨A7, c7, rfl, hc7, _⟩ := own_form ho7
    have hs7 := hb7.size
    refine hK.out _ _ trivial (fun _ => ?_)
    have HO7 := Lib.hid ho7
    have HBW7 := Lib.hid hb7
    clear hK K ho7 hg7 hb7 HO6d HBW6d hX6
    simp only [Act.put, List.setIfInBounds_toArray, List.set_cons_zero, List.set_cons_succ]
    have hX7 := HW1d.out.below HBW7.out (by omega)
    rw [← HX.out] at hX7
    refine wpAnyH_ready (rs := [6]) (by kernel_rfl) (by simp) ?_
    refine AllReadyH.cons (o := { dst := some 36, op := Op.call { callee := Callee.builtin Builtin.append, args := #[Operand.tmp 33, Operand.tmp 35], argTypes := #[27, 27] }, type := 27, pos := "ref.go:24", after := #[{ on := 3, ground := Ground.data }, { on := 5, ground := Ground.data }, { on := 3, ground := Ground.chain }], guard := none }) rfl (fun K hK => ?_) AllReadyH.nil
    refine step_append_b rfl (.tmp 33) (.tmp 35) rfl w1.heap.size _ (2 + ne + 32) _ rfl HO7.out _ (some ⟨w.heap.size, 36, none⟩) 32 32 r rfl (abox_r hX7 HL.out.1 HL.out.2) (by have := HNE.out; omega) hs7 ?_
    intro v8 w8 ho8 hg8 _
    have hb8' : Below w1.heap.size w1 w8 := HBW7.out.grown hg8 hs7 (fun i hi => (HO7.out.lt i hi).1)
    obtain ⟨A8, c8, rfl, hc8, _⟩ := own_form ho8
    have htxt : [1, hb8] ++ Sh.Sha.be8 z ++ l ++ r = innerText hb8 z l r := by rw [innerText]; simp
    rw [htxt] at ho8
    have hs8 := hb8'.size
    have HB8 := Lib.hid (HBd.out.trans (hb8'.mono HBd.out.size))
    have HSUM := Lib.hid (Sh.ref_any A8 (2 + ne + 32 + 32) c8 (innerText hb8 z l r) w8 (reads_of_rd (Rd.of_own ho8) (Nat.le_refl _)) (by have := HNE.out; omega) (tab0_below HT.out HB8.out hw) (by omega))
    have HR8 := Lib.hid (HW2d.out.below hb8' (by omega))
    refine hK.out _ _ trivial (fun _ => ?_)
    clear hK K ho8 hg8 hb8' HO7 HBW7 hX7 htxt
    simp only [Act.put, List.setIfInBounds_toArray, List.set_cons_zero, List.set_cons_succ]
    refine wpAnyH_ready (rs := [7]) (by kernel_rfl) (by simp) ?_
    refine AllReadyH.cons rfl (fun K hK => ?_) AllReadyH.nil
    go_simp
    refine HSUM.out.mono ?_
    rintro e w9 ⟨rfl, hb9⟩
    have HR9 := Lib.hid (HR8.out.below hb9 (by omega))
    have HB9 := Lib.hid (HB8.out.trans (hb9.mono HB8.out.size))
    clear hb9 HSUM HR8 HB8
    obtain ⟨Y, hY⟩ : ∃ Y, Sh.bcells (Sh.Sha.sum (innerText hb8 z l r)) = Y := ⟨_, rfl⟩
    have hsizeY : Y.size = 32 := by rw [← hY, Sh.bcells_size, Sh.sum_length]
    have honeY : Y.all (·.oneCell') = true := by rw [← hY]; exact Sh.bcells_one _
    rw [hY]
    have HY := Lib.hid hY
    clear hY
    refine hK.out _ _ trivial (fun _ => ?_)
    clear hK K
    refine wpAnyH_ready (rs := [8]) (by kernel_rfl) (by simp) ?_
    refine AllReadyH.cons rfl (fun K hK => ?_) AllReadyH.nil
    refine Eq.mpr (if_pos (by rfl)) ?_
    refine wp_store_none (by rfl) 49 (.tmp 2) (.tmp 37) rfl (w.heap.size + 1) 0 Y rfl rfl ?_ ?_ honeY ?_
    · rw [hsizeY]; have := HR9.out.there_; rw [zb_size] at this; exact this
    · rw [hsizeY]; exact info49
    have hwA := HR9.out.setAll (vs := Y) (by rw [zb_size, hsizeY])
    have hbA := below_setCells w (w.heap.size + 1) Y.toList 0 HB9.out (by omega)
    refine hK.out _ _ trivial (fun _ => ?_)
    clear hK K HR9 HB9
    generalize w9.setCells (w.heap.size + 1) 0 Y.toList = wA at *
    have HWA := Lib.hid hwA
    have HBA := Lib.hid hbA
    clear hwA hbA
    refine wpAnyH_done (by kernel_rfl) ?_ _
    go_wp2_with fail
    refine bodyPost_ret (results_cell1 Tryd.results53 _ _ _ ⟨w.heap.size + 1, 0, none⟩ _ rfl (load_whole HWA.out 49 _ Tryd.underlying49 rfl (by rw [hsizeY]; exact info49))) rfl ⟨by rw [HY.out], HBA.out⟩
end Go.Proofs.YtbhmldoehgkhfaaDoor
