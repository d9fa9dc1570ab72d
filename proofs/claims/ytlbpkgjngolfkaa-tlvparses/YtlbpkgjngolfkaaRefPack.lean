/-
  What the document's Pack returns: the pieces of the lists, one behind the other, in new memory; conditions: the lists are read, none is too long, there are no more than a hundred thousand.
-/
import Derived.Test.YtlbpkgjngolfkaaPack
import Derived.Deep.RegionHeld3
namespace Go.Proofs.Ytlbpkgjngolfkaa
open Go.RowKit

/-- append of bytes, at an operation of a region that draws. -/
theorem step_append_b {ops : Array Oper} {o : Oper} {a : Act} {w : World} {K : Act → World → Prop} {Q : Exit → Act → World → Prop} {F : Prop} (hgd : o.guard = none) (s x : Operand)
    (ho : o.op = .call { callee := .builtin .append, args := #[s, x], argTypes := #[22, 22] })
    (base : Nat) (v : Value) (n : Nat) (bs : List UInt8) (hs : a.eval s = v) (hown : w.ownsRow base 5 1 v n (bs.map V8))
    (B : Nat) (A : Option Addr) (m c : Nat) (cs : List UInt8) (hx : a.eval x = .slice A m c) (hr : Rd w B A m cs)
    (hb : n + m ≤ 140737488355328) (hbase : base ≤ w.heap.size)
    (h : ∀ v' w', w'.ownsRow base 5 1 v' (n + m) ((bs ++ cs).map V8) → w.grownBy w' v.ownBlock → (v'.ownBlock = v.ownBlock ∨ v'.ownBlock = some w.heap.size) → K (a.put o.dst v') w') :
    if Region.wanted o (yielded ops a.tmps) = true then Oper.wp Try.prog o a w K Q else F := by
  have hw : Region.wanted o (yielded ops a.tmps) = true := by simp [Region.wanted, hgd]
  rw [if_pos hw]
  obtain ⟨v', w', hrun, h2, h3, h4⟩ := run_append_rd w base 22 o.type 5 _ 1 1 Try.underlying22 info5 rfl (by omega) v n _ hown B A m c _ hr (one_bytes cs) (by unfold maxLen; omega) (by omega) hbase
  unfold Oper.wp execOp
  simp only [ho, resolve, invoke, builtin, Sem.run_bind, Sem.run_pure, Result.andThen_ok, List.map_toArray, List.map_cons, List.map_nil, hs, hx, hrun]
  exact h v' w' (by rw [List.map_append]; exact h2) h3 h4

set_option maxRecDepth 100000 in
set_option maxHeartbeats 1000000 in
theorem refPack_any (A : Option Addr) (n c : Nat) (ls : List (List UInt8)) (w : World) (hr : LRd w w.heap.size A n ls) (hn : n ≤ 100000) (h16 : ∀ l ∈ ls, l.length ≤ 65535) :
    Calls Try.prog 23 #[.slice A n c] w (BytesPost w (Tlv.pack ls)) := by
  have HR := Lib.hid hr
  have H16 := Lib.hid h16
  have HALL : Hid (ls.take n = ls) := Lib.hid (List.take_of_length_le (by rw [hr.len]; exact Nat.le_refl _))
  clear hr h16
  go_enter Try.func23, Try.ntmps23
  go_wp2_with fail
  go_loopw [4, 3] (fun i o wx => PackRel w ls n i o wx) (fun i _ _ => n - (intOf i).toNat)
  case atStart => exact ⟨0, 0, by omega, rfl, rfl, World.ownsRow_nil _ _ _ _, Below.refl _ _⟩
  case round =>
    obtain ⟨k, M, hk, hM, rfl, hown, hbl⟩ := hrel
    have hMb := pack_bound ls H16.out k
    rw [← hM] at hMb
    obtain ⟨A0, c0, rfl, hc0, _⟩ := own_form hown
    have HM := Lib.hid hM
    have HO := Lib.hid hown
    have HB := Lib.hid hbl
    have hws : w.heap.size ≤ wr.heap.size := hbl.size
    clear hM hown hbl
    by_cases hlt : k < n
    · obtain ⟨l, hl⟩ : ∃ l, ls[k]? = some l := ⟨ls[k]'(by rw [HR.out.len]; exact hlt), List.getElem?_eq_getElem _⟩
      obtain ⟨b1, o1, A', n', c', rfl, hb1, s1, hnc, _, r1⟩ := HR.out.at_ hl
      have hn' : n' ≤ 65535 := by rw [← r1.len]; exact H16.out l (List.mem_of_getElem? hl)
      have HT := Lib.hid (pack_take ls k l hl)
      have R1 := Lib.hid r1
      have S1 := Lib.hid s1
      have s1' : wr.drew.cell? ⟨b1, o1 + k, none⟩ = some (.slice A' n' c') := (HB.out.cell (p := ⟨b1, o1 + k, none⟩) hb1).trans s1
      have i0 : (0 : Int) ≤ (k : Int) := by omega
      have i1 : (k : Int) < (n : Int) := by omega
      have m1 : IntKind.i64.wrap ((n' : Int) / 256) = (n' : Int) / 256 := IntWalk.i64_in _ (by omega)
      have m2 : (n' : Int).tmod 256 = (n' : Int) % 256 := Int.tmod_eq_emod_of_nonneg (by omega)
      have m3 : IntKind.u8.wrap ((n' : Int) / 256) = (n' : Int) / 256 := IntWalk.u8_in _ (by omega)
      have m4 : IntKind.u8.wrap ((n' : Int) % 256) = (n' : Int) % 256 := IntWalk.u8_in _ (by omega)
      clear hl r1 s1
      go_wp2_with fail
      refine wp_region_held_drew (S := fun w' => w'.cell? ⟨b1, o1 + k, none⟩ = some (Value.slice A' n' c')) (by kernel_rfl) s1' (fun hHeld => ?_)
      refine wpAnyH_take (i := 0) (oi := { dst := some 11, op := Op.move (Operand.tmp 3), type := 22, pos := "ref.go:136", after := #[], guard := none }) (v := ?_) rfl (by kernel_rfl) (by kernel_rfl) (by kernel_rfl) (fun _ _ _ h => h) (Or.inl ⟨by rfl, ?_⟩) (by assumption) ?_
      rotate_left
      · first | (intro w hSw; (try dsimp only at hSw); go_simp; done) | (intro w hSw; (try dsimp only at hSw); go_simp; with_reducible rfl)
      simp only [Act.put, List.setIfInBounds_toArray, List.set_cons_zero, List.set_cons_succ]
      refine wpAnyH_take (i := 1) (oi := { dst := some 12, op := Op.move (Operand.tmp 0), type := 41, pos := "ref.go:136", after := #[], guard := none }) (v := ?_) rfl (by kernel_rfl) (by kernel_rfl) (by kernel_rfl) (fun _ _ _ h => h) (Or.inl ⟨by rfl, ?_⟩) (by assumption) ?_
      rotate_left
      · first | (intro w hSw; (try dsimp only at hSw); go_simp; done) | (intro w hSw; (try dsimp only at hSw); go_simp; with_reducible rfl)
      simp only [Act.put, List.setIfInBounds_toArray, List.set_cons_zero, List.set_cons_succ]
      refine wpAnyH_take (i := 2) (oi := { dst := some 13, op := Op.move (Operand.tmp 4), type := 3, pos := "ref.go:136", after := #[], guard := none }) (v := ?_) rfl (by kernel_rfl) (by kernel_rfl) (by kernel_rfl) (fun _ _ _ h => h) (Or.inl ⟨by rfl, ?_⟩) (by assumption) ?_
      rotate_left
      · first | (intro w hSw; (try dsimp only at hSw); go_simp; done) | (intro w hSw; (try dsimp only at hSw); go_simp; with_reducible rfl)
      simp only [Act.put, List.setIfInBounds_toArray, List.set_cons_zero, List.set_cons_succ]
      refine wpAnyH_take (i := 3) (oi := { dst := some 14, op := Op.indexAddr 41 (Operand.tmp 12) (Operand.tmp 13), type := 0, pos := "ref.go:136", after := #[{ on := 1, ground := Ground.data }, { on := 2, ground := Ground.data }], guard := none }) (v := ?_) rfl (by kernel_rfl) (by kernel_rfl) (by kernel_rfl) (fun _ _ _ h => h) (Or.inl ⟨by rfl, ?_⟩) (by assumption) ?_
      rotate_left
      · first | (intro w hSw; (try dsimp only at hSw); go_simp; done) | (intro w hSw; (try dsimp only at hSw); go_simp; with_reducible rfl)
      simp only [Act.put, List.setIfInBounds_toArray, List.set_cons_zero, List.set_cons_succ]
      refine wpAnyH_take (i := 4) (oi := { dst := some 15, op := Op.load 22 (Operand.tmp 14), type := 22, pos := "ref.go:136", after := #[{ on := 3, ground := Ground.data }], guard := none }) (v := ?_) rfl (by kernel_rfl) (by kernel_rfl) (by kernel_rfl) (fun _ _ _ h => h) (Or.inl ⟨by rfl, ?_⟩) (by assumption) ?_
      rotate_left
      · first | (intro w hSw; (try dsimp only at hSw); go_simp; done) | (intro w hSw; (try dsimp only at hSw); go_simp; with_reducible rfl)
      simp only [Act.put, List.setIfInBounds_toArray, List.set_cons_zero, List.set_cons_succ]
      refine wpAnyH_take (i := 5) (oi := { dst := some 16, op := Op.call { callee := Callee.builtin Builtin.len, args := #[Operand.tmp 15], argTypes := #[22] }, type := 3, pos := "ref.go:136", after := #[{ on := 4, ground := Ground.data }], guard := none }) (v := ?_) rfl (by kernel_rfl) (by kernel_rfl) (by kernel_rfl) (fun _ _ _ h => h) (Or.inl ⟨by rfl, ?_⟩) (by assumption) ?_
      rotate_left
      · first | (intro w hSw; (try dsimp only at hSw); go_simp; done) | (intro w hSw; (try dsimp only at hSw); go_simp; with_reducible rfl)
      simp only [Act.put, List.setIfInBounds_toArray, List.set_cons_zero, List.set_cons_succ]
      refine wpAnyH_take (i := 6) (oi := { dst := some 17, op := Op.binOp BinOp.quo 3 (Operand.tmp 16) (Operand.const (Value.int IntKind.i64 256)) 3, type := 3, pos := "ref.go:136", after := #[{ on := 5, ground := Ground.data }], guard := none }) (v := ?_) rfl (by kernel_rfl) (by kernel_rfl) (by kernel_rfl) (fun _ _ _ h => h) (Or.inl ⟨by rfl, ?_⟩) (by assumption) ?_
      rotate_left
      · first | (intro w hSw; (try dsimp only at hSw); go_simp; done) | (intro w hSw; (try dsimp only at hSw); go_simp; with_reducible rfl)
      simp only [Act.put, List.setIfInBounds_toArray, List.set_cons_zero, List.set_cons_succ]
      refine wpAnyH_take (i := 7) (oi := { dst := some 18, op := Op.convert 3 5 (Operand.tmp 17), type := 5, pos := "ref.go:136", after := #[{ on := 6, ground := Ground.data }], guard := none }) (v := ?_) rfl (by kernel_rfl) (by kernel_rfl) (by kernel_rfl) (fun _ _ _ h => h) (Or.inl ⟨by rfl, ?_⟩) (by assumption) ?_
      rotate_left
      · first | (intro w hSw; (try dsimp only at hSw); go_simp; done) | (intro w hSw; (try dsimp only at hSw); go_simp; with_reducible rfl)
      simp only [Act.put, List.setIfInBounds_toArray, List.set_cons_zero, List.set_cons_succ]
      refine wpAnyH_take (i := 8) (oi := { dst := some 19, op := Op.move (Operand.tmp 0), type := 41, pos := "ref.go:136", after := #[], guard := none }) (v := ?_) rfl (by kernel_rfl) (by kernel_rfl) (by kernel_rfl) (fun _ _ _ h => h) (Or.inl ⟨by rfl, ?_⟩) (by assumption) ?_
      rotate_left
      · first | (intro w hSw; (try dsimp only at hSw); go_simp; done) | (intro w hSw; (try dsimp only at hSw); go_simp; with_reducible rfl)
      simp only [Act.put, List.setIfInBounds_toArray, List.set_cons_zero, List.set_cons_succ]
      refine wpAnyH_take (i := 9) (oi := { dst := some 20, op := Op.move (Operand.tmp 4), type := 3, pos := "ref.go:136", after := #[], guard := none }) (v := ?_) rfl (by kernel_rfl) (by kernel_rfl) (by kernel_rfl) (fun _ _ _ h => h) (Or.inl ⟨by rfl, ?_⟩) (by assumption) ?_
      rotate_left
      · first | (intro w hSw; (try dsimp only at hSw); go_simp; done) | (intro w hSw; (try dsimp only at hSw); go_simp; with_reducible rfl)
      simp only [Act.put, List.setIfInBounds_toArray, List.set_cons_zero, List.set_cons_succ]
      refine wpAnyH_take (i := 10) (oi := { dst := some 21, op := Op.indexAddr 41 (Operand.tmp 19) (Operand.tmp 20), type := 0, pos := "ref.go:136", after := #[{ on := 8, ground := Ground.data }, { on := 9, ground := Ground.data }], guard := none }) (v := ?_) rfl (by kernel_rfl) (by kernel_rfl) (by kernel_rfl) (fun _ _ _ h => h) (Or.inl ⟨by rfl, ?_⟩) (by assumption) ?_
      rotate_left
      · first | (intro w hSw; (try dsimp only at hSw); go_simp; done) | (intro w hSw; (try dsimp only at hSw); go_simp; with_reducible rfl)
      simp only [Act.put, List.setIfInBounds_toArray, List.set_cons_zero, List.set_cons_succ]
      refine wpAnyH_take (i := 11) (oi := { dst := some 22, op := Op.load 22 (Operand.tmp 21), type := 22, pos := "ref.go:136", after := #[{ on := 10, ground := Ground.data }], guard := none }) (v := ?_) rfl (by kernel_rfl) (by kernel_rfl) (by kernel_rfl) (fun _ _ _ h => h) (Or.inl ⟨by rfl, ?_⟩) (by assumption) ?_
      rotate_left
      · first | (intro w hSw; (try dsimp only at hSw); go_simp; done) | (intro w hSw; (try dsimp only at hSw); go_simp; with_reducible rfl)
      simp only [Act.put, List.setIfInBounds_toArray, List.set_cons_zero, List.set_cons_succ]
      refine wpAnyH_take (i := 12) (oi := { dst := some 23, op := Op.call { callee := Callee.builtin Builtin.len, args := #[Operand.tmp 22], argTypes := #[22] }, type := 3, pos := "ref.go:136", after := #[{ on := 11, ground := Ground.data }], guard := none }) (v := ?_) rfl (by kernel_rfl) (by kernel_rfl) (by kernel_rfl) (fun _ _ _ h => h) (Or.inl ⟨by rfl, ?_⟩) (by assumption) ?_
      rotate_left
      · first | (intro w hSw; (try dsimp only at hSw); go_simp; done) | (intro w hSw; (try dsimp only at hSw); go_simp; with_reducible rfl)
      simp only [Act.put, List.setIfInBounds_toArray, List.set_cons_zero, List.set_cons_succ]
      refine wpAnyH_take (i := 13) (oi := { dst := some 24, op := Op.binOp BinOp.rem 3 (Operand.tmp 23) (Operand.const (Value.int IntKind.i64 256)) 3, type := 3, pos := "ref.go:136", after := #[{ on := 12, ground := Ground.data }], guard := none }) (v := ?_) rfl (by kernel_rfl) (by kernel_rfl) (by kernel_rfl) (fun _ _ _ h => h) (Or.inl ⟨by rfl, ?_⟩) (by assumption) ?_
      rotate_left
      · first | (intro w hSw; (try dsimp only at hSw); go_simp; done) | (intro w hSw; (try dsimp only at hSw); go_simp; with_reducible rfl)
      simp only [Act.put, List.setIfInBounds_toArray, List.set_cons_zero, List.set_cons_succ]
      refine wpAnyH_take (i := 14) (oi := { dst := some 25, op := Op.convert 3 5 (Operand.tmp 24), type := 5, pos := "ref.go:136", after := #[{ on := 13, ground := Ground.data }], guard := none }) (v := ?_) rfl (by kernel_rfl) (by kernel_rfl) (by kernel_rfl) (fun _ _ _ h => h) (Or.inl ⟨by rfl, ?_⟩) (by assumption) ?_
      rotate_left
      · first | (intro w hSw; (try dsimp only at hSw); go_simp; done) | (intro w hSw; (try dsimp only at hSw); go_simp; with_reducible rfl)
      simp only [Act.put, List.setIfInBounds_toArray, List.set_cons_zero, List.set_cons_succ]
      refine wpAnyH_ready (rs := [15]) (by kernel_rfl) (by simp) ?_
      refine AllReadyH.cons rfl (fun K hK => ?_) AllReadyH.nil
      go_simp
      obtain ⟨W1, hW1⟩ : ∃ W1 : World, W1 = (wr.alloc (Obj.cells #[.int .u8 ((n' : Int) / 256), .int .u8 ((n' : Int) % 256)] 5)).drew := ⟨_, rfl⟩
      rw [← hW1]
      have hbw1 : Below wr.heap.size wr W1 := by rw [hW1]; exact ((Below.refl _ _).alloc (Nat.le_refl _) _).drew
      have hsz1 : W1.heap.size = wr.heap.size + 1 := by rw [hW1]; exact size_alloc wr _
      have hr2 : Rd W1 W1.heap.size (some ⟨wr.heap.size, 0, none⟩) 2 [Tlv.hi l.length, Tlv.lo l.length] := by
        rw [hsz1, hW1]
        exact rd_new wr 5 _ 2 rfl _ (hi_lo l n' R1.out.len hn')
      have hown1 := own_below HO.out hbw1
      have hbl1 : Below w.heap.size w W1 := HB.out.trans (hbw1.mono hws)
      have hs1 := (hbl1.cell (p := ⟨b1, o1 + k, none⟩) hb1).trans S1.out
      have HX := Lib.hid (And.intro hr2 (And.intro hown1 hbl1))
      have hws1 : w.heap.size ≤ W1.heap.size := hbl1.size
      clear hW1 hbw1 hr2 hown1 hbl1 hsz1 hHeld s1' m1 m2 m3 m4
      refine hK.out _ _ hs1 (fun hHeld => ?_)
      clear hK K
      refine wpAnyH_ready (rs := [16]) (by kernel_rfl) (by simp) ?_
      refine AllReadyH.cons (o := { dst := some 27, op := Op.call { callee := Callee.builtin Builtin.append, args := #[Operand.tmp 11, Operand.tmp 26], argTypes := #[22, 22] }, type := 22, pos := "ref.go:136", after := #[{ on := 0, ground := Ground.data }, { on := 15, ground := Ground.data }], guard := none }) rfl (fun K hK => ?_) AllReadyH.nil
      refine step_append_b rfl (.tmp 11) (.tmp 26) rfl w.heap.size _ M _ rfl HX.out.2.1 _ _ 2 2 [Tlv.hi l.length, Tlv.lo l.length] rfl HX.out.1 (by omega) hws1 ?_
      intro v2 w2 hown2 hg2 hat2
      have hb2 : Below w.heap.size W1 w2 := (Below.refl _ _).grown hg2 hws1 (fun i hi => (HX.out.2.1.lt i hi).1)
      have hbl2 := HX.out.2.2.trans hb2
      have hs2 := (hbl2.cell (p := ⟨b1, o1 + k, none⟩) hb1).trans S1.out
      obtain ⟨A2, c2, rfl, hc2, _⟩ := own_form hown2
      have HY := Lib.hid (And.intro hown2 hbl2)
      have hws2 : w.heap.size ≤ w2.heap.size := hbl2.size
      clear hown2 hg2 hat2 hb2 hbl2 HX hHeld hs1
      refine hK.out _ _ hs2 (fun hHeld => ?_)
      clear hK K
      simp only [Act.put, List.setIfInBounds_toArray, List.set_cons_zero, List.set_cons_succ]
      refine wpAnyH_take (i := 17) (oi := { dst := some 3, op := Op.assign (Operand.tmp 27), type := 22, pos := "ref.go:136", after := #[{ on := 16, ground := Ground.data }, { on := 16, ground := Ground.chain }, { on := 0, ground := Ground.phase }, { on := 1, ground := Ground.phase }, { on := 2, ground := Ground.phase }, { on := 3, ground := Ground.phase }, { on := 4, ground := Ground.phase }, { on := 5, ground := Ground.phase }, { on := 6, ground := Ground.phase }, { on := 7, ground := Ground.phase }, { on := 8, ground := Ground.phase }, { on := 9, ground := Ground.phase }, { on := 10, ground := Ground.phase }, { on := 11, ground := Ground.phase }, { on := 12, ground := Ground.phase }, { on := 13, ground := Ground.phase }, { on := 14, ground := Ground.phase }, { on := 15, ground := Ground.phase }, { on := 16, ground := Ground.phase }], guard := none }) (v := ?_) rfl (by kernel_rfl) (by kernel_rfl) (by kernel_rfl) (fun _ _ _ h => h) (Or.inl ⟨by rfl, ?_⟩) (by assumption) ?_
      rotate_left
      · first | (intro w hSw; (try dsimp only at hSw); go_simp; done) | (intro w hSw; (try dsimp only at hSw); go_simp; with_reducible rfl)
      simp only [Act.put, List.setIfInBounds_toArray, List.set_cons_zero, List.set_cons_succ]
      refine wpAnyH_done (by kernel_rfl) ?_ _
      clear hHeld
      go_upto_region 6 with (fail)
      refine wp_region_lit ?_
      iterate 15 go_step
      refine wpList_append_b rfl (.tmp 28) (.tmp 32) rfl w.heap.size _ (M + 2) _ rfl HY.out.1 _ A' n' c' l rfl (R1.out.below HY.out.2 (Nat.le_refl _)) (by omega) hws2 ?_
      intro v3 w3 hown3 hb3
      have hl3 := hown3.1
      rw [show Tlv.pack (ls.take k) ++ [Tlv.hi l.length, Tlv.lo l.length] ++ l = Tlv.pack (ls.take (k + 1)) by rw [HT.out]; simp [Tlv.pieceb]] at hown3 hl3
      rw [List.length_map, Nat.mul_one] at hl3
      have HZ := Lib.hid (And.intro hown3 (And.intro hl3 (HY.out.2.trans hb3)))
      clear hown3 hl3 hb3 hs2
      go_simp
      go_wp2_with fail
      go_roundw
      case rel => exact ⟨k + 1, M + 2 + n', by omega, HZ.out.2.1.symm, by go_num, HZ.out.1, HZ.out.2.2⟩
      case measure => simp [intOf]; omega
    · obtain rfl : k = n := by omega
      have hown := HO.out
      rw [HALL.out] at hown
      have HH := Lib.hid (Rd.of_own hown)
      clear hown
      go_wp2_with fail
      go_ret
      exact ⟨A0, M, c0, rfl, HH.out, hc0, HB.out⟩
end Go.Proofs.Ytlbpkgjngolfkaa
