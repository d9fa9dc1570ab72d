/-
  What the document's Eight returns: the eight bytes of a number, the highest first: no condition.
-/
import Derived.Test.YtceillnmcccckaaDoorSame
namespace Go.Proofs.YtceillnmcccckaaDoor
open Go.RowKit
open Tr

/-- append of bytes, at an operation of a region that draws. -/
theorem step_append_b {ops : Array Oper} {o : Oper} {a : Act} {w : World} {K : Act → World → Prop} {Q : Exit → Act → World → Prop} {F : Prop} (hgd : o.guard = none) (s x : Operand)
    (ho : o.op = .call { callee := .builtin .append, args := #[s, x], argTypes := #[27, 27] })
    (base : Nat) (v : Value) (n : Nat) (bs : List UInt8) (hs : a.eval s = v) (hown : w.ownsRow base 5 1 v n (bs.map V8))
    (B : Nat) (A : Option Addr) (m c : Nat) (cs : List UInt8) (hx : a.eval x = .slice A m c) (hr : Rd w B A m cs)
    (hb : n + m ≤ 140737488355328) (hbase : base ≤ w.heap.size)
    (h : ∀ v' w', w'.ownsRow base 5 1 v' (n + m) ((bs ++ cs).map V8) → w.grownBy w' v.ownBlock → (v'.ownBlock = v.ownBlock ∨ v'.ownBlock = some w.heap.size) → K (a.put o.dst v') w') :
    if Region.wanted o (yielded ops a.tmps) = true then Oper.wp Tryd.prog o a w K Q else F := by
  have hw : Region.wanted o (yielded ops a.tmps) = true := by simp [Region.wanted, hgd]
  rw [if_pos hw]
  obtain ⟨v', w', hrun, h2, h3, h4⟩ := run_append_rd w base 27 o.type 5 _ 1 1 Tryd.underlying27 info5 rfl (by omega) v n _ hown B A m c _ hr (one_bytes cs) (by unfold maxLen; omega) (by omega) hbase
  unfold Oper.wp execOp
  simp only [ho, resolve, invoke, builtin, Sem.run_bind, Sem.run_pure, Result.andThen_ok, List.map_toArray, List.map_cons, List.map_nil, hs, hx, hrun]
  exact h v' w' (by rw [List.map_append]; exact h2) h3 h4

set_option maxRecDepth 100000 in
theorem eight_any (z : UInt64) (w : World) : Calls Tryd.prog 56 #[.int .u64 z.toNat] w (BytesPost w (Sh.Sha.be8 z)) := by
  go_enter Tryd.func56, Tryd.ntmps56
  go_wp2_with fail
  go_loopg [3, 4] 8 (fun gk o i wx => ∃ k : Nat, k + gk = 8 ∧ i = .int .i64 k ∧ wx.ownsRow w.heap.size 5 1 o k (((Sh.Sha.be8 z).take k).map V8) ∧ Below w.heap.size w wx)
  case atStart => exact ⟨0, by omega, rfl, World.ownsRow_nil _ _ _ _, Below.refl _ _⟩
  case round =>
    obtain ⟨k, hk, rfl, hown, hbl⟩ := hrel
    obtain ⟨A0, c0, rfl, _, _⟩ := own_form hown
    have HO := Lib.hid hown
    have HB := Lib.hid hbl
    have hbs : w.heap.size ≤ wr.heap.size := hbl.size
    clear hown hbl
    cases gk with
    | succ gn =>
      have hi8 : k < 8 := by omega
      have hsh : (56 - 8 * (k : Int)).toNat = 56 - 8 * k := by omega
      have z0 : 0 ≤ 56 - 8 * (k : Int) := by omega
      have z1 : 56 - 8 * (k : Int) ≤ 64 := by omega
      obtain ⟨v, hv⟩ : ∃ v, (z >>> UInt64.ofNat (56 - 8 * k)).toUInt8 = v := ⟨_, rfl⟩
      have hbyte := Sh.Sha.be8_byte z k hi8
      rw [hv] at hbyte
      have HV : Hid ((Sh.Sha.be8 z).take (k + 1) = (Sh.Sha.be8 z).take k ++ [v]) := Lib.hid (by rw [Sh.Sha.be8_take z k hi8, hv])
      clear hv
      go_upto_region 5 with (fail)
      refine wp_region_lit ?_
      iterate 24 go_step
      have hb0 : Below w.heap.size w (wr.alloc (.cells #[.int .u8 v.toNat] 5)) := HB.out.alloc hbs _
      refine wpList_append_b rfl (.tmp 9) (.tmp 16) rfl w.heap.size _ k _ rfl (HO.out.alloc _) _ _ 1 1 [v] rfl (rd_new wr 5 _ 1 rfl _ rfl) (by omega) (by simp; omega) ?_
      intro v1 w1 hown hb1
      rw [← HV.out] at hown
      have hb : Below w.heap.size w w1 := hb0.trans hb1
      have HH := Lib.hid (And.intro hown hb)
      clear hb0 hb1 hown hb HO HB hsh hbyte
      go_simp
      go_wp2_with fail
      go_roundg gn
      case measure => omega
      case rel => exact ⟨k + 1, by omega, congrArg (Value.int .i64) (by omega), HH.out.1, HH.out.2⟩
    | zero =>
      obtain rfl : k = 8 := by omega
      have hown := HO.out
      rw [List.take_of_length_le (by rw [Sh.Sha.be8_length]; exact Nat.le_refl _)] at hown
      obtain ⟨A1, c1, e, hc, _⟩ := own_form hown
      injection e with e1 _ e2
      subst e1 e2
      have HH := Lib.hid (Rd.of_own hown)
      clear hown HO
      go_wp2_with fail
      go_ret
      exact ⟨A0, 8, c0, rfl, HH.out, hc, HB.out⟩
end Go.Proofs.YtceillnmcccckaaDoor
