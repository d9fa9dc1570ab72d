/-
  What layer 7 function Awake returns: true; no condition. It only makes memory of its own.
-/
import Derived.Test.YtolkpjbbfopmnaaDoorTlNdDec

namespace Go.Proofs.YtolkpjbbfopmnaaDoor.Tl
open Go.RowKit
open Tlv (Nd)

theorem says_fit : ∀ (fs : List (UInt8 × List UInt8)) (n : Nd), n.fit → (Tlv.says n fs).2.fit := by
  intro fs
  induction fs with
  | nil => intro n h; exact h
  | cons f fs ih =>
    intro n h
    unfold Tlv.says
    split
    · exact ih _ (Tlv.say_fit h _ _)
    · exact h
theorem dec_fit (b : List UInt8) : (Tlv.dec b).2.fit := by
  unfold Tlv.dec
  split
  · split
    · unfold Tlv.judge
      split
      · split
        · exact says_fit _ _ Tlv.fit_one
        · exact Tlv.fit_zero
      · exact Tlv.fit_zero
    · exact Tlv.fit_zero
  · exact Tlv.fit_zero

def aNode : Nd := ⟨[97], [120], 0, 1, Tlv.nought, Tlv.nought⟩
theorem aNode_enc : Tlv.enc aNode = (0, [1, 0, 1, 97, 2, 0, 1, 120]) := by
  have h1 : aNode.may = true := by decide
  rw [enc_good (by decide) h1]
  refine congrArg (Prod.mk 0) ?_
  unfold Nd.bytes
  rw [if_neg (by decide)]
  unfold Nd.mid Nd.front
  rw [show aNode.h.toNat = 0 from rfl, Tlv.num_zero, Tlv.put_nil]
  decide

theorem build_two (A : Option Addr) (n c : Nat) (A' : Option Addr) (n' c' : Nat) : ∀ w, (Instr.build 47 #[(0, .slice A n c), (1, .slice A' n' c'), (3, .int .u64 1)]).run Tryd.prog w = .ok (.agg (acells (.slice A n c) (.slice A' n' c') 0 1 Tlv.nought Tlv.nought).toArray) w :=
  fun w => run_build w 47 _ _ (by kernel_rfl)
theorem wpList_build_two {ops : Array Oper} {rest : List Oper} {o : Oper} {a : Act} {w : World} {Q : Exit → Act → World → Prop} (hgd : o.guard = none) (x y : Operand) (ho : o.op = .build 47 #[(0, x), (1, y), (3, .const (.int .u64 1))])
    (A : Option Addr) (n c : Nat) (A' : Option Addr) (n' c' : Nat) (hx : a.eval x = .slice A n c) (hy : a.eval y = .slice A' n' c')
    (h : wpList Tryd.prog ops Q rest (a.put o.dst (.agg (acells (.slice A n c) (.slice A' n' c') 0 1 Tlv.nought Tlv.nought).toArray)) w) : wpList Tryd.prog ops Q (o :: rest) a w :=
  wpList_plain hgd fun K hK => by
    have e : (#[(0, x), (1, y), (3, Operand.const (.int .u64 1))] : Array (Nat × Operand)).map (fun x => (x.1, a.eval x.2)) = #[(0, .slice A n c), (1, .slice A' n' c'), (3, .int .u64 1)] := by
      simp only [List.map_toArray, List.map_cons, List.map_nil, hx, hy]
      rfl
    unfold Oper.wp execOp
    simp only [ho, Sem.run_bind]
    rw [e, build_two]
    exact hK _ _ h

theorem rd_const (w : World) (t : TypeId) (f : Nat × Nat) (bs : List UInt8) (m : Nat) (hm : bs.length = m) (cs : Array Value) (hcs : cs = (bs.map V8).toArray) :
    Rd (w.alloc (.cells cs t f)) (w.heap.size + 1) (some ⟨w.heap.size, 0, none⟩) m bs := by
  subst hcs
  exact Rd.mk_ hm _ _ (by omega) fun j v hv => (cell_of_row _ _ _ _ t f (heap_alloc_last w _)).trans (by rw [Nat.zero_add, List.getElem?_toArray, List.getElem?_map, hv]; rfl)

set_option maxRecDepth 100000 in
set_option maxHeartbeats 1000000 in
theorem awake_any (w : World) : Calls Tryd.prog 15 #[] w fun e w' => e = .returned (.bool true) ∧ Below w.heap.size w w' := by
  have hcv := fun (w : World) (C : Array Value) (n c : Nat) => Lib.run_convert_bytes_const (P := Tryd.prog) w 31 5 C n c Tryd.underlying31 Tryd.underlying5
  have hcv2 := hcv (w.alloc (.cells #[.int .u8 97] 5 (1, 2))) #[.int .u8 120] 1 1
  rw [size_alloc] at hcv2
  have hb0 : Below w.heap.size w ((w.alloc (.cells #[.int .u8 97] 5 (1, 2))).alloc (.cells #[.int .u8 120] 5 (1, 2))) := ((Below.refl _ _).alloc (Nat.le_refl _) _).alloc (by simp) _
  have hr1 := (rd_const w 5 (1, 2) [97] 1 rfl _ rfl).below ((Below.refl _ (w.alloc (.cells #[.int .u8 97] 5 (1, 2)))).alloc (Nat.le_refl _) (.cells #[.int .u8 120] 5 (1, 2))) (by rw [size_alloc]; exact Nat.le_refl _)
  have hr2 := rd_const (w.alloc (.cells #[.int .u8 97] 5 (1, 2))) 5 (1, 2) [120] 1 rfl _ rfl
  rw [size_alloc] at hr2
  have hN : NRd ((w.alloc (.cells #[.int .u8 97] 5 (1, 2))).alloc (.cells #[.int .u8 120] 5 (1, 2))) ((w.alloc (.cells #[.int .u8 97] 5 (1, 2))).alloc (.cells #[.int .u8 120] 5 (1, 2))).heap.size (some ⟨w.heap.size, 0, none⟩) 1 1 (some ⟨w.heap.size + 1, 0, none⟩) 1 1 aNode :=
    ⟨hr1.more (by rw [size_alloc, size_alloc]; omega), Nat.le_refl _, hr2.more (by rw [size_alloc, size_alloc]; omega), Nat.le_refl _⟩
  have HENC := Lib.hid (encode_any _ _ _ _ _ _ aNode _ hN ⟨rfl, rfl, by decide⟩)
  have HB := Lib.hid hb0
  clear hb0 hr1 hr2 hN
  go_enter Tryd.func15, Tryd.ntmps15
  go_upto_region 1 with (fail)
  refine wp_region_lit ?_
  iterate 12 go_step
  clear hcv hcv2
  generalize (w.alloc (.cells #[.int .u8 97] 5 (1, 2))).alloc (.cells #[.int .u8 120] 5 (1, 2)) = w1 at *
  refine wpList_build_two rfl (.tmp 5) (.tmp 7) rfl _ _ _ _ _ _ rfl rfl ?_
  go_wp2_with fail
  refine HENC.out.mono ?_
  rintro e w2 ⟨A, n, c, rfl, hr, hc, hb⟩
  rw [aNode_enc] at hr ⊢
  have hs := run_string w2 _ A n c _ hr
  have HB2 := Lib.hid (HB.out.trans (hb.mono HB.out.size))
  clear hr hb HENC HB
  go_wp2_with fail
  go_ret
  exact ⟨rfl, HB2.out⟩
end Go.Proofs.YtolkpjbbfopmnaaDoor.Tl
