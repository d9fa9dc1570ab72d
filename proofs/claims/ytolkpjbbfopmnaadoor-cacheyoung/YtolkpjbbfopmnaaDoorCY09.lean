/-
  What tlv.Num returns: the number as few bytes, in new memory; condition: the number has 64 bits.
  Small facts on results that lie in cells, on rows of cells that are stored whole, and on arrays that are compared: no condition.
  What tlv.Value and the document's Value, Eight and Num return; conditions: what is handed over is read, a number has 64 bits. They only make memory of their own.
  What the document's Eight and Num return; condition: the number has 64 bits. They only make memory of their own.
  How nodes lie in memory; small facts that the walks lean on: no condition.
  What the function that Encode puts fields by does: a field more in the cell that it shares; what mayBe returns; condition: the node can be read, its sums have 32 bytes. They only make memory of their own, but for that cell.
  What mayBe returns: whether a node may be, beside its key; condition: its value can be read, its sums have 32 bytes. It only makes memory of its own.
  What Encode returns: an error's number, and the node's bytes; condition: the node can be read, its sums have 32 bytes, its size is one of 64 bits. It only makes memory of its own.
  The node of a right node's bytes is that node: plain mathematics; conditions: the node may be, its key has from 1 to 96 bytes, an inner one's size isn't 0.
  What sum and height return: a sum of 32 bytes; a height, any above 64 as 65; condition: the bytes can be read. They only make memory of their own.
  What tlv.cutPiece and the document's piece return: the piece at the bytes' beginning and what stands behind it; conditions: the bytes are read. They make no memory.
  How lists of fields, and of bytes, lie in memory: small facts that the walks lean on: no condition.
  What take does: it lays what a field says into a node, or answers an error; condition: the node lies in a block of its own, its bytes and the field's lie ahead of it. All ahead of it is as it was.
  What tlv.Parse returns: the fields of the bytes, in new memory, or the error's number; conditions: the bytes are read, no more than a million.
-/
import Derived.Laws.BitsAllLaws
import Derived.Test.YtolkpjbbfopmnaaDoorCY04
import Derived.Test.YtolkpjbbfopmnaaDoorCY05
import Derived.Test.YtolkpjbbfopmnaaDoorCY06
namespace Go.Proofs.YtolkpjbbfopmnaaDoor.Tl
open Go.RowKit

theorem len64_n (n r : Nat) (hn : n < 18446744073709551616) (hr : Lib.bitLen n = r) (w : World) :
    Calls Tryd.prog 87 #[.int .u64 n] w fun e w' => e = .returned (.int .i64 r) ∧ w = w' :=
  (len64_any n w (by omega) (by omega)).mono fun e w' ⟨h1, h2⟩ => ⟨by rw [h1, Int.toNat_natCast, hr], h2.symm⟩

def bcells (bs : List UInt8) : Array Value := (bs.map V8).toArray
theorem bcells_set (bs : List UInt8) (i : Nat) (x : UInt8) : (bcells bs).setIfInBounds i (V8 x) = bcells (bs.set i x) := by
  simp [bcells, List.map_set]
theorem rd_whole {w : World} {g : Nat} {bs : List UInt8} (h : Whole w g 5 (bcells bs)) : Rd w w.heap.size (some ⟨g, 0, none⟩) bs.length bs :=
  Rd.mk_ rfl g 0 h.lt fun j v hv => h.at_ (by rw [Nat.zero_add, bcells, List.getElem?_toArray, List.getElem?_map, hv]; rfl)

/-- How it stands behind k rounds. -/
def NumRel (n g : Nat) (w : World) (x i : Value) (wx : World) : Prop :=
  ∃ k N : Nat, k ≤ (Tlv.num n).length ∧ N = n / 256 ^ k ∧ x = .int .u64 N ∧ i = .int .i64 (((Tlv.num n).length : Int) - 1 - k) ∧ Whole wx g 5 (bcells (Tlv.half n k)) ∧ Below w.heap.size w wx

theorem numrel_step {n g k : Nat} {w wx : World} (h : Whole wx g 5 (bcells (Tlv.half n k))) (hb : Below w.heap.size w wx) (hg : w.heap.size ≤ g) (hk : k < (Tlv.num n).length) (j : Nat) (hj : j = (Tlv.num n).length - 1 - k) :
    Whole (wx.setCell ⟨g, j, none⟩ (.int .u8 (((n / 256 ^ k : Nat) : Int) % 256))) g 5 (bcells (Tlv.half n (k + 1))) ∧ Below w.heap.size w (wx.setCell ⟨g, j, none⟩ (.int .u8 (((n / 256 ^ k : Nat) : Int) % 256))) := by
  refine ⟨?_, hb.setCell hg _⟩
  have hv : Value.int .u8 (((n / 256 ^ k : Nat) : Int) % 256) = V8 (UInt8.ofNat (n / 256 ^ k)) := by
    unfold V8
    rw [UInt8.toNat_ofNat']
    congr 1
  have := h.set j (V8 (UInt8.ofNat (n / 256 ^ k)))
  rw [bcells_set, hj, Tlv.half_set n k hk, ← hj] at this
  rw [hv]
  exact this

set_option maxRecDepth 100000 in
theorem num_any (n : Nat) (hn : n < 18446744073709551616) (w : World) : Calls Tryd.prog 68 #[.int .u64 n] w (BytesPost w (Tlv.num n)) := by
  obtain ⟨r, hr⟩ : ∃ r, Lib.bitLen n = r := ⟨_, rfl⟩
  have hL := Tlv.num_bits n hn
  rw [hr] at hL
  have hL8 := Tlv.num_len8 n hn
  obtain ⟨L, hLL⟩ : ∃ L, (Tlv.num n).length = L := ⟨_, rfl⟩
  have HLL := Lib.hid hLL
  have HRR := Lib.hid hr
  have hmk := run_mk L L (Nat.le_refl _) (by omega) (((r : Int) + 7) / 8) (((r : Int) + 7) / 8) (by omega) (by omega)
  have hr64 : r ≤ 64 := by omega
  have hs0 : Whole (w.alloc (.cells (zb L) 5)) w.heap.size 5 (bcells (Tlv.half n 0)) := by
    rw [Tlv.half_zero, hLL]; exact Whole.made w 5 _
  have HS0 := Lib.hid hs0
  rw [hLL] at hL8
  clear hr hL hLL hs0
  go_enter Tryd.func68, Tryd.ntmps68
  go_wp2_with fail
  refine (len64_n n r hn HRR.out w).mono ?_
  rintro e w' ⟨rfl, rfl⟩
  go_wp2_with fail
  have hb0 : Below w.heap.size w (w.alloc (.cells (zb L) 5)) := (Below.refl _ _).alloc (Nat.le_refl _) _
  have HB0 := Lib.hid hb0
  clear hmk hb0
  generalize w.alloc (.cells (zb L) 5) = w1 at *
  go_loopw [0, 4] (fun x i wx => NumRel n w.heap.size w x i wx) (fun _ i _ => (intOf i + 1).toNat)
  case atStart =>
    refine ⟨0, n, Nat.zero_le _, by simp, rfl, ?_, HS0.out, HB0.out⟩
    rw [HLL.out]; go_num
  case round =>
    obtain ⟨k, N, hk, hN, rfl, rfl, hwh, hbl⟩ := hrel
    have hk' : k ≤ L := by rw [HLL.out] at hk; exact hk
    have HLk := Lib.hid hk
    have HN := Lib.hid hN
    have hN64 : N < 18446744073709551616 := by rw [hN]; exact Nat.lt_of_le_of_lt (Nat.div_le_self _ _) hn
    have HW := Lib.hid hwh
    have HBL := Lib.hid hbl
    rw [HLL.out]
    clear hk hwh hbl hN HS0 HB0
    by_cases hlt : k < L
    · obtain ⟨j, hj⟩ : ∃ j : Nat, (L : Int) - 1 - k = j := ⟨L - 1 - k, by omega⟩
      have hjj : j = L - 1 - k := by omega
      have hjL : j < L := by omega
      have hcell : ∃ u, wr.cell? ⟨w.heap.size, j, none⟩ = some u := by
        have hl : j < (bcells (Tlv.half n k)).size := by
          rw [bcells, List.size_toArray, List.length_map, Tlv.half_length n k HLk.out, HLL.out]; exact hjL
        exact ⟨_, HW.out.at_ (Array.getElem?_eq_getElem hl)⟩
      obtain ⟨u, hcell⟩ := hcell
      have hfree := HW.out.free j
      rw [hj]
      have HJ := Lib.hid hj
      have HJJ := Lib.hid hjj
      clear hj hjj
      go_wp2_with fail
      go_roundw
      case rel =>
        obtain ⟨h1, h2⟩ := numrel_step HW.out HBL.out (Nat.le_refl _) (by rw [HLL.out]; exact hlt) j (by rw [HLL.out]; exact HJJ.out)
        rw [← HN.out] at h1 h2
        refine ⟨k + 1, N / 256, by rw [HLL.out]; omega, ?_, by go_num, ?_, h1, h2⟩
        · rw [HN.out, Nat.div_div_eq_div_mul, Nat.pow_succ]
        · rw [HLL.out]
          have := HJ.out
          congr 1
          omega
      case measure => simp [intOf]
    · obtain rfl : k = L := by omega
      have hneg : (k : Int) - 1 - k = -1 := by omega
      rw [hneg]
      clear hneg
      go_wp2_with fail
      go_ret
      have hwh := HW.out
      have hl := HLL.out
      rw [← hl, Tlv.half_all] at hwh
      have hr := rd_whole hwh
      refine ⟨_, _, k, rfl, ?_, Nat.le_refl _, HBL.out⟩
      rw [hl] at hr
      exact hr
end Go.Proofs.YtolkpjbbfopmnaaDoor.Tl
namespace Go.Proofs.YtolkpjbbfopmnaaDoor.Tl
open Go.RowKit

/-- Two results: the first one lies in a block, the second one in a slot. -/
theorem results_cell2 {fn : Func} {p q : Tmp} {ty : TypeId} (h : fn.results = #[.cell p ty, .tmp q]) (tmps : Array Value) (P : Program) (w : World) (a : Addr) (v : Value) (hp : tmps.getD p undef = .pointer (some a))
    (hl : (loadVar ty a).run P w = .ok v w) : (results fn tmps).run P w = .ok (.tuple #[v, tmps.getD q undef]) w := by
  have hp' : tmps[p]?.getD undef = .pointer (some a) := by simpa using hp
  simp only [results, h]
  simp [Result.andThen, hp', asAddr, hl]
/-- One result, which lies in a block. -/
theorem results_cell1 {fn : Func} {p : Tmp} {ty : TypeId} (h : fn.results = #[.cell p ty]) (tmps : Array Value) (P : Program) (w : World) (a : Addr) (v : Value) (hp : tmps.getD p undef = .pointer (some a))
    (hl : (loadVar ty a).run P w = .ok v w) : (results fn tmps).run P w = .ok v w := by
  have hp' : tmps[p]?.getD undef = .pointer (some a) := by simpa using hp
  simp only [results, h]
  simp [hp', asAddr, hl]

section
variable {w w' : World} {g : Nat} {t : TypeId} {cs vs : Array Value}
theorem Whole.other (h : Whole w g t cs) {p : Addr} (hp : g ≠ p.block) (u : Value) : Whole (w.setCell p u) g t cs := (Below.heap_setCell w p u g hp).trans h
theorem Whole.range (h : Whole w g t cs) : w.rangeAt g 0 cs.toList := by
  have := World.rangeAt_of_block (w := w) (b := g) (C := cs) h 0 cs.size
  rwa [Nat.zero_add, Array.extract_size] at this
theorem Whole.there_ (h : Whole w g t cs) : w.there g 0 cs.size := fun j hj => by
  rw [Nat.zero_add]
  exact ⟨by rw [h.at_ (Array.getElem?_eq_getElem hj)]; rfl, h.free j⟩
theorem Whole.midthere (h : Whole w g t cs) (o n : Nat) (hn : o + n ≤ cs.size) : w.there g o n := fun j hj =>
  ⟨by rw [h.at_ (Array.getElem?_eq_getElem (by omega))]; rfl, h.free _⟩
end
/-- A stretch of a whole block, stored anew. -/
theorem Whole.setCells {g : Nat} {t : TypeId} : ∀ (vs : List Value) (pre old post : List Value) {w : World}, Whole w g t (pre ++ (old ++ post)).toArray → old.length = vs.length →
    Whole (w.setCells g pre.length vs) g t (pre ++ (vs ++ post)).toArray := by
  intro vs
  induction vs with
  | nil =>
    intro pre old post w h hl
    have : old = [] := List.eq_nil_of_length_eq_zero (by simpa using hl)
    subst this
    exact h
  | cons v r ih =>
    intro pre old post w h hl
    cases old with
    | nil => simp at hl
    | cons u old =>
      have h1 := h.set pre.length v
      have e : ((pre ++ (u :: old ++ post)).toArray).setIfInBounds pre.length v = ((pre ++ [v]) ++ (old ++ post)).toArray := by
        simp
      rw [e] at h1
      have h2 := ih (pre ++ [v]) old post h1 (by simpa using hl)
      simpa [World.setCells] using h2
theorem Whole.setAll {w : World} {g : Nat} {t : TypeId} {cs vs : Array Value} (h : Whole w g t cs) (hl : cs.size = vs.size) : Whole (w.setCells g 0 vs.toList) g t vs := by
  have h1 : Whole w g t ([] ++ (cs.toList ++ [])).toArray := by simpa using h
  have := Whole.setCells vs.toList [] cs.toList [] h1 (by simpa using hl)
  simpa using this
theorem below_setCells {B : Nat} (w : World) (b : Nat) (vs : List Value) : ∀ (o : Nat) {w' : World}, Below B w w' → B ≤ b → Below B w (w'.setCells b o vs) := by
  induction vs with
  | nil => intro o w' h _; exact h
  | cons v r ih => intro o w' h hb; exact ih (o + 1) (h.setCell (p := ⟨b, o, none⟩) hb v) hb
theorem size_setCells (b : Nat) (vs : List Value) : ∀ (o : Nat) (w : World), (w.setCells b o vs).heap.size = w.heap.size := by
  induction vs with
  | nil => intro o w; rfl
  | cons v r ih => intro o w; rw [World.setCells, ih]; simp
theorem bcells_size (bs : List UInt8) : (bcells bs).size = bs.length := by simp [bcells]
theorem bcells_one (bs : List UInt8) : (bcells bs).all (·.oneCell') = true := by
  simp [bcells, V8, Value.oneCell']
/-- A whole block is read. -/
theorem load_whole {w : World} {g : Nat} {t : TypeId} {cs : Array Value} (h : Whole w g t cs) (ty : TypeId) (d : TypeDesc) (hu : Tryd.prog.underlying ty = some d) (hd : d.isRow = true) (hi : (Tryd.prog.info? ty).map (·.size) = some cs.size) :
    (loadVar ty ⟨g, 0, none⟩).run Tryd.prog w = .ok (.agg cs) w := by
  have := run_loadVar_mid (P := Tryd.prog) w g 0 ty cs.toList d h.range hu hd (by rw [hi, Array.length_toList])
  rwa [Array.toArray_toList] at this
/-- A whole block is loaded, by an operation that is wanted. -/
theorem wpList_load_g {ops : Array Oper} {rest : List Oper} {op : Oper} {a : Act} {w : World} {Q : Exit → Act → World → Prop} (hw : Region.wanted op (yielded ops a.tmps) = true) (ty : TypeId) (x : Operand) (ho : op.op = .load ty x)
    (g : Nat) (hx : a.eval x = .pointer (some ⟨g, 0, none⟩)) (t : TypeId) (cs : Array Value) (d : TypeDesc) (hc : Whole w g t cs)
    (hu : Tryd.prog.underlying ty = some d) (hd : d.isRow = true) (hi : (Tryd.prog.info? ty).map (·.size) = some cs.size)
    (h : wpList Tryd.prog ops Q rest (a.put op.dst (.agg cs)) w) : wpList Tryd.prog ops Q (op :: rest) a w :=
  wpList_step fun K hK => by
    rw [if_pos hw]
    refine wp_load_mid ty x ho g 0 hx cs.toList d hc.range hu hd (by rw [hi, Array.length_toList]) ?_
    rw [Array.toArray_toList]
    exact hK _ _ h
/-- A whole array stored into the block that was made last. -/
theorem wpList_store_made {P : Program} {ops : Array Oper} {rest : List Oper} {op : Oper} {a : Act} {w : World} {Q : Exit → Act → World → Prop} (hgd : op.guard = none) (ty : TypeId) (x y : Operand) (ho : op.op = .store ty x y)
    (c c' : Array Value) (hx : a.eval x = .pointer (some ⟨w.heap.size, 0, none⟩)) (hy : a.eval y = .agg c')
    (hi : (P.info? ty).map (·.size) = some c'.size) (hc : c.size = c'.size) (h1 : c'.all (·.oneCell') = true)
    (h : wpList P ops Q rest (a.put op.dst undef) (w.alloc (.cells c' ty))) : wpList P ops Q (op :: rest) a (w.alloc (.cells c ty)) :=
  wpList_plain hgd fun _ hK => by
    unfold Oper.wp execOp
    simp only [ho, hx, hy, Instr.storeAt, Instr.sureAddr, Sem.run_bind, Sem.run_pure, Result.andThen_ok, run_storeVar_new w ty c c' hi hc h1]
    exact hK _ _ h
theorem info29 : (Tryd.prog.info? 29).map (·.size) = some 32 := by kernel_rfl
theorem run_eq29 (a b : List UInt8) (ha : a.length = 32) (hb : b.length = 32) (w : World) : (Op.equalIn 10000 29 (.agg (bcells a)) (.agg (bcells b))).run Tryd.prog w = .ok (a == b) w :=
  run_equalIn_bytes w 9998 29 5 32 Tryd.underlying29 Tryd.underlying5 (fun w => by
    obtain ⟨i, hi, _, hs, _⟩ := info_of info5
    simp [sizeOf, typeInfo, hi, hs]) _ _ ha hb
end Go.Proofs.YtolkpjbbfopmnaaDoor.Tl
namespace Go.Proofs.YtolkpjbbfopmnaaDoor.Tl
open Go.RowKit

/-- Are the bytes right as a number? -/
def okv (bs : List UInt8) : Prop := bs.length ≤ 8 ∧ bs.head? ≠ some 0
theorem val_small (bs : List UInt8) (k : Nat) (hk : k < bs.length) (h8 : bs.length ≤ 8) : Tlv.val (bs.take k) ≤ 72057594037927935 := by
  have h1 := Tlv.val_lt (bs.take k)
  have h2 : (bs.take k).length ≤ 7 := by rw [List.length_take]; omega
  have h3 : 256 ^ (bs.take k).length ≤ 256 ^ 7 := Nat.pow_le_pow_right (by omega) h2
  rw [show (256 : Nat) ^ 7 = 72057594037927936 from rfl] at h3
  omega
theorem val_take (bs : List UInt8) (k : Nat) (x : UInt8) (hx : bs[k]? = some x) : Tlv.val (bs.take (k + 1)) = Tlv.val (bs.take k) * 256 + x.toNat := by
  rw [List.take_add_one, hx]
  exact Tlv.val_snoc _ _
theorem or_u64 (M : Nat) (x : UInt8) (hM : M ≤ 72057594037927935) : bits .or .u64 ((M : Int) * 256) (x.toNat : Int) = ((M * 256 + x.toNat : Nat) : Int) := by
  have hx := x.toNat_lt
  have h := u64_or_nat (M * 256) x.toNat (by omega) (by omega)
  rw [Tlv.or_byte M x.toNat (by omega)] at h
  rw [← h]
  rfl

theorem head_at {w : World} {B : Nat} {A : Option Addr} {n : Nat} {bs : List UInt8} (h : Rd w B A n bs) (hn : 0 < n) : ∃ b o x, A = some ⟨b, o, none⟩ ∧ bs.head? = some x ∧ w.cell? ⟨b, o, none⟩ = some (.int .u8 x.toNat) := by
  obtain ⟨b, o, e, _, hc⟩ := h.at_ hn
  have hl := h.len
  match bs, hl with
  | [], hl => simp at hl; omega
  | x :: r, _ => exact ⟨b, o, x, e, rfl, hc 0 x rfl⟩

set_option maxRecDepth 100000 in
theorem value_bad (A : Option Addr) (n c : Nat) (bs : List UInt8) (w : World) (B : Nat) (hr : Rd w B A n bs) (hok : ¬ okv bs) :
    Calls Tryd.prog 71 #[.slice A n c] w fun e w' => e = .returned (.tuple #[.int .u64 0, .int .i64 7]) ∧ w = w' := by
  by_cases h8 : 8 < n
  · clear hr hok
    go_enter Tryd.func71, Tryd.ntmps71
    go_wp2_with fail
    go_ret2
    exact ⟨rfl, rfl⟩
  · have hl := hr.len
    have hh : bs.head? = some 0 := by
      rcases hb : bs.head? with _ | x
      · exact absurd ⟨by omega, by rw [hb]; simp⟩ hok
      · by_cases hx : x = 0
        · rw [hx]
        · exact absurd ⟨by omega, by rw [hb]; simpa using hx⟩ hok
    have hn : 0 < n := by
      rw [← hl]
      cases bs with
      | nil => simp at hh
      | cons a l => simp
    obtain ⟨b, o, x, rfl, hx, hc⟩ := head_at hr hn
    rw [hh] at hx
    injection hx with hx
    subst hx
    have hc : w.cell? ⟨b, o, none⟩ = some (.int .u8 0) := hc
    clear hr hok hl hh
    go_enter Tryd.func71, Tryd.ntmps71
    go_wp2_with fail
    go_ret2
    exact ⟨rfl, rfl⟩

set_option maxRecDepth 100000 in
theorem value_good (A : Option Addr) (n c : Nat) (bs : List UInt8) (w : World) (B : Nat) (hr : Rd w B A n bs) (hok : okv bs) :
    Calls Tryd.prog 71 #[.slice A n c] w fun e w' => e = .returned (.tuple #[.int .u64 (Tlv.val bs), .int .i64 0]) ∧ w = w' := by
  have hl := hr.len
  have h8 : n ≤ 8 := by rw [← hl]; exact hok.1
  rcases Nat.eq_zero_or_pos n with h0 | h0
  · subst h0
    obtain rfl : bs = [] := List.eq_nil_of_length_eq_zero hl
    clear hr hok hl
    go_enter Tryd.func71, Tryd.ntmps71
    go_wp2_with fail
    go_loop [4, 23] (fun v i => v = .int .u64 0 ∧ i = .int .i64 0) (fun _ _ => 0)
    case atStart => exact ⟨rfl, rfl⟩
    case round =>
      obtain ⟨rfl, rfl⟩ := hrel
      go_wp2_with fail
      go_ret2
      exact ⟨rfl, rfl⟩
  · obtain ⟨b, o, x, rfl, hx, hc⟩ := head_at hr h0
    have hz : ((x.toNat : Int) == 0) = false := by
      have : x ≠ 0 := fun e => hok.2 (by rw [hx, e])
      have : x.toNat ≠ 0 := fun e => this (UInt8.toNat_inj.1 e)
      simpa using this
    have HR := Lib.hid hr
    have HL := Lib.hid hl
    clear hr hok hl hx
    go_enter Tryd.func71, Tryd.ntmps71
    go_wp2_with fail
    clear hz hc
    go_loop [4, 23] (fun v i => ∃ k : Nat, k ≤ n ∧ i = .int .i64 k ∧ v = .int .u64 (Tlv.val (bs.take k))) (fun _ i => n - (intOf i).toNat)
    case atStart => exact ⟨0, by omega, rfl, rfl⟩
    case round =>
      obtain ⟨k, hk, rfl, rfl⟩ := hrel
      by_cases hlt : k < n
      · obtain ⟨y, hy⟩ : ∃ y, bs[k]? = some y := ⟨bs[k]'(by rw [HL.out]; exact hlt), List.getElem?_eq_getElem _⟩
        obtain ⟨b', o', e, _, hall⟩ := HR.out.at_ h0
        injection e with e
        injection e with e1 e2
        subst e1 e2
        have hc := hall k y hy
        have hM := val_small bs k (by rw [HL.out]; exact hlt) (by rw [HL.out]; exact h8)
        have HV := Lib.hid (val_take bs k y hy)
        generalize Tlv.val (bs.take k) = M at *
        have HE := Lib.hid (or_u64 M y hM)
        have hy8 : (y.toNat : Int) < 256 := by have := y.toNat_lt; omega
        clear hall hy
        go_wp2_with fail
        go_round
        case rel => exact ⟨k + 1, by omega, by go_num, by rw [HE.out, HV.out]⟩
        case measure => simp [intOf]; omega
      · obtain rfl : k = n := by omega
        go_wp2_with fail
        go_ret2
        refine ⟨?_, rfl⟩
        rw [List.take_of_length_le (by rw [HL.out]; exact Nat.le_refl _)]
        rfl
end Go.Proofs.YtolkpjbbfopmnaaDoor.Tl
namespace Go.Proofs.YtolkpjbbfopmnaaDoor.Tl
open Go.RowKit

/-- A number as eight bytes. -/
def pad (n : Nat) : List UInt8 := List.replicate (8 - (Tlv.num n).length) 0 ++ Tlv.num n
theorem pad_length (n : Nat) (h : n < 18446744073709551616) : (pad n).length = 8 := by
  have := Tlv.num_len8 n h
  rw [pad, List.length_append, List.length_replicate]
  omega
theorem num_top (n : Nat) : n < 256 ^ (Tlv.num n).length := by
  have := Tlv.val_lt (Tlv.num n)
  rwa [Tlv.val_num] at this
theorem pad_at (n : Nat) (h : n < 18446744073709551616) (k : Nat) (hk : k < 8) : (pad n)[k]? = some (UInt8.ofNat (n / 256 ^ (7 - k))) := by
  have h8 := Tlv.num_len8 n h
  unfold pad
  by_cases hlt : k < 8 - (Tlv.num n).length
  · rw [List.getElem?_append_left (by rw [List.length_replicate]; exact hlt), List.getElem?_replicate, if_pos hlt]
    have ht := num_top n
    have h0 : n / 256 ^ (7 - k) = 0 := Nat.div_eq_of_lt (Nat.lt_of_lt_of_le ht (Nat.pow_le_pow_right (by omega) (by omega)))
    rw [h0]
    rfl
  · rw [List.getElem?_append_right (by rw [List.length_replicate]; omega), List.length_replicate, ← Tlv.num_get (7 - k) n (by omega)]
    congr 1
    omega
theorem pad_take (n : Nat) (h : n < 18446744073709551616) (k : Nat) (hk : k < 8) : (pad n).take (k + 1) = (pad n).take k ++ [UInt8.ofNat (n / 256 ^ (7 - k))] := by
  rw [List.take_add_one, pad_at n h k hk]
  rfl

theorem byte_cell (x : Nat) : #[Value.int .u8 ((x : Int) % 256)] = ([UInt8.ofNat x].map V8).toArray := by
  simp only [List.map_cons, List.map_nil, V8, UInt8.toNat_ofNat']
  congr 3

theorem shift_eq (n k : Nat) (hk : k < 8) : (n : Int) / 2 ^ (56 - 8 * k) = ((n / 256 ^ (7 - k) : Nat) : Int) := by
  have h : (2 : Nat) ^ (56 - 8 * k) = 256 ^ (7 - k) := by
    rw [show (256 : Nat) = 2 ^ 8 from rfl, ← Nat.pow_mul]
    congr 1
    omega
  rw [← h, Int.natCast_ediv, Int.natCast_pow]
  rfl

def EightRel (n : Nat) (w : World) (o i : Value) (wx : World) : Prop :=
  ∃ k : Nat, k ≤ 8 ∧ i = .int .i64 k ∧ wx.ownsRow w.heap.size 5 1 o k (((pad n).take k).map V8) ∧ Below w.heap.size w wx

set_option maxRecDepth 100000 in
theorem eight_any (n : Nat) (hn : n < 18446744073709551616) (w : World) : Calls Tryd.prog 89 #[.int .u64 n] w (BytesPost w (pad n)) := by
  go_enter Tryd.func89, Tryd.ntmps89
  go_wp2_with fail
  go_loopw [3, 4] (fun o i wx => EightRel n w o i wx) (fun _ i _ => 8 - (intOf i).toNat)
  case atStart => exact ⟨0, by omega, rfl, World.ownsRow_nil _ _ _ _, Below.refl _ _⟩
  case round =>
    obtain ⟨k, hk, rfl, hown, hbl⟩ := hrel
    obtain ⟨A0, c0, rfl, _, _⟩ := own_form hown
    have HO := Lib.hid hown
    have HB := Lib.hid hbl
    have hbs : w.heap.size ≤ wr.heap.size := hbl.size
    clear hown hbl
    by_cases hlt : k < 8
    · have hsh : (56 - 8 * (k : Int)).toNat = 56 - 8 * k := by omega
      have z0 : 0 ≤ 56 - 8 * (k : Int) := by omega
      have z1 : 56 - 8 * (k : Int) ≤ 64 := by omega
      go_upto_region 5 with (fail)
      refine wp_region_lit ?_
      iterate 24 go_step
      rw [shift_eq n k hlt]
      have hb0 : Below w.heap.size w (wr.alloc (.cells #[.int .u8 (((n / 256 ^ (7 - k) : Nat) : Int) % 256)] 5)) := HB.out.alloc hbs _
      refine wpList_append_b rfl (.tmp 9) (.tmp 16) rfl w.heap.size _ k _ rfl (HO.out.alloc _) _ _ 1 1 [UInt8.ofNat (n / 256 ^ (7 - k))] rfl (rd_new wr 5 _ 1 rfl _ (byte_cell _)) (by omega) (by simp; omega) ?_
      intro v1 w1 hown hb1
      rw [← pad_take n hn k hlt] at hown
      have hb : Below w.heap.size w w1 := hb0.trans hb1
      have HH := Lib.hid (And.intro hown hb)
      clear hb0 hb1 hown hb HO HB hsh
      go_simp
      go_wp2_with fail
      go_roundw
      case rel => exact ⟨k + 1, by omega, by go_num, HH.out.1, HH.out.2⟩
      case measure => simp [intOf]; omega
    · obtain rfl : k = 8 := by omega
      have hl := pad_length n hn
      have hown := HO.out
      rw [List.take_of_length_le (by omega)] at hown
      obtain ⟨A1, c1, e, hc, _⟩ := own_form hown
      injection e with e1 _ e2
      subst e1 e2
      have HH := Lib.hid (Rd.of_own hown)
      clear hown hl HO
      go_wp2_with fail
      go_ret
      exact ⟨A0, 8, c0, rfl, HH.out, hc, HB.out⟩

/-- What is left behind a cut in front. -/
theorem Rd.cut {w : World} {B b o n c : Nat} {bs : List UInt8} (h : Rd w B (some ⟨b, o, none⟩) n bs) (k : Nat) (hk : k ≤ n) (hc : n ≤ c) (A' : Option Addr) (hA : k < c → A' = some ⟨b, o + k, none⟩) : Rd w B A' (n - k) (bs.drop k) := by
  rcases Nat.eq_zero_or_pos (n - k) with h0 | h0
  · rw [h0, List.drop_of_length_le (by rw [h.len]; omega)]
    exact Rd.nil
  · rw [hA (by omega)]
    have := h.part k (n - k) (by omega)
    rwa [List.take_of_length_le (by rw [List.length_drop, h.len]; omega)] at this

def lenOf : Value → Nat
  | .slice _ n _ => n
  | _ => 0
end Go.Proofs.YtolkpjbbfopmnaaDoor.Tl
namespace Go.Proofs.YtolkpjbbfopmnaaDoor.Tl
open Go.RowKit
open Tlv (Nd)

/-- The cells of a node as it is handed on. -/
def acells (kv vv : Value) (h : Int) (z : Nat) (l r : List UInt8) : List Value := kv :: vv :: .int .i64 h :: .int .u64 z :: (l.map V8 ++ r.map V8)
theorem acells_len (kv vv : Value) (h : Int) (z : Nat) (l r : List UInt8) (hl : l.length = 32) (hr : r.length = 32) : (acells kv vv h z l r).length = 68 := by
  simp [acells, hl, hr]
theorem abox {w : World} {g : Nat} {t : TypeId} {kv vv : Value} {h : Int} {z : Nat} {l r : List UInt8} (hw : Whole w g t (acells kv vv h z l r).toArray) :
    w.cell? ⟨g, 0, none⟩ = some kv ∧ w.cell? ⟨g, 1, none⟩ = some vv ∧ w.cell? ⟨g, 2, none⟩ = some (.int .i64 h) ∧ w.cell? ⟨g, 3, none⟩ = some (.int .u64 z) :=
  ⟨hw.at_ rfl, hw.at_ rfl, hw.at_ rfl, hw.at_ rfl⟩

theorem abox_l {w : World} {g : Nat} {t : TypeId} {kv vv : Value} {h : Int} {z : Nat} {l r : List UInt8} (hw : Whole w g t (acells kv vv h z l r).toArray) (hl : l.length = 32) : Rd w w.heap.size (some ⟨g, 4, none⟩) 32 l :=
  Rd.mk_ hl g 4 hw.lt fun j v hv => hw.at_ (by
    have hj := (List.getElem?_eq_some_iff.1 hv).1
    rw [List.getElem?_toArray, acells, Nat.add_comm 4 j]
    show (List.map V8 l ++ List.map V8 r)[j]? = _
    rw [List.getElem?_append_left (by rw [List.length_map]; exact hj), List.getElem?_map, hv]; rfl)
theorem abox_r {w : World} {g : Nat} {t : TypeId} {kv vv : Value} {h : Int} {z : Nat} {l r : List UInt8} (hw : Whole w g t (acells kv vv h z l r).toArray) (hl : l.length = 32) (hr : r.length = 32) : Rd w w.heap.size (some ⟨g, 36, none⟩) 32 r :=
  Rd.mk_ hr g 36 hw.lt fun j v hv => hw.at_ (by
    rw [List.getElem?_toArray, acells, show 36 + j = (32 + j) + 4 by omega]
    show (List.map V8 l ++ List.map V8 r)[32 + j]? = _
    rw [List.getElem?_append_right (by rw [List.length_map]; omega), List.length_map, hl, Nat.add_sub_cancel_left, List.getElem?_map, hv]; rfl)

theorem acells_lrange {w : World} {g : Nat} {t : TypeId} {kv vv : Value} {h : Int} {z : Nat} {l r : List UInt8} (hw : Whole w g t (acells kv vv h z l r).toArray) : w.rangeAt g 4 (l.map V8) := fun j v hv =>
  hw.at_ (by
    have hj := (List.getElem?_eq_some_iff.1 hv).1
    rw [List.getElem?_toArray, acells, show 4 + j = j + 4 by omega]
    show (l.map V8 ++ r.map V8)[j]? = some v
    rw [List.getElem?_append_left hj, hv])
theorem acells_rrange {w : World} {g : Nat} {t : TypeId} {kv vv : Value} {h : Int} {z : Nat} {l r : List UInt8} (hw : Whole w g t (acells kv vv h z l r).toArray) (hl : l.length = 32) : w.rangeAt g 36 (r.map V8) := fun j v hv =>
  hw.at_ (by
    rw [List.getElem?_toArray, acells, show 36 + j = (32 + j) + 4 by omega]
    show (l.map V8 ++ r.map V8)[32 + j]? = some v
    rw [List.getElem?_append_right (by rw [List.length_map, hl]; omega), List.length_map, hl, show 32 + j - 32 = j by omega, hv])
theorem wpList_load_w {ops : Array Oper} {rest : List Oper} {op : Oper} {a : Act} {w : World} {Q : Exit → Act → World → Prop} (hw : Region.wanted op (yielded ops a.tmps) = true) (ty : TypeId) (x : Operand) (ho : op.op = .load ty x)
    (g o : Nat) (hx : a.eval x = .pointer (some ⟨g, o, none⟩)) (cs : List Value) (d : TypeDesc) (hc : w.rangeAt g o cs)
    (hu : Tryd.prog.underlying ty = some d) (hd : d.isRow = true) (hi : (Tryd.prog.info? ty).map (·.size) = some cs.length)
    (h : wpList Tryd.prog ops Q rest (a.put op.dst (.agg cs.toArray)) w) : wpList Tryd.prog ops Q (op :: rest) a w :=
  wpList_step fun K hK => by
    rw [if_pos hw]
    exact wp_load_mid ty x ho g o hx cs d hc hu hd hi (hK _ _ h)
theorem info25 : (Tryd.prog.info? 29).map (·.size) = some 32 := by kernel_rfl
theorem info27 : (Tryd.prog.info? 47).map (·.size) = some 68 := by kernel_rfl
theorem zero25 : ∀ w, (zeroValue 29).run Tryd.prog w = .ok (.agg (zb 32)) w := (zero_of_info (P := Tryd.prog) (t := 29) (v := .agg (zb 32)) (n := 32) (by kernel_rfl)).1
def z27 : Array Value := (acells (.slice none 0 0) (.slice none 0 0) 0 0 Tlv.nought Tlv.nought).toArray
theorem zero27 : ∀ w, (zeroValue 47).run Tryd.prog w = .ok (.agg z27) w := (zero_of_info (P := Tryd.prog) (t := 47) (v := .agg z27) (n := 68) (by kernel_rfl)).1
theorem acells_one (A : Option Addr) (n c : Nat) (A2 : Option Addr) (n2 c2 : Nat) (h : Int) (z : Nat) (l r : List UInt8) : (acells (.slice A n c) (.slice A2 n2 c2) h z l r).toArray.all (·.oneCell') = true := by
  simp [acells, V8, Value.oneCell']
theorem nought_cells : bcells Tlv.nought = zb 32 := rfl

/-- A node in memory: its key and its value read. -/
structure NRd (w : World) (B : Nat) (A : Option Addr) (n c : Nat) (A' : Option Addr) (n' c' : Nat) (nd : Nd) : Prop where
  key : Rd w B A n nd.key
  knc : n ≤ c
  val : Rd w B A' n' nd.value
  vnc : n' ≤ c'
def ndc (A : Option Addr) (n c : Nat) (A' : Option Addr) (n' c' : Nat) (nd : Nd) : List Value := acells (.slice A n c) (.slice A' n' c') nd.h nd.z nd.l nd.r
theorem NRd.below {w w' : World} {B B' : Nat} {A A' : Option Addr} {n c n' c' : Nat} {nd : Nd} (h : NRd w B A n c A' n' c' nd) (hb : Below B' w w') (hB : B ≤ B') : NRd w' B A n c A' n' c' nd :=
  ⟨h.key.below hb hB, h.knc, h.val.below hb hB, h.vnc⟩
theorem NRd.more {w : World} {B B' : Nat} {A A' : Option Addr} {n c n' c' : Nat} {nd : Nd} (h : NRd w B A n c A' n' c' nd) (hB : B ≤ B') : NRd w B' A n c A' n' c' nd :=
  ⟨h.key.more hB, h.knc, h.val.more hB, h.vnc⟩
theorem ndc_len {A A' : Option Addr} {n c n' c' : Nat} {nd : Nd} (h : nd.fit) : (ndc A n c A' n' c' nd).length = 68 := acells_len _ _ _ _ _ _ h.1 h.2.1
end Go.Proofs.YtolkpjbbfopmnaaDoor.Tl
namespace Go.Proofs.YtolkpjbbfopmnaaDoor.Tl
open Go.RowKit
open Tlv (Nd)

/-- Cell g holds bytes of its own; all ahead of it is as it was. -/
def PutAt (w1 : World) (g : Nat) (bs : List UInt8) (w : World) : Prop :=
  ∃ A n c, Whole w g 31 #[.slice A n c] ∧ Rd w w.heap.size A n bs ∧ n ≤ c ∧ Fresh (g + 1) w A ∧ Below g w1 w

theorem Rd.far {w : World} {B n g : Nat} {A : Option Addr} {bs : List UInt8} (h : Rd w B A n bs) (hne : ∀ b o, A = some ⟨b, o, none⟩ → b ≠ g) (i : Nat) (u : Value) : Rd (w.setCell ⟨g, i, none⟩ u) B A n bs := by
  refine ⟨h.1, fun hn => ?_⟩
  obtain ⟨b, o, e, hb1, hc⟩ := h.2 hn
  refine ⟨b, o, e, hb1, fun j v hv => ?_⟩
  have h1 := Below.heap_setCell w ⟨g, i, none⟩ u b (hne b o e)
  have h2 := hc j v hv
  unfold World.cell? at h2 ⊢
  rw [h1]
  exact h2

set_option maxRecDepth 100000 in
theorem put1_any (w1 : World) (g : Nat) (bs vs : List UInt8) (tag : UInt8) (A2 : Option Addr) (m c2 : Nat) (w : World) (h : PutAt w1 g bs w) (hr2 : Rd w w.heap.size A2 m vs) (hm : m ≤ 65535) (hl : bs.length ≤ 1000000) :
    Calls Tryd.prog 66 #[.int .u8 tag.toNat, .slice A2 m c2, .pointer (some ⟨g, 0, none⟩)] w fun e w' => e = .returned undef ∧ PutAt w1 g (Tlv.put bs tag vs) w' := by
  obtain ⟨A, n, c, hW, hR, hnc, _, hB⟩ := h
  have hc0 := hW.at_ (i := 0) rfl
  have hgs := hW.lt
  have HP := Lib.hid (put_any A n c bs tag A2 m c2 vs w hR hr2 (by have := hR.len; omega) hm)
  have HW := Lib.hid hW
  have HB := Lib.hid hB
  clear hW hR hr2 hB hl hm
  go_enter Tryd.func66, Tryd.ntmps66
  go_wp2_with fail
  refine HP.out.mono ?_
  rintro e w2 ⟨A1, n1, c1, rfl, hr, hc1, hnew, hb⟩
  have hw2 := HW.out.below hb hgs
  have hw3 : Whole (w2.setCell ⟨g, 0, none⟩ (.slice A1 n1 c1)) g 31 #[.slice A1 n1 c1] := hw2.set 0 _
  have hs2 : g < w2.heap.size := hw2.lt
  have hne : Fresh (g + 1) (w2.setCell ⟨g, 0, none⟩ (.slice A1 n1 c1)) A1 := fun b o e => by
    have h1 := hnew b o e
    exact ⟨by omega, by rw [World.size_setCell]; exact h1.2.1, fun j => by rw [World.frozen?_setCell]; exact h1.2.2 j⟩
  have hr3 : Rd (w2.setCell ⟨g, 0, none⟩ (.slice A1 n1 c1)) (w2.setCell ⟨g, 0, none⟩ (.slice A1 n1 c1)).heap.size A1 n1 (Tlv.put bs tag vs) := by
    rw [World.size_setCell]
    exact hr.far (fun b o e => by have := hne b o e; omega) 0 _
  have hb3 : Below g w1 (w2.setCell ⟨g, 0, none⟩ (.slice A1 n1 c1)) := (HB.out.trans (hb.mono (Nat.le_of_lt hgs))).setCell (p := ⟨g, 0, none⟩) (Nat.le_refl _) _
  have HH := Lib.hid (And.intro hw3 (And.intro hr3 (And.intro hc1 (And.intro hne hb3))))
  have hd0 := hw2.at_ (i := 0) rfl
  have hf0 := hw2.free 0
  clear HP hr hc1 hnew hb hw2 hw3 hne hr3 hb3 HW HB
  go_wp2_with fail
  refine bodyPost_end (results_none rfl _ _ _) rfl ?_
  exact ⟨rfl, A1, n1, c1, HH.out⟩
end Go.Proofs.YtolkpjbbfopmnaaDoor.Tl
namespace Go.Proofs.YtolkpjbbfopmnaaDoor.Tl
open Go.RowKit
open Tlv (Nd)

theorem may_out {nd : Nd} (h : nd.h < 0 ∨ 64 < nd.h) : nd.may = false := by unfold Nd.may; rw [if_pos h]
theorem may_in {nd : Nd} (h : 0 < nd.h) (h2 : nd.h ≤ 64) : nd.may = (nd.value.length == 0) := by unfold Nd.may; rw [if_neg (by omega), if_pos h]
theorem may_leaf {nd : Nd} (h : nd.h = 0) : nd.may = (decide (nd.value.length ≤ 256) && decide (nd.z = 1) && (nd.l == Tlv.nought && nd.r == Tlv.nought)) := by unfold Nd.may; rw [if_neg (by omega), if_neg (by omega)]

set_option maxRecDepth 100000 in
set_option maxHeartbeats 1000000 in
theorem mayBe_any (A : Option Addr) (n c : Nat) (A' : Option Addr) (n' c' : Nat) (nd : Nd) (w : World) (hn : nd.value.length = n') (hf : nd.fit) :
    Calls Tryd.prog 65 #[.agg (ndc A n c A' n' c' nd).toArray] w fun e w' => e = .returned (.bool nd.may) ∧ Below w.heap.size w w' := by
  have hz25 := zero25
  have hb : Below w.heap.size w (w.alloc (.cells (ndc A n c A' n' c' nd).toArray 47)) := (Below.refl _ _).alloc (Nat.le_refl _) _
  have hw := Whole.made w 47 (ndc A n c A' n' c' nd).toArray
  obtain ⟨c0, c1, c2, c3⟩ := abox hw
  have HLR := Lib.hid (acells_lrange hw)
  have HRR := Lib.hid (acells_rrange hw hf.1)
  have HB := Lib.hid hb
  have HF := Lib.hid hf
  have il : (Tryd.prog.info? 29).map (·.size) = some (nd.l.map V8).length := by rw [List.length_map, hf.1]; exact info25
  have ir : (Tryd.prog.info? 29).map (·.size) = some (nd.r.map V8).length := by rw [List.length_map, hf.2.1]; exact info25
  have HI := Lib.hid (And.intro il ir)
  clear il ir hf hb hw
  obtain ⟨z, hz⟩ : ∃ z, nd.h = z := ⟨_, rfl⟩
  rw [hz] at c2
  obtain ⟨s, hs⟩ : ∃ s, nd.z = s := ⟨_, rfl⟩
  rw [hs] at c3
  rcases Int.lt_or_le z 0 with h0 | h0
  · rw [may_out (by omega)]
    clear hz hs
    have q1 : decide (z < 0) = true := by simp; omega
    go_enter Tryd.func65, Tryd.ntmps65
    go_upto_region 1 with (fail)
    generalize w.alloc (.cells (ndc A n c A' n' c' nd).toArray 47) = w1 at *
    go_wp2_with fail
    go_ret
    exact ⟨rfl, HB.out⟩
  rcases Int.lt_or_le 64 z with h1 | h1
  · rw [may_out (by omega)]
    clear hz hs
    have q1 : decide (z < 0) = false := by simp; omega
    have q2 : decide (64 < z) = true := by simp; omega
    go_enter Tryd.func65, Tryd.ntmps65
    go_upto_region 1 with (fail)
    generalize w.alloc (.cells (ndc A n c A' n' c' nd).toArray 47) = w1 at *
    go_wp2_with fail
    go_ret
    exact ⟨rfl, HB.out⟩
  rcases Int.lt_or_le 0 z with h2 | h2
  · rw [may_in (by omega) (by omega)]
    clear hz hs
    have q1 : decide (z < 0) = false := by simp; omega
    have q2 : decide (64 < z) = false := by simp; omega
    have q3 : decide (0 < z) = true := by simp; omega
    have q4 : (nd.value.length == 0) = ((n' : Int) == 0) := by rw [hn]; rcases n' with _ | n' <;> simp <;> omega
    rw [q4]
    clear q4
    go_enter Tryd.func65, Tryd.ntmps65
    go_upto_region 1 with (fail)
    generalize w.alloc (.cells (ndc A n c A' n' c' nd).toArray 47) = w1 at *
    go_wp2_with fail
    go_ret
    exact ⟨rfl, HB.out⟩
  obtain rfl : z = 0 := by omega
  rw [may_leaf hz, hn, hs]
  clear hz hs h0 h1 h2
  have e1 := run_eq29 nd.l Tlv.nought HF.out.1 Tlv.nought_len
  have e2 := run_eq29 nd.r Tlv.nought HF.out.2.1 Tlv.nought_len
  rw [nought_cells] at e1 e2
  change ∀ w, Sem.run Tryd.prog (Op.equalIn 10000 29 (Value.agg (nd.l.map V8).toArray) (Value.agg (zb 32))) w = _ at e1
  change ∀ w, Sem.run Tryd.prog (Op.equalIn 10000 29 (Value.agg (nd.r.map V8).toArray) (Value.agg (zb 32))) w = _ at e2
  obtain ⟨bl, hbl⟩ : ∃ b, (nd.l == Tlv.nought) = b := ⟨_, rfl⟩
  obtain ⟨br, hbr⟩ : ∃ b, (nd.r == Tlv.nought) = b := ⟨_, rfl⟩
  rw [hbl] at e1 ⊢
  rw [hbr] at e2 ⊢
  generalize nd.l.map V8 = L at *
  generalize nd.r.map V8 = R at *
  clear hbl hbr HF
  have q3 : decide ((n' : Int) ≤ 256) = decide (n' ≤ 256) := by rw [Bool.eq_iff_iff, decide_eq_true_iff, decide_eq_true_iff]; omega
  have q4 : ((s : Int) == 1) = decide (s = 1) := by rw [Bool.eq_iff_iff, beq_iff_eq, decide_eq_true_iff]; omega
  obtain ⟨d1, hd1⟩ : ∃ b, decide (n' ≤ 256) = b := ⟨_, rfl⟩
  obtain ⟨d2, hd2⟩ : ∃ b, decide (s = 1) = b := ⟨_, rfl⟩
  rw [hd1] at q3 ⊢
  rw [hd2] at q4 ⊢
  clear hd1 hd2
  go_enter Tryd.func65, Tryd.ntmps65
  go_upto_region 1 with (fail)
  generalize w.alloc (.cells (ndc A n c A' n' c' nd).toArray 47) = w1 at *
  go_upto_region 5 with (fail)
  refine wp_region_lit ?_
  iterate 3 go_step
  refine wpList_load_w rfl 29 (.tmp 19) rfl w.heap.size 4 rfl _ _ HLR.out Tryd.underlying29 rfl HI.out.1 ?_
  rcases bl with _ | _
  · rcases d1 with _ | _ <;> rcases d2 with _ | _
    all_goals
      go_wp2_with fail
      go_ret
      exact ⟨rfl, HB.out⟩
  · iterate 11 go_step
    refine wpList_load_w rfl 29 (.tmp 24) rfl w.heap.size 36 rfl _ _ HRR.out Tryd.underlying29 rfl HI.out.2 ?_
    rcases d1 with _ | _ <;> rcases d2 with _ | _ <;> rcases br with _ | _
    all_goals
      go_wp2_with fail
      go_ret
      exact ⟨rfl, HB.out⟩
end Go.Proofs.YtolkpjbbfopmnaaDoor.Tl
namespace Go.Proofs.YtolkpjbbfopmnaaDoor.Tl
open Go.RowKit
open Tlv (Nd)

def EncPost (w : World) (r : Nat × List UInt8) (e : Ending) (w' : World) : Prop :=
  ∃ A n c, e = .returned (.tuple #[.slice A n c, .int .i64 r.1]) ∧ Rd w' w'.heap.size A n r.2 ∧ n ≤ c ∧ Below w.heap.size w w'
/-- As EncPost; the bytes lie in a new block. -/
def EncNew (w : World) (r : Nat × List UInt8) (e : Ending) (w' : World) : Prop :=
  ∃ A n c, e = .returned (.tuple #[.slice A n c, .int .i64 r.1]) ∧ Rd w' w'.heap.size A n r.2 ∧ n ≤ c ∧ Fresh w.heap.size w' A ∧ Below w.heap.size w w'
theorem enc_key {nd : Nd} (h : nd.key.length < 1 ∨ 96 < nd.key.length) : Tlv.enc nd = (10, []) := by unfold Tlv.enc; rw [if_pos h]
theorem enc_node {nd : Nd} (h : ¬ (nd.key.length < 1 ∨ 96 < nd.key.length)) (h2 : nd.may = false) : Tlv.enc nd = (12, []) := by unfold Tlv.enc; rw [if_neg h, if_pos h2]
theorem enc_good {nd : Nd} (h : ¬ (nd.key.length < 1 ∨ 96 < nd.key.length)) (h2 : nd.may = true) : Tlv.enc nd = (0, nd.bytes) := by unfold Tlv.enc; rw [if_neg h, if_neg (by rw [h2]; simp)]
theorem may_bounds {nd : Nd} (h : nd.may = true) : 0 ≤ nd.h ∧ nd.h ≤ 64 ∧ nd.value.length ≤ 256 := by
  unfold Nd.may at h
  split at h
  · simp at h
  · split at h
    · simp at h
      rw [h]; simp; omega
    · simp at h
      omega
theorem put_len {b v : List UInt8} {t : UInt8} {n k m : Nat} (hb : b.length ≤ n) (hv : v.length ≤ m) (hk : n + m + 3 = k) : (Tlv.put b t v).length ≤ k := by
  have := Tlv.put_length b t v
  omega

set_option maxRecDepth 100000 in
set_option maxHeartbeats 1000000 in
theorem encode_new (A : Option Addr) (n c : Nat) (A' : Option Addr) (n' c' : Nat) (nd : Nd) (w : World) (hr : NRd w w.heap.size A n c A' n' c' nd) (hf : nd.fit) :
    Calls Tryd.prog 47 #[.agg (ndc A n c A' n' c' nd).toArray] w (EncNew w (Tlv.enc nd)) := by
  have hmf : ∀ (fn : Fn) (first cap : Array Value) (w : World), (Instr.makeFunc fn first cap).run Tryd.prog w = .ok (.func fn first cap) w := fun _ _ _ _ => rfl
  have hb : Below w.heap.size w (w.alloc (.cells (ndc A n c A' n' c' nd).toArray 47)) := (Below.refl _ _).alloc (Nat.le_refl _) _
  have hw := Whole.made w 47 (ndc A n c A' n' c' nd).toArray
  have hs0 : (w.alloc (.cells (ndc A n c A' n' c' nd).toArray 47)).heap.size = w.heap.size + 1 := size_alloc _ _
  obtain ⟨c0, c1, c2, c3⟩ := abox hw
  have HKL := Lib.hid hr.key.len
  have HVL := Lib.hid hr.val.len
  have HR := Lib.hid (hr.below hb (Nat.le_refl _))
  have HRL := Lib.hid (abox_l hw hf.1)
  have HRR := Lib.hid (abox_r hw hf.1 hf.2.1)
  have HF := Lib.hid hf
  have HB := Lib.hid hb
  have HMAY := Lib.hid (mayBe_any A n c A' n' c' nd (w.alloc (.cells (ndc A n c A' n' c' nd).toArray 47)) hr.val.len hf)
  have HI : Hid ((Tryd.prog.info? 47).map (·.size) = some (ndc A n c A' n' c' nd).toArray.size) := Lib.hid (by rw [List.size_toArray, ndc_len hf]; exact info27)
  have HW := Lib.hid hw
  clear hr hb hw hf
  obtain ⟨g0, hg0⟩ : ∃ g, w.heap.size = g := ⟨_, rfl⟩
  rw [hg0] at HR HRL HRR HB HW c0 c1 c2 c3 hs0
  have HG := Lib.hid hg0
  generalize hX : (ndc A n c A' n' c' nd).toArray = X at *
  have HX := Lib.hid hX
  clear hX
  by_cases hkey : nd.key.length < 1 ∨ 96 < nd.key.length
  · rw [enc_key hkey]
    rw [HKL.out] at hkey
    have hb1 : Hid (EncNew w (10, []) (.returned (.tuple #[.slice none 0 0, .int .i64 10])) (w.alloc (.cells X 47))) := Lib.hid ⟨none, 0, 0, rfl, Rd.nil, Nat.le_refl _, fun _ _ e => (by cases e), by rw [HG.out]; exact HB.out⟩
    rcases Nat.lt_or_ge n 1 with hn1 | hn1
    · have q1 : decide ((n : Int) < 1) = true := by simp; omega
      clear hkey hn1
      go_enter Tryd.func47, Tryd.ntmps47
      go_upto_region 1 with (fail)
      clear hg0
      generalize w.alloc (.cells X 47) = w1 at *
      go_wp2_with fail
      go_ret2
      exact hb1.out
    · have q1 : decide ((n : Int) < 1) = false := by simp; omega
      have q2 : decide (96 < (n : Int)) = true := by simp; omega
      clear hkey hn1
      go_enter Tryd.func47, Tryd.ntmps47
      go_upto_region 1 with (fail)
      clear hg0
      generalize w.alloc (.cells X 47) = w1 at *
      go_wp2_with fail
      go_ret2
      exact hb1.out
  have q1 : decide ((n : Int) < 1) = false := by have := HKL.out; simp; omega
  have q2 : decide (96 < (n : Int)) = false := by have := HKL.out; simp; omega
  have hn96 : n ≤ 96 := by have := HKL.out; omega
  have HQ := Lib.hid hkey
  clear hkey
  go_enter Tryd.func47, Tryd.ntmps47
  go_upto_region 1 with (fail)
  clear hg0
  generalize w.alloc (.cells X 47) = w1 at *
  go_upto_region 3 with (fail)
  refine wp_region_lit ?_
  refine wpList_load_g rfl 47 (.tmp 1) rfl g0 rfl 47 X _ HW.out Tryd.underlying47 rfl HI.out ?_
  go_wp2_with fail
  refine HMAY.out.mono ?_
  rintro e w2 ⟨rfl, hbm⟩
  cases hm : nd.may with
  | false =>
    have hb2 : Hid (EncNew w (Tlv.enc nd) (.returned (.tuple #[.slice none 0 0, .int .i64 12])) w2) := Lib.hid (by rw [enc_node HQ.out hm]; exact ⟨none, 0, 0, rfl, Rd.nil, Nat.le_refl _, fun _ _ e => (by cases e), by rw [HG.out]; exact HB.out.trans (hbm.mono (by omega))⟩)
    clear hbm hm
    go_wp2_with fail
    go_ret2
    exact hb2.out
  | true =>
    have HENC := Lib.hid (enc_good HQ.out hm)
    obtain ⟨hh0, hh1, hvl⟩ := may_bounds hm
    have hs1 : g0 + 1 ≤ w2.heap.size := by rw [← hs0]; exact hbm.size
    have hbA : Below w2.heap.size w2 (w2.alloc (.cells #[.slice none 0 0] 31)) := (Below.refl _ _).alloc (Nat.le_refl _) _
    have hbB : Below w1.heap.size w1 (w2.alloc (.cells #[.slice none 0 0] 31)) := hbm.trans (hbA.mono hbm.size)
    have hbC : Below g0 w (w2.alloc (.cells #[.slice none 0 0] 31)) := HB.out.trans (hbB.mono (by omega))
    have hc := Whole.made w2 31 #[.slice none 0 0]
    have hp0 : PutAt (w2.alloc (.cells #[.slice none 0 0] 31)) w2.heap.size [] (w2.alloc (.cells #[.slice none 0 0] 31)) := ⟨none, 0, 0, hc, Rd.nil, Nat.le_refl _, fun b o e => by simp at e, Below.refl _ _⟩
    have hR := (HR.out.below (hbB.mono (by omega)) (Nat.le_refl _)).more (B' := w2.heap.size) (by omega)
    have hRL := (HRL.out.below hbB (Nat.le_refl _)).more (B' := w2.heap.size) (by omega)
    have hRR := (HRR.out.below hbB (Nat.le_refl _)).more (B' := w2.heap.size) (by omega)
    have hX3 := HW.out.below hbB (by omega)
    go_upto_region 6 with (fail)
    generalize w2.alloc (.cells #[.slice none 0 0] 31) = w3 at *
    obtain ⟨g, hg⟩ : ∃ g, w2.heap.size = g := ⟨_, rfl⟩
    rw [hg] at hp0 hR hRL hRR hs1 ⊢
    have hvl' : n' ≤ 256 := by have := HVL.out; omega
    have hz : nd.z < 18446744073709551616 := HF.out.2.2
    have HP0 := Lib.hid hp0
    have HR3 := Lib.hid hR
    have HRL3 := Lib.hid hRL
    have HRR3 := Lib.hid hRR
    rw [← HX.out] at hX3
    obtain ⟨c0, c1, c2, c3⟩ := abox hX3
    have HC := Lib.hid (And.intro c0 (And.intro c1 (And.intro c2 c3)))
    have HBC := Lib.hid hbC
    obtain ⟨H, hH⟩ : ∃ H : Nat, nd.h = H := ⟨nd.h.toNat, by omega⟩
    have hH64 : H ≤ 64 := by omega
    have hgg : g0 < g := by omega
    obtain ⟨z, hz'⟩ : ∃ z, nd.z = z := ⟨_, rfl⟩
    have HHZ := Lib.hid (And.intro hH hz')
    have hzb : z < 18446744073709551616 := by rw [← hz']; exact hz
    have HL0 : Hid (([] : List UInt8).length ≤ 0) := Lib.hid (Nat.le_refl _)
    clear hbm hbA hbB hbC hc hp0 hR hRL hRR hX3 HMAY HR HRL HRR HW HB HI HX hg hs0 hs1 c0 c1 c2 c3 hm hh0 hh1 hvl hH hz hz' HF
    have hB0 := HP0.out
    obtain ⟨_, _, _, hWg, _, _, _, hB0⟩ := hB0
    have hgw0 := hWg.lt
    have HBB := Lib.hid hB0
    clear hWg hB0
    have k0 := (HBB.out.cell (p := ⟨g0, 0, none⟩) (by show g0 < _; omega)).trans HC.out.1
    have HPUT := Lib.hid (put1_any w3 g ([] : List UInt8) nd.key 1 A n c w3 HP0.out ((HR3.out.key.below HBB.out (Nat.le_refl _)).more (by omega)) (by omega) (by have := HL0.out; omega))
    clear hgw0
    go_wp2_with fail
    refine HPUT.out.mono ?_
    rintro e w4 ⟨rfl, hp⟩
    have HP1 := Lib.hid hp
    clear hp HPUT k0 HP0 HBB
    have HL1 : Hid ((Tlv.put ([] : List UInt8) 1 nd.key).length ≤ 99) := Lib.hid (put_len (m := 96) HL0.out (by first | (have := HKL.out; omega) | (have := HVL.out; omega)) rfl)
    clear HL0
    have hB1 := HP1.out
    obtain ⟨_, _, _, hWg, _, _, _, hB1⟩ := hB1
    have hgw1 := hWg.lt
    have HBB := Lib.hid hB1
    clear hWg hB1
    have k1 := (HBB.out.cell (p := ⟨g0, 1, none⟩) (by show g0 < _; omega)).trans HC.out.2.1
    have HPUT := Lib.hid (put1_any w3 g (Tlv.put ([] : List UInt8) 1 nd.key) nd.value 2 A' n' c' w4 HP1.out ((HR3.out.val.below HBB.out (Nat.le_refl _)).more (by omega)) (by omega) (by have := HL1.out; omega))
    clear hgw1
    go_wp2_with fail
    refine HPUT.out.mono ?_
    rintro e w5 ⟨rfl, hp⟩
    have HP2 := Lib.hid hp
    clear hp HPUT k1 HP1 HBB
    have HL2 : Hid ((Tlv.put (Tlv.put ([] : List UInt8) 1 nd.key) 2 nd.value).length ≤ 358) := Lib.hid (put_len (m := 256) HL1.out (by first | (have := HKL.out; omega) | (have := HVL.out; omega)) rfl)
    clear HL1
    have hB2 := HP2.out
    obtain ⟨_, _, _, hWg, _, _, _, hB2⟩ := hB2
    have hgw2 := hWg.lt
    have HBB := Lib.hid hB2
    clear hWg hB2
    have k2 := (HBB.out.cell (p := ⟨g0, 2, none⟩) (by show g0 < _; omega)).trans HC.out.2.2.1
    rw [HHZ.out.1] at k2
    have hwrap : IntKind.u64.wrap (H : Int) = (H : Int) := Int.emod_eq_of_lt (by omega) (by show (H : Int) < 18446744073709551616; omega)
    have HNUM := Lib.hid (num_any H (by omega) w5)
    go_wp2_with fail
    refine HNUM.out.mono ?_
    rintro e w6n ⟨An, nn, cn, rfl, hrn, hcn, hbn⟩
    have hpn : PutAt w3 g (Tlv.put (Tlv.put ([] : List UInt8) 1 nd.key) 2 nd.value) w6n := by
      obtain ⟨Ag, ng, cg, hWg, hRg, hcg, hng, hBg⟩ := HP2.out
      exact ⟨Ag, ng, cg, hWg.below hbn hgw2, (hRg.below hbn (Nat.le_refl _)).more hbn.size, hcg, hng.below hbn (Nat.le_refl _), hBg.trans (hbn.mono (by omega))⟩
    have hnn : nn ≤ 8 := by rw [← hrn.len]; exact Tlv.num_len8 H (by omega)
    have HPUT := Lib.hid (put1_any w3 g (Tlv.put (Tlv.put ([] : List UInt8) 1 nd.key) 2 nd.value) (Tlv.num H) 3 An nn cn w6n hpn hrn (by omega) (by have := HL2.out; omega))
    clear HNUM hrn hcn hbn hpn hnn hwrap k2 hgw2 HP2 HBB
    go_wp2_with fail
    refine HPUT.out.mono ?_
    rintro e w6 ⟨rfl, hp⟩
    have HP3 := Lib.hid hp
    clear hp HPUT
    have HL3 : Hid ((Tlv.put (Tlv.put (Tlv.put ([] : List UInt8) 1 nd.key) 2 nd.value) 3 (Tlv.num H)).length ≤ 369) := Lib.hid (put_len (m := 8) HL2.out (Tlv.num_len8 H (by omega)) rfl)
    clear HL2
    have hB3 := HP3.out
    obtain ⟨_, _, _, hWg, _, _, _, hB3⟩ := hB3
    have HBB := Lib.hid hB3
    clear hWg hB3
    have HBY : Hid (Nd.bytes nd = if 0 < H then Nd.whole nd else Nd.mid nd) := Lib.hid (by unfold Nd.bytes; rw [HHZ.out.1]; simp)
    rcases Nat.eq_zero_or_pos H with hH0 | hH0
    · subst hH0
      have k2 := (HBB.out.cell (p := ⟨g0, 2, none⟩) (by show g0 < _; omega)).trans HC.out.2.2.1
      rw [HHZ.out.1] at k2
      have hcell := HP3.out
      obtain ⟨A3, n3, c3, hW3, hR3, hnc3, hnw3, hB3⟩ := hcell
      have kg := hW3.at_ (i := 0) rfl
      have HFIN : Hid (EncNew w (Tlv.enc nd) (.returned (.tuple #[.slice A3 n3 c3, .int .i64 0])) w6) := Lib.hid (by rw [HENC.out, HBY.out, if_neg (by omega)]; exact ⟨A3, n3, c3, rfl, by unfold Nd.mid Nd.front; rw [HHZ.out.1]; exact hR3, hnc3, fun b o e => by (have h1 := hnw3 b o e; have h2 := HG.out; exact ⟨by omega, h1.2⟩), by rw [HG.out]; exact HBC.out.trans (hB3.mono (by omega))⟩)
      clear hW3 hR3 hB3 hnw3
      go_wp2_with fail
      go_ret2
      exact HFIN.out
    have q3 : decide (0 < (H : Int)) = true := by simp; omega
    have k2 := (HBB.out.cell (p := ⟨g0, 2, none⟩) (by show g0 < _; omega)).trans HC.out.2.2.1
    rw [HHZ.out.1] at k2
    have hB3 := HP3.out
    obtain ⟨_, _, _, hWg, _, _, _, hB3⟩ := hB3
    have hgw3 := hWg.lt
    have HBB := Lib.hid hB3
    clear hWg hB3
    have k3 := (HBB.out.cell (p := ⟨g0, 3, none⟩) (by show g0 < _; omega)).trans HC.out.2.2.2
    rw [HHZ.out.2] at k3
    have HNUM := Lib.hid (num_any z (by omega) w6)
    go_wp2_with fail
    refine HNUM.out.mono ?_
    rintro e w7n ⟨An, nn, cn, rfl, hrn, hcn, hbn⟩
    have hpn : PutAt w3 g (Tlv.put (Tlv.put (Tlv.put ([] : List UInt8) 1 nd.key) 2 nd.value) 3 (Tlv.num H)) w7n := by
      obtain ⟨Ag, ng, cg, hWg, hRg, hcg, hng, hBg⟩ := HP3.out
      exact ⟨Ag, ng, cg, hWg.below hbn hgw3, (hRg.below hbn (Nat.le_refl _)).more hbn.size, hcg, hng.below hbn (Nat.le_refl _), hBg.trans (hbn.mono (by omega))⟩
    have hnn : nn ≤ 8 := by rw [← hrn.len]; exact Tlv.num_len8 z (by omega)
    have HPUT := Lib.hid (put1_any w3 g (Tlv.put (Tlv.put (Tlv.put ([] : List UInt8) 1 nd.key) 2 nd.value) 3 (Tlv.num H)) (Tlv.num z) 4 An nn cn w7n hpn hrn (by omega) (by have := HL3.out; omega))
    clear HNUM hrn hcn hbn hpn hnn  k3 hgw3 HP3 HBB
    go_wp2_with fail
    refine HPUT.out.mono ?_
    rintro e w7 ⟨rfl, hp⟩
    have HP4 := Lib.hid hp
    clear hp HPUT
    have HL4 : Hid ((Tlv.put (Tlv.put (Tlv.put (Tlv.put ([] : List UInt8) 1 nd.key) 2 nd.value) 3 (Tlv.num H)) 4 (Tlv.num z)).length ≤ 380) := Lib.hid (put_len (m := 8) HL3.out (Tlv.num_len8 z (by omega)) rfl)
    clear HL3
    have hB4 := HP4.out
    obtain ⟨_, _, _, hWg, _, _, _, hB4⟩ := hB4
    have hgw4 := hWg.lt
    have HBB := Lib.hid hB4
    clear hWg hB4
    have HPUT := Lib.hid (put1_any w3 g (Tlv.put (Tlv.put (Tlv.put (Tlv.put ([] : List UInt8) 1 nd.key) 2 nd.value) 3 (Tlv.num H)) 4 (Tlv.num z)) nd.l 5 (some ⟨g0, 4, none⟩) 32 32 w7 HP4.out ((HRL3.out.below HBB.out (Nat.le_refl _)).more (by omega)) (by omega) (by have := HL4.out; omega))
    have h32 : nd.l.length = 32 := HRL3.out.len
    have HL5 : Hid ((Tlv.put (Tlv.put (Tlv.put (Tlv.put (Tlv.put ([] : List UInt8) 1 nd.key) 2 nd.value) 3 (Tlv.num H)) 4 (Tlv.num z)) 5 nd.l).length ≤ 415) := Lib.hid (put_len (m := 32) HL4.out (Nat.le_of_eq h32) rfl)
    clear hgw4 h32 HL4
    go_wp2_with fail
    refine HPUT.out.mono ?_
    rintro e w8 ⟨rfl, hp⟩
    have HP5 := Lib.hid hp
    clear hp HPUT HP4 HBB
    have hB5 := HP5.out
    obtain ⟨_, _, _, hWg, _, _, _, hB5⟩ := hB5
    have hgw5 := hWg.lt
    have HBB := Lib.hid hB5
    clear hWg hB5
    have HPUT := Lib.hid (put1_any w3 g (Tlv.put (Tlv.put (Tlv.put (Tlv.put (Tlv.put ([] : List UInt8) 1 nd.key) 2 nd.value) 3 (Tlv.num H)) 4 (Tlv.num z)) 5 nd.l) nd.r 6 (some ⟨g0, 36, none⟩) 32 32 w8 HP5.out ((HRR3.out.below HBB.out (Nat.le_refl _)).more (by omega)) (by omega) (by have := HL5.out; omega))
    have h32 : nd.r.length = 32 := HRR3.out.len
    have HL6 : Hid ((Tlv.put (Tlv.put (Tlv.put (Tlv.put (Tlv.put (Tlv.put ([] : List UInt8) 1 nd.key) 2 nd.value) 3 (Tlv.num H)) 4 (Tlv.num z)) 5 nd.l) 6 nd.r).length ≤ 450) := Lib.hid (put_len (m := 32) HL5.out (Nat.le_of_eq h32) rfl)
    clear hgw5 h32 HL5
    go_wp2_with fail
    refine HPUT.out.mono ?_
    rintro e w9 ⟨rfl, hp⟩
    have HP6 := Lib.hid hp
    clear hp HPUT HP5 HBB
    have hcell := HP6.out
    obtain ⟨A6, n6, c6, hW6, hR6, hnc6, hnw6, hB6⟩ := hcell
    have kg := hW6.at_ (i := 0) rfl
    have HFIN : Hid (EncNew w (Tlv.enc nd) (.returned (.tuple #[.slice A6 n6 c6, .int .i64 0])) w9) := Lib.hid (by rw [HENC.out, HBY.out, if_pos hH0]; exact ⟨A6, n6, c6, rfl, by unfold Nd.whole Nd.mid Nd.front; rw [HHZ.out.1, HHZ.out.2]; exact hR6, hnc6, fun b o e => by (have h1 := hnw6 b o e; have h2 := HG.out; exact ⟨by omega, h1.2⟩), by rw [HG.out]; exact HBC.out.trans (hB6.mono (by omega))⟩)
    clear hW6 hR6 hB6 hnw6
    go_wp2_with fail
    go_ret2
    exact HFIN.out
theorem encode_any (A : Option Addr) (n c : Nat) (A' : Option Addr) (n' c' : Nat) (nd : Nd) (w : World) (hr : NRd w w.heap.size A n c A' n' c' nd) (hf : nd.fit) :
    Calls Tryd.prog 47 #[.agg (ndc A n c A' n' c' nd).toArray] w (EncPost w (Tlv.enc nd)) :=
  (encode_new A n c A' n' c' nd w hr hf).mono fun _ _ ⟨A1, n1, c1, h1, h2, h3, _, h5⟩ => ⟨A1, n1, c1, h1, h2, h3, h5⟩
end Go.Proofs.YtolkpjbbfopmnaaDoor.Tl
namespace Go.Proofs.YtolkpjbbfopmnaaDoor.Tl
open Tlv (Nd)

theorem okb_num (n : Nat) (h : n < 18446744073709551616) : Tlv.okb (Tlv.num n) = true := (Tlv.okb_iff _).2 ⟨Tlv.num_len8 n h, Tlv.num_head n⟩
theorem num_some (n : Nat) (h : n ≠ 0) : Tlv.num n ≠ [] := fun e => h ((Tlv.num_nil n).1 (by rw [e]; rfl))
theorem leaf_bytes {nd : Nd} (hh : nd.h = 0) : nd.bytes = nd.front := by
  unfold Nd.bytes
  rw [if_neg (by omega)]
  unfold Nd.mid
  rw [hh, show (0 : Int).toNat = 0 from rfl, Tlv.num_zero, Tlv.put_nil]
theorem say1 (n : Nd) (v : List UInt8) : Tlv.say n 1 v = (0, { n with key := v }) := rfl
theorem say2 (n : Nd) (v : List UInt8) : Tlv.say n 2 v = (0, { n with value := v }) := rfl
theorem say3 (n : Nd) (x : Nat) (hx : x ≤ 64) : Tlv.say n 3 (Tlv.num x) = (0, { n with h := (x : Int) }) := by
  unfold Tlv.say
  rw [if_neg (by decide), if_neg (by decide), if_pos rfl, if_pos (okb_num x (by omega)), Tlv.val_num, Nat.min_eq_left (by omega)]
theorem say4 (n : Nd) (x : Nat) (hx : x < 18446744073709551616) : Tlv.say n 4 (Tlv.num x) = (0, { n with z := x }) := by
  unfold Tlv.say
  rw [if_neg (by decide), if_neg (by decide), if_neg (by decide), if_pos rfl, if_pos (okb_num x hx), Tlv.val_num]
theorem say5 (n : Nd) (v : List UInt8) (hv : v.length = 32) : Tlv.say n 5 v = (0, { n with l := v }) := by
  unfold Tlv.say
  rw [if_neg (by decide), if_neg (by decide), if_neg (by decide), if_neg (by decide), if_pos rfl, if_pos hv]
theorem say6 (n : Nd) (v : List UInt8) (hv : v.length = 32) : Tlv.say n 6 v = (0, { n with r := v }) := by
  unfold Tlv.say
  rw [if_neg (by decide), if_neg (by decide), if_neg (by decide), if_neg (by decide), if_neg (by decide), if_pos rfl, if_pos hv]
theorem dec_of {nd : Nd} {fs : List (UInt8 × List UInt8)} (hb : nd.bytes = Tlv.body fs) (hf : Tlv.fine [] fs) (hs : Tlv.says Nd.one fs = (0, nd)) (he : Tlv.enc nd = (0, nd.bytes)) : Tlv.dec nd.bytes = (0, nd) := by
  have hp : Tlv.parse nd.bytes = (0, fs) := by rw [hb]; exact Tlv.parse_body fs hf
  unfold Tlv.dec
  rw [hp]
  simp only [hs, if_true]
  unfold Tlv.judge
  rw [he, if_pos rfl, if_pos rfl]
theorem dec_back {nd : Nd} (hk : 1 ≤ nd.key.length ∧ nd.key.length ≤ 96) (hm : nd.may = true) (hf : nd.fit) (hz : nd.z ≠ 0) : Tlv.dec nd.bytes = (0, nd) := by
  have he := enc_good (nd := nd) (by omega) hm
  obtain ⟨h0, h64, hv⟩ := may_bounds hm
  obtain ⟨key, value, h, z, l, r⟩ := nd
  obtain ⟨hl, hr, hzb⟩ := hf
  simp only at hk h0 h64 hv hl hr hzb hz
  have hkn : key ≠ [] := fun e => by rw [e] at hk; simp at hk
  have hb1 : Tlv.put [] 1 key = Tlv.body [(1, key)] := Tlv.put_body [] 1 key hkn
  rcases Int.lt_or_le 0 h with hp | hp
  · obtain ⟨H, rfl⟩ : ∃ H : Nat, h = H := ⟨h.toNat, by omega⟩
    have hvn : value = [] := by
      have := may_in (nd := ⟨key, value, H, z, l, r⟩) hp h64
      rw [hm] at this
      simp at this
      exact this
    subst hvn
    have hnh := num_some H (by omega)
    have hnz := num_some z hz
    have hln : l ≠ [] := fun e => by rw [e] at hl; simp at hl
    have hrn : r ≠ [] := fun e => by rw [e] at hr; simp at hr
    refine dec_of (fs := [(1, key), (3, Tlv.num H), (4, Tlv.num z), (5, l), (6, r)]) ?_ ?_ ?_ he
    · unfold Nd.bytes
      rw [if_pos hp]
      unfold Nd.whole Nd.mid Nd.front
      simp only [Int.toNat_natCast, Tlv.put_nil]
      rw [hb1, Tlv.put_body _ _ _ hnh, Tlv.put_body _ _ _ hnz, Tlv.put_body _ _ _ hln, Tlv.put_body _ _ _ hrn]
      rfl
    · have l3 := Tlv.num_len8 H (by omega)
      have l4 := Tlv.num_len8 z hzb
      simp [Tlv.fine, Tlv.rises, hkn, hnh, hnz, hln, hrn, hl, hr]
      omega
    · have s1 := say1 Nd.one key
      rw [Tlv.says_go (by rw [s1]), s1, Tlv.says_go (by rw [say3 _ H (by omega)]), say3 _ H (by omega), Tlv.says_go (by rw [say4 _ z hzb]), say4 _ z hzb, Tlv.says_go (by rw [say5 _ l hl]), say5 _ l hl, Tlv.says_go (by rw [say6 _ r hr]), say6 _ r hr]
      rfl
  · obtain rfl : h = 0 := by omega
    have hleaf := may_leaf (nd := ⟨key, value, 0, z, l, r⟩) rfl
    rw [hm] at hleaf
    simp at hleaf
    obtain ⟨⟨-, hz1⟩, hl1, hr1⟩ := hleaf
    subst hz1 hl1 hr1
    by_cases hvn : value = []
    · subst hvn
      refine dec_of (fs := [(1, key)]) ?_ ?_ ?_ he
      · rw [leaf_bytes rfl]; unfold Nd.front; simp only [Tlv.put_nil]; exact hb1
      · simp [Tlv.fine, Tlv.rises, hkn]; omega
      · rw [Tlv.says_go (by rw [say1]), say1]; rfl
    · refine dec_of (fs := [(1, key), (2, value)]) ?_ ?_ ?_ he
      · rw [leaf_bytes rfl]; unfold Nd.front; rw [hb1, Tlv.put_body _ _ _ hvn]; rfl
      · simp [Tlv.fine, Tlv.rises, hkn, hvn]; omega
      · rw [Tlv.says_go (by rw [say1]), say1, Tlv.says_go (by rw [say2]), say2]; rfl
end Go.Proofs.YtolkpjbbfopmnaaDoor.Tl
namespace Go.Proofs.YtolkpjbbfopmnaaDoor.Tl
open Go.RowKit
open Tlv (Nd)

def SumPost (w : World) (v : List UInt8) (e : Ending) (w' : World) : Prop :=
  (v.length = 32 → e = .returned (.tuple #[.agg (bcells v), .int .i64 0])) ∧ (v.length ≠ 32 → e = .returned (.tuple #[.agg (zb 32), .int .i64 7])) ∧ Below w.heap.size w w'
set_option maxRecDepth 100000 in
theorem sum_any (A : Option Addr) (n c : Nat) (v : List UInt8) (w : World) (hr : Rd w w.heap.size A n v) (hnc : n ≤ c) : Calls Tryd.prog 72 #[.slice A n c] w (SumPost w v) := by
  have hz25 := zero25
  have hl := hr.len
  have hb : Below w.heap.size w (w.alloc (.cells (zb 32) 29)) := (Below.refl _ _).alloc (Nat.le_refl _) _
  by_cases h32 : n = 32
  · subst h32
    obtain ⟨b, o, rfl, hbb, hc⟩ := hr.2 (by omega)
    have hrange : (w.alloc (.cells (zb 32) 29)).rangeAt b o (v.map V8) := fun j u hu => by
      rw [hb.cell (p := ⟨b, o + j, none⟩) hbb]; exact hc j u hu
    have HR := Lib.hid hrange
    have HB := Lib.hid hb
    have HL := Lib.hid hl
    have hat : ∀ w, (Instr.arrayAt 29 (.slice (some ⟨b, o, none⟩) 32 c)).run Tryd.prog w = .ok (.pointer (some ⟨b, o, none⟩)) w := fun w => by simp [Instr.arrayAt, run_underlying Tryd.underlying29]
    have hw := Whole.made w 29 (zb 32)
    have HW := Lib.hid hw
    have hlt : w.heap.size < (w.alloc (.cells (zb 32) 29)).heap.size := by simp
    clear hr hrange hb hl hc hw
    go_enter Tryd.func72, Tryd.ntmps72
    go_upto_region 3 with (fail)
    refine wp_region_lit ?_
    iterate 6 go_step
    refine wpList_load_mid rfl 29 (.tmp 9) rfl b o rfl _ _ HR.out Tryd.underlying29 rfl (by rw [List.length_map, HL.out]; exact info25) ?_
    refine wpList_store_mid rfl 29 (.tmp 2) (.tmp 10) rfl w.heap.size 0 (bcells v) rfl rfl ?_ ?_ (bcells_one v) ?_
    · rw [bcells_size, HL.out]; have := HW.out.there_; rw [zb_size] at this; exact this
    · rw [bcells_size, HL.out]; exact info25
    have hw2 := HW.out.setAll (vs := bcells v) (by rw [zb_size, bcells_size, HL.out])
    have hb2 : Below w.heap.size w ((w.alloc (.cells (zb 32) 29)).setCells w.heap.size 0 (bcells v).toList) := below_setCells w w.heap.size _ 0 HB.out (Nat.le_refl _)
    generalize (w.alloc (.cells (zb 32) 29)).setCells w.heap.size 0 (bcells v).toList = w2 at *
    have HH := Lib.hid (And.intro hw2 hb2)
    clear hw2 hb2 HB HW HR hlt
    go_wp2_with fail
    refine bodyPost_end (results_cell2 rfl _ _ _ _ _ rfl (load_whole HH.out.1 29 _ Tryd.underlying29 rfl (by rw [bcells_size, HL.out]; exact info25))) rfl ?_
    exact ⟨fun _ => rfl, fun h => absurd HL.out h, HH.out.2⟩
  · have hw := Whole.made w 29 (zb 32)
    have HW := Lib.hid hw
    have HB := Lib.hid hb
    have HL := Lib.hid hl
    have q1 : decide ((n : Int) = 32) = false := by simp; omega
    have q2 : ((n : Int) != 32) = true := by simp; omega
    clear hr hb hl hw
    go_enter Tryd.func72, Tryd.ntmps72
    go_upto_region 2 with (fail)
    refine wp_region_lit ?_
    iterate 3 go_step
    refine wpList_store_mid rfl 29 (.tmp 2) (.tmp 7) rfl w.heap.size 0 (zb 32) rfl rfl ?_ ?_ (bcells_one Tlv.nought) ?_
    · have := HW.out.there_; exact this
    · rw [zb_size]; exact info25
    have hw2 := HW.out.setAll (vs := zb 32) rfl
    have hb2 : Below w.heap.size w ((w.alloc (.cells (zb 32) 29)).setCells w.heap.size 0 (zb 32).toList) := below_setCells w w.heap.size _ 0 HB.out (Nat.le_refl _)
    generalize (w.alloc (.cells (zb 32) 29)).setCells w.heap.size 0 (zb 32).toList = w2 at *
    have HH := Lib.hid (And.intro hw2 hb2)
    clear hw2 hb2 HB HW
    go_wp2_with fail
    refine bodyPost_end (results_cell2 rfl _ _ _ _ _ rfl (load_whole HH.out.1 29 _ Tryd.underlying29 rfl (by rw [zb_size]; exact info25))) rfl ?_
    exact ⟨fun h => absurd (HL.out.symm.trans h) h32, fun _ => rfl, HH.out.2⟩

def HighPost (w : World) (v : List UInt8) (e : Ending) (w' : World) : Prop :=
  (Tlv.okb v = true → e = .returned (.tuple #[.int .i64 ((min (Tlv.val v) 65 : Nat) : Int), .int .i64 0])) ∧ (Tlv.okb v = false → ∃ z : Int, e = .returned (.tuple #[.int .i64 z, .int .i64 7])) ∧ w = w'
set_option maxRecDepth 100000 in
theorem height_any (A : Option Addr) (n c : Nat) (v : List UInt8) (w : World) (hr : Rd w w.heap.size A n v) : Calls Tryd.prog 70 #[.slice A n c] w (HighPost w v) := by
  cases hk : Tlv.okb v with
  | true =>
    have hok : okv v := (Tlv.okb_iff v).1 hk
    have HV := Lib.hid (value_good A n c v w _ hr hok)
    have hlt := Tlv.val_fit v hok.1
    obtain ⟨x, hx⟩ : ∃ x, Tlv.val v = x := ⟨_, rfl⟩
    rw [hx] at HV hlt
    have HX := Lib.hid hx
    have HK := Lib.hid hk
    clear hr hok hx hk
    have hmin : ((min x 65 : Nat) : Int) = min (x : Int) 65 := by omega
    go_enter Tryd.func70, Tryd.ntmps70
    go_wp2_with fail
    refine HV.out.mono ?_
    rintro e w1 ⟨rfl, rfl⟩
    go_wp2_with fail
    go_ret2
    exact ⟨fun _ => by rw [HX.out, hmin]; rfl, fun h => absurd HK.out (by rw [h]; simp), rfl⟩
  | false =>
    have hok : ¬ okv v := fun h => by have := (Tlv.okb_iff v).2 h; rw [hk] at this; simp at this
    have HV := Lib.hid (value_bad A n c v w _ hr hok)
    have HK := Lib.hid hk
    clear hr hok hk
    go_enter Tryd.func70, Tryd.ntmps70
    go_wp2_with fail
    refine HV.out.mono ?_
    rintro e w1 ⟨rfl, rfl⟩
    go_wp2_with fail
    go_ret2
    exact ⟨fun h => absurd HK.out (by rw [h]; simp), fun _ => ⟨_, rfl⟩, rfl⟩
end Go.Proofs.YtolkpjbbfopmnaaDoor.Tl
namespace Go.Proofs.YtolkpjbbfopmnaaDoor.Tl
open Go.RowKit

theorem two_at {w : World} {B : Nat} {A : Option Addr} {n : Nat} {bs : List UInt8} (h : Rd w B A n bs) (hn : 2 ≤ n) :
    ∃ b o x y r, A = some ⟨b, o, none⟩ ∧ bs = x :: y :: r ∧ w.cell? ⟨b, o, none⟩ = some (.int .u8 x.toNat) ∧ w.cell? ⟨b, o + 1, none⟩ = some (.int .u8 y.toNat) := by
  obtain ⟨b, o, e, _, hc⟩ := h.at_ (by omega)
  have hl := h.len
  match bs, hl with
  | [], hl => simp at hl; omega
  | [_], hl => simp at hl; omega
  | x :: y :: r, _ => exact ⟨b, o, x, y, r, e, rfl, hc 0 x rfl, hc 1 y rfl⟩
theorem cnt_or (x y : UInt8) : bits .or .i64 ((x.toNat : Int) * 256) (y.toNat : Int) = (Tlv.cnt x y : Int) := by
  have hx := x.toNat_lt
  have hy := y.toNat_lt
  have h : ∀ a b : Nat, a < 9223372036854775808 → b < 9223372036854775808 → bits .or .i64 (a : Int) (b : Int) = ((a ||| b : Nat) : Int) := by
    intro a b ha hb
    have h1 : ∀ a : Nat, a < 9223372036854775808 → (BitVec.ofInt 64 (a : Int)).toNat = a := by
      intro a ha
      rw [BitVec.ofInt_natCast, BitVec.toNat_ofNat]; exact Nat.mod_eq_of_lt (by omega)
    have hx : a ||| b < 2 ^ 63 := Nat.or_lt_two_pow (by omega) (by omega)
    show IntKind.i64.wrap ((BitVec.ofInt 64 (a : Int) ||| BitVec.ofInt 64 (b : Int)).toNat : Int) = _
    rw [BitVec.toNat_or, h1 a ha, h1 b hb, IntKind.wrap_i64]
    omega
  have := h (x.toNat * 256) y.toNat (by omega) (by omega)
  rw [Tlv.or_byte _ _ (by omega)] at this
  unfold Tlv.cnt
  rw [← this]
  rfl

/-- A piece is there. -/
def CutSome (w : World) (B : Nat) (v r : List UInt8) (e : Ending) (w' : World) : Prop :=
  ∃ k A1 n1 c1 A2 n2 c2, e = .returned (.tuple #[.slice A1 n1 c1, .slice A2 n2 c2, .bool true]) ∧ Rd w B A1 n1 v ∧ n1 ≤ c1 ∧ Rd w B A2 n2 r ∧ n2 ≤ c2 ∧ w' = w.drewN k
def CutNone (w : World) (e : Ending) (w' : World) : Prop :=
  ∃ k, e = .returned (.tuple #[.slice none 0 0, .slice none 0 0, .bool false]) ∧ w' = w.drewN k

set_option maxRecDepth 100000 in
theorem cut_none (A : Option Addr) (n c : Nat) (bs : List UInt8) (w : World) (B : Nat) (hr : Rd w B A n bs) (_hnc : n ≤ c) (hn : n ≤ 9223372036854775807) (hp : Tlv.piece bs = none) :
    Calls Tryd.prog 69 #[.slice A n c] w (CutNone w) := by
  by_cases h2 : n < 2
  · clear hr hp
    go_enter Tryd.func69, Tryd.ntmps69
    go_wp2_with fail
    go_ret3
    exact ⟨0, rfl, rfl⟩
  · obtain ⟨b, o, x, y, r, rfl, rfl, h0, h1⟩ := two_at hr (by omega)
    have hl := hr.len
    simp only [List.length_cons] at hl
    rw [Tlv.piece_two] at hp
    have hlt : r.length < Tlv.cnt x y := by
      by_cases h : r.length < Tlv.cnt x y
      · exact h
      · rw [if_neg h] at hp; cases hp
    have hcn := cnt_or x y
    have hle := Tlv.cnt_le x y
    generalize Tlv.cnt x y = N at *
    have i0 : (0 : Int) < (n : Int) := by omega
    have i1 : (1 : Int) < (n : Int) := by omega
    have hlt2 : ((n - 2 : Nat) : Int) < (N : Int) := by omega
    have hx := x.toNat_lt
    have hy := y.toNat_lt
    clear hp hr hl hlt
    go_enter Tryd.func69, Tryd.ntmps69
    go_wp2_with fail
    go_quiet (fail)
    go_wp2_with fail
    all_goals
      go_ret3
      exact ⟨_, rfl, rfl⟩

set_option maxRecDepth 100000 in
theorem cut_some (A : Option Addr) (n c : Nat) (bs v q : List UInt8) (w : World) (B : Nat) (hr : Rd w B A n bs) (hnc : n ≤ c) (hn : n ≤ 9223372036854775807) (hp : Tlv.piece bs = some (v, q)) :
    Calls Tryd.prog 69 #[.slice A n c] w (CutSome w B v q) := by
  have h2 : 2 ≤ n := by
    have := Tlv.piece_less hp
    rw [hr.len] at this
    omega
  obtain ⟨b, o, x, y, r, rfl, rfl, h0, h1⟩ := two_at hr h2
  have hl := hr.len
  simp only [List.length_cons] at hl
  rw [Tlv.piece_two] at hp
  have hlt : ¬ r.length < Tlv.cnt x y := by
    intro h
    rw [if_pos h] at hp; cases hp
  rw [if_neg hlt] at hp
  simp only [Option.some.injEq, Prod.mk.injEq] at hp
  obtain ⟨rfl, rfl⟩ := hp
  have hcn := cnt_or x y
  have hle := Tlv.cnt_le x y
  generalize Tlv.cnt x y = N at *
  have i0 : (0 : Int) < (n : Int) := by omega
  have i1 : (1 : Int) < (n : Int) := by omega
  have hnot : decide (((n - 2 : Nat) : Int) < (N : Int)) = false := by simp; omega
  have j1 : (N : Int) ≤ ((n - 2 : Nat) : Int) := by omega
  have j2 : (N : Int) ≤ ((c - 2 : Nat) : Int) := by omega
  have hx := x.toNat_lt
  have hy := y.toNat_lt
  have HV : Hid (∀ A', (2 < c → A' = some ⟨b, o + 2, none⟩) → Rd w B A' N (r.take N)) := Lib.hid (fun A' hA => by
    have h3 := hr.cut 2 h2 hnc A' hA
    simp only [List.drop_succ_cons, List.drop_zero] at h3
    rcases Nat.eq_zero_or_pos N with h0 | h0
    · subst h0; exact Rd.nil
    · rw [hA (by omega)] at h3 ⊢
      have := h3.part 0 N (by omega)
      rwa [Nat.add_zero, List.drop_zero] at this)
  have HQ : Hid (∀ A', (2 + N < c → A' = some ⟨b, o + 2 + N, none⟩) → Rd w B A' (n - 2 - N) (r.drop N)) := Lib.hid (fun A' hA => by
    have := hr.cut (2 + N) (by omega) hnc A' (fun h => by rw [hA h, Nat.add_assoc])
    rw [Nat.add_comm 2 N] at this
    simp only [List.drop_succ_cons] at this
    rwa [show n - (N + 2) = n - 2 - N by omega] at this)
  clear hr hl hlt
  go_enter Tryd.func69, Tryd.ntmps69
  go_wp2_with fail
  go_quiet (fail)
  go_wp2_with fail
  all_goals (go_quiet (fail))
  all_goals (go_wp2_with fail)
  all_goals
    go_ret3
    exact ⟨_, _, _, _, _, _, _, rfl, HV.out _ (fun h => by first | rfl | omega), by omega, HQ.out _ (fun h => by first | rfl | omega), by omega, by first | rfl | (rw [World.drewN_drewN])⟩
end Go.Proofs.YtolkpjbbfopmnaaDoor.Tl
namespace Go.Proofs.YtolkpjbbfopmnaaDoor.Tl
open Go.RowKit

/-- Its bytes, if there are any, lie in a block that G holds of. -/
def BG (G : Nat → Prop) (A : Option Addr) (n : Nat) : Prop := 0 < n → ∀ b o, A = some ⟨b, o, none⟩ → G b
/-- The slice with address A and n elements reads as fields. -/
def FRd (G : Nat → Prop) (w : World) (B : Nat) (A : Option Addr) (n : Nat) (fs : List (UInt8 × List UInt8)) : Prop :=
  ∃ xs : List Value, RdV w B 2 A n xs ∧ fs.length = n ∧ ∀ (j : Nat) (f : UInt8 × List UInt8), fs[j]? = some f → ∃ A' n' c', xs[2 * j]? = some (V8 f.1) ∧ xs[2 * j + 1]? = some (.slice A' n' c') ∧ n' ≤ c' ∧ n' ≤ 9223372036854775807 ∧ Rd w B A' n' f.2 ∧ BG G A' n'
/-- It reads as lists of bytes. -/
def LRd (w : World) (B : Nat) (A : Option Addr) (n : Nat) (ls : List (List UInt8)) : Prop :=
  ∃ xs : List Value, RdV w B 1 A n xs ∧ ls.length = n ∧ ∀ (j : Nat) (l : List UInt8), ls[j]? = some l → ∃ A' n' c', xs[j]? = some (Value.slice A' n' c') ∧ n' ≤ c' ∧ n' ≤ 9223372036854775807 ∧ Rd w B A' n' l

section
variable {G : Nat → Prop} {w w' : World} {B B' n : Nat} {A : Option Addr} {fs : List (UInt8 × List UInt8)} {ls : List (List UInt8)}
theorem FRd.len (h : FRd G w B A n fs) : fs.length = n := by obtain ⟨_, _, h, _⟩ := h; exact h
theorem FRd.nil : FRd G w B A 0 [] := ⟨[], RdV.nil, rfl, fun j f h => by simp at h⟩
theorem FRd.below (h : FRd G w B A n fs) (hb : Below B' w w') (hB : B ≤ B') : FRd G w' B A n fs := by
  obtain ⟨xs, h1, h2, h3⟩ := h
  refine ⟨xs, h1.below hb hB, h2, fun j f hf => ?_⟩
  obtain ⟨A', n', c', k1, k2, k3, k4, k5, k6⟩ := h3 j f hf
  exact ⟨A', n', c', k1, k2, k3, k4, k5.below hb hB, k6⟩
theorem FRd.more (h : FRd G w B A n fs) (hB : B ≤ B') : FRd G w B' A n fs := by
  obtain ⟨xs, h1, h2, h3⟩ := h
  refine ⟨xs, h1.more hB, h2, fun j f hf => ?_⟩
  obtain ⟨A', n', c', k1, k2, k3, k4, k5, k6⟩ := h3 j f hf
  exact ⟨A', n', c', k1, k2, k3, k4, k5.more hB, k6⟩
/-- Its j-th field. -/
theorem FRd.at_ (h : FRd G w B A n fs) {j : Nat} {f : UInt8 × List UInt8} (hj : fs[j]? = some f) :
    ∃ b o A' n' c', A = some ⟨b, o, none⟩ ∧ b < B ∧ w.cell? ⟨b, o + 2 * j, none⟩ = some (.int .u8 f.1.toNat) ∧ w.cell? ⟨b, o + (2 * j + 1), none⟩ = some (.slice A' n' c') ∧ n' ≤ c' ∧ n' ≤ 9223372036854775807 ∧ Rd w B A' n' f.2 ∧ BG G A' n' := by
  obtain ⟨xs, h1, h2, h3⟩ := h
  obtain ⟨A', n', c', k1, k2, k3, k4, k5, k6⟩ := h3 j f hj
  have hn : 0 < n := by have := (List.getElem?_eq_some_iff.1 hj).1; omega
  obtain ⟨b, o, e, hb, hc⟩ := h1.2 hn
  exact ⟨b, o, A', n', c', e, hb, hc _ _ k1, hc _ _ k2, k3, k4, k5, k6⟩
theorem LRd.len (h : LRd w B A n ls) : ls.length = n := by obtain ⟨_, _, h, _⟩ := h; exact h
theorem LRd.nil : LRd w B A 0 [] := ⟨[], RdV.nil, rfl, fun j f h => by simp at h⟩
theorem LRd.below (h : LRd w B A n ls) (hb : Below B' w w') (hB : B ≤ B') : LRd w' B A n ls := by
  obtain ⟨xs, h1, h2, h3⟩ := h
  refine ⟨xs, h1.below hb hB, h2, fun j f hf => ?_⟩
  obtain ⟨A', n', c', k2, k3, k4, k5⟩ := h3 j f hf
  exact ⟨A', n', c', k2, k3, k4, k5.below hb hB⟩
theorem LRd.more (h : LRd w B A n ls) (hB : B ≤ B') : LRd w B' A n ls := by
  obtain ⟨xs, h1, h2, h3⟩ := h
  refine ⟨xs, h1.more hB, h2, fun j f hf => ?_⟩
  obtain ⟨A', n', c', k2, k3, k4, k5⟩ := h3 j f hf
  exact ⟨A', n', c', k2, k3, k4, k5.more hB⟩
theorem LRd.at_ (h : LRd w B A n ls) {j : Nat} {l : List UInt8} (hj : ls[j]? = some l) :
    ∃ b o A' n' c', A = some ⟨b, o, none⟩ ∧ b < B ∧ w.cell? ⟨b, o + j, none⟩ = some (.slice A' n' c') ∧ n' ≤ c' ∧ n' ≤ 9223372036854775807 ∧ Rd w B A' n' l := by
  obtain ⟨xs, h1, h2, h3⟩ := h
  obtain ⟨A', n', c', k2, k3, k4, k5⟩ := h3 j l hj
  have hn : 0 < n := by have := (List.getElem?_eq_some_iff.1 hj).1; omega
  obtain ⟨b, o, e, hb, hc⟩ := h1.2 hn
  exact ⟨b, o, A', n', c', e, hb, hc _ _ k2, k3, k4, k5⟩
end

/-- Bytes that are read, in another block than the row's. -/
def RdX (w : World) (B : Nat) (row : Option Nat) (A : Option Addr) (n : Nat) (bs : List UInt8) : Prop := Rd w B A n bs ∧ ∀ b o, A = some ⟨b, o, none⟩ → 0 < n → row ≠ some b
section
variable {w w' : World} {B B' n : Nat} {A : Option Addr} {bs : List UInt8} {row row' : Option Nat}
theorem RdX.below (h : RdX w B row A n bs) (hb : Below B' w w') (hB : B ≤ B') : RdX w' B row A n bs := ⟨h.1.below hb hB, h.2⟩
theorem RdX.more (h : RdX w B row A n bs) (hB : B ≤ B') : RdX w B' row A n bs := ⟨h.1.more hB, h.2⟩
theorem RdX.grown (h : RdX w B row A n bs) (hg : w.grownBy w' row) (hB : B ≤ w.heap.size) (hrow : row' = row ∨ row' = some w.heap.size) : RdX w' B row' A n bs := by
  refine ⟨⟨h.1.1, fun hn => ?_⟩, fun b o e hn => ?_⟩
  · obtain ⟨b, o, e, hb, hc⟩ := h.1.2 hn
    refine ⟨b, o, e, hb, fun j u hu => ?_⟩
    rw [World.cell?_of_block (w := w) (hg.block b (by omega) (fun e' => h.2 b o e hn e'.symm))]
    exact hc j u hu
  · rcases hrow with rfl | rfl
    · exact h.2 b o e hn
    · obtain ⟨b', o', e', hb, _⟩ := h.1.2 hn
      rw [e'] at e
      injection e with e
      injection e with e1 _
      subst e1
      intro e2
      injection e2 with e2
      omega
end
/-- The cells of fields in a row of the call's own. -/
def FCells (G : Nat → Prop) (w : World) (row : Option Nat) (xs : List Value) (fs : List (UInt8 × List UInt8)) : Prop :=
  xs.length = 2 * fs.length ∧ ∀ (j : Nat) (f : UInt8 × List UInt8), fs[j]? = some f → ∃ A' n' c', xs[2 * j]? = some (V8 f.1) ∧ xs[2 * j + 1]? = some (.slice A' n' c') ∧ n' ≤ c' ∧ n' ≤ 9223372036854775807 ∧ RdX w w.heap.size row A' n' f.2 ∧ BG G A' n'
def LCells (w : World) (row : Option Nat) (xs : List Value) (ls : List (List UInt8)) : Prop :=
  xs.length = ls.length ∧ ∀ (j : Nat) (l : List UInt8), ls[j]? = some l → ∃ A' n' c', xs[j]? = some (Value.slice A' n' c') ∧ n' ≤ c' ∧ n' ≤ 9223372036854775807 ∧ RdX w w.heap.size row A' n' l
section
variable {G : Nat → Prop} {w w' : World} {row row' : Option Nat} {xs : List Value} {fs : List (UInt8 × List UInt8)} {ls : List (List UInt8)}
theorem FCells.nil : FCells G w row [] [] := ⟨rfl, fun j f h => by simp at h⟩
theorem FCells.below (h : FCells G w row xs fs) (hb : Below w.heap.size w w') : FCells G w' row xs fs :=
  ⟨h.1, fun j f hf => by
    obtain ⟨A', n', c', k1, k2, k3, k4, k5, k6⟩ := h.2 j f hf
    exact ⟨A', n', c', k1, k2, k3, k4, (k5.below hb (Nat.le_refl _)).more hb.size, k6⟩⟩
theorem FCells.grown (h : FCells G w row xs fs) (hg : w.grownBy w' row) (hrow : row' = row ∨ row' = some w.heap.size) : FCells G w' row' xs fs :=
  ⟨h.1, fun j f hf => by
    obtain ⟨A', n', c', k1, k2, k3, k4, k5, k6⟩ := h.2 j f hf
    exact ⟨A', n', c', k1, k2, k3, k4, (k5.grown hg (Nat.le_refl _) hrow).more hg.size, k6⟩⟩
theorem FCells.snoc (h : FCells G w row xs fs) (f : UInt8 × List UInt8) (A : Option Addr) (n c : Nat) (hnc : n ≤ c) (hn : n ≤ 9223372036854775807) (hr : RdX w w.heap.size row A n f.2) (hG : BG G A n) : FCells G w row (xs ++ [V8 f.1, .slice A n c]) (fs ++ [f]) := by
  refine ⟨by rw [List.length_append, List.length_append, h.1]; simp; omega, fun j g hg => ?_⟩
  by_cases hj : j < fs.length
  · rw [List.getElem?_append_left hj] at hg
    obtain ⟨A', n', c', k1, k2, k3, k4, k5, k6⟩ := h.2 j g hg
    exact ⟨A', n', c', by rw [List.getElem?_append_left (by rw [h.1]; omega)]; exact k1, by rw [List.getElem?_append_left (by rw [h.1]; omega)]; exact k2, k3, k4, k5, k6⟩
  · rw [List.getElem?_append_right (by omega)] at hg
    have h1 : j - fs.length < 1 := (List.getElem?_eq_some_iff.1 hg).1
    obtain rfl : j = fs.length := by omega
    rw [Nat.sub_self] at hg
    simp at hg
    subst hg
    refine ⟨A, n, c, ?_, ?_, hnc, hn, hr, hG⟩
    · rw [List.getElem?_append_right (by rw [h.1]; omega), h.1, Nat.sub_self]; rfl
    · rw [List.getElem?_append_right (by rw [h.1]; omega), h.1, show 2 * fs.length + 1 - 2 * fs.length = 1 by omega]; rfl
theorem FCells.rd {base : Nat} {A : Option Addr} {n c : Nat} (h : FCells G w row xs fs) (ho : w.ownsRow base 102 2 (.slice A n c) n xs) : FRd G w w.heap.size A n fs := by
  have hl := ho.1
  rw [h.1] at hl
  refine ⟨xs, RdV.of_own ho, by omega, fun j f hf => ?_⟩
  obtain ⟨A', n', c', k1, k2, k3, k4, k5, k6⟩ := h.2 j f hf
  exact ⟨A', n', c', k1, k2, k3, k4, k5.1, k6⟩
theorem LCells.nil : LCells w row [] [] := ⟨rfl, fun j f h => by simp at h⟩
theorem LCells.below (h : LCells w row xs ls) (hb : Below w.heap.size w w') : LCells w' row xs ls :=
  ⟨h.1, fun j f hf => by
    obtain ⟨A', n', c', k2, k3, k4, k5⟩ := h.2 j f hf
    exact ⟨A', n', c', k2, k3, k4, (k5.below hb (Nat.le_refl _)).more hb.size⟩⟩
theorem LCells.grown (h : LCells w row xs ls) (hg : w.grownBy w' row) (hrow : row' = row ∨ row' = some w.heap.size) : LCells w' row' xs ls :=
  ⟨h.1, fun j f hf => by
    obtain ⟨A', n', c', k2, k3, k4, k5⟩ := h.2 j f hf
    exact ⟨A', n', c', k2, k3, k4, (k5.grown hg (Nat.le_refl _) hrow).more hg.size⟩⟩
theorem LCells.snoc (h : LCells w row xs ls) (l : List UInt8) (A : Option Addr) (n c : Nat) (hnc : n ≤ c) (hn : n ≤ 9223372036854775807) (hr : RdX w w.heap.size row A n l) : LCells w row (xs ++ [.slice A n c]) (ls ++ [l]) := by
  refine ⟨by rw [List.length_append, List.length_append, h.1]; rfl, fun j g hg => ?_⟩
  by_cases hj : j < ls.length
  · rw [List.getElem?_append_left hj] at hg
    obtain ⟨A', n', c', k2, k3, k4, k5⟩ := h.2 j g hg
    exact ⟨A', n', c', by rw [List.getElem?_append_left (by rw [h.1]; omega)]; exact k2, k3, k4, k5⟩
  · rw [List.getElem?_append_right (by omega)] at hg
    have h1 : j - ls.length < 1 := (List.getElem?_eq_some_iff.1 hg).1
    obtain rfl : j = ls.length := by omega
    rw [Nat.sub_self] at hg
    simp at hg
    subst hg
    refine ⟨A, n, c, ?_, hnc, hn, hr⟩
    rw [List.getElem?_append_right (by rw [h.1]; omega), h.1, Nat.sub_self]; rfl
theorem LCells.rd {base : Nat} {A : Option Addr} {n c : Nat} (h : LCells w row xs ls) (ho : w.ownsRow base 31 1 (.slice A n c) n xs) : LRd w w.heap.size A n ls := by
  have hl := ho.1
  rw [h.1] at hl
  refine ⟨xs, RdV.of_own ho, by omega, fun j f hf => ?_⟩
  obtain ⟨A', n', c', k2, k3, k4, k5⟩ := h.2 j f hf
  exact ⟨A', n', c', k2, k3, k4, k5.1⟩
end

theorem Rd.back {w w' : World} {B B' n : Nat} {A : Option Addr} {bs : List UInt8} (h : Rd w' B A n bs) (hb : Below B' w w') (hB : B ≤ B') : Rd w B A n bs :=
  RdV.keep h fun b o hp => (hb.cell (p := ⟨b, o, none⟩) (Nat.lt_of_lt_of_le hp hB)).symm
theorem own_below {w w' : World} {base size n : Nat} {e : TypeId} {v : Value} {xs : List Value} (h : w.ownsRow base e size v n xs) (hb : Below w.heap.size w w') : w'.ownsRow base e size v n xs :=
  h.kept (row := none) ⟨hb.os, hb.tape, hb.output, hb.size, fun i hi _ => hb.block i hi⟩ (by cases v.ownBlock <;> simp)
theorem fcells_step {G : Nat → Prop} {w w' : World} {v v' : Value} {xs : List Value} {acc : List (UInt8 × List UInt8)} (hcl : FCells G w v.ownBlock xs acc) (f : UInt8 × List UInt8) (A : Option Addr) (n c : Nat) (hnc : n ≤ c) (hn : n ≤ 9223372036854775807)
    (hr : RdX w w.heap.size v.ownBlock A n f.2) (hG : BG G A n) (o : Obj) (hg : (w.alloc o).grownBy w' v.ownBlock) (hat : v'.ownBlock = v.ownBlock ∨ v'.ownBlock = some (w.heap.size + 1)) : FCells G w' v'.ownBlock (xs ++ [V8 f.1, .slice A n c]) (acc ++ [f]) :=
  ((hcl.snoc f A n c hnc hn hr hG).below ((Below.refl _ _).alloc (Nat.le_refl _) o)).grown hg (by rw [size_alloc]; exact hat)
/-- A clone lies in no row that was there. -/
theorem rdx_new {w w' : World} {base size k n : Nat} {e : TypeId} {v : Value} {xs : List Value} {A : Option Addr} {bs : List UInt8} (ho : w.ownsRow base e size v k xs) (hr : Rd w' w'.heap.size A n bs) (hnew : ∀ b o, A = some ⟨b, o, none⟩ → w.heap.size ≤ b) : RdX w' w'.heap.size v.ownBlock A n bs :=
  ⟨hr, fun b o e _ h => by have := (ho.lt b h).2; have := hnew b o e; omega⟩
/-- What came in lies in no row of the call's own. -/
theorem rdx_old {w w' : World} {base size k n : Nat} {e : TypeId} {v : Value} {xs : List Value} {A : Option Addr} {bs : List UInt8} (ho : w.ownsRow base e size v k xs) (hr : Rd w' base A n bs) (hb : base ≤ w'.heap.size) : RdX w' w'.heap.size v.ownBlock A n bs :=
  ⟨hr.more hb, fun b o e hn h => by
    have := (ho.lt b h).1
    obtain ⟨b', o', e', hb', _⟩ := hr.2 hn
    rw [e'] at e
    injection e with e
    injection e with e1 _
    omega⟩

/-- append of one element's cells, made for it, onto a row of the call's own. -/
theorem wpList_append_one {ops : Array Oper} {rest : List Oper} {o : Oper} {a : Act} {w : World} {Q : Exit → Act → World → Prop} (hgd : o.guard = none) (s x : Operand) (t e : TypeId) (z : Value) (size bytes : Nat)
    (ho : o.op = .call { callee := .builtin .append, args := #[s, x], argTypes := #[t, t] }) (ht : Tryd.prog.underlying t = some (.slice e))
    (hi : (Tryd.prog.info? e).map (fun i => (i.zero, i.size, i.bytes)) = some (some z, size, bytes)) (hzs : z.cells.size = size) (hsz : 0 < size)
    (base : Nat) (v : Value) (n : Nat) (xs : List Value) (hs : a.eval s = v) (cs : Array Value) (hcs : cs.size = size) (hown : w.ownsRow base e size v n xs)
    (hx : a.eval x = .slice (some ⟨w.heap.size, 0, none⟩) 1 1) (h1 : ∀ u ∈ cs.toList, u.oneCell' = true)
    (h63 : n + 1 ≤ maxLen) (hbytes : (n + 1) * bytes ≤ 140737488355328) (hbase : base ≤ w.heap.size)
    (h : ∀ v' w', w'.ownsRow base e size v' (n + 1) (xs ++ cs.toList) → (w.alloc (.cells cs e)).grownBy w' v.ownBlock → (v'.ownBlock = v.ownBlock ∨ v'.ownBlock = some (w.heap.size + 1)) → wpList Tryd.prog ops Q rest (a.put o.dst v') w') :
    wpList Tryd.prog ops Q (o :: rest) a (w.alloc (.cells cs e)) := by
  have hr : RdV (w.alloc (.cells cs e)) (w.heap.size + 1) size (some ⟨w.heap.size, 0, none⟩) 1 cs.toList :=
    ⟨by rw [Array.length_toList, hcs, Nat.one_mul], fun _ => ⟨_, _, rfl, by omega, fun j u hu => (Whole.made w e cs).at_ (by rw [Nat.zero_add]; simpa using hu)⟩⟩
  obtain ⟨v', w', hrun, h2, h3, h4⟩ := run_append_rd (w.alloc (.cells cs e)) base t o.type e z size bytes ht hi hzs hsz v n xs (hown.alloc _) _ _ 1 1 _ hr h1 h63 hbytes (by rw [size_alloc]; omega)
  refine wpList_plain hgd fun K hK => ?_
  unfold Oper.wp execOp
  simp only [ho, resolve, invoke, builtin, Sem.run_bind, Sem.run_pure, Result.andThen_ok, List.map_toArray, List.map_cons, List.map_nil, hs, hx, hrun]
  exact hK _ _ (h v' w' h2 h3 (by rwa [size_alloc] at h4))
end Go.Proofs.YtolkpjbbfopmnaaDoor.Tl
namespace Go.Proofs.YtolkpjbbfopmnaaDoor.Tl
open Go.RowKit
open Tlv (Nd)

theorem acells_setk {w : World} {g : Nat} {t : TypeId} {kv vv : Value} {h : Int} {z : Nat} {l r : List UInt8} (hw : Whole w g t (acells kv vv h z l r).toArray) (u : Value) : Whole (w.setCell ⟨g, 0, none⟩ u) g t (acells u vv h z l r).toArray := by
  have := hw.set 0 u
  simpa [acells] using this
theorem acells_setv {w : World} {g : Nat} {t : TypeId} {kv vv : Value} {h : Int} {z : Nat} {l r : List UInt8} (hw : Whole w g t (acells kv vv h z l r).toArray) (u : Value) : Whole (w.setCell ⟨g, 1, none⟩ u) g t (acells kv u h z l r).toArray := by
  have := hw.set 1 u
  simpa [acells] using this
theorem acells_seth {w : World} {g : Nat} {t : TypeId} {kv vv : Value} {h : Int} {z : Nat} {l r : List UInt8} (hw : Whole w g t (acells kv vv h z l r).toArray) (u : Int) : Whole (w.setCell ⟨g, 2, none⟩ (.int .i64 u)) g t (acells kv vv u z l r).toArray := by
  have := hw.set 2 (.int .i64 u)
  simpa [acells] using this
theorem acells_setz {w : World} {g : Nat} {t : TypeId} {kv vv : Value} {h : Int} {z : Nat} {l r : List UInt8} (hw : Whole w g t (acells kv vv h z l r).toArray) (u : Nat) : Whole (w.setCell ⟨g, 3, none⟩ (.int .u64 u)) g t (acells kv vv h u l r).toArray := by
  have := hw.set 3 (.int .u64 u)
  simpa [acells] using this
theorem acells_setl {w : World} {g : Nat} {t : TypeId} {kv vv : Value} {h : Int} {z : Nat} {l r l' : List UInt8} (hw : Whole w g t (acells kv vv h z l r).toArray) (hl : l.length = l'.length) :
    Whole (w.setCells g 4 (bcells l').toList) g t (acells kv vv h z l' r).toArray := by
  have := Whole.setCells (w := w) (g := g) (t := t) (l'.map V8) [kv, vv, .int .i64 h, .int .u64 z] (l.map V8) (r.map V8) hw (by simp [hl])
  simpa [acells, bcells] using this
theorem acells_setr {w : World} {g : Nat} {t : TypeId} {kv vv : Value} {h : Int} {z : Nat} {l r r' : List UInt8} (hw : Whole w g t (acells kv vv h z l r).toArray) (h32 : l.length = 32) (hl : r.length = r'.length) :
    Whole (w.setCells g 36 (bcells r').toList) g t (acells kv vv h z l r').toArray := by
  have := Whole.setCells (w := w) (g := g) (t := t) (r'.map V8) ([kv, vv, .int .i64 h, .int .u64 z] ++ l.map V8) (r.map V8) [] (by simpa [acells] using hw) (by simp [hl])
  have h36 : ([kv, vv, Value.int .i64 h, Value.int .u64 z] ++ l.map V8).length = 36 := by simp [h32]
  rw [h36] at this
  simpa [acells, bcells] using this

/-- Block g holds the node, whose bytes lie ahead of it. -/
def NdAt (G : Nat → Prop) (w : World) (g : Nat) (nd : Nd) : Prop := ∃ A n c A' n' c', Whole w g 47 (ndc A n c A' n' c' nd).toArray ∧ NRd w g A n c A' n' c' nd ∧ BG G A n ∧ BG G A' n'
def TakePost (G : Nat → Prop) (w : World) (g : Nat) (r : Nat × Nd) (e : Ending) (w' : World) : Prop :=
  e = .returned (.int .i64 r.1) ∧ (r.1 = 0 → NdAt G w' g r.2) ∧ Below g w w'
theorem say_other {nd : Nd} {t : UInt8} {v : List UInt8} (h1 : t ≠ 1) (h2 : t ≠ 2) (h3 : t ≠ 3) (h4 : t ≠ 4) (h5 : t ≠ 5) (h6 : t ≠ 6) : Tlv.say nd t v = (8, nd) := by
  unfold Tlv.say
  rw [if_neg h1, if_neg h2, if_neg h3, if_neg h4, if_neg h5, if_neg h6]

set_option maxRecDepth 100000 in
set_option maxHeartbeats 1000000 in
theorem take_any {G : Nat → Prop} (g : Nat) (nd : Nd) (t : UInt8) (A2 : Option Addr) (n2 c2 : Nat) (v : List UInt8) (w : World) (h : NdAt G w g nd) (hf : nd.fit) (hr : Rd w g A2 n2 v) (hnc : n2 ≤ c2) (hg2 : BG G A2 n2) :
    Calls Tryd.prog 50 #[.pointer (some ⟨g, 0, none⟩), .agg #[.int .u8 t.toNat, .slice A2 n2 c2]] w (TakePost G w g (Tlv.say nd t v)) := by
  obtain ⟨A, n, c, A', n', c', hW, hN, hgK, hgV⟩ := h
  have HGS := Lib.hid (And.intro hg2 (And.intro hgK hgV))
  clear hg2 hgK hgV
  have hgs := hW.lt
  have hb1 : Below g w (w.alloc (.cells #[.int .u8 t.toNat, .slice A2 n2 c2] 102)) := (Below.refl _ _).alloc (Nat.le_of_lt hgs) _
  have hw1 := hW.alloc (.cells #[.int .u8 t.toNat, .slice A2 n2 c2] 102)
  have hf1 := Whole.made w 102 #[.int .u8 t.toNat, .slice A2 n2 c2]
  have t0 := hf1.at_ (i := 0) rfl
  have t1 := hf1.at_ (i := 1) rfl
  have hr1 := hr.below hb1 (Nat.le_refl _)
  have hN1 := hN.below hb1 (Nat.le_refl _)
  have hs1 : (w.alloc (.cells #[.int .u8 t.toNat, .slice A2 n2 c2] 102)).heap.size = w.heap.size + 1 := size_alloc _ _
  have HB := Lib.hid hb1
  have HW := Lib.hid hw1
  have HF := Lib.hid hf
  have HR := Lib.hid hr1
  have HN := Lib.hid hN1
  obtain ⟨b0, b1, b2, b3⟩ := abox hw1
  clear hW hN hb1 hw1 hf1 hf hr hr1 hN1
  obtain ⟨T, hT⟩ : ∃ T : Nat, t.toNat = T := ⟨_, rfl⟩
  rw [hT] at t0 t1 hs1 HB HW HR HN b0 b1 b2 b3 ⊢
  generalize hw1 : w.alloc (.cells #[.int .u8 T, .slice A2 n2 c2] 102) = w1 at *
  have hne : ∀ k : UInt8, t ≠ k → ((T : Int) == (k.toNat : Int)) = false := fun k hk => by
    rw [beq_eq_false_iff_ne]
    intro e
    exact hk (UInt8.toNat_inj.1 (by omega))
  by_cases e1 : t = 1
  · have q1 : ((T : Int) == 1) = true := by subst e1; rw [← hT]; rfl
    have hsay : Tlv.say nd t v = (0, { nd with key := v }) := by unfold Tlv.say; rw [if_pos e1]
    rw [hsay]
    clear hsay hne hT
    have hw2 := acells_setk HW.out (.slice A2 n2 c2)
    have hb2 : Below g w (w1.setCell ⟨g, 0, none⟩ (.slice A2 n2 c2)) := HB.out.setCell (p := ⟨g, 0, none⟩) (Nat.le_refl _) _
    have hn2 := HN.out.below ((Below.refl g w1).setCell (p := ⟨g, 0, none⟩) (Nat.le_refl _) (.slice A2 n2 c2)) (Nat.le_refl _)
    have hr2 := HR.out.below ((Below.refl g w1).setCell (p := ⟨g, 0, none⟩) (Nat.le_refl _) (.slice A2 n2 c2)) (Nat.le_refl _)
    have HFIN : Hid (TakePost G w g (0, { nd with key := v }) (.returned (.int .i64 0)) (w1.setCell ⟨g, 0, none⟩ (.slice A2 n2 c2))) := Lib.hid ⟨rfl, fun _ => ⟨A2, n2, c2, A', n', c', hw2, ⟨hr2, hnc, hn2.val, hn2.vnc⟩, HGS.out.1, HGS.out.2.2⟩, hb2⟩
    have hfree := HW.out.free 0
    clear hw2 hb2 hn2 hr2 HB HW HN HR HF
    go_enter Tryd.func50, Tryd.ntmps50
    go_wp2_with fail
    go_ret
    exact HFIN.out
  by_cases e2 : t = 2
  · have q2 : ((T : Int) == 2) = true := by subst e2; rw [← hT]; rfl
    have q1 : ((T : Int) == 1) = false := hne 1 e1
    have hsay : Tlv.say nd t v = (0, { nd with value := v }) := by unfold Tlv.say; rw [if_neg e1, if_pos e2]
    rw [hsay]
    clear hsay hne hT
    have hw2 := acells_setv HW.out (.slice A2 n2 c2)
    have hb2 : Below g w (w1.setCell ⟨g, 1, none⟩ (.slice A2 n2 c2)) := HB.out.setCell (p := ⟨g, 1, none⟩) (Nat.le_refl _) _
    have hn2 := HN.out.below ((Below.refl g w1).setCell (p := ⟨g, 1, none⟩) (Nat.le_refl _) (.slice A2 n2 c2)) (Nat.le_refl _)
    have hr2 := HR.out.below ((Below.refl g w1).setCell (p := ⟨g, 1, none⟩) (Nat.le_refl _) (.slice A2 n2 c2)) (Nat.le_refl _)
    have HFIN : Hid (TakePost G w g (0, { nd with value := v }) (.returned (.int .i64 0)) (w1.setCell ⟨g, 1, none⟩ (.slice A2 n2 c2))) := Lib.hid ⟨rfl, fun _ => ⟨A, n, c, A2, n2, c2, hw2, ⟨hn2.key, hn2.knc, hr2, hnc⟩, HGS.out.2.1, HGS.out.1⟩, hb2⟩
    have hfree := HW.out.free 1
    clear hw2 hb2 hn2 hr2 HB HW HN HR HF
    go_enter Tryd.func50, Tryd.ntmps50
    go_wp2_with fail
    go_ret
    exact HFIN.out
  by_cases e3 : t = 3
  · have q3 : ((T : Int) == 3) = true := by subst e3; rw [← hT]; rfl
    have q1 : ((T : Int) == 1) = false := hne 1 e1
    have q2 : ((T : Int) == 2) = false := hne 2 e2
    cases hk : Tlv.okb v with
    | true =>
      have hsay : Tlv.say nd t v = (0, { nd with h := ((min (Tlv.val v) 65 : Nat) : Int) }) := by unfold Tlv.say; rw [if_neg e1, if_neg e2, if_pos e3, if_pos hk]
      rw [hsay]
      have HC := Lib.hid (height_any A2 n2 c2 v w1 (HR.out.more (by omega)))
      obtain ⟨x, hx⟩ : ∃ x, ((min (Tlv.val v) 65 : Nat) : Int) = x := ⟨_, rfl⟩
      rw [hx]
      have hw2 := acells_seth HW.out x
      have hb2 : Below g w (w1.setCell ⟨g, 2, none⟩ (.int .i64 x)) := HB.out.setCell (p := ⟨g, 2, none⟩) (Nat.le_refl _) _
      have hn2 := HN.out.below ((Below.refl g w1).setCell (p := ⟨g, 2, none⟩) (Nat.le_refl _) (.int .i64 x)) (Nat.le_refl _)
      have HFIN : Hid (TakePost G w g (0, { nd with h := x }) (.returned (.int .i64 0)) (w1.setCell ⟨g, 2, none⟩ (.int .i64 x))) := Lib.hid ⟨rfl, fun _ => ⟨A, n, c, A', n', c', hw2, ⟨hn2.key, hn2.knc, hn2.val, hn2.vnc⟩, HGS.out.2⟩, hb2⟩
      have hfree := HW.out.free 2
      have HK := Lib.hid (And.intro hx hk)
      clear hsay hne hT hw2 hb2 hn2 HB HW HN HR HF hx hk
      go_enter Tryd.func50, Tryd.ntmps50
      go_wp2_with fail
      refine HC.out.mono ?_
      rintro e w2 ⟨hg, _, rfl⟩
      obtain rfl := hg HK.out.2
      rw [HK.out.1]
      clear HC
      go_wp2_with fail
      go_ret
      exact HFIN.out
    | false =>
      have hsay : Tlv.say nd t v = (7, nd) := by unfold Tlv.say; rw [if_neg e1, if_neg e2, if_pos e3, if_neg (by rw [hk]; simp)]
      rw [hsay]
      have HC := Lib.hid (height_any A2 n2 c2 v w1 (HR.out.more (by omega)))
      have HBB := Lib.hid (fun (u : Value) => (HB.out.setCell (p := ⟨g, 2, none⟩) (Nat.le_refl _) u))
      have hfree := HW.out.free 2
      have HK := Lib.hid hk
      clear hsay hne hT HB HW HN HR HF hk
      go_enter Tryd.func50, Tryd.ntmps50
      go_wp2_with fail
      refine HC.out.mono ?_
      rintro e w2 ⟨_, hg, rfl⟩
      obtain ⟨x, rfl⟩ := hg HK.out
      clear HC
      go_wp2_with fail
      go_ret
      exact ⟨rfl, fun h => by simp at h, HBB.out _⟩
  by_cases e4 : t = 4
  · have q4 : ((T : Int) == 4) = true := by subst e4; rw [← hT]; rfl
    have q1 : ((T : Int) == 1) = false := hne 1 e1
    have q2 : ((T : Int) == 2) = false := hne 2 e2
    have q3 : ((T : Int) == 3) = false := hne 3 e3
    cases hk : Tlv.okb v with
    | true =>
      have hsay : Tlv.say nd t v = (0, { nd with z := Tlv.val v }) := by unfold Tlv.say; rw [if_neg e1, if_neg e2, if_neg e3, if_pos e4, if_pos hk]
      rw [hsay]
      have HC := Lib.hid (value_good A2 n2 c2 v w1 _ HR.out ((Tlv.okb_iff v).1 hk))
      obtain ⟨x, hx⟩ : ∃ x, Tlv.val v = x := ⟨_, rfl⟩
      rw [hx] at HC ⊢
      have hw2 := acells_setz HW.out x
      have hb2 : Below g w (w1.setCell ⟨g, 3, none⟩ (.int .u64 x)) := HB.out.setCell (p := ⟨g, 3, none⟩) (Nat.le_refl _) _
      have hn2 := HN.out.below ((Below.refl g w1).setCell (p := ⟨g, 3, none⟩) (Nat.le_refl _) (.int .u64 x)) (Nat.le_refl _)
      have HFIN : Hid (TakePost G w g (0, { nd with z := x }) (.returned (.int .i64 0)) (w1.setCell ⟨g, 3, none⟩ (.int .u64 x))) := Lib.hid ⟨rfl, fun _ => ⟨A, n, c, A', n', c', hw2, ⟨hn2.key, hn2.knc, hn2.val, hn2.vnc⟩, HGS.out.2⟩, hb2⟩
      have hfree := HW.out.free 3
      have HK := Lib.hid (And.intro hx hk)
      clear hsay hne hT hw2 hb2 hn2 HB HW HN HR HF hx hk
      go_enter Tryd.func50, Tryd.ntmps50
      go_wp2_with fail
      refine HC.out.mono ?_
      rintro e w2 ⟨rfl, rfl⟩
      clear HC
      go_wp2_with fail
      go_ret
      exact HFIN.out
    | false =>
      have hsay : Tlv.say nd t v = (7, nd) := by unfold Tlv.say; rw [if_neg e1, if_neg e2, if_neg e3, if_pos e4, if_neg (by rw [hk]; simp)]
      rw [hsay]
      have HC := Lib.hid (value_bad A2 n2 c2 v w1 _ HR.out (fun h => by have := (Tlv.okb_iff v).2 h; rw [hk] at this; simp at this))
      have HBB := Lib.hid (fun (u : Value) => (HB.out.setCell (p := ⟨g, 3, none⟩) (Nat.le_refl _) u))
      have hfree := HW.out.free 3
      have HK := Lib.hid hk
      clear hsay hne hT HB HW HN HR HF hk
      go_enter Tryd.func50, Tryd.ntmps50
      go_wp2_with fail
      refine HC.out.mono ?_
      rintro e w2 ⟨rfl, rfl⟩
      clear HC
      go_wp2_with fail
      go_ret
      exact ⟨rfl, fun h => by simp at h, HBB.out _⟩
  by_cases e5 : t = 5
  · have q5 : ((T : Int) == 5) = true := by subst e5; rw [← hT]; rfl
    have q1 : ((T : Int) == 1) = false := hne 1 e1
    have q2 : ((T : Int) == 2) = false := hne 2 e2
    have q3 : ((T : Int) == 3) = false := hne 3 e3
    have q4 : ((T : Int) == 4) = false := hne 4 e4
    have HC := Lib.hid (sum_any A2 n2 c2 v w1 (HR.out.more (by omega)) hnc)
    have hlt1 : g < w1.heap.size := by omega
    by_cases h32 : v.length = 32
    · have hsay : Tlv.say nd t v = (0, { nd with l := v }) := by unfold Tlv.say; rw [if_neg e1, if_neg e2, if_neg e3, if_neg e4, if_pos e5, if_pos h32]
      rw [hsay]
      have HK := Lib.hid h32
      clear hsay hne hT h32
      go_enter Tryd.func50, Tryd.ntmps50
      go_wp2_with fail
      refine HC.out.mono ?_
      rintro e w2 ⟨hg, hg', hb2⟩
      obtain rfl := hg HK.out
      clear hg hg' HC
      have hW2 := HW.out.below hb2 hlt1
      have hN2 := HN.out.below (hb2.mono (Nat.le_of_lt hlt1)) (Nat.le_refl _)
      have hB2 := HB.out.trans (hb2.mono (Nat.le_of_lt hlt1))
      have hW3 := acells_setl hW2 (l' := v) (HF.out.1.trans HK.out.symm)
      have hB3 : Below g w (w2.setCells g 4 (bcells v).toList) := (below_setCells w g _ 4 (hB2.mono (Nat.le_refl _)) (Nat.le_refl _))
      have hN3 := hN2.below (below_setCells w2 g (bcells v).toList 4 (Below.refl g w2) (Nat.le_refl _)) (Nat.le_refl _)
      have HFIN : Hid (TakePost G w g (0, { nd with l := v }) (.returned (.int .i64 0)) (w2.setCells g 4 (bcells v).toList)) := Lib.hid ⟨rfl, fun _ => ⟨A, n, c, A', n', c', hW3, ⟨hN3.key, hN3.knc, hN3.val, hN3.vnc⟩, HGS.out.2⟩, hB3⟩
      have HTH : Hid (w2.there g 4 (bcells v).size) := Lib.hid (hW2.midthere 4 _ (by rw [bcells_size, HK.out, List.size_toArray, ndc_len HF.out]; omega))
      have HSZ : Hid ((Tryd.prog.info? 29).map (·.size) = some (bcells v).size) := Lib.hid (by rw [bcells_size, HK.out]; exact info25)
      clear hW2 hN2 hB2 hW3 hB3 hN3 HB HW HN HR HF hb2
      generalize hbc : bcells v = bc at *
      have HONE : Hid (bc.all (·.oneCell') = true) := Lib.hid (by rw [← hbc]; exact bcells_one v)
      clear hbc
      rename_i hK
      refine hK _ _ ?_

      iterate 15 go_step
      refine wpList_store_mid rfl 29 (.tmp 53) (.tmp 50) rfl g 4 bc rfl rfl HTH.out HSZ.out HONE.out ?_
      go_wp2_with fail
      go_ret
      exact HFIN.out
    · have hsay : Tlv.say nd t v = (7, nd) := by unfold Tlv.say; rw [if_neg e1, if_neg e2, if_neg e3, if_neg e4, if_pos e5, if_neg h32]
      rw [hsay]
      have HK := Lib.hid h32
      clear hsay hne hT h32
      go_enter Tryd.func50, Tryd.ntmps50
      go_wp2_with fail
      refine HC.out.mono ?_
      rintro e w2 ⟨hg', hg, hb2⟩
      obtain rfl := hg HK.out
      clear hg hg' HC
      have hW2 := HW.out.below hb2 hlt1
      have hB2 := HB.out.trans (hb2.mono (Nat.le_of_lt hlt1))
      have hB3 : Below g w (w2.setCells g 4 (zb 32).toList) := (below_setCells w g _ 4 (hB2.mono (Nat.le_refl _)) (Nat.le_refl _))
      have HFIN : Hid (TakePost G w g (7, nd) (.returned (.int .i64 7)) (w2.setCells g 4 (zb 32).toList)) := Lib.hid ⟨rfl, fun h => by simp at h, hB3⟩
      have HTH : Hid (w2.there g 4 (zb 32).size) := Lib.hid (hW2.midthere 4 _ (by rw [zb_size, List.size_toArray, ndc_len HF.out]; omega))
      clear hW2 hB2 hB3 HB HW HN HR HF hb2
      rename_i hK
      refine hK _ _ ?_

      iterate 15 go_step
      refine wpList_store_mid rfl 29 (.tmp 53) (.tmp 50) rfl g 4 (zb 32) rfl rfl HTH.out (by rw [zb_size]; exact info25) (bcells_one Tlv.nought) ?_
      go_wp2_with fail
      go_ret
      exact HFIN.out
  by_cases e6 : t = 6
  · have q6 : ((T : Int) == 6) = true := by subst e6; rw [← hT]; rfl
    have q1 : ((T : Int) == 1) = false := hne 1 e1
    have q2 : ((T : Int) == 2) = false := hne 2 e2
    have q3 : ((T : Int) == 3) = false := hne 3 e3
    have q4 : ((T : Int) == 4) = false := hne 4 e4
    have q5 : ((T : Int) == 5) = false := hne 5 e5
    have HC := Lib.hid (sum_any A2 n2 c2 v w1 (HR.out.more (by omega)) hnc)
    have hlt1 : g < w1.heap.size := by omega
    by_cases h32 : v.length = 32
    · have hsay : Tlv.say nd t v = (0, { nd with r := v }) := by unfold Tlv.say; rw [if_neg e1, if_neg e2, if_neg e3, if_neg e4, if_neg e5, if_pos e6, if_pos h32]
      rw [hsay]
      have HK := Lib.hid h32
      clear hsay hne hT h32
      go_enter Tryd.func50, Tryd.ntmps50
      go_wp2_with fail
      refine HC.out.mono ?_
      rintro e w2 ⟨hg, hg', hb2⟩
      obtain rfl := hg HK.out
      clear hg hg' HC
      have hW2 := HW.out.below hb2 hlt1
      have hN2 := HN.out.below (hb2.mono (Nat.le_of_lt hlt1)) (Nat.le_refl _)
      have hB2 := HB.out.trans (hb2.mono (Nat.le_of_lt hlt1))
      have hW3 := acells_setr hW2 HF.out.1 (r' := v) (HF.out.2.1.trans HK.out.symm)
      have hB3 : Below g w (w2.setCells g 36 (bcells v).toList) := (below_setCells w g _ 36 (hB2.mono (Nat.le_refl _)) (Nat.le_refl _))
      have hN3 := hN2.below (below_setCells w2 g (bcells v).toList 36 (Below.refl g w2) (Nat.le_refl _)) (Nat.le_refl _)
      have HFIN : Hid (TakePost G w g (0, { nd with r := v }) (.returned (.int .i64 0)) (w2.setCells g 36 (bcells v).toList)) := Lib.hid ⟨rfl, fun _ => ⟨A, n, c, A', n', c', hW3, ⟨hN3.key, hN3.knc, hN3.val, hN3.vnc⟩, HGS.out.2⟩, hB3⟩
      have HTH : Hid (w2.there g 36 (bcells v).size) := Lib.hid (hW2.midthere 36 _ (by rw [bcells_size, HK.out, List.size_toArray, ndc_len HF.out]; omega))
      have HSZ : Hid ((Tryd.prog.info? 29).map (·.size) = some (bcells v).size) := Lib.hid (by rw [bcells_size, HK.out]; exact info25)
      clear hW2 hN2 hB2 hW3 hB3 hN3 HB HW HN HR HF hb2
      generalize hbc : bcells v = bc at *
      have HONE : Hid (bc.all (·.oneCell') = true) := Lib.hid (by rw [← hbc]; exact bcells_one v)
      clear hbc
      rename_i hK
      refine hK _ _ ?_

      iterate 15 go_step
      refine wpList_store_mid rfl 29 (.tmp 64) (.tmp 61) rfl g 36 bc rfl rfl HTH.out HSZ.out HONE.out ?_
      go_wp2_with fail
      go_ret
      exact HFIN.out
    · have hsay : Tlv.say nd t v = (7, nd) := by unfold Tlv.say; rw [if_neg e1, if_neg e2, if_neg e3, if_neg e4, if_neg e5, if_pos e6, if_neg h32]
      rw [hsay]
      have HK := Lib.hid h32
      clear hsay hne hT h32
      go_enter Tryd.func50, Tryd.ntmps50
      go_wp2_with fail
      refine HC.out.mono ?_
      rintro e w2 ⟨hg', hg, hb2⟩
      obtain rfl := hg HK.out
      clear hg hg' HC
      have hW2 := HW.out.below hb2 hlt1
      have hB2 := HB.out.trans (hb2.mono (Nat.le_of_lt hlt1))
      have hB3 : Below g w (w2.setCells g 36 (zb 32).toList) := (below_setCells w g _ 36 (hB2.mono (Nat.le_refl _)) (Nat.le_refl _))
      have HFIN : Hid (TakePost G w g (7, nd) (.returned (.int .i64 7)) (w2.setCells g 36 (zb 32).toList)) := Lib.hid ⟨rfl, fun h => by simp at h, hB3⟩
      have HTH : Hid (w2.there g 36 (zb 32).size) := Lib.hid (hW2.midthere 36 _ (by rw [zb_size, List.size_toArray, ndc_len HF.out]; omega))
      clear hW2 hB2 hB3 HB HW HN HR HF hb2
      rename_i hK
      refine hK _ _ ?_

      iterate 15 go_step
      refine wpList_store_mid rfl 29 (.tmp 64) (.tmp 61) rfl g 36 (zb 32) rfl rfl HTH.out (by rw [zb_size]; exact info25) (bcells_one Tlv.nought) ?_
      go_wp2_with fail
      go_ret
      exact HFIN.out
  rw [say_other e1 e2 e3 e4 e5 e6]
  have q1 : ((T : Int) == 1) = false := hne 1 e1
  have q2 : ((T : Int) == 2) = false := hne 2 e2
  have q3 : ((T : Int) == 3) = false := hne 3 e3
  have q4 : ((T : Int) == 4) = false := hne 4 e4
  have q5 : ((T : Int) == 5) = false := hne 5 e5
  have q6 : ((T : Int) == 6) = false := hne 6 e6
  clear e1 e2 e3 e4 e5 e6 hne hT
  go_enter Tryd.func50, Tryd.ntmps50
  go_wp2_with fail
  go_ret
  exact ⟨rfl, fun h => by simp at h, HB.out⟩
end Go.Proofs.YtolkpjbbfopmnaaDoor.Tl
namespace Go.Proofs.YtolkpjbbfopmnaaDoor.Tl
open Go.RowKit

def FieldsPost (G : Nat → Prop) (w : World) (r : Nat × List (UInt8 × List UInt8)) (e : Ending) (w' : World) : Prop :=
  ∃ A n c, e = .returned (.tuple #[.slice A n c, .int .i64 r.1]) ∧ FRd G w' w'.heap.size A n r.2 ∧ n ≤ c ∧ Below w.heap.size w w'

/-- How it stands: what is left of the bytes, and the fields so far. -/
def PRel (G : Nat → Prop) (w : World) (R : Nat × List (UInt8 × List UInt8)) (L : Nat) (b f : Value) (wx : World) : Prop :=
  ∃ (A : Option Addr) (n c : Nat) (rest : List UInt8) (acc : List (UInt8 × List UInt8)) (xs : List Value) (k : Nat),
    b = .slice A n c ∧ n ≤ c ∧ Rd w w.heap.size A n rest ∧ acc.length = k ∧ wx.ownsRow w.heap.size 102 2 f k xs ∧ FCells G wx f.ownBlock xs acc ∧ Tlv.prs acc rest = R ∧ k + n ≤ L ∧ Below w.heap.size w wx

theorem rises_nil (t : UInt8) : Tlv.rises [] t = true := rfl
theorem rises_snoc (l : List (UInt8 × List UInt8)) (f : UInt8 × List UInt8) (t : UInt8) : Tlv.rises (l ++ [f]) t = decide (f.1.toNat < t.toNat) := by
  simp [Tlv.rises]

set_option maxRecDepth 100000 in
set_option maxHeartbeats 1000000 in
theorem parse_any {G : Nat → Prop} (A : Option Addr) (n c : Nat) (bs : List UInt8) (w : World) (hr : Rd w w.heap.size A n bs) (hnc : n ≤ c) (hn : n ≤ 1000000) (hG : ∀ b, w.heap.size ≤ b → G b) :
    Calls Tryd.prog 49 #[.slice A n c] w (FieldsPost G w (Tlv.parse bs)) := by
  obtain ⟨R, hR⟩ : ∃ R, Tlv.parse bs = R := ⟨_, rfl⟩
  rw [hR]
  have hs : PRel G w R n (.slice A n c) (.slice none 0 0) w := ⟨A, n, c, bs, [], [], 0, rfl, hnc, hr, rfl, World.ownsRow_nil _ _ _ _, FCells.nil, hR, by omega, Below.refl _ _⟩
  have HS := Lib.hid hs
  clear hs hR hr
  go_enter Tryd.func49, Tryd.ntmps49
  go_wp2_with fail
  go_loopw [0, 4] (fun b f wx => PRel G w R n b f wx) (fun b _ _ => lenOf b)
  case atStart => exact HS.out
  case round =>
    clear HS hnc
    obtain ⟨A0, m, c0, rest, acc, xs, k, rfl, hmc, hr0, hk, hown, hcl, hprs, hkm, hbl⟩ := hrel
    obtain ⟨A4, c4, rfl, hc4, hm4⟩ := own_form hown
    have HR0 := Lib.hid hr0
    have HK := Lib.hid hk
    have HO := Lib.hid hown
    have HC := Lib.hid hcl
    have HP := Lib.hid hprs
    have HB := Lib.hid hbl
    clear hr0 hk hown hcl hprs hbl
    rcases Nat.eq_zero_or_pos m with h0 | h0
    · subst h0
      obtain rfl : rest = [] := List.eq_nil_of_length_eq_zero HR0.out.len
      go_wp2_with fail
      go_ret2
      obtain rfl : (0, acc) = R := HP.out
      exact ⟨A4, k, c4, rfl, HC.out.rd HO.out, hc4, HB.out⟩
    · obtain ⟨b, o, t, rfl, hx, hc⟩ := head_at HR0.out h0
      obtain ⟨rest', rfl⟩ : ∃ r, rest = t :: r := by
        cases rest with
        | nil => simp at hx
        | cons a l => simp at hx; subst hx; exact ⟨l, rfl⟩
      have hc' : wr.cell? ⟨b, o, none⟩ = some (.int .u8 t.toNat) := by
        obtain ⟨b', o', e, hlt, _⟩ := HR0.out.at_ h0
        injection e with e
        injection e with e1 e2
        subst e1 e2
        exact (HB.out.cell (p := ⟨b, o, none⟩) hlt).trans hc
      clear hx hc
      have i0 : (1 : Int) ≤ (m : Int) := by omega
      obtain ⟨A', hif⟩ : ∃ A' : Option Addr, (if c0 = 1 then some (⟨b, o, none⟩ : Addr) else some ⟨b, o + 1, none⟩) = A' := ⟨_, rfl⟩
      have HCUT : Hid (Rd wr w.heap.size A' (m - 1) rest') := Lib.hid
        ((HR0.out.cut 1 (by omega) hmc A' (fun h => by rw [← hif, if_neg (by omega)])).below HB.out (Nat.le_refl _))
      cases hp : Tlv.piece rest' with
      | none =>
        have HPP := Lib.hid hp
        clear hp
        go_wp2_with fail
        refine (cut_none A' (m - 1) (c0 - 1) rest' wr _ HCUT.out (by omega) (by omega) HPP.out).mono ?_
        rintro e w1 ⟨j, rfl, rfl⟩
        go_wp2_with fail
        go_ret2
        obtain rfl : (4, []) = R := by rw [← HP.out, Tlv.prs_short _ _ _ HPP.out]
        exact ⟨none, 0, 0, rfl, FRd.nil, Nat.le_refl _, below_drewN HB.out _⟩
      | some p =>
        obtain ⟨v, q⟩ := p
        have HPP := Lib.hid hp
        clear hp
        go_wp2_with fail
        refine (cut_some A' (m - 1) (c0 - 1) rest' v q wr _ HCUT.out (by omega) (by omega) HPP.out).mono ?_
        rintro e w1 ⟨j, A1, n1, c1, A2, n2, c2, rfl, hr1, hnc1, hr2, hnc2, rfl⟩
        have hless := Tlv.piece_less HPP.out
        rw [HCUT.out.len, hr2.len] at hless
        have hn1 : n1 ≤ 65535 := by rw [← hr1.len]; exact (Tlv.piece_some HPP.out).2
        have HR1 := Lib.hid hr1
        have HR2 := Lib.hid hr2
        clear hif hc' hr1 hr2
        rcases Nat.eq_zero_or_pos n1 with h1 | h1
        · subst h1
          obtain rfl : v = [] := List.eq_nil_of_length_eq_zero HR1.out.len
          go_wp2_with fail
          go_ret2
          obtain rfl : (6, []) = R := by rw [← HP.out, Tlv.prs_empty _ _ _ _ HPP.out]
          exact ⟨none, 0, 0, rfl, FRd.nil, Nat.le_refl _, below_drewN HB.out _⟩
        · have hv : v ≠ [] := fun e => by have := HR1.out.len; rw [e] at this; simp at this; omega
          have HV := Lib.hid hv
          clear hv
          have z1 : ((n1 : Int) == 0) = false := by simp; omega
          rcases List.eq_nil_or_concat acc with rfl | ⟨l, f, hlf⟩
          · obtain rfl : k = 0 := HK.out.symm
            go_upto_region 12 with (fail)
            refine wp_region_lit ?_
            iterate 11 go_step
            have hr1' : Rd (wr.drewN j) (wr.drewN j).heap.size A1 n1 v := HR1.out.more HB.out.size
            refine (clone_new A1 n1 c1 v (wr.drewN j) hr1' (by omega)).mono ?_
            rintro e w2 ⟨A3, n3, c3, rfl, hr3, hnc3, hnew, hb2⟩
            have hcl2 : FCells G (wr.drewN j) (Value.slice A4 0 c4).ownBlock xs [] := HC.out
            have hown2 : (wr.drewN j).ownsRow w.heap.size 102 2 (Value.slice A4 0 c4) 0 xs := HO.out
            have hbg : BG G A3 n3 := fun _ b o e => hG b (Nat.le_trans HB.out.size (hnew b o e).1)
            have hx3 := rdx_new hown2 hr3 (fun b o e => (hnew b o e).1)
            have hn3 : n3 ≤ 9223372036854775807 := by rw [← hr3.len, HR1.out.len]; omega
            have hbw2 : Below w.heap.size w w2 := (below_drewN HB.out j).trans (hb2.mono HB.out.size)
            have HH := Lib.hid (And.intro (hcl2.below hb2) (And.intro (own_below hown2 hb2) (And.intro hx3 hbw2)))
            have hws2 : w.heap.size ≤ w2.heap.size := hbw2.size
            clear hr1' hr3 hnew hb2 hcl2 hown2 hx3 hbw2
            simp only []
            iterate 7 go_step
            refine wpList_append_one rfl (.tmp 42) (.tmp 47) 98 102 _ 2 32 rfl Tryd.underlying98 info39 rfl (by omega) w.heap.size _ 0 xs rfl #[.int .u8 t.toNat, .slice A3 n3 c3] rfl HH.out.2.1 rfl (by simp [Value.oneCell']) (by unfold maxLen; omega) (by omega) hws2 ?_
            intro v5 w5 hown5 hg5 hat5
            obtain ⟨hcl2, hown2, hx3, hbw2⟩ := HH.out
            have hcl5 := fcells_step hcl2 (t, v) A3 n3 c3 hnc3 hn3 hx3 hbg _ hg5 hat5
            have hbw5 : Below w.heap.size w w5 := (hbw2.alloc hws2 _).grown hg5 (by rw [size_alloc]; omega) (fun i hi => (hown2.lt i hi).1)
            have HN := Lib.hid (And.intro hown5 (And.intro hcl5 hbw5))
            clear hown5 hg5 hat5 hcl2 hown2 hx3 hbw2 hcl5 hbw5 HH
            go_simp
            go_wp2_with fail
            go_roundw
            case rel =>
              exact ⟨A2, n2, c2, q, [] ++ [(t, v)], _, 0 + 1, rfl, hnc2, HR2.out.back HB.out (Nat.le_refl _), rfl, HN.out.1, HN.out.2.1, by rw [← HP.out, Tlv.prs_next _ _ _ _ _ HPP.out HV.out (rises_nil t)], by omega, HN.out.2.2⟩
            case measure => simp [lenOf]; omega
          · rw [List.concat_eq_append] at hlf
            subst hlf
            obtain ⟨k', hk'⟩ : ∃ k', k = k' + 1 := ⟨l.length, by rw [← HK.out]; simp⟩
            subst hk'
            obtain ⟨g, cap, hv4, _, _⟩ := HO.out.form (by omega)
            injection hv4 with e1 _ e2
            subst e1 e2
            have hlast : wr.cell? ⟨g, k' * 2, none⟩ = some (.int .u8 f.1.toNat) := by
              have hl : l.length = k' := by have := HK.out; simp at this; omega
              obtain ⟨A9, n9, c9, k1, _⟩ := HC.out.2 k' f (by rw [List.getElem?_append_right (by omega), hl, Nat.sub_self]; rfl)
              have := HO.out.cells (g := g) rfl (2 * k') _ k1
              rw [Addr.add_mid, Nat.zero_add, Nat.mul_comm] at this
              exact this
            have hf8 := f.1.toNat_lt
            have ht8 := t.toNat_lt
            by_cases hlt : f.1.toNat < t.toNat
            · have q5 : decide (t.toNat ≤ f.1.toNat) = false := by simp; omega
              have q6 : decide ((t.toNat : Int) ≤ (f.1.toNat : Int)) = false := by simp; omega
              go_upto_region 12 with (fail)
              refine wp_region_lit ?_
              iterate 11 go_step
              have hr1' : Rd (wr.drewN j) (wr.drewN j).heap.size A1 n1 v := HR1.out.more HB.out.size
              refine (clone_new A1 n1 c1 v (wr.drewN j) hr1' (by omega)).mono ?_
              rintro e w2 ⟨A3, n3, c3, rfl, hr3, hnc3, hnew, hb2⟩
              have hcl2 : FCells G (wr.drewN j) (Value.slice (some ⟨g, 0, none⟩) (k' + 1) c4).ownBlock xs (l ++ [f]) := HC.out
              have hown2 : (wr.drewN j).ownsRow w.heap.size 102 2 (Value.slice (some ⟨g, 0, none⟩) (k' + 1) c4) (k' + 1) xs := HO.out
              have hbg : BG G A3 n3 := fun _ b o e => hG b (Nat.le_trans HB.out.size (hnew b o e).1)
              have hx3 := rdx_new hown2 hr3 (fun b o e => (hnew b o e).1)
              have hn3 : n3 ≤ 9223372036854775807 := by rw [← hr3.len, HR1.out.len]; omega
              have hbw2 : Below w.heap.size w w2 := (below_drewN HB.out j).trans (hb2.mono HB.out.size)
              have HH := Lib.hid (And.intro (hcl2.below hb2) (And.intro (own_below hown2 hb2) (And.intro hx3 hbw2)))
              have hws2 : w.heap.size ≤ w2.heap.size := hbw2.size
              clear hr1' hr3 hnew hb2 hcl2 hown2 hx3 hbw2
              simp only []
              iterate 7 go_step
              refine wpList_append_one rfl (.tmp 42) (.tmp 47) 98 102 _ 2 32 rfl Tryd.underlying98 info39 rfl (by omega) w.heap.size _ (k' + 1) xs rfl #[.int .u8 t.toNat, .slice A3 n3 c3] rfl HH.out.2.1 rfl (by simp [Value.oneCell']) (by unfold maxLen; omega) (by omega) hws2 ?_
              intro v5 w5 hown5 hg5 hat5
              obtain ⟨hcl2, hown2, hx3, hbw2⟩ := HH.out
              have hcl5 := fcells_step hcl2 (t, v) A3 n3 c3 hnc3 hn3 hx3 hbg _ hg5 hat5
              have hbw5 : Below w.heap.size w w5 := (hbw2.alloc hws2 _).grown hg5 (by rw [size_alloc]; omega) (fun i hi => (hown2.lt i hi).1)
              have HN := Lib.hid (And.intro hown5 (And.intro hcl5 hbw5))
              clear hown5 hg5 hat5 hcl2 hown2 hx3 hbw2 hcl5 hbw5 HH
              go_simp
              go_wp2_with fail
              go_roundw
              case rel =>
                exact ⟨A2, n2, c2, q, (l ++ [f]) ++ [(t, v)], _, k' + 1 + 1, rfl, hnc2, HR2.out.back HB.out (Nat.le_refl _), by rw [List.length_append, HK.out]; rfl, HN.out.1, HN.out.2.1, by rw [← HP.out, Tlv.prs_next _ _ _ _ _ HPP.out HV.out (by rw [rises_snoc]; simpa using hlt)], by omega, HN.out.2.2⟩
              case measure => simp [lenOf]; omega
            · have q5 : decide (t.toNat ≤ f.1.toNat) = true := by simp; omega
              have q6 : decide ((t.toNat : Int) ≤ (f.1.toNat : Int)) = true := by simp; omega
              go_wp2_with fail
              go_ret2
              obtain rfl : (5, []) = R := by rw [← HP.out, Tlv.prs_order _ _ _ _ _ HPP.out HV.out (by rw [rises_snoc]; simpa using hlt)]
              exact ⟨none, 0, 0, rfl, FRd.nil, Nat.le_refl _, below_drewN HB.out _⟩
end Go.Proofs.YtolkpjbbfopmnaaDoor.Tl
