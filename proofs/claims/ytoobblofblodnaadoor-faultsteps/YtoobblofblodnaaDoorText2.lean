/-
  What a Step over a number says: its place, its number there, the number.
-/
import Derived.Test.YtoobblofblodnaaDoorText
import Derived.Test.YtoobblofblodnaaDoorLib
import Derived.Test.YtoobblofblodnaaDoorAwake
import Derived.Lib.ItoaLen
import Derived.Deep.RegionWith
namespace Go.Proofs.YtoobblofblodnaaDoor
open Go.RowKit Go.Shelf

/-- The table of tens as it is laid. -/
def Tens (w : World) : Prop := Lib.TabIs Tryd.prog w "internal/strconv.uint64pow10" .u64 Lib.pow10Tab
theorem tensAt : Tryd.prog.globalNamed "internal/strconv.uint64pow10" = some 1 := by kernel_rfl
theorem Tens.lt {w : World} (h : Tens w) : 1 < w.heap.size := lt_of_cell (Lib.TabIs.cell h tensAt 0 (by decide))
theorem Tens.of_block {w w' : World} (h : Tens w) (hb : w'.heap[1]? = w.heap[1]?) : Tens w' := by
  unfold Tens Lib.TabIs World.var? at h ⊢
  rw [tensAt] at h ⊢
  simp only [Option.bind_some] at h ⊢
  rw [hb]
  exact h

def itoaB (n : Int) : ByteArray := ⟨(Lib.itoa n).toArray⟩
theorem itoa_any (n : Int) (h0 : -9223372036854775808 ≤ n) (h1 : n ≤ 9223372036854775807) (w : World) (ht : Tens w) :
    Calls Tryd.prog 34 #[.int .i64 n] w fun e w' => e = .returned (.string (itoaB n)) ∧ Below w.heap.size w w' := by
  refine (Tryd.strconv_Itoa n h0 h1 w ht).mono ?_
  rintro e w' ⟨rfl, k, os, rfl⟩
  refine ⟨rfl, rfl, rfl, rfl, ?_, fun i hi => ?_⟩
  · show w.heap.size ≤ (w.heap ++ os).size
    rw [Array.size_append]; omega
  · show (w.heap ++ os)[i]? = w.heap[i]?
    exact Array.getElem?_append_left hi

/-- What Error has written behind the places. -/
def txt1 (s : ByteArray) (n : Int) : ByteArray := s ++ ⟨#[32]⟩ ++ itoaB n ++ ⟨#[58, 32]⟩
def txt2 (c : Int) : ByteArray := ⟨#[101, 114, 114, 111, 114, 32]⟩ ++ itoaB c
/-- What Error says. -/
def said (s : ByteArray) (n c : Int) : ByteArray := ⟨((txt1 s n).data.toList ++ (txt2 c).data.toList).toArray⟩
theorem strCells_append (a b : ByteArray) : Lib.strCells a ++ Lib.strCells b = Lib.byteCells (a.data.toList ++ b.data.toList) := by
  simp [Lib.strCells, Lib.byteCells]

theorem row_kept {w w' : World} {B : Nat} {e : TypeId} {v : Value} {n : Nat} {xs : List Value} (h : w.ownsRow B e 1 v n xs) (hb : Below w.heap.size w w') : w'.ownsRow B e 1 v n xs :=
  ownsRow_same h (fun _ hg => hb.block _ (ownsRow_block h hg).2)
theorem builder_kept {w w' : World} {B b : Nat} {p : Value} {bs : List Value} (h : Lib.BuilderAt 75 5 B b p bs w) (hb : Below w.heap.size w w') : Lib.BuilderAt 75 5 B b p bs w' := by
  obtain ⟨h1, v, h2, h3, h4⟩ := h
  exact ⟨h1, v, (hb.block _ (lt_of_block h2)).trans h2, row_kept h3 hb, h4⟩

set_option maxRecDepth 100000 in
set_option maxHeartbeats 8000000 in
theorem error_any (b : Nat) (s : ByteArray) (n c : Int) (w : World) (hg : Laid w) (ht : Tens w) (he : (Err.step b s n (.num c)).In w) (hs : s.size ≤ 1000)
    (n0 : -9223372036854775808 ≤ n) (n1 : n ≤ 9223372036854775807) (c0 : -9223372036854775808 ≤ c) (c1 : c ≤ 9223372036854775807) :
    Calls Tryd.prog 18 #[.pointer (some ⟨b, 0, none⟩)] w fun ev w' => ev = .returned (.string (said s n c)) ∧ Below w.heap.size w w' := by
  have hp : ∀ w : World, (binOp .eql 40 (.pointer (some ⟨b, 0, none⟩)) (.pointer none)).run Tryd.prog w = .ok (.bool false) w := fun w => by kernel_rfl
  have hbl : b < w.heap.size := lt_of_block he.1
  have hb0 : Below w.heap.size w (w.alloc (.cells #[.pointer none, .slice none 0 0] 75)) := (Below.refl _ w).alloc (Nat.le_refl _) _
  have he0 := he.below hb0 he.top_le
  have hst := steps_any _ _ he0 (by simp [Err.depth])
  dsimp only [Err.val] at hst
  go_enter Tryd.func18, Tryd.ntmps18
  go_wp2_with (fail)
  refine hst.mono ?_
  rintro ev w1 ⟨v, rfl, hrow, hb1⟩
  obtain ⟨g, cap, rfl, hgl, hcap, hcells⟩ := row_cells hrow (by simp [Err.blocks])
  have d0 : w1.cell? ⟨g, 0, none⟩ = some (.pointer (some ⟨b, 0, none⟩)) := hcells 0 _ rfl
  clear hcells hst
  have e1 := he0.below hb1 he0.top_le
  have k0 : w1.cell? ⟨b, 0, none⟩ = some (.string s) := cell_of_block e1.1 0
  have k1 : w1.cell? ⟨b, 1, none⟩ = some (.int .i64 n) := cell_of_block e1.1 1
  dsimp only [Err.blocks, List.length_cons, List.length_nil] at hcap ⊢
  go_wp2_with (fail)
  refine wp_loop_rounds 2 ?_
  rw [rounds_succ]
  go_wp2_with (fail)
  have ht1 : Tens w1 := (ht.of_block (hb0.block 1 ht.lt)).of_block (hb1.block 1 (by have := ht.lt; simp; omega))
  have hbw : b < w1.heap.size := lt_of_cell k0
  have hsz1 : w.heap.size + 1 ≤ w1.heap.size := by have := hb1.size; simpa using this
  have hB1 : Lib.IsBuilder 75 5 w.heap.size w.heap.size [] w1 := .inl ⟨Nat.le_refl _, .slice none 0 0, (hb1.block _ (by simp)).trans (World.alloc_heap_new w _), ⟨rfl, .inl ⟨rfl, rfl⟩⟩, by simp [Value.ownBlock]⟩
  have hil : (itoaB n).size ≤ 21 := by
    have := Lib.itoa_length_le n n0 n1
    simpa [itoaB, ByteArray.size] using this
  have hts : (txt1 s n).size ≤ 1100 := by simp [txt1, ByteArray.size_append]; show s.size + 1 + (itoaB n).size + 2 ≤ 1100; omega
  have hct : ∀ W : World, Below w1.heap.size w1 W → Calls Tryd.prog 33 #[.pointer (some ⟨w.heap.size, 0, none⟩), .string (s ++ ⟨#[32]⟩ ++ itoaB n ++ ⟨#[58, 32]⟩)] W fun e w' => e = .returned (.tuple #[.int .i64 (txt1 s n).size, .nilIface]) ∧ (Lib.BuilderAt 75 5 w.heap.size w.heap.size (.pointer (some ⟨w.heap.size, 0, none⟩)) (Lib.strCells (txt1 s n)) w' ∧ Below w.heap.size W w') := fun W hW => by
    have hB : Lib.IsBuilder 75 5 w.heap.size w.heap.size [] W := by
      rcases hB1 with h | h
      · exact .inl (builder_kept h hW)
      · exact .inr (builder_kept h hW)
    exact writeString w.heap.size w.heap.size [] (txt1 s n) W hB (by simp; omega) (by have := hW.size; omega)
  go_region_with (first | (go_at_call 34; refine (itoa_any n n0 n1 _ (by exact ht1)).mono ?_; rintro ev w2 ⟨rfl, hb2⟩; have k0' : w2.cell? ⟨b, 0, none⟩ = some (.string s) := (hb2.cell (p := ⟨b, 0, none⟩) hbw).trans k0) | (go_at_call 33; refine (hct w2 ⟨hb2.os, hb2.tape, hb2.output, hb2.size, hb2.block⟩).mono ?_; rintro ev w3 ⟨rfl, hb3, hbel3⟩))
  all_goals
    have hb2' : Below w1.heap.size w1 w2 := ⟨hb2.os, hb2.tape, hb2.output, hb2.size, hb2.block⟩
    have hbA : Below w.heap.size w w3 := (hb0.trans (hb1.mono (by simp))).trans ((hb2'.mono (by omega)).trans hbel3)
    have e3 := he.below hbA he.top_le
    have g3 := hg.below hbA
    have t3 : Tens w3 := ht.of_block (hbA.block 1 ht.lt)
    have hc3 := code_any _ w3 g3 e3 (by simp [Err.depth])
    dsimp only [Err.val, Err.code] at hc3
    clear hct k0' hb2 d0 k0 k1 hB1 e1 he0
    go_wp2_with (fail)
    rw [rounds_succ]
    go_wp2_with (fail)
    refine hc3.mono ?_
    rintro ev w4 ⟨rfl, hb4⟩
    clear hc3
    have t4 : Tens w4 := t3.of_block (hb4.block 1 t3.lt)
    go_wp2_with (fail)
    refine (itoa_any c c0 c1 w4 t4).mono ?_
    rintro ev w5 ⟨rfl, hb5⟩
    have hbB := builder_kept (builder_kept hb3 hb4) hb5
    have hcl : (itoaB c).size ≤ 21 := by
      have := Lib.itoa_length_le c c0 c1
      simpa [itoaB, ByteArray.size] using this
    have hs5 : w.heap.size ≤ w5.heap.size := by have := hbA.size; have := hb4.size; have := hb5.size; omega
    have h2s : (txt2 c).size ≤ 30 := by simp [txt2, ByteArray.size_append]; show 6 + (itoaB c).size ≤ 30; omega
    have hws := writeString w.heap.size w.heap.size (Lib.strCells (txt1 s n)) (txt2 c) w5 (.inr hbB) (by rw [Lib.strCells_length]; omega) hs5
    rw [strCells_append] at hws
    unfold txt2 at hws
    go_wp2_with (fail)
    refine hws.mono ?_
    rintro ev w6 ⟨rfl, hb6, hbel6⟩
    clear hws
    have hstr := Tryd.Builder_String w.heap.size w.heap.size _ w6 (.inr hb6) (by simp)
    go_wp2_with (fail)
    refine hstr.mono ?_
    rintro ev w7 ⟨rfl, hb7⟩
    go_wp2
    go_ret
    exact ⟨rfl, ((((hbA.trans (hb4.mono hbA.size)).trans (hb5.mono (by have := hbA.size; have := hb4.size; omega)))).trans hbel6).trans hb7⟩
end Go.Proofs.YtoobblofblodnaaDoor
