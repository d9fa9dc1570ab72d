/-
  The law FaultMore.
-/
import Derived.Test.YtoobblofblodnaaDoorCodes
import Derived.Test.YtoobblofblodnaaDoorIsAll
namespace Go.Proofs.YtoobblofblodnaaDoor
open Go.RowKit Go.Shelf

set_option maxRecDepth 100000 in
set_option maxHeartbeats 4000000 in
theorem more_law (code : Int) (A : Option Addr) (n cap : Nat) (ps : List Pl) (s : ByteArray) (k : Int) (w : World) (hg : Laid w) (hr : PRd w A n ps) (hn : n ≤ cap) (hm : cap ≤ maxLen) :
    Calls Tryd.prog 8 #[.int .i64 code, .slice A n cap, .string s, .int .i64 k] w fun e w' => e = .returned (.bool true) ∧ Below w.heap.size w w' := by
  have hd : ∀ {e : Err}, MadeOf code (ps.take 20) e → e.depth ≤ 21 := fun h => by
    have := h.depth
    simp at this
    omega
  have hmk := fun w1 (hb1 : Below w.heap.size w w1) => made_any code A n cap ps w1 (hr.below hb1) hn hm
  go_enter Tryd.func8, Tryd.ntmps8
  go_wp2_with (go_at_call 9; refine (awake_any w hg).mono ?_; rintro e w1 ⟨rfl, hb1⟩)
  refine (hmk w1 hb1).mono ?_
  rintro ev w2 ⟨e, rfl, hin, hb2, hmade⟩
  clear hmk
  have hde := hd hmade
  have hbl := blocks_le e
  have hpl := places_length e
  have hplen : e.places.length ≤ 21 := by omega
  clear hpl hbl
  have hin3 : (Err.step w2.heap.size s k e).In (w2.alloc (.cells #[.string s, .int .i64 k, e.val] 46)) := step_in hin
  have hb3 : Below w2.heap.size w2 (w2.alloc (.cells #[.string s, .int .i64 k, e.val] 46)) := (Below.refl _ _).alloc (Nat.le_refl _) _
  have hin3' := hin.below hb3 hin.top_le
  have g3 := ((hg.below hb1).below hb2).below hb3
  obtain ⟨te, xe, hve⟩ := e.val_iface
  rw [hve] at hin3 hb3 hin3' g3 ⊢
  go_wp2_with (go_at_call 16; refine (at_some s k te xe w2).mono ?_; rintro e w' ⟨rfl, rfl⟩)
  generalize w2.alloc (.cells #[.string s, .int .i64 k, .iface te xe] 46) = w3 at hin3 hb3 hin3' g3 ⊢
  have a1 := where_any e w3 hin3' (by omega)
  rw [hve] at a1
  refine a1.mono ?_
  clear a1
  rintro ev w4 ⟨va, rfl, hra, hb4⟩
  have hin4 := hin3.below hb4 hin3.top_le
  have a2 := where_any _ w4 hin4 (by simp [Err.depth]; omega)
  obtain ⟨la, hla⟩ : ∃ la, la = e.places.length := ⟨_, rfl⟩
  rw [← hla] at hplen hra
  have HL := Lib.hid hla
  clear hla
  obtain ⟨Aa, ca, rfl, ha1, ha2, _⟩ := slice_of_row hra
  dsimp only [Err.val] at a2
  go_wp2_with (fail)
  refine a2.mono ?_
  clear a2
  rintro ev w5 ⟨vb, rfl, hrb, hb5⟩
  simp only [Err.places, List.length_cons, List.map_cons] at hrb
  rw [← HL.out] at hrb
  obtain ⟨gb, cb, rfl, hgl, hcb, hcells⟩ := row_cells hrb (by omega)
  have d0 : w5.cell? ⟨gb, 0, none⟩ = some (.string s) := hcells 0 _ rfl
  clear hcells
  have hin5 := hin4.below hb5 hin4.top_le
  have c1 := code_any _ w5 ((g3.below hb4).below hb5) hin5 (by simp [Err.depth]; omega)
  dsimp only [Err.val, Err.code] at c1
  go_wp2_with (fail)
  refine c1.mono ?_
  clear c1
  rintro ev w6 ⟨rfl, hb6⟩
  have hin6 := hin5.below hb6 hin5.top_le
  have c2 := code_any e w6 (((g3.below hb4).below hb5).below hb6) hin6.2.2 (by omega)
  rw [hve] at c2
  go_wp2_with (fail)
  refine c2.mono ?_
  clear c2
  rintro ev w7 ⟨rfl, hb7⟩
  have hin7 := hin6.below hb7 hin6.top_le
  have i1 := is_any _ code w7 hin7 (by simp [Err.depth]; omega)
  dsimp only [Err.val, Err.isNum] at i1
  have hcc : (e.code == e.code) = true := by simp
  go_wp2_with (fail)
  refine i1.mono ?_
  clear i1
  rintro ev w8 ⟨rfl, hb8⟩
  have hin8 := hin7.below hb8 hin7.top_le
  have i2 := is_any e code w8 hin8.2.2 (by omega)
  rw [hve] at i2
  go_wp2_with (fail)
  refine i2.mono ?_
  clear i2
  rintro ev w9 ⟨rfl, hb9⟩
  have s1 := hb1.size
  have s2 := hb2.size
  have s3 := hb3.size
  have s4 := hb4.size
  have s5 := hb5.size
  have s6 := hb6.size
  have s7 := hb7.size
  have s8 := hb8.size
  have d9 : w9.cell? ⟨gb, 0, none⟩ = some (.string s) := (hb9.cell (p := ⟨gb, 0, none⟩) (by simp; omega)).trans ((hb8.cell (p := ⟨gb, 0, none⟩) (by simp; omega)).trans ((hb7.cell (p := ⟨gb, 0, none⟩) (by simp; omega)).trans ((hb6.cell (p := ⟨gb, 0, none⟩) hgl).trans d0)))
  have hbb : (Err.isNum code e == Err.isNum code e) = true := by simp
  obtain ⟨bi, hbi⟩ : ∃ bi, bi = Err.isNum code e := ⟨_, rfl⟩
  rw [← hbi] at hbb ⊢
  obtain ⟨ci, hci⟩ : ∃ ci, ci = e.code := ⟨_, rfl⟩
  rw [← hci] at hcc ⊢
  have HB := Lib.hid ((((((((hb1.trans (hb2.mono (by omega))).trans (hb3.mono (by omega))).trans (hb4.mono (by omega))).trans (hb5.mono (by omega))).trans (hb6.mono (by omega))).trans (hb7.mono (by omega))).trans (hb8.mono (by omega))).trans (hb9.mono (by omega)))
  clear hbi hci hin8 hin7 hin6 hin5 hin4 hin3' hin3 hin hmade hd hra hrb g3 hg hr hb1 hb2 hb3 hb4 hb5 hb6 hb7 hb8 hb9 d0 hve s1 s2 s3 s4 s5 s6 s7 s8 hgl HL
  go_wp2
  go_ret
  exact ⟨rfl, HB.out⟩
end Go.Proofs.YtoobblofblodnaaDoor
