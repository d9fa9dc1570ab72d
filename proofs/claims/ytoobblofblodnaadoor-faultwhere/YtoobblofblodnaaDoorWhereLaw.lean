/-
  The law FaultWhere.
-/
import Derived.Test.YtoobblofblodnaaDoorCodes
import Derived.Deep.QuietTactic
import Derived.BigQuiet
namespace Go.Proofs.YtoobblofblodnaaDoor
open Go.RowKit Go.Shelf

theorem wheres_snoc (l : List Pl) (p : Pl) : wheres (l ++ [p]) = wheres l ++ (if p.other then [] else [p.s]) := by
  unfold wheres
  rw [List.filterMap_append]
  cases h : p.other <;> simp [h]
theorem wheres_le (l : List Pl) : (wheres l).length ≤ l.length := List.length_filterMap_le _ _

set_option maxRecDepth 100000 in
set_option maxHeartbeats 4000000 in
theorem where_law (code : Int) (A : Option Addr) (n cap : Nat) (ps : List Pl) (w : World) (hg : Laid w) (hr : PRd w A n ps) (hn : n ≤ cap) (hm : cap ≤ maxLen) :
    Calls Tryd.prog 5 #[.int .i64 code, .slice A n cap] w fun e w' => e = .returned (.bool true) ∧ Below w.heap.size w w' := by
  have hd : ∀ {e : Err}, MadeOf code (ps.take 20) e → e.depth ≤ 900 := fun h => by
    have := h.depth
    simp at this
    omega
  obtain ⟨i0, hi, hz0, hz1, hz2⟩ := info_parts info9
  have hm' := hm
  unfold maxLen at hm'
  go_enter Tryd.func5, Tryd.ntmps5
  go_wp2_with (go_at_call 9; refine (awake_any w hg).mono ?_; rintro e w1 ⟨rfl, hb1⟩)
  have hr1 := hr.below hb1
  have hg1 := hg.below hb1
  have hs1 := hb1.size
  obtain ⟨hlen, hcells⟩ := hr1
  have hlen1 : n ≤ ps.length := by omega
  clear hlen
  go_loopw [5, 14] (fun p i wr => ∃ k : Nat, k ≤ n ∧ i = .int .i64 k ∧ wr.ownsRow w1.heap.size 9 1 p (wheres ((ps.take 20).take k)).length ((wheres ((ps.take 20).take k)).map .string) ∧ Below w1.heap.size w1 wr) (fun _ i _ => n - (intOf i).toNat)
  case atStart => exact ⟨0, Nat.zero_le _, rfl, ⟨rfl, .inl ⟨rfl, rfl⟩⟩, Below.refl _ _⟩
  case round =>
    obtain ⟨k, hk, rfl, hown, hbel⟩ := hrel
    have hsr := hbel.size
    by_cases hlt : k < n
    · obtain ⟨q, hq⟩ : ∃ q, ps[k]? = some q := ⟨_, List.getElem?_eq_getElem (by omega)⟩
      rcases hcells with h | ⟨b, o, rfl, hbl, hcl⟩
      · omega
      obtain ⟨d0, d1, d2⟩ := hcl k q hq
      have c0 : wr.cell? ⟨b, o + k * 3, none⟩ = some (.string q.s) := (hbel.cell (p := ⟨b, o + k * 3, none⟩) hbl).trans d0
      have c1 : wr.cell? ⟨b, o + k * 3 + 1, none⟩ = some (.int .i64 q.n) := (hbel.cell (p := ⟨b, o + k * 3 + 1, none⟩) hbl).trans d1
      have c2 : wr.cell? ⟨b, o + k * 3 + 2, none⟩ = some (.bool q.other) := (hbel.cell (p := ⟨b, o + k * 3 + 2, none⟩) hbl).trans d2
      by_cases h20 : k < 20
      · have htk : (ps.take 20).take (k + 1) = (ps.take 20).take k ++ [q] := by
          rw [List.take_add_one, List.getElem?_take, if_pos h20, hq]; rfl
        have hws := wheres_snoc ((ps.take 20).take k) q
        rw [← htk] at hws
        have HW := Lib.hid hws
        have hle := wheres_le ((ps.take 20).take k)
        have hle2 : ((ps.take 20).take k).length ≤ 20 := by simp; omega
        clear hws htk hcl d0 d1 d2 hq
        obtain ⟨ss, sn, so⟩ := q
        dsimp only at c0 c1 c2
        cases so
        · have hown1 : ((wr.alloc (.cells #[.string ss, .int .i64 sn, .bool false] 35)).alloc (.cells #[.string ss] 9)).ownsRow w1.heap.size 9 1 u5 (wheres ((ps.take 20).take k)).length ((wheres ((ps.take 20).take k)).map .string) :=
            ownsRow_same hown (fun g hg => (Below.heap_alloc _ _ _ (by have := (ownsRow_block hown hg).2; simp; omega)).trans (Below.heap_alloc _ _ _ (ownsRow_block hown hg).2))
          have hsrc := src_one (wr.alloc (.cells #[.string ss, .int .i64 sn, .bool false] 35)) (.string ss) 9
          rw [World.size_alloc] at hsrc
          go_wp2_with (at_builtin; refine wpList_append_own _ rfl _ _ 33 rfl w1.heap.size 9 i0 (.string ⟨#[]⟩) 1 16 Tryd.underlying33 hi hz0 hz1 hz2 rfl (by decide) u5 _ _ rfl hown1 ⟨wr.heap.size + 1, 0, none⟩ 1 1 [.string ss] rfl rfl hsrc (by intro u hu; simp at hu; subst hu; rfl) (by simp only [maxLen]; omega) (by omega) (by simp; omega) ?_; intro v' w2 hown' hgrow _)
          have hbb : Below w1.heap.size w1 w2 := ((hbel.alloc hsr _).alloc (by simp; omega) _).grown hgrow (by simp; omega) (fun g hg => (ownsRow_block hown hg).1)
          refine ⟨⟨k + 1, by omega, by go_num, ?_, hbb⟩, by simp [intOf]; omega⟩
          rw [HW.out]
          simpa using hown'
        · go_wp2
          refine ⟨⟨k + 1, by omega, by go_num, ?_, hbel.alloc hsr _⟩, by simp [intOf]; omega⟩
          rw [HW.out]
          simpa using ownsRow_same hown (fun g hg => Below.heap_alloc _ _ _ (ownsRow_block hown hg).2)
      · have htk : (ps.take 20).take (k + 1) = (ps.take 20).take k := by
          rw [List.take_of_length_le (i := k + 1) (by rw [List.length_take]; omega), List.take_of_length_le (i := k) (by rw [List.length_take]; omega)]
        have HT := Lib.hid htk
        clear htk hcl d0 d1 d2 hq
        go_wp2
        refine ⟨⟨k + 1, by omega, by go_num, ?_, hbel.alloc hsr _⟩, by simp [intOf]; omega⟩
        rw [HT.out]
        exact ownsRow_same hown (fun g hg => Below.heap_alloc _ _ _ (ownsRow_block hown hg).2)
    · obtain ⟨wa, rfl⟩ : ∃ wa, wa = wr := ⟨_, rfl⟩
      have hkt : (ps.take 20).take k = ps.take 20 := List.take_of_length_le (by rw [List.length_take]; have := hr.len; omega)
      rw [hkt] at hown
      clear hkt
      have hwl : (wheres (ps.take 20)).length ≤ 20 := by have := wheres_le (ps.take 20); rw [List.length_take] at this; omega
      obtain ⟨Aw, cw, rfl, hcw1, hcw2, hwc⟩ := slice_of_row hown
      go_wp2_with (fail)
      refine (made_any code A n cap ps wa (hr.below (hb1.trans (hbel.mono hs1))) hn hm).mono ?_
      rintro ev w2 ⟨e, rfl, hin, hb2, hmade⟩
      have hwh := where_any e w2 hin (hd hmade)
      rw [hmade.places] at hwh
      obtain ⟨te, xe, hve⟩ := e.val_iface
      rw [hve] at hwh ⊢
      go_wp2_with (fail)
      refine hwh.mono ?_
      clear hwh
      rintro ev w3 ⟨v, rfl, hrow3, hb3⟩
      obtain ⟨Ag, cg, rfl, hcg1, hcg2, hgc⟩ := slice_of_row hrow3
      obtain ⟨m, hmm⟩ : ∃ m, m = (wheres (ps.take 20)).length := ⟨_, rfl⟩
      rw [← hmm] at hwl hcw1 hwc hcg1 hgc ⊢
      have HM := Lib.hid hmm
      clear hmm
      have hs2 := hb2.size
      have hs3 := hb3.size
      go_wp2_with (fail)
      go_loopw [43] (fun i wv => ∃ j : Nat, j ≤ m ∧ i = .int .i64 j ∧ Below w3.heap.size w3 wv) (fun i _ => m - (intOf i).toNat)
      case atStart => exact ⟨0, Nat.zero_le _, rfl, Below.refl _ _⟩
      case round =>
        obtain ⟨j, hj, rfl, hbq⟩ := hrel
        by_cases hjl : j < m
        · obtain ⟨s, hsj⟩ : ∃ s, (wheres (ps.take 20))[j]? = some s := ⟨_, List.getElem?_eq_getElem (by have := HM.out; omega)⟩
          rcases hwc with h | ⟨gw, rfl, hgwl, hwc⟩
          · omega
          rcases hgc with h | ⟨gg, rfl, hggl, hgc⟩
          · omega
          have cw1 : wa.cell? ⟨gw, j, none⟩ = some (.string s) := hwc j _ (by rw [List.getElem?_map, hsj]; rfl)
          have cw2 : wr.cell? ⟨gw, j, none⟩ = some (.string s) := (hbq.cell (p := ⟨gw, j, none⟩) (by simp; omega)).trans ((hb3.cell (p := ⟨gw, j, none⟩) (by simp; omega)).trans ((hb2.cell (p := ⟨gw, j, none⟩) hgwl).trans cw1))
          have cg2 : wr.cell? ⟨gg, j, none⟩ = some (.string s) := (hbq.cell (p := ⟨gg, j, none⟩) hggl).trans (hgc j _ (by rw [List.getElem?_map, hsj]; rfl))
          clear hwc hgc hsj cw1
          go_wp2_with (fail)
          go_quiet (fail)
          go_wp2
          have hbq2 : Below w3.heap.size w3 (wr.drewN nq) := ⟨hbq.os, hbq.tape, hbq.output, hbq.size, hbq.block⟩
          refine ⟨⟨j + 1, by omega, by go_num, hbq2⟩, by simp [intOf]; omega⟩
        · go_wp2_with (go_at_call 14; refine (where_nil _).mono ?_; rintro ev w5 ⟨v5, rfl, hrow5, hb5⟩; obtain ⟨A5, c5, rfl, hc51, hc52, _⟩ := slice_of_row hrow5)
          go_ret
          have hsq := hbq.size
          exact ⟨rfl, (((hb1.trans (hbel.mono hs1)).trans (hb2.mono (by omega))).trans (hb3.mono (by omega))).trans ((hbq.mono (by omega)).trans (hb5.mono (by omega)))⟩
end Go.Proofs.YtoobblofblodnaaDoor
