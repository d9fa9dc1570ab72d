/-
  The law TreeCuts returns true for any calls and key; conditions: they are read, the table holds its words.
-/
import Derived.Test.YtceillnmcccckaaDoorAllM
import Derived.Test.YtceillnmcccckaaDoorLists
namespace Go.Proofs.YtceillnmcccckaaDoor
open Go.RowKit
open Tr

theorem info44s : (Tryd.prog.info? 44).map (·.size) = some 2 := by kernel_rfl
theorem pair_one (A : Option Addr) (n c : Nat) (A' : Option Addr) (n' c' : Nat) : (#[.slice A n c, .slice A' n' c'] : Array Value).all (·.oneCell') = true :=
  all_oneCell_toArray (cs := [.slice A n c, .slice A' n' c']) (fun u hu => by
    simp only [List.mem_cons, List.not_mem_nil, or_false] at hu
    rcases hu with rfl | rfl <;> rfl)
theorem cutL_head {p : List UInt8 × List UInt8} {r : Prs} (h : Srt (p :: r)) : cutL (p :: r) p.1 = r := by
  show (p :: r).filter (fun q => decide (q.1 ≠ p.1)) = r
  rw [List.filter_cons_of_neg (by simp)]
  exact List.filter_eq_self.2 fun q hq => by
    have := (List.pairwise_cons.1 h).1 q hq
    simpa using fun e => lt_ne this e.symm
theorem findL_put (k v : List UInt8) : ∀ l : Prs, findL (putL l k v) k = some v
  | [] => by show (if k = k then some v else none) = some v; rw [if_pos rfl]
  | p :: r => by
    show findL (if lt p.1 k then p :: putL r k v else if p.1 = k then (k, v) :: r else (k, v) :: p :: r) k = some v
    split
    · rename_i h
      show (if p.1 = k then some p.2 else findL (putL r k v) k) = some v
      rw [if_neg (lt_ne h), findL_put k v r]
    · split
      · show (if k = k then some v else _) = some v
        rw [if_pos rfl]
      · show (if k = k then some v else _) = some v
        rw [if_pos rfl]
theorem cutL_put (k v : List UInt8) : ∀ l : Prs, findL l k = none → cutL (putL l k v) k = l ∧ (putL l k v).length = l.length + 1
  | [], _ => by simp [putL, cutL]
  | p :: r, h => by
    have hp : p.1 ≠ k := fun e => by
      have : findL (p :: r) k = some p.2 := by show (if p.1 = k then some p.2 else _) = _; rw [if_pos e]
      rw [this] at h; cases h
    have hr : findL r k = none := by
      have : findL (p :: r) k = findL r k := by show (if p.1 = k then some p.2 else _) = _; rw [if_neg hp]
      rwa [this] at h
    have hc := findL_none_cut h
    show cutL (if lt p.1 k then p :: putL r k v else if p.1 = k then (k, v) :: r else (k, v) :: p :: r) k = _ ∧ (if lt p.1 k then p :: putL r k v else if p.1 = k then (k, v) :: r else (k, v) :: p :: r).length = _
    rw [if_neg hp]
    split
    · obtain ⟨i1, i2⟩ := cutL_put k v r hr
      refine ⟨?_, by rw [List.length_cons, i2]; rfl⟩
      show (p :: putL r k v).filter _ = _
      rw [List.filter_cons_of_pos (by simpa using hp)]
      exact congrArg (p :: ·) i1
    · refine ⟨?_, rfl⟩
      show ((k, v) :: p :: r).filter _ = _
      rw [List.filter_cons_of_neg (by simp)]
      exact hc

set_option maxRecDepth 100000 in
set_option maxHeartbeats 4000000 in
theorem treeCuts_any (A : Option Addr) (n c : Nat) (cs : List Ac) (D : Option Addr) (m d : Nat) (k : List UInt8) (w : World) (hc : ARd w w.heap.size A n cs) (hn : n ≤ 9223372036854775807) (hk : Rd w w.heap.size D m k) (ht : Sh.Tab w 1) (hw : 1 < w.heap.size) :
    Calls Tryd.prog 10 #[.slice A n c, .slice D m d] w fun e w' => e = .returned (.bool true) ∧ Below w.heap.size w w' := by
  have HAW := Lib.hid (awake_any w ht hw)
  have HC := Lib.hid hc
  have HK := Lib.hid hk
  have HT := Lib.hid ht
  clear hc ht hk
  go_enter Tryd.func10, Tryd.ntmps10
  go_wp2_with fail
  refine HAW.out.mono ?_
  rintro e w1 ⟨rfl, hb1⟩
  have hs1 := hb1.size
  have HC1 := Lib.hid (grow_any A n c cs 60 w1 (ARd.more (HC.out.below hb1 (Nat.le_refl _)) hs1) hn (by omega) (Sh.tab_below HT.out hb1 hw) (by omega))
  have HB1 := Lib.hid hb1
  clear hb1 HAW
  go_wp2_with fail
  refine HC1.out.mono ?_
  rintro e w2 ⟨g, A2, n2, c2, rfl, hT2, hp2, hnc2, _, hF2, hm2, hb2⟩
  generalize grow 60 cs none = o at *
  obtain ⟨ps, hps⟩ : ∃ ps, optLeaves o = ps := ⟨_, rfl⟩
  rw [hps] at hp2
  have hs2 := hb2.size
  have HLN : Hid (oln o = n2) := Lib.hid (by rw [← oln_leaves, hps]; exact hp2.len)
  have hn60 : n2 ≤ 60 := by have := HLN.out; omega
  have HLEN := Lib.hid hp2.len
  have HPS : Hid (optLeaves o = ps.drop 0) := Lib.hid hps
  have HF2 := Lib.hid hF2
  have HT2 := Lib.hid hT2
  have HP2 := Lib.hid hp2
  have HB2 := Lib.hid (HB1.out.trans (hb2.mono hs1))
  clear hT2 hp2 hF2 hb2 HC1 HB1 hm2 hps
  by_cases hmk : 1 ≤ m ∧ m ≤ 96
  · obtain ⟨hm1, hm96⟩ := hmk
    have HC2 := Lib.hid (idx_any A2 n2 c2 D m d ps k w2 HP2.out ((HK.out.below HB2.out (Nat.le_refl _)).more HB2.out.size) (by omega))
    go_wp2_with fail
    refine HC2.out.mono ?_
    rintro e w3 ⟨hb3, hpost⟩
    have hs3 := hb3.size
    have HT3 := Lib.hid (HT2.out.on hb3)
    have HP3 := Lib.hid (HP2.out.on hb3)
    have HB3 := Lib.hid (HB2.out.trans (hb3.mono HB2.out.size))
    clear hb3 HC2 HT2 HP2 HB2
    have HF3 := HF2
    clear HF2
    rcases hpost with ⟨hf, rfl⟩ | ⟨i, p, _, _, _, rfl⟩
    · have HFN := Lib.hid hf
      clear hf
      obtain ⟨z, hz, hz0⟩ : ∃ z : Int, (-1 : Int) = z ∧ z < 0 := ⟨-1, rfl, by omega⟩
      rw [hz]
      clear hz
      have HK3 := Lib.hid ((HK.out.below HB3.out (Nat.le_refl _)).more HB3.out.size)
      have hsw := HB3.out.size
      have HC3 := Lib.hid (put_any o g D none m d 0 0 k [] w3 HT3.out HK3.out Rd.nil hm1 hm96 (by omega) (by have := HLN.out; omega) (Sh.tab_below HT.out HB3.out hw) (room (by omega)))
      go_wp2_with fail
      refine HC3.out.mono ?_
      rintro e w4 ⟨g4, rfl, hg4, hT4, hb4⟩
      have hs4 := hb4.size
      have HT4 := Lib.hid hT4
      have HB4 := Lib.hid (HB3.out.trans (hb4.mono HB3.out.size))
      have HP4 := Lib.hid (HP3.out.on hb4)
      have HTO4 := Lib.hid (HT3.out.on hb4)
      have HK4 := Lib.hid ((HK3.out.below hb4 (Nat.le_refl _)).more hs4)
      have HFP := Lib.hid (HF3.out.put k [])
      have HLP : Hid ((oput o k []).leaves = putL ps k []) := Lib.hid (by rw [oput_leaves o k [] HF3.out.srt, HPS.out]; rfl)
      have hln4 : (oput o k []).n = n2 + 1 := by rw [← T.n_leaves, HLP.out, (cutL_put k [] ps HFN.out).2, HLEN.out]
      have HC4 := Lib.hid (cut_any (some (some (oput o k []))) (some g4) D m d k w4 ⟨g4, rfl, hT4⟩ HK4.out (by show (oput o k []).n ≤ _; omega) (Sh.tab_below HT.out HB4.out hw) (room (by omega)))
      clear hT4 hb4 HC3 HT3 HB3 HP3 HK3
      go_wp2_with fail
      refine HC4.out.mono ?_
      rintro e w5 hpost
      have hfi : ofind (some (oput o k [])) k = some [] := by
        rw [ofind_leaves _ _ HFP.out.srt, show optLeaves (some (oput o k [])) = (oput o k []).leaves from rfl, HLP.out, findL_put]
      rcases hpost with ⟨hf, _⟩ | ⟨v5, g5, hf, rfl, hg5, hT5, hb5⟩
      · exact absurd hf (by show ofind (some (oput o k [])) k ≠ none; rw [hfi]; simp)
      have hs5 := hb5.size
      have hfs : (ofind (some (oput o k [])) k).isSome = true := by rw [hfi]; rfl
      change TIn All w5 w5.heap.size (ocut (some (oput o k [])) k) g5 at hT5
      have HL5 : Hid (optLeaves (ocut (some (oput o k [])) k) = ps) := Lib.hid (by
        rw [ocut_leaves _ _ HFP.out.srt hfs, show optLeaves (some (oput o k [])) = (oput o k []).leaves from rfl, HLP.out, (cutL_put k [] ps HFN.out).1])
      have hol5 : oln (ocut (some (oput o k [])) k) = n2 := by rw [← oln_leaves, HL5.out, HLEN.out]
      have HC5 := Lib.hid (all_any (ocut (some (oput o k [])) k) g5 w5 hT5 (by omega))
      rw [HL5.out] at HC5
      have HT5 := Lib.hid (HT4.out.on hb5)
      have HB5 := Lib.hid (HB4.out.trans (hb5.mono HB4.out.size))
      have HP5 := Lib.hid (HP4.out.on hb5)
      have HTO5 := Lib.hid (HTO4.out.on hb5)
      have HN4 := Lib.hid hln4
      clear hf hT5 hb5 HC4 HT4 HB4 HP4 HTO4 HK4 hfi hfs hol5 HL5 hln4
      go_wp2_with fail
      refine HC5.out.mono ?_
      rintro e w6 hpost
      obtain ⟨A6, n6, c6, rfl, hp6, hnc6, _, hb6⟩ := hpost.pairs
      have hs6 := hb6.size
      have HC6 := Lib.hid (samePairs_yes A6 n6 c6 A2 n2 c2 ps w6 hp6 (HP5.out.on hb6) (by have := hp6.len; have := HLEN.out; omega))
      have HT6 := Lib.hid (HT5.out.on hb6)
      have HB6 := Lib.hid (HB5.out.trans (hb6.mono HB5.out.size))
      have HP6 := Lib.hid (HP5.out.on hb6)
      have HTO6 := Lib.hid (HTO5.out.on hb6)
      clear hpost hp6 hb6 HC5 HT5 HB5 HP5 HTO5
      go_wp2_with fail
      refine HC6.out.mono ?_
      rintro e w7 ⟨rfl, hb7⟩
      have hs7 := hb7.size
      have HC7 := Lib.hid (len_any (some (some (oput o k []))) (some g4) w7 ⟨g4, rfl, HT6.out.on hb7⟩ (by show (oput o k []).n ≤ _; have := HN4.out; omega))
      rw [show (oln (topOf (some (some (oput o k [])))) : Nat) = n2 + 1 from HN4.out] at HC7
      have HB7 := Lib.hid (HB6.out.trans (hb7.mono HB6.out.size))
      have HP7 := Lib.hid (HP6.out.on hb7)
      have HTO7 := Lib.hid (HTO6.out.on hb7)
      clear hb7 HC6 HT6 HB6 HP6 HTO6
      go_wp2_with fail
      refine HC7.out.mono ?_
      rintro e w8 ⟨rfl, rfl⟩
      have HTq := HTO7
      have HPq := HP7
      have HBq := HB7
      have HFq := HF3
      clear HTO7 HP7 HB7 HF3 HC7 HFP HLP HN4 HFN
      generalize w7 = wq at *
      go_wp2_with fail
      go_loopg [5, 70] n2 (fun gk s5 s70 wx => ∃ i oi gi, i + gk = n2 ∧ s70 = .int .i64 (i : Nat) ∧ s5 = ptr (some gi) ∧ TIn All wx wx.heap.size oi gi ∧ Fine oi ∧ optLeaves oi = ps.drop i ∧ Below wq.heap.size wq wx)
      case atStart => exact ⟨0, o, g, by omega, rfl, rfl, HTq.out, HFq.out, HPS.out, Below.refl _ _⟩
      case round =>
        clear HTq
        obtain ⟨i, oi, gi, hi, rfl, rfl, hT, hF, hL, hb⟩ := hrel
        have HTi := Lib.hid hT
        have HFi := Lib.hid hF
        have HLi := Lib.hid hL
        have HBi := Lib.hid hb
        have hsi := hb.size
        clear hT hF hL hb
        cases gk with
        | zero =>
          obtain rfl : i = n2 := by omega
          have hoi : oi = none := by
            have h1 := HLi.out
            rw [List.drop_eq_nil_of_le (by rw [HLEN.out]; exact Nat.le_refl _)] at h1
            cases oi with
            | none => rfl
            | some t => have h2 := T.n_leaves t; have h3 := t.n_pos; change t.leaves = [] at h1; rw [h1] at h2; change 0 = t.n at h2; omega
          subst hoi
          have HBW := Lib.hid (HBq.out.trans (HBi.out.mono HBq.out.size))
          have hsw := HBW.out.size
          have HR1 := Lib.hid (root_any (some none) (some gi) wr ⟨gi, rfl, HTi.out⟩ (Sh.tab_below HT.out HBW.out hw) (by omega))
          clear HTi HBi HLi
          go_wp2_with fail
          refine HR1.out.mono ?_
          rintro e wa ⟨rfl, hba⟩
          have hsa := hba.size
          have HBA := Lib.hid (HBW.out.trans (hba.mono (by omega)))
          have HR2 := Lib.hid (empty_any wa (Sh.tab_below HT.out HBA.out hw) (by omega))
          clear hba HR1 HBW
          rw [show osum (topOf (some none)) = Sh.Sha.sum [] from rfl]
          go_wp2_with fail
          refine HR2.out.mono ?_
          rintro e wb ⟨rfl, hbb⟩
          have HBB := Lib.hid (HBA.out.trans (hbb.mono (by omega)))
          have e1 := run_eq49 (Sh.Sha.sum []) (Sh.Sha.sum []) (Sh.sum_length _) (Sh.sum_length _) wb
          rw [show (Sh.Sha.sum [] == Sh.Sha.sum []) = true by simp] at e1
          generalize Sh.bcells (Sh.Sha.sum []) = Y at *
          clear hbb HR2 HBA
          go_wp2_with fail
          go_ret
          exact ⟨rfl, HBB.out⟩
        | succ gn =>
          have hin : i < n2 := by omega
          obtain ⟨p, hpi⟩ : ∃ p, ps[i]? = some p := ⟨_, List.getElem?_eq_getElem (by rw [HLEN.out]; exact hin)⟩
          obtain ⟨b, ob, A1, n1, c1, A3, n3, c3, rfl, hbb, k0, k1, nc1, nc3, r1, r3⟩ := (HPq.out.below HBi.out (Nat.le_refl _)).at_ hpi
          have k0' : wr.cell? ⟨b, ob + i * 2, none⟩ = some (.slice A1 n1 c1) := by rw [Nat.mul_comm]; exact k0
          have k1' : wr.cell? ⟨b, ob + i * 2 + 1, none⟩ = some (.slice A3 n3 c3) := by rw [Nat.mul_comm, Nat.add_assoc]; exact k1
          have HR := Lib.hid r1
          have HDC : Hid (ps.drop i = p :: ps.drop (i + 1)) := Lib.hid (by obtain ⟨hl, rfl⟩ := List.getElem?_eq_some_iff.1 hpi; exact List.drop_eq_getElem_cons hl)
          clear k0 k1 r1 r3 hpi
          have hz44 := zero44
          go_upto_region 11 with (fail)
          refine wp_region_lit ?_
          iterate 15 go_step
          clear hz44 k0' k1'
          have hw2 := Whole.made wr 44 #[.slice none 0 0, .slice none 0 0]
          refine wpList_store_mid rfl 44 (.tmp 12) (.tmp 74) rfl wr.heap.size 0 #[.slice A1 n1 c1, .slice A3 n3 c3] rfl rfl ?_ ?_ (pair_one ..) ?_
          · exact hw2.there_
          · exact info44s
          have hw3 := hw2.setAll (vs := #[.slice A1 n1 c1, .slice A3 n3 c3]) rfl
          have hb3 : Below wr.heap.size wr ((wr.alloc (.cells #[.slice none 0 0, .slice none 0 0] 44)).setCells wr.heap.size 0 (#[.slice A1 n1 c1, .slice A3 n3 c3] : Array Value).toList) := below_setCells wr wr.heap.size _ 0 ((Below.refl _ _).alloc (Nat.le_refl _) _) (Nat.le_refl _)
          generalize (wr.alloc (.cells #[.slice none 0 0, .slice none 0 0] 44)).setCells wr.heap.size 0 (#[.slice A1 n1 c1, .slice A3 n3 c3] : Array Value).toList = w3 at *
          have hs3 := hb3.size
          have k0 := hw3.at_ (i := 0) (v := .slice A1 n1 c1) rfl
          have HT3 := Lib.hid (HTi.out.on hb3)
          have HB3 := Lib.hid (HBi.out.trans (hb3.mono hsi))
          have HBW := Lib.hid (HBq.out.trans (HB3.out.mono HBq.out.size))
          have hsw := HBW.out.size
          have HK3 := Lib.hid ((HR.out.below hb3 hsi).more (B' := w3.heap.size) (by omega))
          clear hw2 hw3 hb3 HTi HBi HR
          generalize wr.heap.size = g12 at *
          have HOL : Hid (oln oi = n2 - i) := Lib.hid (by rw [← oln_leaves, HLi.out, List.length_drop, HLEN.out])
          have HC1 := Lib.hid (cut_any (some oi) (some gi) A1 n1 c1 p.1 w3 ⟨gi, rfl, HT3.out⟩ HK3.out (by show oln oi ≤ _; have := HOL.out; omega) (Sh.tab_below HT.out HBW.out hw) (room (by omega)))
          go_wp2_with fail
          refine HC1.out.mono ?_
          rintro e w4 hpost
          have hfi : ofind oi p.1 = some p.2 := by
            rw [ofind_leaves oi _ HFi.out.srt, HLi.out, HDC.out]
            show (if p.1 = p.1 then some p.2 else _) = _
            rw [if_pos rfl]
          rcases hpost with ⟨hf, _⟩ | ⟨v4, g4, hf, rfl, hg4, hT4, hb4⟩
          · exact absurd hf (by show ofind oi p.1 ≠ none; rw [hfi]; simp)
          have hfs : (ofind oi p.1).isSome = true := by rw [hfi]; rfl
          change TIn All w4 w4.heap.size (ocut oi p.1) g4 at hT4
          have hl4 : optLeaves (ocut oi p.1) = ps.drop (i + 1) := by
            rw [ocut_leaves oi _ HFi.out.srt hfs, HLi.out, HDC.out]
            have hsr := HFi.out.srt
            rw [HLi.out, HDC.out] at hsr
            exact cutL_head hsr
          have HF4 := Lib.hid (HFi.out.cut p.1 hfs)
          have HL4 := Lib.hid hl4
          have HT4 := Lib.hid hT4
          have HB4 := Lib.hid (HB3.out.trans (hb4.mono (by omega)))
          have hol4 : oln (ocut oi p.1) = n2 - (i + 1) := by rw [← oln_leaves, hl4, List.length_drop, HLEN.out]
          have HC2 := Lib.hid (len_any (some (ocut oi p.1)) (some g4) w4 ⟨g4, rfl, hT4⟩ (by show oln (ocut oi p.1) ≤ _; omega))
          rw [show (oln (topOf (some (ocut oi p.1))) : Nat) = n2 - (i + 1) from hol4] at HC2
          have hsub : ((n2 : Int) - 1 - (i : Int)) = ((n2 - (i + 1) : Nat) : Int) := by omega
          clear hf hT4 hb4 HC1 HT3 HB3 HBW HFi HLi hfi hfs hl4 hol4 HK3 k0 HDC HOL
          generalize n2 - (i + 1) = nx at *
          generalize ocut oi p.1 = o4 at *
          go_wp2_with fail
          refine HC2.out.mono ?_
          rintro e w5 ⟨rfl, rfl⟩
          go_wp2_with fail
          go_roundg gn
          case measure => omega
          case rel => exact ⟨i + 1, o4, g4, by omega, congrArg (Value.int .i64) (by omega), rfl, HT4.out, HF4.out, HL4.out, HB4.out⟩
    · have HTq := HT3
      have HPq := HP3
      have HBq := HB3
      have HFq := HF3
      clear HT3 HP3 HB3 HF3
      generalize w3 = wq at *
      go_wp2_with fail
      go_loopg [5, 70] n2 (fun gk s5 s70 wx => ∃ i oi gi, i + gk = n2 ∧ s70 = .int .i64 (i : Nat) ∧ s5 = ptr (some gi) ∧ TIn All wx wx.heap.size oi gi ∧ Fine oi ∧ optLeaves oi = ps.drop i ∧ Below wq.heap.size wq wx)
      case atStart => exact ⟨0, o, g, by omega, rfl, rfl, HTq.out, HFq.out, HPS.out, Below.refl _ _⟩
      case round =>
        clear HTq
        obtain ⟨i, oi, gi, hi, rfl, rfl, hT, hF, hL, hb⟩ := hrel
        have HTi := Lib.hid hT
        have HFi := Lib.hid hF
        have HLi := Lib.hid hL
        have HBi := Lib.hid hb
        have hsi := hb.size
        clear hT hF hL hb
        cases gk with
        | zero =>
          obtain rfl : i = n2 := by omega
          have hoi : oi = none := by
            have h1 := HLi.out
            rw [List.drop_eq_nil_of_le (by rw [HLEN.out]; exact Nat.le_refl _)] at h1
            cases oi with
            | none => rfl
            | some t => have h2 := T.n_leaves t; have h3 := t.n_pos; change t.leaves = [] at h1; rw [h1] at h2; change 0 = t.n at h2; omega
          subst hoi
          have HBW := Lib.hid (HBq.out.trans (HBi.out.mono HBq.out.size))
          have hsw := HBW.out.size
          have HR1 := Lib.hid (root_any (some none) (some gi) wr ⟨gi, rfl, HTi.out⟩ (Sh.tab_below HT.out HBW.out hw) (by omega))
          clear HTi HBi HLi
          go_wp2_with fail
          refine HR1.out.mono ?_
          rintro e wa ⟨rfl, hba⟩
          have hsa := hba.size
          have HBA := Lib.hid (HBW.out.trans (hba.mono (by omega)))
          have HR2 := Lib.hid (empty_any wa (Sh.tab_below HT.out HBA.out hw) (by omega))
          clear hba HR1 HBW
          rw [show osum (topOf (some none)) = Sh.Sha.sum [] from rfl]
          go_wp2_with fail
          refine HR2.out.mono ?_
          rintro e wb ⟨rfl, hbb⟩
          have HBB := Lib.hid (HBA.out.trans (hbb.mono (by omega)))
          have e1 := run_eq49 (Sh.Sha.sum []) (Sh.Sha.sum []) (Sh.sum_length _) (Sh.sum_length _) wb
          rw [show (Sh.Sha.sum [] == Sh.Sha.sum []) = true by simp] at e1
          generalize Sh.bcells (Sh.Sha.sum []) = Y at *
          clear hbb HR2 HBA
          go_wp2_with fail
          go_ret
          exact ⟨rfl, HBB.out⟩
        | succ gn =>
          have hin : i < n2 := by omega
          obtain ⟨p, hpi⟩ : ∃ p, ps[i]? = some p := ⟨_, List.getElem?_eq_getElem (by rw [HLEN.out]; exact hin)⟩
          obtain ⟨b, ob, A1, n1, c1, A3, n3, c3, rfl, hbb, k0, k1, nc1, nc3, r1, r3⟩ := (HPq.out.below HBi.out (Nat.le_refl _)).at_ hpi
          have k0' : wr.cell? ⟨b, ob + i * 2, none⟩ = some (.slice A1 n1 c1) := by rw [Nat.mul_comm]; exact k0
          have k1' : wr.cell? ⟨b, ob + i * 2 + 1, none⟩ = some (.slice A3 n3 c3) := by rw [Nat.mul_comm, Nat.add_assoc]; exact k1
          have HR := Lib.hid r1
          have HDC : Hid (ps.drop i = p :: ps.drop (i + 1)) := Lib.hid (by obtain ⟨hl, rfl⟩ := List.getElem?_eq_some_iff.1 hpi; exact List.drop_eq_getElem_cons hl)
          clear k0 k1 r1 r3 hpi
          have hz44 := zero44
          go_upto_region 11 with (fail)
          refine wp_region_lit ?_
          iterate 15 go_step
          clear hz44 k0' k1'
          have hw2 := Whole.made wr 44 #[.slice none 0 0, .slice none 0 0]
          refine wpList_store_mid rfl 44 (.tmp 12) (.tmp 74) rfl wr.heap.size 0 #[.slice A1 n1 c1, .slice A3 n3 c3] rfl rfl ?_ ?_ (pair_one ..) ?_
          · exact hw2.there_
          · exact info44s
          have hw3 := hw2.setAll (vs := #[.slice A1 n1 c1, .slice A3 n3 c3]) rfl
          have hb3 : Below wr.heap.size wr ((wr.alloc (.cells #[.slice none 0 0, .slice none 0 0] 44)).setCells wr.heap.size 0 (#[.slice A1 n1 c1, .slice A3 n3 c3] : Array Value).toList) := below_setCells wr wr.heap.size _ 0 ((Below.refl _ _).alloc (Nat.le_refl _) _) (Nat.le_refl _)
          generalize (wr.alloc (.cells #[.slice none 0 0, .slice none 0 0] 44)).setCells wr.heap.size 0 (#[.slice A1 n1 c1, .slice A3 n3 c3] : Array Value).toList = w3 at *
          have hs3 := hb3.size
          have k0 := hw3.at_ (i := 0) (v := .slice A1 n1 c1) rfl
          have HT3 := Lib.hid (HTi.out.on hb3)
          have HB3 := Lib.hid (HBi.out.trans (hb3.mono hsi))
          have HBW := Lib.hid (HBq.out.trans (HB3.out.mono HBq.out.size))
          have hsw := HBW.out.size
          have HK3 := Lib.hid ((HR.out.below hb3 hsi).more (B' := w3.heap.size) (by omega))
          clear hw2 hw3 hb3 HTi HBi HR
          generalize wr.heap.size = g12 at *
          have HOL : Hid (oln oi = n2 - i) := Lib.hid (by rw [← oln_leaves, HLi.out, List.length_drop, HLEN.out])
          have HC1 := Lib.hid (cut_any (some oi) (some gi) A1 n1 c1 p.1 w3 ⟨gi, rfl, HT3.out⟩ HK3.out (by show oln oi ≤ _; have := HOL.out; omega) (Sh.tab_below HT.out HBW.out hw) (room (by omega)))
          go_wp2_with fail
          refine HC1.out.mono ?_
          rintro e w4 hpost
          have hfi : ofind oi p.1 = some p.2 := by
            rw [ofind_leaves oi _ HFi.out.srt, HLi.out, HDC.out]
            show (if p.1 = p.1 then some p.2 else _) = _
            rw [if_pos rfl]
          rcases hpost with ⟨hf, _⟩ | ⟨v4, g4, hf, rfl, hg4, hT4, hb4⟩
          · exact absurd hf (by show ofind oi p.1 ≠ none; rw [hfi]; simp)
          have hfs : (ofind oi p.1).isSome = true := by rw [hfi]; rfl
          change TIn All w4 w4.heap.size (ocut oi p.1) g4 at hT4
          have hl4 : optLeaves (ocut oi p.1) = ps.drop (i + 1) := by
            rw [ocut_leaves oi _ HFi.out.srt hfs, HLi.out, HDC.out]
            have hsr := HFi.out.srt
            rw [HLi.out, HDC.out] at hsr
            exact cutL_head hsr
          have HF4 := Lib.hid (HFi.out.cut p.1 hfs)
          have HL4 := Lib.hid hl4
          have HT4 := Lib.hid hT4
          have HB4 := Lib.hid (HB3.out.trans (hb4.mono (by omega)))
          have hol4 : oln (ocut oi p.1) = n2 - (i + 1) := by rw [← oln_leaves, hl4, List.length_drop, HLEN.out]
          have HC2 := Lib.hid (len_any (some (ocut oi p.1)) (some g4) w4 ⟨g4, rfl, hT4⟩ (by show oln (ocut oi p.1) ≤ _; omega))
          rw [show (oln (topOf (some (ocut oi p.1))) : Nat) = n2 - (i + 1) from hol4] at HC2
          have hsub : ((n2 : Int) - 1 - (i : Int)) = ((n2 - (i + 1) : Nat) : Int) := by omega
          clear hf hT4 hb4 HC1 HT3 HB3 HBW HFi HLi hfi hfs hl4 hol4 HK3 k0 HDC HOL
          generalize n2 - (i + 1) = nx at *
          generalize ocut oi p.1 = o4 at *
          go_wp2_with fail
          refine HC2.out.mono ?_
          rintro e w5 ⟨rfl, rfl⟩
          go_wp2_with fail
          go_roundg gn
          case measure => omega
          case rel => exact ⟨i + 1, o4, g4, by omega, congrArg (Value.int .i64) (by omega), rfl, HT4.out, HF4.out, HL4.out, HB4.out⟩
  · have HTq := HT2
    have HPq := HP2
    have HBq := HB2
    have HFq := HF2
    clear HT2 HP2 HB2 HF2
    generalize w2 = wq at *
    rcases Nat.lt_or_ge m 1 with hm0 | hm1
    · obtain rfl : m = 0 := by omega
      go_wp2_with fail
      go_loopg [5, 70] n2 (fun gk s5 s70 wx => ∃ i oi gi, i + gk = n2 ∧ s70 = .int .i64 (i : Nat) ∧ s5 = ptr (some gi) ∧ TIn All wx wx.heap.size oi gi ∧ Fine oi ∧ optLeaves oi = ps.drop i ∧ Below wq.heap.size wq wx)
      case atStart => exact ⟨0, o, g, by omega, rfl, rfl, HTq.out, HFq.out, HPS.out, Below.refl _ _⟩
      case round =>
        clear HTq
        obtain ⟨i, oi, gi, hi, rfl, rfl, hT, hF, hL, hb⟩ := hrel
        have HTi := Lib.hid hT
        have HFi := Lib.hid hF
        have HLi := Lib.hid hL
        have HBi := Lib.hid hb
        have hsi := hb.size
        clear hT hF hL hb
        cases gk with
        | zero =>
          obtain rfl : i = n2 := by omega
          have hoi : oi = none := by
            have h1 := HLi.out
            rw [List.drop_eq_nil_of_le (by rw [HLEN.out]; exact Nat.le_refl _)] at h1
            cases oi with
            | none => rfl
            | some t => have h2 := T.n_leaves t; have h3 := t.n_pos; change t.leaves = [] at h1; rw [h1] at h2; change 0 = t.n at h2; omega
          subst hoi
          have HBW := Lib.hid (HBq.out.trans (HBi.out.mono HBq.out.size))
          have hsw := HBW.out.size
          have HR1 := Lib.hid (root_any (some none) (some gi) wr ⟨gi, rfl, HTi.out⟩ (Sh.tab_below HT.out HBW.out hw) (by omega))
          clear HTi HBi HLi
          go_wp2_with fail
          refine HR1.out.mono ?_
          rintro e wa ⟨rfl, hba⟩
          have hsa := hba.size
          have HBA := Lib.hid (HBW.out.trans (hba.mono (by omega)))
          have HR2 := Lib.hid (empty_any wa (Sh.tab_below HT.out HBA.out hw) (by omega))
          clear hba HR1 HBW
          rw [show osum (topOf (some none)) = Sh.Sha.sum [] from rfl]
          go_wp2_with fail
          refine HR2.out.mono ?_
          rintro e wb ⟨rfl, hbb⟩
          have HBB := Lib.hid (HBA.out.trans (hbb.mono (by omega)))
          have e1 := run_eq49 (Sh.Sha.sum []) (Sh.Sha.sum []) (Sh.sum_length _) (Sh.sum_length _) wb
          rw [show (Sh.Sha.sum [] == Sh.Sha.sum []) = true by simp] at e1
          generalize Sh.bcells (Sh.Sha.sum []) = Y at *
          clear hbb HR2 HBA
          go_wp2_with fail
          go_ret
          exact ⟨rfl, HBB.out⟩
        | succ gn =>
          have hin : i < n2 := by omega
          obtain ⟨p, hpi⟩ : ∃ p, ps[i]? = some p := ⟨_, List.getElem?_eq_getElem (by rw [HLEN.out]; exact hin)⟩
          obtain ⟨b, ob, A1, n1, c1, A3, n3, c3, rfl, hbb, k0, k1, nc1, nc3, r1, r3⟩ := (HPq.out.below HBi.out (Nat.le_refl _)).at_ hpi
          have k0' : wr.cell? ⟨b, ob + i * 2, none⟩ = some (.slice A1 n1 c1) := by rw [Nat.mul_comm]; exact k0
          have k1' : wr.cell? ⟨b, ob + i * 2 + 1, none⟩ = some (.slice A3 n3 c3) := by rw [Nat.mul_comm, Nat.add_assoc]; exact k1
          have HR := Lib.hid r1
          have HDC : Hid (ps.drop i = p :: ps.drop (i + 1)) := Lib.hid (by obtain ⟨hl, rfl⟩ := List.getElem?_eq_some_iff.1 hpi; exact List.drop_eq_getElem_cons hl)
          clear k0 k1 r1 r3 hpi
          have hz44 := zero44
          go_upto_region 11 with (fail)
          refine wp_region_lit ?_
          iterate 15 go_step
          clear hz44 k0' k1'
          have hw2 := Whole.made wr 44 #[.slice none 0 0, .slice none 0 0]
          refine wpList_store_mid rfl 44 (.tmp 12) (.tmp 74) rfl wr.heap.size 0 #[.slice A1 n1 c1, .slice A3 n3 c3] rfl rfl ?_ ?_ (pair_one ..) ?_
          · exact hw2.there_
          · exact info44s
          have hw3 := hw2.setAll (vs := #[.slice A1 n1 c1, .slice A3 n3 c3]) rfl
          have hb3 : Below wr.heap.size wr ((wr.alloc (.cells #[.slice none 0 0, .slice none 0 0] 44)).setCells wr.heap.size 0 (#[.slice A1 n1 c1, .slice A3 n3 c3] : Array Value).toList) := below_setCells wr wr.heap.size _ 0 ((Below.refl _ _).alloc (Nat.le_refl _) _) (Nat.le_refl _)
          generalize (wr.alloc (.cells #[.slice none 0 0, .slice none 0 0] 44)).setCells wr.heap.size 0 (#[.slice A1 n1 c1, .slice A3 n3 c3] : Array Value).toList = w3 at *
          have hs3 := hb3.size
          have k0 := hw3.at_ (i := 0) (v := .slice A1 n1 c1) rfl
          have HT3 := Lib.hid (HTi.out.on hb3)
          have HB3 := Lib.hid (HBi.out.trans (hb3.mono hsi))
          have HBW := Lib.hid (HBq.out.trans (HB3.out.mono HBq.out.size))
          have hsw := HBW.out.size
          have HK3 := Lib.hid ((HR.out.below hb3 hsi).more (B' := w3.heap.size) (by omega))
          clear hw2 hw3 hb3 HTi HBi HR
          generalize wr.heap.size = g12 at *
          have HOL : Hid (oln oi = n2 - i) := Lib.hid (by rw [← oln_leaves, HLi.out, List.length_drop, HLEN.out])
          have HC1 := Lib.hid (cut_any (some oi) (some gi) A1 n1 c1 p.1 w3 ⟨gi, rfl, HT3.out⟩ HK3.out (by show oln oi ≤ _; have := HOL.out; omega) (Sh.tab_below HT.out HBW.out hw) (room (by omega)))
          go_wp2_with fail
          refine HC1.out.mono ?_
          rintro e w4 hpost
          have hfi : ofind oi p.1 = some p.2 := by
            rw [ofind_leaves oi _ HFi.out.srt, HLi.out, HDC.out]
            show (if p.1 = p.1 then some p.2 else _) = _
            rw [if_pos rfl]
          rcases hpost with ⟨hf, _⟩ | ⟨v4, g4, hf, rfl, hg4, hT4, hb4⟩
          · exact absurd hf (by show ofind oi p.1 ≠ none; rw [hfi]; simp)
          have hfs : (ofind oi p.1).isSome = true := by rw [hfi]; rfl
          change TIn All w4 w4.heap.size (ocut oi p.1) g4 at hT4
          have hl4 : optLeaves (ocut oi p.1) = ps.drop (i + 1) := by
            rw [ocut_leaves oi _ HFi.out.srt hfs, HLi.out, HDC.out]
            have hsr := HFi.out.srt
            rw [HLi.out, HDC.out] at hsr
            exact cutL_head hsr
          have HF4 := Lib.hid (HFi.out.cut p.1 hfs)
          have HL4 := Lib.hid hl4
          have HT4 := Lib.hid hT4
          have HB4 := Lib.hid (HB3.out.trans (hb4.mono (by omega)))
          have hol4 : oln (ocut oi p.1) = n2 - (i + 1) := by rw [← oln_leaves, hl4, List.length_drop, HLEN.out]
          have HC2 := Lib.hid (len_any (some (ocut oi p.1)) (some g4) w4 ⟨g4, rfl, hT4⟩ (by show oln (ocut oi p.1) ≤ _; omega))
          rw [show (oln (topOf (some (ocut oi p.1))) : Nat) = n2 - (i + 1) from hol4] at HC2
          have hsub : ((n2 : Int) - 1 - (i : Int)) = ((n2 - (i + 1) : Nat) : Int) := by omega
          clear hf hT4 hb4 HC1 HT3 HB3 HBW HFi HLi hfi hfs hl4 hol4 HK3 k0 HDC HOL
          generalize n2 - (i + 1) = nx at *
          generalize ocut oi p.1 = o4 at *
          go_wp2_with fail
          refine HC2.out.mono ?_
          rintro e w5 ⟨rfl, rfl⟩
          go_wp2_with fail
          go_roundg gn
          case measure => omega
          case rel => exact ⟨i + 1, o4, g4, by omega, congrArg (Value.int .i64) (by omega), rfl, HT4.out, HF4.out, HL4.out, HB4.out⟩
    · have hm97 : 96 < m := by omega
      clear hmk
      go_wp2_with fail
      go_loopg [5, 70] n2 (fun gk s5 s70 wx => ∃ i oi gi, i + gk = n2 ∧ s70 = .int .i64 (i : Nat) ∧ s5 = ptr (some gi) ∧ TIn All wx wx.heap.size oi gi ∧ Fine oi ∧ optLeaves oi = ps.drop i ∧ Below wq.heap.size wq wx)
      case atStart => exact ⟨0, o, g, by omega, rfl, rfl, HTq.out, HFq.out, HPS.out, Below.refl _ _⟩
      case round =>
        clear HTq
        obtain ⟨i, oi, gi, hi, rfl, rfl, hT, hF, hL, hb⟩ := hrel
        have HTi := Lib.hid hT
        have HFi := Lib.hid hF
        have HLi := Lib.hid hL
        have HBi := Lib.hid hb
        have hsi := hb.size
        clear hT hF hL hb
        cases gk with
        | zero =>
          obtain rfl : i = n2 := by omega
          have hoi : oi = none := by
            have h1 := HLi.out
            rw [List.drop_eq_nil_of_le (by rw [HLEN.out]; exact Nat.le_refl _)] at h1
            cases oi with
            | none => rfl
            | some t => have h2 := T.n_leaves t; have h3 := t.n_pos; change t.leaves = [] at h1; rw [h1] at h2; change 0 = t.n at h2; omega
          subst hoi
          have HBW := Lib.hid (HBq.out.trans (HBi.out.mono HBq.out.size))
          have hsw := HBW.out.size
          have HR1 := Lib.hid (root_any (some none) (some gi) wr ⟨gi, rfl, HTi.out⟩ (Sh.tab_below HT.out HBW.out hw) (by omega))
          clear HTi HBi HLi
          go_wp2_with fail
          refine HR1.out.mono ?_
          rintro e wa ⟨rfl, hba⟩
          have hsa := hba.size
          have HBA := Lib.hid (HBW.out.trans (hba.mono (by omega)))
          have HR2 := Lib.hid (empty_any wa (Sh.tab_below HT.out HBA.out hw) (by omega))
          clear hba HR1 HBW
          rw [show osum (topOf (some none)) = Sh.Sha.sum [] from rfl]
          go_wp2_with fail
          refine HR2.out.mono ?_
          rintro e wb ⟨rfl, hbb⟩
          have HBB := Lib.hid (HBA.out.trans (hbb.mono (by omega)))
          have e1 := run_eq49 (Sh.Sha.sum []) (Sh.Sha.sum []) (Sh.sum_length _) (Sh.sum_length _) wb
          rw [show (Sh.Sha.sum [] == Sh.Sha.sum []) = true by simp] at e1
          generalize Sh.bcells (Sh.Sha.sum []) = Y at *
          clear hbb HR2 HBA
          go_wp2_with fail
          go_ret
          exact ⟨rfl, HBB.out⟩
        | succ gn =>
          have hin : i < n2 := by omega
          obtain ⟨p, hpi⟩ : ∃ p, ps[i]? = some p := ⟨_, List.getElem?_eq_getElem (by rw [HLEN.out]; exact hin)⟩
          obtain ⟨b, ob, A1, n1, c1, A3, n3, c3, rfl, hbb, k0, k1, nc1, nc3, r1, r3⟩ := (HPq.out.below HBi.out (Nat.le_refl _)).at_ hpi
          have k0' : wr.cell? ⟨b, ob + i * 2, none⟩ = some (.slice A1 n1 c1) := by rw [Nat.mul_comm]; exact k0
          have k1' : wr.cell? ⟨b, ob + i * 2 + 1, none⟩ = some (.slice A3 n3 c3) := by rw [Nat.mul_comm, Nat.add_assoc]; exact k1
          have HR := Lib.hid r1
          have HDC : Hid (ps.drop i = p :: ps.drop (i + 1)) := Lib.hid (by obtain ⟨hl, rfl⟩ := List.getElem?_eq_some_iff.1 hpi; exact List.drop_eq_getElem_cons hl)
          clear k0 k1 r1 r3 hpi
          have hz44 := zero44
          go_upto_region 11 with (fail)
          refine wp_region_lit ?_
          iterate 15 go_step
          clear hz44 k0' k1'
          have hw2 := Whole.made wr 44 #[.slice none 0 0, .slice none 0 0]
          refine wpList_store_mid rfl 44 (.tmp 12) (.tmp 74) rfl wr.heap.size 0 #[.slice A1 n1 c1, .slice A3 n3 c3] rfl rfl ?_ ?_ (pair_one ..) ?_
          · exact hw2.there_
          · exact info44s
          have hw3 := hw2.setAll (vs := #[.slice A1 n1 c1, .slice A3 n3 c3]) rfl
          have hb3 : Below wr.heap.size wr ((wr.alloc (.cells #[.slice none 0 0, .slice none 0 0] 44)).setCells wr.heap.size 0 (#[.slice A1 n1 c1, .slice A3 n3 c3] : Array Value).toList) := below_setCells wr wr.heap.size _ 0 ((Below.refl _ _).alloc (Nat.le_refl _) _) (Nat.le_refl _)
          generalize (wr.alloc (.cells #[.slice none 0 0, .slice none 0 0] 44)).setCells wr.heap.size 0 (#[.slice A1 n1 c1, .slice A3 n3 c3] : Array Value).toList = w3 at *
          have hs3 := hb3.size
          have k0 := hw3.at_ (i := 0) (v := .slice A1 n1 c1) rfl
          have HT3 := Lib.hid (HTi.out.on hb3)
          have HB3 := Lib.hid (HBi.out.trans (hb3.mono hsi))
          have HBW := Lib.hid (HBq.out.trans (HB3.out.mono HBq.out.size))
          have hsw := HBW.out.size
          have HK3 := Lib.hid ((HR.out.below hb3 hsi).more (B' := w3.heap.size) (by omega))
          clear hw2 hw3 hb3 HTi HBi HR
          generalize wr.heap.size = g12 at *
          have HOL : Hid (oln oi = n2 - i) := Lib.hid (by rw [← oln_leaves, HLi.out, List.length_drop, HLEN.out])
          have HC1 := Lib.hid (cut_any (some oi) (some gi) A1 n1 c1 p.1 w3 ⟨gi, rfl, HT3.out⟩ HK3.out (by show oln oi ≤ _; have := HOL.out; omega) (Sh.tab_below HT.out HBW.out hw) (room (by omega)))
          go_wp2_with fail
          refine HC1.out.mono ?_
          rintro e w4 hpost
          have hfi : ofind oi p.1 = some p.2 := by
            rw [ofind_leaves oi _ HFi.out.srt, HLi.out, HDC.out]
            show (if p.1 = p.1 then some p.2 else _) = _
            rw [if_pos rfl]
          rcases hpost with ⟨hf, _⟩ | ⟨v4, g4, hf, rfl, hg4, hT4, hb4⟩
          · exact absurd hf (by show ofind oi p.1 ≠ none; rw [hfi]; simp)
          have hfs : (ofind oi p.1).isSome = true := by rw [hfi]; rfl
          change TIn All w4 w4.heap.size (ocut oi p.1) g4 at hT4
          have hl4 : optLeaves (ocut oi p.1) = ps.drop (i + 1) := by
            rw [ocut_leaves oi _ HFi.out.srt hfs, HLi.out, HDC.out]
            have hsr := HFi.out.srt
            rw [HLi.out, HDC.out] at hsr
            exact cutL_head hsr
          have HF4 := Lib.hid (HFi.out.cut p.1 hfs)
          have HL4 := Lib.hid hl4
          have HT4 := Lib.hid hT4
          have HB4 := Lib.hid (HB3.out.trans (hb4.mono (by omega)))
          have hol4 : oln (ocut oi p.1) = n2 - (i + 1) := by rw [← oln_leaves, hl4, List.length_drop, HLEN.out]
          have HC2 := Lib.hid (len_any (some (ocut oi p.1)) (some g4) w4 ⟨g4, rfl, hT4⟩ (by show oln (ocut oi p.1) ≤ _; omega))
          rw [show (oln (topOf (some (ocut oi p.1))) : Nat) = n2 - (i + 1) from hol4] at HC2
          have hsub : ((n2 : Int) - 1 - (i : Int)) = ((n2 - (i + 1) : Nat) : Int) := by omega
          clear hf hT4 hb4 HC1 HT3 HB3 HBW HFi HLi hfi hfs hl4 hol4 HK3 k0 HDC HOL
          generalize n2 - (i + 1) = nx at *
          generalize ocut oi p.1 = o4 at *
          go_wp2_with fail
          refine HC2.out.mono ?_
          rintro e w5 ⟨rfl, rfl⟩
          go_wp2_with fail
          go_roundg gn
          case measure => omega
          case rel => exact ⟨i + 1, o4, g4, by omega, congrArg (Value.int .i64) (by omega), rfl, HT4.out, HF4.out, HL4.out, HB4.out⟩
end Go.Proofs.YtceillnmcccckaaDoor
