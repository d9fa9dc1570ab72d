/-
  What the document's Decode returns: the node of bytes, or an error's number; condition: the bytes can be read, there are no more than 1000000 of them. It only makes memory of its own.
-/
import Derived.Test.YtemagoacjpilaaaNdREnc
import Derived.Test.YtemagoacjpilaaaNdRSum
import Derived.Test.YtemagoacjpilaaaNdDec
import Derived.Test.YtemagoacjpilaaaRefParse
namespace Go.Proofs.Ytemagoacjpilaaa
open Go.RowKit
open Tlv (Nd)

section
variable {G : Nat → Prop} {w : World} {g : Nat} {nd : Nd}
theorem NdAt.lt (h : NdAt G w g nd) : g < w.heap.size := by obtain ⟨_, _, _, _, _, _, hW, _, _⟩ := h; exact hW.lt
theorem NdAt.below {w' : World} {B : Nat} (h : NdAt G w g nd) (hb : Below B w w') (hB : g < B) : NdAt G w' g nd := by
  obtain ⟨A, n, c, A', n', c', hW, hK, hG⟩ := h
  exact ⟨A, n, c, A', n', c', hW.below hb hB, hK.below hb (Nat.le_of_lt hB), hG⟩
theorem NdAt.free (h : NdAt G w g nd) (i : Nat) : w.frozen? ⟨g, i, none⟩ = false := by obtain ⟨_, _, _, _, _, _, hW, _, _⟩ := h; exact hW.free i
theorem NdAt.cells (h : NdAt G w g nd) : ∃ a b, w.cell? ⟨g, 0, none⟩ = some a ∧ w.cell? ⟨g, 1, none⟩ = some b ∧ w.cell? ⟨g, 2, none⟩ = some (.int .i64 nd.h) ∧ w.cell? ⟨g, 3, none⟩ = some (.int .u64 nd.z) := by
  obtain ⟨_, _, _, _, _, _, hW, _, _⟩ := h
  exact ⟨_, _, abox hW⟩
theorem NdAt.key (h : NdAt G w g nd) {A2 : Option Addr} {n2 : Nat} (c2 : Nat) {v : List UInt8} (hr : Rd w g A2 n2 v) (hnc : n2 ≤ c2) (hg : BG G A2 n2) : NdAt G (w.setCell ⟨g, 0, none⟩ (.slice A2 n2 c2)) g { nd with key := v } := by
  obtain ⟨A, n, c, A', n', c', hW, hK, hG⟩ := h
  have hb := (Below.refl g w).setCell (p := ⟨g, 0, none⟩) (Nat.le_refl _) (.slice A2 n2 c2)
  exact ⟨A2, n2, c2, A', n', c', acells_setk hW _, ⟨hr.below hb (Nat.le_refl _), hnc, hK.val.below hb (Nat.le_refl _), hK.vnc⟩, hg, hG.2⟩
theorem NdAt.value (h : NdAt G w g nd) {A2 : Option Addr} {n2 : Nat} (c2 : Nat) {v : List UInt8} (hr : Rd w g A2 n2 v) (hnc : n2 ≤ c2) (hg : BG G A2 n2) : NdAt G (w.setCell ⟨g, 1, none⟩ (.slice A2 n2 c2)) g { nd with value := v } := by
  obtain ⟨A, n, c, A', n', c', hW, hK, hG⟩ := h
  have hb := (Below.refl g w).setCell (p := ⟨g, 1, none⟩) (Nat.le_refl _) (.slice A2 n2 c2)
  exact ⟨A, n, c, A2, n2, c2, acells_setv hW _, ⟨hK.key.below hb (Nat.le_refl _), hK.knc, hr.below hb (Nat.le_refl _), hnc⟩, hG.1, hg⟩
theorem NdAt.high (h : NdAt G w g nd) (u : Int) : NdAt G (w.setCell ⟨g, 2, none⟩ (.int .i64 u)) g { nd with h := u } := by
  obtain ⟨A, n, c, A', n', c', hW, hK, hG⟩ := h
  have hk := hK.below ((Below.refl g w).setCell (p := ⟨g, 2, none⟩) (Nat.le_refl _) (.int .i64 u)) (Nat.le_refl _)
  exact ⟨A, n, c, A', n', c', acells_seth hW _, ⟨hk.key, hk.knc, hk.val, hk.vnc⟩, hG⟩
theorem NdAt.size (h : NdAt G w g nd) (u : Nat) : NdAt G (w.setCell ⟨g, 3, none⟩ (.int .u64 u)) g { nd with z := u } := by
  obtain ⟨A, n, c, A', n', c', hW, hK, hG⟩ := h
  have hk := hK.below ((Below.refl g w).setCell (p := ⟨g, 3, none⟩) (Nat.le_refl _) (.int .u64 u)) (Nat.le_refl _)
  exact ⟨A, n, c, A', n', c', acells_setz hW _, ⟨hk.key, hk.knc, hk.val, hk.vnc⟩, hG⟩
theorem NdAt.left (h : NdAt G w g nd) (hf : nd.fit) {v : List UInt8} (hv : v.length = 32) : NdAt G (w.setCells g 4 (bcells v).toList) g { nd with l := v } := by
  obtain ⟨A, n, c, A', n', c', hW, hK, hG⟩ := h
  have hk := hK.below (below_setCells w g (bcells v).toList 4 (Below.refl g w) (Nat.le_refl _)) (Nat.le_refl _)
  exact ⟨A, n, c, A', n', c', acells_setl hW (hf.1.trans hv.symm), ⟨hk.key, hk.knc, hk.val, hk.vnc⟩, hG⟩
theorem NdAt.right (h : NdAt G w g nd) (hf : nd.fit) {v : List UInt8} (hv : v.length = 32) : NdAt G (w.setCells g 36 (bcells v).toList) g { nd with r := v } := by
  obtain ⟨A, n, c, A', n', c', hW, hK, hG⟩ := h
  have hk := hK.below (below_setCells w g (bcells v).toList 36 (Below.refl g w) (Nat.le_refl _)) (Nat.le_refl _)
  exact ⟨A, n, c, A', n', c', acells_setr hW hf.1 (hf.2.1.trans hv.symm), ⟨hk.key, hk.knc, hk.val, hk.vnc⟩, hG⟩
theorem NdAt.there (h : NdAt G w g nd) (hf : nd.fit) (o : Nat) (ho : o + 32 ≤ 68) : w.there g o 32 := by
  obtain ⟨A, n, c, A', n', c', hW, _, _⟩ := h
  exact hW.midthere o 32 (by rw [List.size_toArray, ndc_len hf]; exact ho)
end
def RDecPost (w : World) (r : Nat × Nd) (e : Ending) (w' : World) : Prop := DecPost w r e w'

set_option maxRecDepth 100000 in
set_option maxHeartbeats 20000000 in
theorem refDecode_any (A : Option Addr) (n c : Nat) (bs : List UInt8) (w : World) (hr : Rd w w.heap.size A n bs) (hnc : n ≤ c) (hn : n ≤ 1000000) :
    Calls Try.prog 10 #[.slice A n c] w (DecPost w (Tlv.dec bs)) := by
  have hz27 := zero27
  have hb0 : Below w.heap.size w (w.alloc (.cells z27 27)) := (Below.refl _ _).alloc (Nat.le_refl _) _
  have hw0 := Whole.made w 27 z27
  have hs0 : (w.alloc (.cells z27 27)).heap.size = w.heap.size + 1 := size_alloc _ _
  have HP := Lib.hid (refParse_any (G := fun b => b ≠ w.heap.size) (B := w.heap.size) A n c bs (w.alloc (.cells z27 27)) (hr.below hb0 (Nat.le_refl _)) hnc hn hb0.size (fun b hb => by omega))
  have HBS := Lib.hid hr
  have HB0 := Lib.hid hb0
  have HW0 := Lib.hid hw0
  clear hb0 hw0 hr
  go_enter Try.func10, Try.ntmps10
  go_upto_region 1 with (fail)
  generalize w.alloc (.cells z27 27) = w0 at *
  go_wp2_with fail
  refine HP.out.mono ?_
  rintro e w1 ⟨F, k, kc, rfl, hF, hkc, hb1⟩
  obtain ⟨pc, hpc⟩ : ∃ x, (Tlv.parse bs).1 = x := ⟨_, rfl⟩
  obtain ⟨fs, hfs⟩ : ∃ x, (Tlv.parse bs).2 = x := ⟨_, rfl⟩
  have HPC := Lib.hid (And.intro hpc hfs)
  rw [hpc]
  rw [hfs] at hF
  have hs1 : w0.heap.size ≤ w1.heap.size := hb1.size
  have hW1 := HW0.out.below hb1 (by omega)
  have hB1 := HB0.out.trans (hb1.mono (by omega))
  by_cases h0 : pc = 0
  · subst h0
    have HF := Lib.hid hF
    have HW1 := Lib.hid hW1
    have HB1 := Lib.hid hB1
    have hkn : k ≤ 1000000 := by
      have h1 := parse_few hpc hfs
      rw [hF.len, HBS.out.len] at h1
      omega
    clear hpc hfs hF hW1 hB1 hb1 HP HB0 HW0
    go_upto_region 4 with (fail)
    refine wp_region_lit ?_
    refine wpList_build_one rfl rfl ?_
    iterate 3 go_step
    refine wpList_store_made rfl 27 (.tmp 6) (.tmp 21) rfl z27 o27 rfl rfl (by rw [o27_size]; exact info27) (by rw [z27_size, o27_size]) o27_one ?_
    obtain ⟨g, hg⟩ : ∃ g, w1.heap.size = g := ⟨_, rfl⟩
    have hgg : (w1.alloc (.cells o27 27)).heap.size = g + 1 := by rw [size_alloc, hg]
    have hb2 : Below w1.heap.size w1 (w1.alloc (.cells o27 27)) := (Below.refl _ _).alloc (Nat.le_refl _) _
    have hN0 : NdAt (fun b => b ≠ w.heap.size) (w1.alloc (.cells o27 27)) g Nd.one := ⟨none, 0, 0, none, 0, 0, by rw [← hg]; exact Whole.made w1 27 o27, ⟨Rd.nil, Nat.le_refl _, Rd.nil, Nat.le_refl _⟩, fun h => absurd h (by omega), fun h => absurd h (by omega)⟩
    have hF2 : FRd (fun b => b ≠ w.heap.size) (w1.alloc (.cells o27 27)) g F k fs := by rw [← hg]; exact HF.out.below hb2 (Nat.le_refl _)
    have hW2 : Whole (w1.alloc (.cells o27 27)) w.heap.size 27 z27 := HW1.out.below hb2 (by omega)
    have hB2 : Below w.heap.size w (w1.alloc (.cells o27 27)) := HB1.out.trans (hb2.mono (by omega))
    have hR0 : w.heap.size < g := by omega
    clear hb2 HF HW1 HB1
    rw [hg]
    generalize w1.alloc (.cells o27 27) = w2 at *
    obtain ⟨r0, hr0⟩ : ∃ g, w.heap.size = g := ⟨_, rfl⟩
    rw [hr0] at hW2 hB2 hR0 hN0 hF2 ⊢
    have hkl : fs.length = k := hF2.len
    have HN0 := Lib.hid hN0
    have HF2 := Lib.hid hF2
    have HW2 := Lib.hid hW2
    have HB2 := Lib.hid hB2
    have HG := Lib.hid (And.intro hr0 hkl)
    have HFIT : Hid Nd.one.fit := Lib.hid Tlv.fit_one
    clear hN0 hF2 hW2 hB2 hg hs0 hs1 hr0 hkl
    go_wp2_with fail
    go_loopg [7] k (fun gk i wx => ∃ (j : Nat) (nd : Nd), j + gk = k ∧ i = .int .i64 j ∧ nd.fit ∧ NdAt (fun b => b ≠ r0) wx g nd ∧ Tlv.says nd (fs.drop j) = Tlv.says Nd.one fs ∧ Below g w2 wx)
    case atStart => exact ⟨0, Nd.one, by omega, rfl, HFIT.out, HN0.out, by rw [List.drop_zero], Below.refl _ _⟩
    case round =>
      obtain ⟨j, nd, hj, rfl, hfit, hN, hsays, hbl⟩ := hrel
      have HFI := Lib.hid hfit
      have HN := Lib.hid hN
      have HS := Lib.hid hsays
      have HBL := Lib.hid hbl
      clear hfit hN hsays hbl HN0 HFIT
      cases gk with
      | succ gn =>
        have hjk : j < k := by omega
        obtain ⟨f, hf⟩ : ∃ f, fs[j]? = some f := ⟨_, List.getElem?_eq_getElem (by rw [HG.out.2]; exact hjk)⟩
        obtain ⟨b, o, A1, n1, c1, hFA, hbg, k1, k2, hn1, _, hr1, hgA⟩ := HF2.out.at_ hf
        subst hFA
        have d1 : wr.cell? ⟨b, o + j * 2, none⟩ = some (.int .u8 f.1.toNat) := by rw [Nat.mul_comm]; exact (HBL.out.cell (p := ⟨b, o + 2 * j, none⟩) hbg).trans k1
        have d2 : wr.cell? ⟨b, o + j * 2 + 1, none⟩ = some (.slice A1 n1 c1) := by rw [Nat.mul_comm, Nat.add_assoc]; exact (HBL.out.cell (p := ⟨b, o + (2 * j + 1), none⟩) hbg).trans k2
        have hdrop : fs.drop j = f :: fs.drop (j + 1) := by rw [List.drop_eq_getElem_cons (by rw [HG.out.2]; exact hjk)]; congr 1; rw [List.getElem?_eq_getElem (by rw [HG.out.2]; exact hjk)] at hf; injection hf
        rw [hdrop] at HS
        have hgs : g < wr.heap.size := HN.out.lt
        obtain ⟨t, v⟩ := f
        obtain ⟨T, hT⟩ : ∃ T : Nat, t.toNat = T := ⟨_, rfl⟩
        simp only [hT] at d1
        have hne : ∀ k : UInt8, t ≠ k → ((T : Int) == (k.toNat : Int)) = false := fun k hk => by
          rw [beq_eq_false_iff_ne]
          intro e
          exact hk (UInt8.toNat_inj.1 (by omega))
        obtain ⟨ka, kb, g0, g1, g2, g3⟩ := HN.out.cells
        obtain ⟨kh, hkh⟩ : ∃ z, nd.h = z := ⟨_, rfl⟩
        rw [hkh] at g2
        obtain ⟨kz, hkz⟩ : ∃ z, nd.z = z := ⟨_, rfl⟩
        rw [hkz] at g3
        have f0 := HN.out.free 0
        have f1 := HN.out.free 1
        have f2 := HN.out.free 2
        have f3 := HN.out.free 3
        have hr2 : Rd wr g A1 n1 v := hr1.below HBL.out (Nat.le_refl _)
        have HR2 := Lib.hid hr2
        have HGA := Lib.hid (And.intro hn1 hgA)
        have HGO : Hid (∀ nd', Tlv.say nd t v = (0, nd') → Tlv.says nd' (fs.drop (j + 1)) = Tlv.says Nd.one fs ∧ nd'.fit) := Lib.hid (fun nd' h => by
          have hc : (Tlv.say nd t v).1 = 0 := by rw [h]
          have h1 := (Tlv.says_go (f := (t, v)) (fs := fs.drop (j + 1)) hc).symm.trans HS.out
          have h2 := Tlv.say_fit HFI.out t v
          rw [h] at h2
          simp only [h] at h1
          exact ⟨h1, h2⟩)
        have HSTOP : Hid (∀ code : Nat, code ≠ 0 → (Tlv.say nd t v).1 = code → Tlv.dec bs = (code, Nd.zero)) := Lib.hid (fun code hc0 hcode => by
          have hne : (Tlv.say nd t v).1 ≠ 0 := by omega
          unfold Tlv.dec
          rw [if_pos HPC.out.1, HPC.out.2, ← HS.out, if_neg (by rw [Tlv.says_stop hne]; exact hne), Tlv.says_stop hne]
          exact congrArg (fun x => (x, Nd.zero)) hcode)
        have HZERO : Hid (∀ (code : Nat) (u : World), Tlv.dec bs = (code, Nd.zero) → Below g wr u → u.there r0 0 z27.size ∧ Whole (u.setCells r0 0 z27.toList) r0 27 z27 ∧ DecPost w (Tlv.dec bs) (.returned (.tuple #[.agg z27, .int .i64 code])) (u.setCells r0 0 z27.toList)) := Lib.hid (fun code u hd hbu => by
          have hB4 := HBL.out.trans hbu
          have hW5 := HW2.out.below hB4 hR0
          have hB5 := HB2.out.trans (hB4.mono (Nat.le_of_lt hR0))
          obtain ⟨hA, hB⟩ := zero_post (w := w) code (Nat.le_of_eq HG.out.1) hW5 (by rw [HG.out.1]; exact hB5)
          rw [hd]
          exact ⟨hW5.there_, hA, hB⟩)
        have HND := Lib.hid (And.intro hkh hkz)
        clear hf k1 k2 hr1 hdrop hn1 hgA hr2 hkh hkz HS
        by_cases e1 : t = 1
        · have q1 : ((T : Int) == 1) = true := by subst e1; rw [← hT]; rfl
          have hsay : Tlv.say nd t v = (0, { nd with key := v }) := by unfold Tlv.say; rw [if_pos e1]
          obtain ⟨hs1, hs2⟩ := HGO.out _ hsay
          have hn9 : NdAt (fun b => b ≠ r0) (wr.setCell ⟨g, 0, none⟩ (.slice A1 n1 c1)) g { nd with key := v } := HN.out.key c1 HR2.out HGA.out.1 HGA.out.2
          have hb9 : Below g w2 (wr.setCell ⟨g, 0, none⟩ (.slice A1 n1 c1)) := HBL.out.trans ((Below.refl g wr).setCell (p := ⟨g, 0, none⟩) (Nat.le_refl _) _)
          have HH := Lib.hid (And.intro hs2 (And.intro hn9 (And.intro hs1 hb9)))
          clear hs1 hs2 hn9 hb9 hsay hne hT HN HR2 HGA HGO HSTOP HZERO HBL HND
          go_wp2_with fail
          go_roundg gn
          case measure => omega
          case rel => exact ⟨j + 1, _, by omega, congrArg (Value.int .i64) (by omega), HH.out⟩
        by_cases e2 : t = 2
        · have q2 : ((T : Int) == 2) = true := by subst e2; rw [← hT]; rfl
          have q1 : ((T : Int) == 1) = false := hne 1 e1
          have hsay : Tlv.say nd t v = (0, { nd with value := v }) := by unfold Tlv.say; rw [if_neg e1, if_pos e2]
          obtain ⟨hs1, hs2⟩ := HGO.out _ hsay
          have hn9 : NdAt (fun b => b ≠ r0) (wr.setCell ⟨g, 1, none⟩ (.slice A1 n1 c1)) g { nd with value := v } := HN.out.value c1 HR2.out HGA.out.1 HGA.out.2
          have hb9 : Below g w2 (wr.setCell ⟨g, 1, none⟩ (.slice A1 n1 c1)) := HBL.out.trans ((Below.refl g wr).setCell (p := ⟨g, 1, none⟩) (Nat.le_refl _) _)
          have HH := Lib.hid (And.intro hs2 (And.intro hn9 (And.intro hs1 hb9)))
          clear hs1 hs2 hn9 hb9 hsay hne hT HN HR2 HGA HGO HSTOP HZERO HBL HND
          go_wp2_with fail
          go_roundg gn
          case measure => omega
          case rel => exact ⟨j + 1, _, by omega, congrArg (Value.int .i64) (by omega), HH.out⟩
        by_cases e3 : t = 3
        · have q3 : ((T : Int) == 3) = true := by subst e3; rw [← hT]; rfl
          have q1 : ((T : Int) == 1) = false := hne 1 e1
          have q2 : ((T : Int) == 2) = false := hne 2 e2
          cases hk : Tlv.okb v with
          | true =>
            have HC := Lib.hid (refValue_good A1 n1 c1 v wr _ HR2.out ((Tlv.okb_iff v).1 hk))
            have hlt := Tlv.val_fit v ((Tlv.okb_iff v).1 hk).1
            obtain ⟨x, hx⟩ : ∃ x, Tlv.val v = x := ⟨_, rfl⟩
            rw [hx] at HC hlt
            rcases Nat.lt_or_ge x 65 with h65 | h65
            · have hsay : Tlv.say nd t v = (0, { nd with h := (x : Int) }) := by unfold Tlv.say; rw [if_neg e1, if_neg e2, if_pos e3, if_pos hk, hx, Nat.min_eq_left (by omega)]
              have hn8 := HN.out.high 65
              have hf8 := hn8.free 2
              obtain ⟨_, _, _, _, g8, _⟩ := hn8.cells
              obtain ⟨hs1, hs2⟩ := HGO.out _ hsay
              have hn9 : NdAt (fun b => b ≠ r0) ((wr.setCell ⟨g, 2, none⟩ (.int .i64 65)).setCell ⟨g, 2, none⟩ (.int .i64 x)) g { nd with h := (x : Int) } := hn8.high x
              have hb9 : Below g w2 ((wr.setCell ⟨g, 2, none⟩ (.int .i64 65)).setCell ⟨g, 2, none⟩ (.int .i64 x)) := HBL.out.trans (((Below.refl g wr).setCell (p := ⟨g, 2, none⟩) (Nat.le_refl _) _).setCell (p := ⟨g, 2, none⟩) (Nat.le_refl _) _)
              have HH := Lib.hid (And.intro hs2 (And.intro hn9 (And.intro hs1 hb9)))
              have q65 : decide ((x : Int) < 65) = true := by simp; omega
              have hxi : wrap64 (x : Int) = x := by unfold wrap64; omega
              clear hs1 hs2 hn9 hb9 hsay hne hT hn8 HN HR2 HGA HGO HSTOP HZERO HBL HND hk hx
              go_wp2_with fail
              refine HC.out.mono ?_
              rintro e w4 ⟨rfl, rfl⟩
              clear HC
              go_wp2_with fail
              go_roundg gn
              case measure => omega
              case rel => exact ⟨j + 1, _, by omega, congrArg (Value.int .i64) (by omega), HH.out⟩
            · have hsay : Tlv.say nd t v = (0, { nd with h := 65 }) := by unfold Tlv.say; rw [if_neg e1, if_neg e2, if_pos e3, if_pos hk, hx, Nat.min_eq_right h65]; rfl
              obtain ⟨hs1, hs2⟩ := HGO.out _ hsay
              have hn9 : NdAt (fun b => b ≠ r0) (wr.setCell ⟨g, 2, none⟩ (.int .i64 65)) g { nd with h := 65 } := HN.out.high 65
              have hb9 : Below g w2 (wr.setCell ⟨g, 2, none⟩ (.int .i64 65)) := HBL.out.trans ((Below.refl g wr).setCell (p := ⟨g, 2, none⟩) (Nat.le_refl _) _)
              have HH := Lib.hid (And.intro hs2 (And.intro hn9 (And.intro hs1 hb9)))
              have q65 : decide ((x : Int) < 65) = false := by simp; omega
              clear hs1 hs2 hn9 hb9 hsay hne hT HN HR2 HGA HGO HSTOP HZERO HBL HND hk hx
              go_wp2_with fail
              refine HC.out.mono ?_
              rintro e w4 ⟨rfl, rfl⟩
              clear HC
              go_wp2_with fail
              go_roundg gn
              case measure => omega
              case rel => exact ⟨j + 1, _, by omega, congrArg (Value.int .i64) (by omega), HH.out⟩
          | false =>
            have HC := Lib.hid (refValue_bad A1 n1 c1 v wr _ HR2.out (fun h => by have := (Tlv.okb_iff v).2 h; rw [hk] at this; simp at this))
            have hsay : Tlv.say nd t v = (7, nd) := by unfold Tlv.say; rw [if_neg e1, if_neg e2, if_pos e3, if_neg (by rw [hk]; simp)]
            have hn8 := HN.out.high 65
            have hf8 := hn8.free 2
            obtain ⟨_, _, _, _, g8, _⟩ := hn8.cells
            obtain ⟨hz1, hz2, hz3⟩ := HZERO.out 7 ((wr.setCell ⟨g, 2, none⟩ (.int .i64 65)).setCell ⟨g, 2, none⟩ (.int .i64 0)) (HSTOP.out 7 (by decide) (by rw [hsay])) (((Below.refl g wr).setCell (p := ⟨g, 2, none⟩) (Nat.le_refl _) _).setCell (p := ⟨g, 2, none⟩) (Nat.le_refl _) _)
            have HZ3 := Lib.hid (And.intro hz1 (And.intro hz2 hz3))
            clear hz1 hz2 hz3 hsay hne hT
            clear hn8 HN HR2 HGA HGO HSTOP HZERO HBL HND hk
            go_wp2_with fail
            refine HC.out.mono ?_
            rintro e w4 ⟨rfl, rfl⟩
            clear HC
            go_upto_region 29 with (fail)
            refine wp_region_lit ?_
            iterate 3 go_step
            refine wpList_store_mid rfl 27 (.tmp 2) (.tmp 86) rfl r0 0 z27 rfl rfl HZ3.out.1 (by rw [z27_size]; exact info27) z27_one ?_
            generalize ((wr.setCell ⟨g, 2, none⟩ (.int .i64 65)).setCell ⟨g, 2, none⟩ (.int .i64 0)).setCells r0 0 z27.toList = w5 at *
            go_wp2_with fail
            refine bodyPost_end (results_cell2 rfl _ _ _ _ _ rfl (z27_load HZ3.out.2.1)) rfl ?_
            exact HZ3.out.2.2
        by_cases e4 : t = 4
        · have q4 : ((T : Int) == 4) = true := by subst e4; rw [← hT]; rfl
          have q1 : ((T : Int) == 1) = false := hne 1 e1
          have q2 : ((T : Int) == 2) = false := hne 2 e2
          have q3 : ((T : Int) == 3) = false := hne 3 e3
          cases hk : Tlv.okb v with
          | true =>
            have HC := Lib.hid (refValue_good A1 n1 c1 v wr _ HR2.out ((Tlv.okb_iff v).1 hk))
            obtain ⟨x, hx⟩ : ∃ x, Tlv.val v = x := ⟨_, rfl⟩
            rw [hx] at HC
            have hsay : Tlv.say nd t v = (0, { nd with z := x }) := by unfold Tlv.say; rw [if_neg e1, if_neg e2, if_neg e3, if_pos e4, if_pos hk, hx]
            obtain ⟨hs1, hs2⟩ := HGO.out _ hsay
            have hn9 : NdAt (fun b => b ≠ r0) (wr.setCell ⟨g, 3, none⟩ (.int .u64 x)) g { nd with z := x } := HN.out.size x
            have hb9 : Below g w2 (wr.setCell ⟨g, 3, none⟩ (.int .u64 x)) := HBL.out.trans ((Below.refl g wr).setCell (p := ⟨g, 3, none⟩) (Nat.le_refl _) _)
            have HH := Lib.hid (And.intro hs2 (And.intro hn9 (And.intro hs1 hb9)))
            clear hs1 hs2 hn9 hb9 hsay hne hT HN HR2 HGA HGO HSTOP HZERO HBL HND hk hx
            go_wp2_with fail
            refine HC.out.mono ?_
            rintro e w4 ⟨rfl, rfl⟩
            clear HC
            go_wp2_with fail
            go_roundg gn
            case measure => omega
            case rel => exact ⟨j + 1, _, by omega, congrArg (Value.int .i64) (by omega), HH.out⟩
          | false =>
            have HC := Lib.hid (refValue_bad A1 n1 c1 v wr _ HR2.out (fun h => by have := (Tlv.okb_iff v).2 h; rw [hk] at this; simp at this))
            have hsay : Tlv.say nd t v = (7, nd) := by unfold Tlv.say; rw [if_neg e1, if_neg e2, if_neg e3, if_pos e4, if_neg (by rw [hk]; simp)]
            obtain ⟨hz1, hz2, hz3⟩ := HZERO.out 7 (wr.setCell ⟨g, 3, none⟩ (.int .u64 0)) (HSTOP.out 7 (by decide) (by rw [hsay])) ((Below.refl g wr).setCell (p := ⟨g, 3, none⟩) (Nat.le_refl _) _)
            have HZ3 := Lib.hid (And.intro hz1 (And.intro hz2 hz3))
            clear hz1 hz2 hz3 hsay hne hT
            clear HN HR2 HGA HGO HSTOP HZERO HBL HND hk
            go_wp2_with fail
            refine HC.out.mono ?_
            rintro e w4 ⟨rfl, rfl⟩
            clear HC
            go_upto_region 29 with (fail)
            refine wp_region_lit ?_
            iterate 3 go_step
            refine wpList_store_mid rfl 27 (.tmp 2) (.tmp 86) rfl r0 0 z27 rfl rfl HZ3.out.1 (by rw [z27_size]; exact info27) z27_one ?_
            generalize (wr.setCell ⟨g, 3, none⟩ (.int .u64 0)).setCells r0 0 z27.toList = w5 at *
            go_wp2_with fail
            refine bodyPost_end (results_cell2 rfl _ _ _ _ _ rfl (z27_load HZ3.out.2.1)) rfl ?_
            exact HZ3.out.2.2
        by_cases e5 : t = 5
        · have q5 : ((T : Int) == 5) = true := by subst e5; rw [← hT]; rfl
          have q1 : ((T : Int) == 1) = false := hne 1 e1
          have q2 : ((T : Int) == 2) = false := hne 2 e2
          have q3 : ((T : Int) == 3) = false := hne 3 e3
          have q4 : ((T : Int) == 4) = false := hne 4 e4
          have HC := Lib.hid (refSum_any A1 n1 c1 v wr (HR2.out.more (Nat.le_of_lt hgs)))
          by_cases h32 : v.length = 32
          · have hsay : Tlv.say nd t v = (0, { nd with l := v }) := by unfold Tlv.say; rw [if_neg e1, if_neg e2, if_neg e3, if_neg e4, if_pos e5, if_pos h32]
            obtain ⟨hs1, hs2⟩ := HGO.out _ hsay
            have HSS := Lib.hid (And.intro hs1 (And.intro hs2 h32))
            have hz25 := info25
            clear hs1 hs2 hsay hne hT h32 g0 g1 g2 g3 f0 f1 f2 f3
            go_wp2_with fail
            refine HC.out.mono ?_
            rintro e w4 ⟨hga, hgb, hb4⟩
            obtain rfl := hga HSS.out.2.2
            clear hga hgb HC hz25
            have hn8 := HN.out.below hb4 hgs
            have hn9 := hn8.left HFI.out HSS.out.2.2
            have hb8 := hb4.mono (Nat.le_of_lt hgs)
            have hb9 : Below g w2 (w4.setCells g 4 (bcells v).toList) := below_setCells w2 g _ 4 (HBL.out.trans hb8) (Nat.le_refl _)
            have HH := Lib.hid (And.intro HSS.out.2.1 (And.intro hn9 (And.intro HSS.out.1 hb9)))
            have HTH : Hid (w4.there g 4 (bcells v).size) := Lib.hid (by rw [bcells_size, HSS.out.2.2]; exact hn8.there HFI.out 4 (by omega))
            have HSZ : Hid ((Try.prog.info? 25).map (·.size) = some (bcells v).size) := Lib.hid (by rw [bcells_size, HSS.out.2.2]; exact info25)
            have HONE := Lib.hid (bcells_one v)
            clear hn8 hn9 hb8 hb9 hb4 HN HR2 HGA HGO HSTOP HZERO HBL HND HSS
            generalize bcells v = bc at *
            rename_i hK
            refine hK _ _ ?_
            iterate 12 go_step
            refine wpList_store_mid rfl 25 (.tmp 75) (.tmp 73) rfl g 4 bc rfl rfl HTH.out HSZ.out HONE.out ?_
            generalize w4.setCells g 4 bc.toList = w5 at *
            go_wp2_with fail
            go_roundg gn
            case measure => omega
            case rel => exact ⟨j + 1, _, by omega, congrArg (Value.int .i64) (by omega), HH.out⟩
          · have hsay : Tlv.say nd t v = (7, nd) := by unfold Tlv.say; rw [if_neg e1, if_neg e2, if_neg e3, if_neg e4, if_pos e5, if_neg h32]
            have HSS := Lib.hid h32
            have hcode := HSTOP.out 7 (by decide) (by rw [hsay])
            have HCODE := Lib.hid hcode
            clear hsay hne hT h32 g0 g1 g2 g3 f0 f1 f2 f3 hcode
            go_wp2_with fail
            refine HC.out.mono ?_
            rintro e w4 ⟨hga, hgb, hb4⟩
            obtain rfl := hgb HSS.out
            clear hga hgb HC
            have hn8 := HN.out.below hb4 hgs
            have hb9 : Below g wr (w4.setCells g 4 (zb 32).toList) := below_setCells wr g _ 4 (hb4.mono (Nat.le_of_lt hgs)) (Nat.le_refl _)
            obtain ⟨hz1, hz2, hz3⟩ := HZERO.out 7 _ HCODE.out hb9
            have HZ3 := Lib.hid (And.intro hz1 (And.intro hz2 hz3))
            have HTH : Hid (w4.there g 4 (zb 32).size) := Lib.hid (by rw [zb_size]; exact hn8.there HFI.out 4 (by omega))
            clear hn8 hb9 hb4 HN HR2 HGA HGO HSTOP HZERO HBL HND HSS hz1 hz2 hz3
            rename_i hK
            refine hK _ _ ?_
            iterate 12 go_step
            refine wpList_store_mid rfl 25 (.tmp 75) (.tmp 73) rfl g 4 (zb 32) rfl rfl HTH.out (by rw [zb_size]; exact info25) (bcells_one Tlv.nought) ?_
            generalize w4.setCells g 4 (zb 32).toList = w6 at *
            go_upto_region 29 with (fail)
            refine wp_region_lit ?_
            iterate 3 go_step
            refine wpList_store_mid rfl 27 (.tmp 2) (.tmp 86) rfl r0 0 z27 rfl rfl HZ3.out.1 (by rw [z27_size]; exact info27) z27_one ?_
            generalize (w6).setCells r0 0 z27.toList = w5 at *
            go_wp2_with fail
            refine bodyPost_end (results_cell2 rfl _ _ _ _ _ rfl (z27_load HZ3.out.2.1)) rfl ?_
            exact HZ3.out.2.2
        by_cases e6 : t = 6
        · have q6 : ((T : Int) == 6) = true := by subst e6; rw [← hT]; rfl
          have q1 : ((T : Int) == 1) = false := hne 1 e1
          have q2 : ((T : Int) == 2) = false := hne 2 e2
          have q3 : ((T : Int) == 3) = false := hne 3 e3
          have q4 : ((T : Int) == 4) = false := hne 4 e4
          have q5 : ((T : Int) == 5) = false := hne 5 e5
          have HC := Lib.hid (refSum_any A1 n1 c1 v wr (HR2.out.more (Nat.le_of_lt hgs)))
          by_cases h32 : v.length = 32
          · have hsay : Tlv.say nd t v = (0, { nd with r := v }) := by unfold Tlv.say; rw [if_neg e1, if_neg e2, if_neg e3, if_neg e4, if_neg e5, if_pos e6, if_pos h32]
            obtain ⟨hs1, hs2⟩ := HGO.out _ hsay
            have HSS := Lib.hid (And.intro hs1 (And.intro hs2 h32))
            have hz25 := info25
            clear hs1 hs2 hsay hne hT h32 g0 g1 g2 g3 f0 f1 f2 f3
            go_wp2_with fail
            refine HC.out.mono ?_
            rintro e w4 ⟨hga, hgb, hb4⟩
            obtain rfl := hga HSS.out.2.2
            clear hga hgb HC hz25
            have hn8 := HN.out.below hb4 hgs
            have hn9 := hn8.right HFI.out HSS.out.2.2
            have hb8 := hb4.mono (Nat.le_of_lt hgs)
            have hb9 : Below g w2 (w4.setCells g 36 (bcells v).toList) := below_setCells w2 g _ 36 (HBL.out.trans hb8) (Nat.le_refl _)
            have HH := Lib.hid (And.intro HSS.out.2.1 (And.intro hn9 (And.intro HSS.out.1 hb9)))
            have HTH : Hid (w4.there g 36 (bcells v).size) := Lib.hid (by rw [bcells_size, HSS.out.2.2]; exact hn8.there HFI.out 36 (by omega))
            have HSZ : Hid ((Try.prog.info? 25).map (·.size) = some (bcells v).size) := Lib.hid (by rw [bcells_size, HSS.out.2.2]; exact info25)
            have HONE := Lib.hid (bcells_one v)
            clear hn8 hn9 hb8 hb9 hb4 HN HR2 HGA HGO HSTOP HZERO HBL HND HSS
            generalize bcells v = bc at *
            rename_i hK
            refine hK _ _ ?_
            iterate 12 go_step
            refine wpList_store_mid rfl 25 (.tmp 83) (.tmp 81) rfl g 36 bc rfl rfl HTH.out HSZ.out HONE.out ?_
            generalize w4.setCells g 36 bc.toList = w5 at *
            go_wp2_with fail
            go_roundg gn
            case measure => omega
            case rel => exact ⟨j + 1, _, by omega, congrArg (Value.int .i64) (by omega), HH.out⟩
          · have hsay : Tlv.say nd t v = (7, nd) := by unfold Tlv.say; rw [if_neg e1, if_neg e2, if_neg e3, if_neg e4, if_neg e5, if_pos e6, if_neg h32]
            have HSS := Lib.hid h32
            have hcode := HSTOP.out 7 (by decide) (by rw [hsay])
            have HCODE := Lib.hid hcode
            clear hsay hne hT h32 g0 g1 g2 g3 f0 f1 f2 f3 hcode
            go_wp2_with fail
            refine HC.out.mono ?_
            rintro e w4 ⟨hga, hgb, hb4⟩
            obtain rfl := hgb HSS.out
            clear hga hgb HC
            have hn8 := HN.out.below hb4 hgs
            have hb9 : Below g wr (w4.setCells g 36 (zb 32).toList) := below_setCells wr g _ 36 (hb4.mono (Nat.le_of_lt hgs)) (Nat.le_refl _)
            obtain ⟨hz1, hz2, hz3⟩ := HZERO.out 7 _ HCODE.out hb9
            have HZ3 := Lib.hid (And.intro hz1 (And.intro hz2 hz3))
            have HTH : Hid (w4.there g 36 (zb 32).size) := Lib.hid (by rw [zb_size]; exact hn8.there HFI.out 36 (by omega))
            clear hn8 hb9 hb4 HN HR2 HGA HGO HSTOP HZERO HBL HND HSS hz1 hz2 hz3
            rename_i hK
            refine hK _ _ ?_
            iterate 12 go_step
            refine wpList_store_mid rfl 25 (.tmp 83) (.tmp 81) rfl g 36 (zb 32) rfl rfl HTH.out (by rw [zb_size]; exact info25) (bcells_one Tlv.nought) ?_
            generalize w4.setCells g 36 (zb 32).toList = w6 at *
            go_upto_region 29 with (fail)
            refine wp_region_lit ?_
            iterate 3 go_step
            refine wpList_store_mid rfl 27 (.tmp 2) (.tmp 86) rfl r0 0 z27 rfl rfl HZ3.out.1 (by rw [z27_size]; exact info27) z27_one ?_
            generalize (w6).setCells r0 0 z27.toList = w5 at *
            go_wp2_with fail
            refine bodyPost_end (results_cell2 rfl _ _ _ _ _ rfl (z27_load HZ3.out.2.1)) rfl ?_
            exact HZ3.out.2.2
        have hsay : Tlv.say nd t v = (8, nd) := say_other e1 e2 e3 e4 e5 e6
        have q1 : ((T : Int) == 1) = false := hne 1 e1
        have q2 : ((T : Int) == 2) = false := hne 2 e2
        have q3 : ((T : Int) == 3) = false := hne 3 e3
        have q4 : ((T : Int) == 4) = false := hne 4 e4
        have q5 : ((T : Int) == 5) = false := hne 5 e5
        have q6 : ((T : Int) == 6) = false := hne 6 e6
        obtain ⟨hz1, hz2, hz3⟩ := HZERO.out 8 (wr) (HSTOP.out 8 (by decide) (by rw [hsay])) (Below.refl g wr)
        have HZ3 := Lib.hid (And.intro hz1 (And.intro hz2 hz3))
        clear hz1 hz2 hz3 hsay hne hT
        clear e1 e2 e3 e4 e5 e6 HN HR2 HGA HGO HSTOP HZERO HBL HND g0 g1 g2 g3 f0 f1 f2 f3
        go_upto_region 12 with (fail)
        refine wp_region_lit ?_
        iterate 3 go_step
        refine wpList_store_mid rfl 27 (.tmp 2) (.tmp 38) rfl r0 0 z27 rfl rfl HZ3.out.1 (by rw [z27_size]; exact info27) z27_one ?_
        generalize (wr).setCells r0 0 z27.toList = w5 at *
        go_wp2_with fail
        refine bodyPost_end (results_cell2 rfl _ _ _ _ _ rfl (z27_load HZ3.out.2.1)) rfl ?_
        exact HZ3.out.2.2
      | zero =>
        obtain rfl : j = k := by omega
        have hsay : Tlv.says Nd.one fs = (0, nd) := by rw [← HS.out, List.drop_of_length_le (Nat.le_of_eq HG.out.2)]; rfl
        have hdec : Tlv.dec bs = Tlv.judge nd bs := by unfold Tlv.dec; rw [if_pos HPC.out.1, HPC.out.2, hsay, if_pos rfl]
        obtain ⟨Ax, nx, cx, Ay, ny, cy, hWn, hKn, hgK, hgV⟩ := HN.out
        have HGG := Lib.hid (And.intro hgK hgV)
        clear hgK hgV
        have hgs := hWn.lt
        have HENC := Lib.hid (refEncode_any Ax nx cx Ay ny cy nd wr (hKn.more (Nat.le_of_lt hgs)) HFI.out)
        have HWN := Lib.hid hWn
        have HKN := Lib.hid hKn
        have HDEC := Lib.hid hdec
        have hsz : (ndc Ax nx cx Ay ny cy nd).toArray.size = 68 := by rw [List.size_toArray, ndc_len HFI.out]
        have hone : (ndc Ax nx cx Ay ny cy nd).toArray.all (·.oneCell') = true := acells_one _ _ _ _ _ _ _ _ _ _
        generalize hX : (ndc Ax nx cx Ay ny cy nd).toArray = X at *
        have HX := Lib.hid hX
        have HI : Hid ((Try.prog.info? 27).map (·.size) = some X.size) := Lib.hid (by rw [hsz]; exact info27)
        have HONE := Lib.hid hone
        clear hsay hdec hWn hKn hX HN HS hone
        go_upto_region 30 with (fail)
        refine wp_region_lit ?_
        refine wpList_load_g rfl 27 (.tmp 6) rfl g rfl 27 X _ HWN.out Try.underlying27 rfl HI.out ?_
        go_wp2_with fail
        refine HENC.out.mono ?_
        rintro e w4 ⟨Ae, ne, ce, rfl, hre, hbe⟩
        have hW5 := HWN.out.below hbe hgs
        have hK5 := HKN.out.below (hbe.mono (Nat.le_of_lt hgs)) (Nat.le_refl _)
        have hB4 := HBL.out.trans (hbe.mono (Nat.le_of_lt hgs))
        have hW0 := HW2.out.below hB4 hR0
        have hB5 := HB2.out.trans (hB4.mono (Nat.le_of_lt hR0))
        have hr5 := HBS.out.below (HB2.out.trans (HBL.out.mono (Nat.le_of_lt hR0))) (by rw [HG.out.1]; exact Nat.le_refl _)
        have hr6 := (hr5.below (hbe.mono (Nat.le_of_lt (Nat.lt_trans hR0 hgs))) (by rw [HG.out.1]; exact Nat.le_refl _))
        obtain ⟨ecode, hec⟩ : ∃ x, (Tlv.enc nd).1 = x := ⟨_, rfl⟩
        obtain ⟨eb, heb⟩ : ∃ x, (Tlv.enc nd).2 = x := ⟨_, rfl⟩
        rw [hec]
        rw [heb] at hre
        rcases Nat.eq_zero_or_pos ecode with h0 | h0
        · subst h0
          have t1 := run_string w4 _ Ae ne ce eb hre
          have t2 := run_string w4 _ A n c bs hr6
          clear hre hr5 hr6 HENC
          cases hcmp : (eb == bs) with
          | false =>
            have HCMP := Lib.hid hcmp
            have hdec : Tlv.dec bs = (7, Nd.zero) := by rw [HDEC.out]; unfold Tlv.judge; rw [hec, if_pos rfl, heb, if_neg (by simpa using HCMP.out)]
            obtain ⟨hA, hB⟩ := zero_post (w := w) 7 (Nat.le_of_eq HG.out.1) hW0 (by rw [HG.out.1]; exact hB5)
            rw [← hdec] at hB
            have HFIN := Lib.hid (And.intro hA hB)
            have HTH := Lib.hid hW0.there_
            clear hbe hW5 hK5 hB4 hW0 hB5 hec heb hdec hA hB HWN HKN HDEC HX HI HONE HBL
            go_upto_region 34 with (fail)
            refine wp_region_lit ?_
            iterate 3 go_step
            refine wpList_store_mid rfl 27 (.tmp 2) (.tmp 101) rfl r0 0 z27 rfl rfl HTH.out (by rw [z27_size]; exact info27) z27_one ?_
            generalize w4.setCells r0 0 z27.toList = w5 at *
            go_wp2_with fail
            refine bodyPost_end (results_cell2 rfl _ _ _ _ _ rfl (z27_load HFIN.out.1)) rfl ?_
            exact HFIN.out.2
          | true =>
            have HCMP := Lib.hid hcmp
            have hdec : Tlv.dec bs = (0, nd) := by rw [HDEC.out]; unfold Tlv.judge; rw [hec, if_pos rfl, heb, if_pos (by simpa using HCMP.out)]
            have hWr := hW0.setAll (vs := X) (by rw [z27_size, hsz])
            have hBr : Below r0 w (w4.setCells r0 0 X.toList) := below_setCells w r0 _ 0 hB5 (Nat.le_refl _)
            have hKr : NRd (w4.setCells r0 0 X.toList) (w4.setCells r0 0 X.toList).heap.size Ax nx cx Ay ny cy nd := by
              rw [size_setCells]
              have hlw : g ≤ w4.heap.size := by have := hbe.size; omega
              exact ⟨(hK5.key.more hlw).cells_far HGG.out.1 _ 0, hK5.knc, (hK5.val.more hlw).cells_far HGG.out.2 _ 0, hK5.vnc⟩
            have hP : DecPost w (Tlv.dec bs) (.returned (.tuple #[.agg X, .int .i64 0])) (w4.setCells r0 0 X.toList) := by
              rw [hdec, ← HX.out]
              exact ⟨Ax, nx, cx, Ay, ny, cy, rfl, by rw [HX.out]; exact hKr, by rw [HX.out, HG.out.1]; exact hBr⟩
            have HFIN := Lib.hid (And.intro hWr hP)
            have HTH : Hid (w4.there r0 0 X.size) := Lib.hid (by rw [hsz]; exact hW0.there_)
            have HW5 := Lib.hid hW5
            clear hbe hW5 hK5 hB4 hW0 hB5 hec heb hdec hWr hBr hKr hP HWN HKN HDEC HX HBL
            go_upto_region 35 with (fail)
            refine wp_region_lit ?_
            refine wpList_load_g rfl 27 (.tmp 6) rfl g rfl 27 X _ HW5.out Try.underlying27 rfl HI.out ?_
            refine wpList_store_mid rfl 27 (.tmp 2) (.tmp 102) rfl r0 0 X rfl rfl HTH.out HI.out HONE.out ?_
            generalize w4.setCells r0 0 X.toList = w5 at *
            go_wp2_with fail
            refine bodyPost_end (results_cell2 rfl _ _ _ _ _ rfl (load_whole HFIN.out.1 27 _ Try.underlying27 rfl HI.out)) rfl ?_
            exact HFIN.out.2
        · have q1 : ((ecode : Int) != 0) = true := by simp; omega
          have hdec : Tlv.dec bs = (ecode, Nd.zero) := by rw [HDEC.out]; unfold Tlv.judge; rw [hec, if_neg (by omega)]
          obtain ⟨hA, hB⟩ := zero_post (w := w) ecode (Nat.le_of_eq HG.out.1) hW0 (by rw [HG.out.1]; exact hB5)
          rw [← hdec] at hB
          have HFIN := Lib.hid (And.intro hA hB)
          have HTH := Lib.hid hW0.there_
          clear hre hbe hW5 hK5 hB4 hW0 hB5 hr5 hr6 hec heb h0 hdec hA hB HENC HWN HKN HDEC HX HI HONE HBL
          go_upto_region 32 with (fail)
          refine wp_region_lit ?_
          iterate 6 go_step
          refine wpList_store_mid rfl 27 (.tmp 2) (.tmp 94) rfl r0 0 z27 rfl rfl HTH.out (by rw [z27_size]; exact info27) z27_one ?_
          generalize w4.setCells r0 0 z27.toList = w5 at *
          go_wp2_with fail
          refine bodyPost_end (results_cell2 rfl _ _ _ _ _ rfl (z27_load HFIN.out.1)) rfl ?_
          exact HFIN.out.2
  · have q1 : ((pc : Int) != 0) = true := by simp; omega
    have hdec : Tlv.dec bs = (pc, Nd.zero) := by unfold Tlv.dec; rw [hpc, if_neg h0]
    obtain ⟨hA, hB⟩ := zero_post pc (Nat.le_refl _) hW1 hB1
    rw [← hdec] at hB
    have HFIN := Lib.hid (And.intro hA hB)
    have HTH := Lib.hid hW1.there_
    clear hpc hfs hF hW1 hB1 hb1 HP HB0 HW0 hA hB hdec h0
    go_upto_region 3 with (fail)
    refine wp_region_lit ?_
    iterate 6 go_step
    refine wpList_store_mid rfl 27 (.tmp 2) (.tmp 19) rfl w.heap.size 0 z27 rfl rfl HTH.out (by rw [z27_size]; exact info27) z27_one ?_
    generalize w1.setCells w.heap.size 0 z27.toList = w5 at *
    go_wp2_with fail
    refine bodyPost_end (results_cell2 rfl _ _ _ _ _ rfl (z27_load HFIN.out.1)) rfl ?_
    exact HFIN.out.2
end Go.Proofs.Ytemagoacjpilaaa
