/-
  What take does: it lays what a field says into a node, or answers an error; condition: the node lies in a block of its own, its bytes and the field's lie ahead of it. All ahead of it is as it was.
-/
import Derived.Test.YtolkpjbbfopmnaaDoorTlNdSum
import Derived.Test.YtolkpjbbfopmnaaDoorTlFields
namespace Go.Proofs.YtolkpjbbfopmnaaDoor.Tl
open Go.RowKit
open Tlv (Nd)

theorem acells_setk {w : World} {g : Nat} {t : TypeId} {kv vv : Value} {h : Int} {z : Nat} {l r : List UInt8} (hw : Whole w g t (acells kv vv h z l r).toArray) (u : Value) : Whole (w.setCell ⟨g, 0, none⟩ u) g t (acells u vv h z l r).toArray := by
  have := hw.set 0 u
  simpa [acells] using this
theorem acells_setv {w : World} {g : Nat} {t : TypeId} {kv vv : Value} {h : Int} {z : Nat} {l r : List UInt8} (hw : Whole w g t (acells kv vv h z l r).toArray) (u : Value) : Whole (w.setCell ⟨g, 1, none⟩ u) g t (acells kv u h z l r).toArray := by
  have := hw.set 1 u
  simpa [acells] using this
theorem acells_seth {w : World} {g : Nat} {t : TypeId} {kv vv : Value} {h : Int} {z : Nat} {l r : List UInt8} (hw : Whole w g t (acells kv vv h z l r).toArray) (u : Int) : Whole (w.setCell ⟨g, 2, none⟩ (.int .i64 u)) g t (acells kv vv u z l r).toArray := by
  have := hw.set 2 (.int .i64 u)
  simpa [acells] using this
theorem acells_setz {w : World} {g : Nat} {t : TypeId} {kv vv : Value} {h : Int} {z : Nat} {l r : List UInt8} (hw : Whole w g t (acells kv vv h z l r).toArray) (u : Nat) : Whole (w.setCell ⟨g, 3, none⟩ (.int .u64 u)) g t (acells kv vv h u l r).toArray := by
  have := hw.set 3 (.int .u64 u)
  simpa [acells] using this
theorem acells_setl {w : World} {g : Nat} {t : TypeId} {kv vv : Value} {h : Int} {z : Nat} {l r l' : List UInt8} (hw : Whole w g t (acells kv vv h z l r).toArray) (hl : l.length = l'.length) :
    Whole (w.setCells g 4 (bcells l').toList) g t (acells kv vv h z l' r).toArray := by
  have := Whole.setCells (w := w) (g := g) (t := t) (l'.map V8) [kv, vv, .int .i64 h, .int .u64 z] (l.map V8) (r.map V8) hw (by simp [hl])
  simpa [acells, bcells] using this
theorem acells_setr {w : World} {g : Nat} {t : TypeId} {kv vv : Value} {h : Int} {z : Nat} {l r r' : List UInt8} (hw : Whole w g t (acells kv vv h z l r).toArray) (h32 : l.length = 32) (hl : r.length = r'.length) :
    Whole (w.setCells g 36 (bcells r').toList) g t (acells kv vv h z l r').toArray := by
  have := Whole.setCells (w := w) (g := g) (t := t) (r'.map V8) ([kv, vv, .int .i64 h, .int .u64 z] ++ l.map V8) (r.map V8) [] (by simpa [acells] using hw) (by simp [hl])
  have h36 : ([kv, vv, Value.int .i64 h, Value.int .u64 z] ++ l.map V8).length = 36 := by simp [h32]
  rw [h36] at this
  simpa [acells, bcells] using this

/-- Block g holds the node, whose bytes lie ahead of it. -/
def NdAt (G : Nat → Prop) (w : World) (g : Nat) (nd : Nd) : Prop := ∃ A n c A' n' c', Whole w g 47 (ndc A n c A' n' c' nd).toArray ∧ NRd w g A n c A' n' c' nd ∧ BG G A n ∧ BG G A' n'
def TakePost (G : Nat → Prop) (w : World) (g : Nat) (r : Nat × Nd) (e : Ending) (w' : World) : Prop :=
  e = .returned (.int .i64 r.1) ∧ (r.1 = 0 → NdAt G w' g r.2) ∧ Below g w w'
theorem say_other {nd : Nd} {t : UInt8} {v : List UInt8} (h1 : t ≠ 1) (h2 : t ≠ 2) (h3 : t ≠ 3) (h4 : t ≠ 4) (h5 : t ≠ 5) (h6 : t ≠ 6) : Tlv.say nd t v = (8, nd) := by
  unfold Tlv.say
  rw [if_neg h1, if_neg h2, if_neg h3, if_neg h4, if_neg h5, if_neg h6]

set_option maxRecDepth 100000 in
set_option maxHeartbeats 1000000 in
theorem take_any {G : Nat → Prop} (g : Nat) (nd : Nd) (t : UInt8) (A2 : Option Addr) (n2 c2 : Nat) (v : List UInt8) (w : World) (h : NdAt G w g nd) (hf : nd.fit) (hr : Rd w g A2 n2 v) (hnc : n2 ≤ c2) (hg2 : BG G A2 n2) :
    Calls Tryd.prog 50 #[.pointer (some ⟨g, 0, none⟩), .agg #[.int .u8 t.toNat, .slice A2 n2 c2]] w (TakePost G w g (Tlv.say nd t v)) := by
  obtain ⟨A, n, c, A', n', c', hW, hN, hgK, hgV⟩ := h
  have HGS := Lib.hid (And.intro hg2 (And.intro hgK hgV))
  clear hg2 hgK hgV
  have hgs := hW.lt
  have hb1 : Below g w (w.alloc (.cells #[.int .u8 t.toNat, .slice A2 n2 c2] 102)) := (Below.refl _ _).alloc (Nat.le_of_lt hgs) _
  have hw1 := hW.alloc (.cells #[.int .u8 t.toNat, .slice A2 n2 c2] 102)
  have hf1 := Whole.made w 102 #[.int .u8 t.toNat, .slice A2 n2 c2]
  have t0 := hf1.at_ (i := 0) rfl
  have t1 := hf1.at_ (i := 1) rfl
  have hr1 := hr.below hb1 (Nat.le_refl _)
  have hN1 := hN.below hb1 (Nat.le_refl _)
  have hs1 : (w.alloc (.cells #[.int .u8 t.toNat, .slice A2 n2 c2] 102)).heap.size = w.heap.size + 1 := size_alloc _ _
  have HB := Lib.hid hb1
  have HW := Lib.hid hw1
  have HF := Lib.hid hf
  have HR := Lib.hid hr1
  have HN := Lib.hid hN1
  obtain ⟨b0, b1, b2, b3⟩ := abox hw1
  clear hW hN hb1 hw1 hf1 hf hr hr1 hN1
  obtain ⟨T, hT⟩ : ∃ T : Nat, t.toNat = T := ⟨_, rfl⟩
  rw [hT] at t0 t1 hs1 HB HW HR HN b0 b1 b2 b3 ⊢
  generalize hw1 : w.alloc (.cells #[.int .u8 T, .slice A2 n2 c2] 102) = w1 at *
  have hne : ∀ k : UInt8, t ≠ k → ((T : Int) == (k.toNat : Int)) = false := fun k hk => by
    rw [beq_eq_false_iff_ne]
    intro e
    exact hk (UInt8.toNat_inj.1 (by omega))
  by_cases e1 : t = 1
  · have q1 : ((T : Int) == 1) = true := by subst e1; rw [← hT]; rfl
    have hsay : Tlv.say nd t v = (0, { nd with key := v }) := by unfold Tlv.say; rw [if_pos e1]
    rw [hsay]
    clear hsay hne hT
    have hw2 := acells_setk HW.out (.slice A2 n2 c2)
    have hb2 : Below g w (w1.setCell ⟨g, 0, none⟩ (.slice A2 n2 c2)) := HB.out.setCell (p := ⟨g, 0, none⟩) (Nat.le_refl _) _
    have hn2 := HN.out.below ((Below.refl g w1).setCell (p := ⟨g, 0, none⟩) (Nat.le_refl _) (.slice A2 n2 c2)) (Nat.le_refl _)
    have hr2 := HR.out.below ((Below.refl g w1).setCell (p := ⟨g, 0, none⟩) (Nat.le_refl _) (.slice A2 n2 c2)) (Nat.le_refl _)
    have HFIN : Hid (TakePost G w g (0, { nd with key := v }) (.returned (.int .i64 0)) (w1.setCell ⟨g, 0, none⟩ (.slice A2 n2 c2))) := Lib.hid ⟨rfl, fun _ => ⟨A2, n2, c2, A', n', c', hw2, ⟨hr2, hnc, hn2.val, hn2.vnc⟩, HGS.out.1, HGS.out.2.2⟩, hb2⟩
    have hfree := HW.out.free 0
    clear hw2 hb2 hn2 hr2 HB HW HN HR HF
    go_enter Tryd.func50, Tryd.ntmps50
    go_wp2_with fail
    go_ret
    exact HFIN.out
  by_cases e2 : t = 2
  · have q2 : ((T : Int) == 2) = true := by subst e2; rw [← hT]; rfl
    have q1 : ((T : Int) == 1) = false := hne 1 e1
    have hsay : Tlv.say nd t v = (0, { nd with value := v }) := by unfold Tlv.say; rw [if_neg e1, if_pos e2]
    rw [hsay]
    clear hsay hne hT
    have hw2 := acells_setv HW.out (.slice A2 n2 c2)
    have hb2 : Below g w (w1.setCell ⟨g, 1, none⟩ (.slice A2 n2 c2)) := HB.out.setCell (p := ⟨g, 1, none⟩) (Nat.le_refl _) _
    have hn2 := HN.out.below ((Below.refl g w1).setCell (p := ⟨g, 1, none⟩) (Nat.le_refl _) (.slice A2 n2 c2)) (Nat.le_refl _)
    have hr2 := HR.out.below ((Below.refl g w1).setCell (p := ⟨g, 1, none⟩) (Nat.le_refl _) (.slice A2 n2 c2)) (Nat.le_refl _)
    have HFIN : Hid (TakePost G w g (0, { nd with value := v }) (.returned (.int .i64 0)) (w1.setCell ⟨g, 1, none⟩ (.slice A2 n2 c2))) := Lib.hid ⟨rfl, fun _ => ⟨A, n, c, A2, n2, c2, hw2, ⟨hn2.key, hn2.knc, hr2, hnc⟩, HGS.out.2.1, HGS.out.1⟩, hb2⟩
    have hfree := HW.out.free 1
    clear hw2 hb2 hn2 hr2 HB HW HN HR HF
    go_enter Tryd.func50, Tryd.ntmps50
    go_wp2_with fail
    go_ret
    exact HFIN.out
  by_cases e3 : t = 3
  · have q3 : ((T : Int) == 3) = true := by subst e3; rw [← hT]; rfl
    have q1 : ((T : Int) == 1) = false := hne 1 e1
    have q2 : ((T : Int) == 2) = false := hne 2 e2
    cases hk : Tlv.okb v with
    | true =>
      have hsay : Tlv.say nd t v = (0, { nd with h := ((min (Tlv.val v) 65 : Nat) : Int) }) := by unfold Tlv.say; rw [if_neg e1, if_neg e2, if_pos e3, if_pos hk]
      rw [hsay]
      have HC := Lib.hid (height_any A2 n2 c2 v w1 (HR.out.more (by omega)))
      obtain ⟨x, hx⟩ : ∃ x, ((min (Tlv.val v) 65 : Nat) : Int) = x := ⟨_, rfl⟩
      rw [hx]
      have hw2 := acells_seth HW.out x
      have hb2 : Below g w (w1.setCell ⟨g, 2, none⟩ (.int .i64 x)) := HB.out.setCell (p := ⟨g, 2, none⟩) (Nat.le_refl _) _
      have hn2 := HN.out.below ((Below.refl g w1).setCell (p := ⟨g, 2, none⟩) (Nat.le_refl _) (.int .i64 x)) (Nat.le_refl _)
      have HFIN : Hid (TakePost G w g (0, { nd with h := x }) (.returned (.int .i64 0)) (w1.setCell ⟨g, 2, none⟩ (.int .i64 x))) := Lib.hid ⟨rfl, fun _ => ⟨A, n, c, A', n', c', hw2, ⟨hn2.key, hn2.knc, hn2.val, hn2.vnc⟩, HGS.out.2⟩, hb2⟩
      have hfree := HW.out.free 2
      have HK := Lib.hid (And.intro hx hk)
      clear hsay hne hT hw2 hb2 hn2 HB HW HN HR HF hx hk
      go_enter Tryd.func50, Tryd.ntmps50
      go_wp2_with fail
      refine HC.out.mono ?_
      rintro e w2 ⟨hg, _, rfl⟩
      obtain rfl := hg HK.out.2
      rw [HK.out.1]
      clear HC
      go_wp2_with fail
      go_ret
      exact HFIN.out
    | false =>
      have hsay : Tlv.say nd t v = (7, nd) := by unfold Tlv.say; rw [if_neg e1, if_neg e2, if_pos e3, if_neg (by rw [hk]; simp)]
      rw [hsay]
      have HC := Lib.hid (height_any A2 n2 c2 v w1 (HR.out.more (by omega)))
      have HBB := Lib.hid (fun (u : Value) => (HB.out.setCell (p := ⟨g, 2, none⟩) (Nat.le_refl _) u))
      have hfree := HW.out.free 2
      have HK := Lib.hid hk
      clear hsay hne hT HB HW HN HR HF hk
      go_enter Tryd.func50, Tryd.ntmps50
      go_wp2_with fail
      refine HC.out.mono ?_
      rintro e w2 ⟨_, hg, rfl⟩
      obtain ⟨x, rfl⟩ := hg HK.out
      clear HC
      go_wp2_with fail
      go_ret
      exact ⟨rfl, fun h => by simp at h, HBB.out _⟩
  by_cases e4 : t = 4
  · have q4 : ((T : Int) == 4) = true := by subst e4; rw [← hT]; rfl
    have q1 : ((T : Int) == 1) = false := hne 1 e1
    have q2 : ((T : Int) == 2) = false := hne 2 e2
    have q3 : ((T : Int) == 3) = false := hne 3 e3
    cases hk : Tlv.okb v with
    | true =>
      have hsay : Tlv.say nd t v = (0, { nd with z := Tlv.val v }) := by unfold Tlv.say; rw [if_neg e1, if_neg e2, if_neg e3, if_pos e4, if_pos hk]
      rw [hsay]
      have HC := Lib.hid (value_good A2 n2 c2 v w1 _ HR.out ((Tlv.okb_iff v).1 hk))
      obtain ⟨x, hx⟩ : ∃ x, Tlv.val v = x := ⟨_, rfl⟩
      rw [hx] at HC ⊢
      have hw2 := acells_setz HW.out x
      have hb2 : Below g w (w1.setCell ⟨g, 3, none⟩ (.int .u64 x)) := HB.out.setCell (p := ⟨g, 3, none⟩) (Nat.le_refl _) _
      have hn2 := HN.out.below ((Below.refl g w1).setCell (p := ⟨g, 3, none⟩) (Nat.le_refl _) (.int .u64 x)) (Nat.le_refl _)
      have HFIN : Hid (TakePost G w g (0, { nd with z := x }) (.returned (.int .i64 0)) (w1.setCell ⟨g, 3, none⟩ (.int .u64 x))) := Lib.hid ⟨rfl, fun _ => ⟨A, n, c, A', n', c', hw2, ⟨hn2.key, hn2.knc, hn2.val, hn2.vnc⟩, HGS.out.2⟩, hb2⟩
      have hfree := HW.out.free 3
      have HK := Lib.hid (And.intro hx hk)
      clear hsay hne hT hw2 hb2 hn2 HB HW HN HR HF hx hk
      go_enter Tryd.func50, Tryd.ntmps50
      go_wp2_with fail
      refine HC.out.mono ?_
      rintro e w2 ⟨rfl, rfl⟩
      clear HC
      go_wp2_with fail
      go_ret
      exact HFIN.out
    | false =>
      have hsay : Tlv.say nd t v = (7, nd) := by unfold Tlv.say; rw [if_neg e1, if_neg e2, if_neg e3, if_pos e4, if_neg (by rw [hk]; simp)]
      rw [hsay]
      have HC := Lib.hid (value_bad A2 n2 c2 v w1 _ HR.out (fun h => by have := (Tlv.okb_iff v).2 h; rw [hk] at this; simp at this))
      have HBB := Lib.hid (fun (u : Value) => (HB.out.setCell (p := ⟨g, 3, none⟩) (Nat.le_refl _) u))
      have hfree := HW.out.free 3
      have HK := Lib.hid hk
      clear hsay hne hT HB HW HN HR HF hk
      go_enter Tryd.func50, Tryd.ntmps50
      go_wp2_with fail
      refine HC.out.mono ?_
      rintro e w2 ⟨rfl, rfl⟩
      clear HC
      go_wp2_with fail
      go_ret
      exact ⟨rfl, fun h => by simp at h, HBB.out _⟩
  by_cases e5 : t = 5
  · have q5 : ((T : Int) == 5) = true := by subst e5; rw [← hT]; rfl
    have q1 : ((T : Int) == 1) = false := hne 1 e1
    have q2 : ((T : Int) == 2) = false := hne 2 e2
    have q3 : ((T : Int) == 3) = false := hne 3 e3
    have q4 : ((T : Int) == 4) = false := hne 4 e4
    have HC := Lib.hid (sum_any A2 n2 c2 v w1 (HR.out.more (by omega)) hnc)
    have hlt1 : g < w1.heap.size := by omega
    by_cases h32 : v.length = 32
    · have hsay : Tlv.say nd t v = (0, { nd with l := v }) := by unfold Tlv.say; rw [if_neg e1, if_neg e2, if_neg e3, if_neg e4, if_pos e5, if_pos h32]
      rw [hsay]
      have HK := Lib.hid h32
      clear hsay hne hT h32
      go_enter Tryd.func50, Tryd.ntmps50
      go_wp2_with fail
      refine HC.out.mono ?_
      rintro e w2 ⟨hg, hg', hb2⟩
      obtain rfl := hg HK.out
      clear hg hg' HC
      have hW2 := HW.out.below hb2 hlt1
      have hN2 := HN.out.below (hb2.mono (Nat.le_of_lt hlt1)) (Nat.le_refl _)
      have hB2 := HB.out.trans (hb2.mono (Nat.le_of_lt hlt1))
      have hW3 := acells_setl hW2 (l' := v) (HF.out.1.trans HK.out.symm)
      have hB3 : Below g w (w2.setCells g 4 (bcells v).toList) := (below_setCells w g _ 4 (hB2.mono (Nat.le_refl _)) (Nat.le_refl _))
      have hN3 := hN2.below (below_setCells w2 g (bcells v).toList 4 (Below.refl g w2) (Nat.le_refl _)) (Nat.le_refl _)
      have HFIN : Hid (TakePost G w g (0, { nd with l := v }) (.returned (.int .i64 0)) (w2.setCells g 4 (bcells v).toList)) := Lib.hid ⟨rfl, fun _ => ⟨A, n, c, A', n', c', hW3, ⟨hN3.key, hN3.knc, hN3.val, hN3.vnc⟩, HGS.out.2⟩, hB3⟩
      have HTH : Hid (w2.there g 4 (bcells v).size) := Lib.hid (hW2.midthere 4 _ (by rw [bcells_size, HK.out, List.size_toArray, ndc_len HF.out]; omega))
      have HSZ : Hid ((Tryd.prog.info? 29).map (·.size) = some (bcells v).size) := Lib.hid (by rw [bcells_size, HK.out]; exact info25)
      clear hW2 hN2 hB2 hW3 hB3 hN3 HB HW HN HR HF hb2
      generalize hbc : bcells v = bc at *
      have HONE : Hid (bc.all (·.oneCell') = true) := Lib.hid (by rw [← hbc]; exact bcells_one v)
      clear hbc
      rename_i hK
      refine hK _ _ ?_

      iterate 15 go_step
      refine wpList_store_mid rfl 29 (.tmp 53) (.tmp 50) rfl g 4 bc rfl rfl HTH.out HSZ.out HONE.out ?_
      go_wp2_with fail
      go_ret
      exact HFIN.out
    · have hsay : Tlv.say nd t v = (7, nd) := by unfold Tlv.say; rw [if_neg e1, if_neg e2, if_neg e3, if_neg e4, if_pos e5, if_neg h32]
      rw [hsay]
      have HK := Lib.hid h32
      clear hsay hne hT h32
      go_enter Tryd.func50, Tryd.ntmps50
      go_wp2_with fail
      refine HC.out.mono ?_
      rintro e w2 ⟨hg', hg, hb2⟩
      obtain rfl := hg HK.out
      clear hg hg' HC
      have hW2 := HW.out.below hb2 hlt1
      have hB2 := HB.out.trans (hb2.mono (Nat.le_of_lt hlt1))
      have hB3 : Below g w (w2.setCells g 4 (zb 32).toList) := (below_setCells w g _ 4 (hB2.mono (Nat.le_refl _)) (Nat.le_refl _))
      have HFIN : Hid (TakePost G w g (7, nd) (.returned (.int .i64 7)) (w2.setCells g 4 (zb 32).toList)) := Lib.hid ⟨rfl, fun h => by simp at h, hB3⟩
      have HTH : Hid (w2.there g 4 (zb 32).size) := Lib.hid (hW2.midthere 4 _ (by rw [zb_size, List.size_toArray, ndc_len HF.out]; omega))
      clear hW2 hB2 hB3 HB HW HN HR HF hb2
      rename_i hK
      refine hK _ _ ?_

      iterate 15 go_step
      refine wpList_store_mid rfl 29 (.tmp 53) (.tmp 50) rfl g 4 (zb 32) rfl rfl HTH.out (by rw [zb_size]; exact info25) (bcells_one Tlv.nought) ?_
      go_wp2_with fail
      go_ret
      exact HFIN.out
  by_cases e6 : t = 6
  · have q6 : ((T : Int) == 6) = true := by subst e6; rw [← hT]; rfl
    have q1 : ((T : Int) == 1) = false := hne 1 e1
    have q2 : ((T : Int) == 2) = false := hne 2 e2
    have q3 : ((T : Int) == 3) = false := hne 3 e3
    have q4 : ((T : Int) == 4) = false := hne 4 e4
    have q5 : ((T : Int) == 5) = false := hne 5 e5
    have HC := Lib.hid (sum_any A2 n2 c2 v w1 (HR.out.more (by omega)) hnc)
    have hlt1 : g < w1.heap.size := by omega
    by_cases h32 : v.length = 32
    · have hsay : Tlv.say nd t v = (0, { nd with r := v }) := by unfold Tlv.say; rw [if_neg e1, if_neg e2, if_neg e3, if_neg e4, if_neg e5, if_pos e6, if_pos h32]
      rw [hsay]
      have HK := Lib.hid h32
      clear hsay hne hT h32
      go_enter Tryd.func50, Tryd.ntmps50
      go_wp2_with fail
      refine HC.out.mono ?_
      rintro e w2 ⟨hg, hg', hb2⟩
      obtain rfl := hg HK.out
      clear hg hg' HC
      have hW2 := HW.out.below hb2 hlt1
      have hN2 := HN.out.below (hb2.mono (Nat.le_of_lt hlt1)) (Nat.le_refl _)
      have hB2 := HB.out.trans (hb2.mono (Nat.le_of_lt hlt1))
      have hW3 := acells_setr hW2 HF.out.1 (r' := v) (HF.out.2.1.trans HK.out.symm)
      have hB3 : Below g w (w2.setCells g 36 (bcells v).toList) := (below_setCells w g _ 36 (hB2.mono (Nat.le_refl _)) (Nat.le_refl _))
      have hN3 := hN2.below (below_setCells w2 g (bcells v).toList 36 (Below.refl g w2) (Nat.le_refl _)) (Nat.le_refl _)
      have HFIN : Hid (TakePost G w g (0, { nd with r := v }) (.returned (.int .i64 0)) (w2.setCells g 36 (bcells v).toList)) := Lib.hid ⟨rfl, fun _ => ⟨A, n, c, A', n', c', hW3, ⟨hN3.key, hN3.knc, hN3.val, hN3.vnc⟩, HGS.out.2⟩, hB3⟩
      have HTH : Hid (w2.there g 36 (bcells v).size) := Lib.hid (hW2.midthere 36 _ (by rw [bcells_size, HK.out, List.size_toArray, ndc_len HF.out]; omega))
      have HSZ : Hid ((Tryd.prog.info? 29).map (·.size) = some (bcells v).size) := Lib.hid (by rw [bcells_size, HK.out]; exact info25)
      clear hW2 hN2 hB2 hW3 hB3 hN3 HB HW HN HR HF hb2
      generalize hbc : bcells v = bc at *
      have HONE : Hid (bc.all (·.oneCell') = true) := Lib.hid (by rw [← hbc]; exact bcells_one v)
      clear hbc
      rename_i hK
      refine hK _ _ ?_

      iterate 15 go_step
      refine wpList_store_mid rfl 29 (.tmp 64) (.tmp 61) rfl g 36 bc rfl rfl HTH.out HSZ.out HONE.out ?_
      go_wp2_with fail
      go_ret
      exact HFIN.out
    · have hsay : Tlv.say nd t v = (7, nd) := by unfold Tlv.say; rw [if_neg e1, if_neg e2, if_neg e3, if_neg e4, if_neg e5, if_pos e6, if_neg h32]
      rw [hsay]
      have HK := Lib.hid h32
      clear hsay hne hT h32
      go_enter Tryd.func50, Tryd.ntmps50
      go_wp2_with fail
      refine HC.out.mono ?_
      rintro e w2 ⟨hg', hg, hb2⟩
      obtain rfl := hg HK.out
      clear hg hg' HC
      have hW2 := HW.out.below hb2 hlt1
      have hB2 := HB.out.trans (hb2.mono (Nat.le_of_lt hlt1))
      have hB3 : Below g w (w2.setCells g 36 (zb 32).toList) := (below_setCells w g _ 36 (hB2.mono (Nat.le_refl _)) (Nat.le_refl _))
      have HFIN : Hid (TakePost G w g (7, nd) (.returned (.int .i64 7)) (w2.setCells g 36 (zb 32).toList)) := Lib.hid ⟨rfl, fun h => by simp at h, hB3⟩
      have HTH : Hid (w2.there g 36 (zb 32).size) := Lib.hid (hW2.midthere 36 _ (by rw [zb_size, List.size_toArray, ndc_len HF.out]; omega))
      clear hW2 hB2 hB3 HB HW HN HR HF hb2
      rename_i hK
      refine hK _ _ ?_

      iterate 15 go_step
      refine wpList_store_mid rfl 29 (.tmp 64) (.tmp 61) rfl g 36 (zb 32) rfl rfl HTH.out (by rw [zb_size]; exact info25) (bcells_one Tlv.nought) ?_
      go_wp2_with fail
      go_ret
      exact HFIN.out
  rw [say_other e1 e2 e3 e4 e5 e6]
  have q1 : ((T : Int) == 1) = false := hne 1 e1
  have q2 : ((T : Int) == 2) = false := hne 2 e2
  have q3 : ((T : Int) == 3) = false := hne 3 e3
  have q4 : ((T : Int) == 4) = false := hne 4 e4
  have q5 : ((T : Int) == 5) = false := hne 5 e5
  have q6 : ((T : Int) == 6) = false := hne 6 e6
  clear e1 e2 e3 e4 e5 e6 hne hT
  go_enter Tryd.func50, Tryd.ntmps50
  go_wp2_with fail
  go_ret
  exact ⟨rfl, fun h => by simp at h, HB.out⟩
end Go.Proofs.YtolkpjbbfopmnaaDoor.Tl
