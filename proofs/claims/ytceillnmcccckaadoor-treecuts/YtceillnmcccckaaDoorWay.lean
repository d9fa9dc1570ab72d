/-
  What a tree's Node returns: the node to which a way leads; conditions: tree and way lie in memory. It only makes memory of its own.
-/
import Derived.Test.YtceillnmcccckaaDoorMeth
namespace Go.Proofs.YtceillnmcccckaaDoor
open Go.RowKit
open Tr
variable {G : Nat → Prop}

theorem Told.move {w w' : World} {B n c n' c' : Nat} {t : T} {cs : Array Value} {A A' : Option Addr} (h : Told w B t cs A n c A' n' c') (hk : ∀ b, B ≤ b → w'.heap[b]? = w.heap[b]?) (hs : w.heap.size ≤ w'.heap.size) : Told w' B t cs A n c A' n' c' :=
  ⟨h.eq, (h.key.keepG (G := fun b => B ≤ b) (fun _ => h.knew) (fun b _ hb => hk b hb)).more hs, h.knc, h.kle, (h.val.keepG (G := fun b => B ≤ b) (fun _ => h.vnew) (fun b _ hb => hk b hb)).more hs, h.vnc, h.vle, h.knew, h.vnew⟩
theorem Told.weak {w : World} {B B' n c n' c' : Nat} {t : T} {cs : Array Value} {A A' : Option Addr} (h : Told w B t cs A n c A' n' c') (hB : B' ≤ B) : Told w B' t cs A n c A' n' c' :=
  ⟨h.eq, h.key, h.knc, h.kle, h.val, h.vnc, h.vle, fun b o e => Nat.le_trans hB (h.knew b o e), fun b o e => Nat.le_trans hB (h.vnew b o e)⟩
theorem Told.below {w w' : World} {B n c n' c' : Nat} {t : T} {cs : Array Value} {A A' : Option Addr} (h : Told w B t cs A n c A' n' c') (hb : Below w.heap.size w w') : Told w' B t cs A n c A' n' c' :=
  ⟨h.eq, (h.key.below hb (Nat.le_refl _)).more hb.size, h.knc, h.kle, (h.val.below hb (Nat.le_refl _)).more hb.size, h.vnc, h.vle, h.knew, h.vnew⟩

def Tr.oat : Option T → List Bool → Option T
  | none, _ => none
  | some t, [] => some t
  | some (.leaf _ _), _ :: _ => none
  | some (.node l r), b :: way => oat (some (if b then r else l)) way
theorem oat_none (way : List Bool) : oat none way = none := by cases way <;> rfl
theorem oat_nil (o : Option T) : oat o [] = o := by cases o <;> rfl

def WayPost (o : Option T) (w : World) (e : Ending) (w' : World) : Prop :=
  (o = none ∧ e = .returned (.tuple #[.agg z64, .bool false]) ∧ Below w.heap.size w w') ∨
  ∃ t cs A n c A' n' c', o = some t ∧ e = .returned (.tuple #[.agg cs, .bool true]) ∧ Told w' w.heap.size t cs A n c A' n' c' ∧ Below w.heap.size w w'
theorem z64_size : z64.size = 68 := by kernel_rfl
theorem z64_one : z64.all (·.oneCell') = true := acells_one ..

set_option maxRecDepth 100000 in
set_option maxHeartbeats 1000000 in
theorem way_any (o : Option (Option T)) (p : Option Nat) (W : Option Addr) (n c : Nat) (way : List Bool) (w : World) (ho : GIn G w w.heap.size o p) (hway : RdV w w.heap.size 1 W n (way.map Value.bool)) (hn : n ≤ 9223372036854775807) :
    Calls Tryd.prog 31 #[ptr p, .slice W n c] w (WayPost (oat (topOf o) way) w) := by
  have hz64 := zero64
  have hb1 : Below w.heap.size w (w.alloc (.cells z64 64)) := (Below.refl _ _).alloc (Nat.le_refl _) _
  have hs1 : (w.alloc (.cells z64 64)).heap.size = w.heap.size + 1 := size_alloc _ _
  have HU := Lib.hid (upmost_any o p _ (w.alloc (.cells z64 64)) (ho.below hb1 (Nat.le_refl _)))
  have HW := Lib.hid (Whole.made w 64 z64)
  have HB1 := Lib.hid hb1
  have HWAY := Lib.hid (hway.below hb1 (Nat.le_refl _))
  clear ho hway hb1
  generalize topOf o = q at *
  go_enter Tryd.func31, Tryd.ntmps31
  go_wp2_with fail
  refine HU.out.mono ?_
  rintro e w1' ⟨p1, rfl, hP, rfl⟩
  generalize w.alloc (.cells z64 64) = w1 at *
  clear hz64 HU
  have HP := Lib.hid hP
  clear hP
  go_wp2_with fail
  go_loopg [6, 13] n (fun gk s6 s13 wx => ∃ i s p', i + gk = n ∧ s13 = .int .i64 (i : Nat) ∧ s6 = ptr p' ∧ PIn G w1 w.heap.size s p' ∧ oat s (way.drop i) = oat q way ∧ wx = w1)
  case atStart => exact ⟨0, q, p1, by omega, rfl, rfl, HP.out, rfl, rfl⟩
  case round =>
    clear HP
    obtain ⟨i, s, p', hi, rfl, rfl, hP, hat, rfl⟩ := hrel
    have HAT := Lib.hid hat
    clear hat
    cases gk with
    | zero =>
      obtain rfl : i = n := by omega
      have HE : Hid (way.drop i = []) := Lib.hid (List.drop_eq_nil_of_le (by have := HWAY.out.1; simp at this; omega))
      rw [HE.out] at HAT
      clear HE hi
      cases s with
      | none =>
        obtain rfl := hP
        rw [ptr_none]
        have hz64 := zero64
        go_upto_region 9 with (fail)
        refine wp_region_lit ?_
        iterate 3 go_step
        clear hz64
        refine wpList_store_mid rfl 64 (.tmp 4) (.tmp 25) rfl w.heap.size 0 z64 rfl rfl ?_ ?_ z64_one ?_
        · exact HW.out.there_
        · rw [z64_size]; exact info64
        have HW8 := Lib.hid (HW.out.setAll (vs := z64) rfl)
        have HB8 := Lib.hid (below_setCells w w.heap.size z64.toList 0 HB1.out (by omega))
        generalize wr.setCells w.heap.size 0 z64.toList = w8 at *
        go_wp2_with fail
        refine bodyPost_ret (results_cell2 Tryd.results31 _ _ _ ⟨w.heap.size, 0, none⟩ _ rfl (load_whole HW8.out 64 _ Tryd.underlying64 rfl (by rw [z64_size]; exact info64))) rfl (.inl ⟨?_, rfl, HB8.out⟩)
        rw [← HAT.out, oat_none]
      | some t =>
        obtain ⟨b, rfl, hN⟩ := hP
        have HC := Lib.hid (told_any t b w.heap.size wr hN (by omega))
        rw [ptr_some] at HC ⊢
        clear hN
        go_wp2_with fail
        refine HC.out.mono ?_
        rintro e w2 ⟨cs, A, n1, c1, A', n', c', rfl, hT, hb2⟩
        have hcs : cs.size = 68 := by rw [hT.eq, List.size_toArray, acells_len _ _ _ _ _ _ (lsum32 t) (rsum32 t)]
        have hone : cs.all (·.oneCell') = true := by rw [hT.eq]; exact acells_one ..
        have HT := Lib.hid hT
        have hsb := hb2.size
        have HW2 := Lib.hid (HW.out.below hb2 (by omega))
        have HB2 := Lib.hid (HB1.out.trans (hb2.mono (by omega)))
        clear hT hb2 HC HW HB1
        simp only []
        go_step
        refine wpList_store_mid rfl 64 (.tmp 4) (.tmp 27) rfl w.heap.size 0 cs rfl rfl ?_ ?_ hone ?_
        · rw [hcs]; exact HW2.out.there_
        · rw [hcs]; exact info64
        have HW8 := Lib.hid (HW2.out.setAll (vs := cs) (by rw [hcs]; rfl))
        have HB8 := Lib.hid (below_setCells w w.heap.size cs.toList 0 HB2.out (by omega))
        have HT8 := Lib.hid ((HT.out.move (w' := w2.setCells w.heap.size 0 cs.toList) (fun b hb => heap_setCells_other w.heap.size b (by omega) cs.toList 0 w2) (by rw [size_setCells]; omega)).weak (B' := w.heap.size) (by omega))
        generalize w2.setCells w.heap.size 0 cs.toList = w8 at *
        clear HW2 HB2 HT
        go_wp2_with fail
        refine bodyPost_ret (results_cell2 Tryd.results31 _ _ _ ⟨w.heap.size, 0, none⟩ _ rfl (load_whole HW8.out 64 _ Tryd.underlying64 rfl (by rw [hcs]; exact info64))) rfl (.inr ⟨t, cs, A, n1, c1, A', n', c', ?_, rfl, HT8.out, HB8.out⟩)
        rw [← HAT.out]
        rw [oat_nil]
    | succ gn =>
      have hin : i < n := by omega
      have hlen : way.length = n := by have := HWAY.out.1; simpa using this
      obtain ⟨wb, wo, rfl, hwb, hcell⟩ := HWAY.out.2 (by omega)
      have hc := hcell i (.bool way[i]) (by rw [List.getElem?_map, List.getElem?_eq_getElem (by omega)]; rfl)
      have HD : Hid (way.drop i = way[i] :: way.drop (i + 1)) := Lib.hid (List.drop_eq_getElem_cons (by omega))
      clear hcell hwb
      generalize way[i] = R at *
      clear hlen
      cases s with
      | none =>
        obtain rfl := hP
        rw [ptr_none]
        have hz64 := zero64
        go_upto_region 9 with (fail)
        refine wp_region_lit ?_
        iterate 3 go_step
        clear hz64
        refine wpList_store_mid rfl 64 (.tmp 4) (.tmp 25) rfl w.heap.size 0 z64 rfl rfl ?_ ?_ z64_one ?_
        · exact HW.out.there_
        · rw [z64_size]; exact info64
        have HW8 := Lib.hid (HW.out.setAll (vs := z64) rfl)
        have HB8 := Lib.hid (below_setCells w w.heap.size z64.toList 0 HB1.out (by omega))
        generalize wr.setCells w.heap.size 0 z64.toList = w8 at *
        go_wp2_with fail
        refine bodyPost_ret (results_cell2 Tryd.results31 _ _ _ ⟨w.heap.size, 0, none⟩ _ rfl (load_whole HW8.out 64 _ Tryd.underlying64 rfl (by rw [z64_size]; exact info64))) rfl (.inl ⟨?_, rfl, HB8.out⟩)
        rw [← HAT.out, oat_none]
      | some t =>
        obtain ⟨b, rfl, hN⟩ := hP
        cases t with
        | leaf k v =>
          obtain ⟨A, n1, c1, A', n', c', hh⟩ := hN
          cases R with
          | true =>
            have HL := Lib.hid (side_right hh)
            rw [ptr_some] at HL ⊢
            skip
            clear hh
            go_wp2_with fail
            refine HL.out.mono ?_
            rintro e w2 ⟨rfl, rfl⟩
            go_wp2_with fail
            go_roundg gn
            case measure => omega
            case rel => exact ⟨i + 1, none, _, by omega, congrArg (Value.int .i64) (by omega), rfl, rfl, by rw [← HAT.out, HD.out]; simp [oat], rfl⟩
          | false =>
            have HL := Lib.hid (side_left hh)
            rw [ptr_some] at HL ⊢
            skip
            clear hh
            go_wp2_with fail
            refine HL.out.mono ?_
            rintro e w2 ⟨rfl, rfl⟩
            go_wp2_with fail
            go_roundg gn
            case measure => omega
            case rel => exact ⟨i + 1, none, _, by omega, congrArg (Value.int .i64) (by omega), rfl, rfl, by rw [← HAT.out, HD.out]; simp [oat], rfl⟩
        | node l r =>
          obtain ⟨A, n1, c1, A', n', c', x, y, hh, hx, hy⟩ := hN
          cases R with
          | true =>
            have HL := Lib.hid (side_right hh)
            rw [ptr_some] at HL ⊢
            have HX := Lib.hid hy
            clear hh hx hy
            go_wp2_with fail
            refine HL.out.mono ?_
            rintro e w2 ⟨rfl, rfl⟩
            go_wp2_with fail
            go_roundg gn
            case measure => omega
            case rel => exact ⟨i + 1, some r, _, by omega, congrArg (Value.int .i64) (by omega), rfl, ⟨_, rfl, HX.out⟩, by rw [← HAT.out, HD.out]; simp [oat], rfl⟩
          | false =>
            have HL := Lib.hid (side_left hh)
            rw [ptr_some] at HL ⊢
            have HX := Lib.hid hx
            clear hh hx hy
            go_wp2_with fail
            refine HL.out.mono ?_
            rintro e w2 ⟨rfl, rfl⟩
            go_wp2_with fail
            go_roundg gn
            case measure => omega
            case rel => exact ⟨i + 1, some l, _, by omega, congrArg (Value.int .i64) (by omega), rfl, ⟨_, rfl, HX.out⟩, by rw [← HAT.out, HD.out]; simp [oat], rfl⟩
end Go.Proofs.YtceillnmcccckaaDoor
