/-
  made(code, places): the error that a law asks about.
-/
import Derived.Test.YtoobblofblodnaaDoorAwake
namespace Go.Proofs.YtoobblofblodnaaDoor
open Go.RowKit Go.Shelf

structure Pl where
  s : ByteArray
  n : Int
  other : Bool

/-- Places that lie in memory. -/
structure PRd (w : World) (A : Option Addr) (n : Nat) (ps : List Pl) : Prop where
  len : ps.length = n
  cells : n = 0 ∨ ∃ b o, A = some ⟨b, o, none⟩ ∧ b < w.heap.size ∧ ∀ (i : Nat) p, ps[i]? = some p → w.cell? ⟨b, o + i * 3, none⟩ = some (.string p.s) ∧ w.cell? ⟨b, o + i * 3 + 1, none⟩ = some (.int .i64 p.n) ∧ w.cell? ⟨b, o + i * 3 + 2, none⟩ = some (.bool p.other)

/-- The error is made of the number and these places. -/
def MadeOf (code : Int) : List Pl → Err → Prop
  | [], .num n => n = code ∧ code ≠ 0
  | [], .text _ => code = 0
  | p :: ps, .step _ s n e => p.other = false ∧ p.s = s ∧ p.n = n ∧ MadeOf code ps e
  | p :: ps, .other e => p.other = true ∧ MadeOf code ps e
  | _, _ => False

theorem MadeOf.depth {code : Int} : ∀ {ps : List Pl} {e : Err}, MadeOf code ps e → e.depth = ps.length + 1
  | [], .num _, _ => rfl
  | [], .text _, _ => rfl
  | _ :: _, .step _ _ _ _, h => by simp [Err.depth, MadeOf.depth (e := _) h.2.2.2]
  | _ :: _, .other e, h => by simp [Err.depth, MadeOf.depth (e := e) h.2]
  | [], .step _ _ _ _, h => h.elim
  | [], .other _, h => h.elim
  | _ :: _, .num _, h => h.elim
  | _ :: _, .text _, h => h.elim
theorem MadeOf.code {code : Int} : ∀ {ps : List Pl} {e : Err}, MadeOf code ps e → e.code = if code = 0 then 9 else code
  | [], .num _, h => by simp [Err.code, h.1, h.2]
  | [], .text _, h => by have h' : code = 0 := h; simp [Err.code, h']
  | _ :: _, .step _ _ _ e, h => MadeOf.code (e := e) h.2.2.2
  | _ :: _, .other e, h => MadeOf.code (e := e) h.2
  | [], .step _ _ _ _, h => h.elim
  | [], .other _, h => h.elim
  | _ :: _, .num _, h => h.elim
  | _ :: _, .text _, h => h.elim
theorem MadeOf.isNum {code : Int} (m : Int) : ∀ {ps : List Pl} {e : Err}, MadeOf code ps e → e.isNum m = (!(code == 0) && (code == m))
  | [], .num _, h => by
    obtain ⟨rfl, h2⟩ := h
    simp [Err.isNum, h2]
  | [], .text _, h => by have h' : code = 0 := h; simp [Err.isNum, h']
  | _ :: _, .step _ _ _ e, h => MadeOf.isNum m (e := e) h.2.2.2
  | _ :: _, .other e, h => MadeOf.isNum m (e := e) h.2
  | [], .step _ _ _ _, h => h.elim
  | [], .other _, h => h.elim
  | _ :: _, .num _, h => h.elim
  | _ :: _, .text _, h => h.elim
/-- Where the places are, others' wrapping left out. -/
def wheres (ps : List Pl) : List ByteArray := ps.filterMap (fun p => if p.other then none else some p.s)
theorem MadeOf.places {code : Int} : ∀ {ps : List Pl} {e : Err}, MadeOf code ps e → e.places = wheres ps
  | [], .num _, _ => rfl
  | [], .text _, _ => rfl
  | _ :: _, .step _ _ _ _, h => by
    obtain ⟨h1, h2, _, h3⟩ := h
    have := MadeOf.places h3
    simp [Err.places, wheres, h1, h2, this]
  | _ :: _, .other _, h => by
    obtain ⟨h1, h3⟩ := h
    have := MadeOf.places h3
    simp [Err.places, wheres, h1, this]
  | [], .step _ _ _ _, h => h.elim
  | [], .other _, h => h.elim
  | _ :: _, .num _, h => h.elim
  | _ :: _, .text _, h => h.elim

def MadeR (w : World) (code : Int) (ps : List Pl) (ev : Ending) (w' : World) : Prop := ∃ e : Err, ev = .returned e.val ∧ e.In w' ∧ Below w.heap.size w w' ∧ MadeOf code ps e

theorem drop_at {ps : List Pl} {k : Nat} {p : Pl} (h : ps[k]? = some p) : ps.drop k = p :: ps.drop (k + 1) := by
  obtain ⟨hl, rfl⟩ := List.getElem?_eq_some_iff.1 h
  exact List.drop_eq_getElem_cons hl

set_option maxRecDepth 100000 in
set_option maxHeartbeats 4000000 in
theorem made_any (code : Int) (A : Option Addr) (n cap : Nat) (ps : List Pl) (w : World) (hr : PRd w A n ps) (hn : n ≤ cap) (hm : cap ≤ maxLen) : Calls Tryd.prog 11 #[.int .i64 code, .slice A n cap] w (MadeR w code (ps.take 20)) := by
  obtain ⟨hlen, hcells⟩ := hr
  have hlen1 : n ≤ ps.length := by omega
  have hlen2 : ps.length ≤ n := by omega
  clear hlen
  unfold maxLen at hm
  by_cases hz : code = 0
  · subst hz
    rcases (Nat.lt_or_ge 20 n).symm with hlt | hge
    · go_enter Tryd.func11, Tryd.ntmps11
      go_wp2_with (go_at_call 24; refine (new_any _ _).mono ?_; rintro e w' ⟨rfl, rfl⟩)
      go_loopw [5, 6] (fun v i wr => ∃ (k : Nat) (z : Int) (e : Err), k ≤ n ∧ z = (k : Int) - 1 ∧ i = .int .i64 z ∧ v = e.val ∧ e.In wr ∧ Below w.heap.size w wr ∧ MadeOf 0 ((ps.take 20).drop k) e) (fun _ i _ => (intOf i + 1).toNat)
      case atStart => exact ⟨n, _, .text w.heap.size, Nat.le_refl _, by first | rfl | omega, rfl, rfl, trivial, ((Below.refl _ w).alloc (Nat.le_refl _) _), by rw [List.drop_eq_nil_of_le (by simp; omega)]; exact rfl⟩
      case round =>
        obtain ⟨k, z, e, hk, hz', rfl, rfl, hin, hbel, hmade⟩ := hrel
        obtain ⟨te, xe, hve⟩ := e.val_iface
        rw [hve]
        cases k with
        | zero =>
          have hzn : z < 0 := by omega
          clear hz'
          go_wp2
          go_ret
          exact ⟨e, by rw [hve]; rfl, hin, hbel, hmade⟩
        | succ j =>
          obtain rfl : z = j := by omega
          obtain ⟨p, hp⟩ : ∃ p, ps[j]? = some p := ⟨_, List.getElem?_eq_getElem (by omega)⟩
          have hd : MadeOf 0 ((ps.take 20).drop (j + 1)) e := hmade
          have hdj : (ps.take 20).drop j = p :: (ps.take 20).drop (j + 1) := drop_at (by rw [List.getElem?_take, if_pos (by omega)]; exact hp)
          have HD := Lib.hid hdj
          rcases hcells with h | ⟨b, o, rfl, hbl, hcl⟩
          · omega
          obtain ⟨d0, d1, d2⟩ := hcl j p hp
          have c0 : wr.cell? ⟨b, o + j * 3, none⟩ = some (.string p.s) := (hbel.cell (p := ⟨b, o + j * 3, none⟩) hbl).trans d0
          have c1 : wr.cell? ⟨b, o + j * 3 + 1, none⟩ = some (.int .i64 p.n) := (hbel.cell (p := ⟨b, o + j * 3 + 1, none⟩) hbl).trans d1
          have c2 : wr.cell? ⟨b, o + j * 3 + 2, none⟩ = some (.bool p.other) := (hbel.cell (p := ⟨b, o + j * 3 + 2, none⟩) hbl).trans d2
          have hjl : (j : Int) < n := by omega
          clear hcl d0 d1 d2 hp hmade hdj hz'
          have hsr := hbel.size
          obtain ⟨ss, sn, so⟩ := p
          dsimp only at c0 c1 c2
          cases so
          · go_wp2_with (go_at_call 16; refine (at_some _ _ _ _ _).mono ?_; rintro e w' ⟨rfl, rfl⟩)
            have hin2 : (Err.step (wr.heap.size + 1) ss sn e).In ((wr.alloc (.cells #[.string ss, .int .i64 sn, .bool false] 35)).alloc (.cells #[.string ss, .int .i64 sn, .iface te xe] 46)) := by
              have := step_in (s := ss) (n := sn) (hin.below ((Below.refl wr.heap.size wr).alloc (Nat.le_refl _) (.cells #[.string ss, .int .i64 sn, .bool false] 35)) hin.top_le)
              rw [World.size_alloc, hve] at this
              exact this
            exact ⟨⟨j, _, _, by omega, rfl, rfl, rfl, hin2, (hbel.alloc hsr _).alloc (by simp; omega) _, by rw [HD.out]; exact ⟨rfl, rfl, rfl, hd⟩⟩, by simp [intOf]⟩
          · go_wp2
            exact ⟨⟨j, _, .other e, by omega, rfl, rfl, by simp [Err.val, hve], hin.below ((Below.refl wr.heap.size wr).alloc (Nat.le_refl _) _) hin.top_le, hbel.alloc hsr _, by rw [HD.out]; exact ⟨rfl, hd⟩⟩, by simp [intOf]⟩
    · go_enter Tryd.func11, Tryd.ntmps11
      go_wp2_with (go_at_call 24; refine (new_any _ _).mono ?_; rintro e w' ⟨rfl, rfl⟩)
      go_loopw [5, 6] (fun v i wr => ∃ (k : Nat) (z : Int) (e : Err), k ≤ 20 ∧ z = (k : Int) - 1 ∧ i = .int .i64 z ∧ v = e.val ∧ e.In wr ∧ Below w.heap.size w wr ∧ MadeOf 0 ((ps.take 20).drop k) e) (fun _ i _ => (intOf i + 1).toNat)
      case atStart => exact ⟨20, _, .text w.heap.size, Nat.le_refl _, by first | rfl | omega, rfl, rfl, trivial, ((Below.refl _ w).alloc (Nat.le_refl _) _), by rw [List.drop_eq_nil_of_le (by simp; omega)]; exact rfl⟩
      case round =>
        obtain ⟨k, z, e, hk, hz', rfl, rfl, hin, hbel, hmade⟩ := hrel
        obtain ⟨te, xe, hve⟩ := e.val_iface
        rw [hve]
        cases k with
        | zero =>
          have hzn : z < 0 := by omega
          clear hz'
          go_wp2
          go_ret
          exact ⟨e, by rw [hve]; rfl, hin, hbel, hmade⟩
        | succ j =>
          obtain rfl : z = j := by omega
          obtain ⟨p, hp⟩ : ∃ p, ps[j]? = some p := ⟨_, List.getElem?_eq_getElem (by omega)⟩
          have hd : MadeOf 0 ((ps.take 20).drop (j + 1)) e := hmade
          have hdj : (ps.take 20).drop j = p :: (ps.take 20).drop (j + 1) := drop_at (by rw [List.getElem?_take, if_pos (by omega)]; exact hp)
          have HD := Lib.hid hdj
          rcases hcells with h | ⟨b, o, rfl, hbl, hcl⟩
          · omega
          obtain ⟨d0, d1, d2⟩ := hcl j p hp
          have c0 : wr.cell? ⟨b, o + j * 3, none⟩ = some (.string p.s) := (hbel.cell (p := ⟨b, o + j * 3, none⟩) hbl).trans d0
          have c1 : wr.cell? ⟨b, o + j * 3 + 1, none⟩ = some (.int .i64 p.n) := (hbel.cell (p := ⟨b, o + j * 3 + 1, none⟩) hbl).trans d1
          have c2 : wr.cell? ⟨b, o + j * 3 + 2, none⟩ = some (.bool p.other) := (hbel.cell (p := ⟨b, o + j * 3 + 2, none⟩) hbl).trans d2
          have hjl : (j : Int) < n := by omega
          clear hcl d0 d1 d2 hp hmade hdj hz'
          have hsr := hbel.size
          obtain ⟨ss, sn, so⟩ := p
          dsimp only at c0 c1 c2
          cases so
          · go_wp2_with (go_at_call 16; refine (at_some _ _ _ _ _).mono ?_; rintro e w' ⟨rfl, rfl⟩)
            have hin2 : (Err.step (wr.heap.size + 1) ss sn e).In ((wr.alloc (.cells #[.string ss, .int .i64 sn, .bool false] 35)).alloc (.cells #[.string ss, .int .i64 sn, .iface te xe] 46)) := by
              have := step_in (s := ss) (n := sn) (hin.below ((Below.refl wr.heap.size wr).alloc (Nat.le_refl _) (.cells #[.string ss, .int .i64 sn, .bool false] 35)) hin.top_le)
              rw [World.size_alloc, hve] at this
              exact this
            exact ⟨⟨j, _, _, by omega, rfl, rfl, rfl, hin2, (hbel.alloc hsr _).alloc (by simp; omega) _, by rw [HD.out]; exact ⟨rfl, rfl, rfl, hd⟩⟩, by simp [intOf]⟩
          · go_wp2
            exact ⟨⟨j, _, .other e, by omega, rfl, rfl, by simp [Err.val, hve], hin.below ((Below.refl wr.heap.size wr).alloc (Nat.le_refl _) _) hin.top_le, hbel.alloc hsr _, by rw [HD.out]; exact ⟨rfl, hd⟩⟩, by simp [intOf]⟩
  · have hz1 : (code == 0) = false := by simpa using hz
    rcases (Nat.lt_or_ge 20 n).symm with hlt | hge
    · go_enter Tryd.func11, Tryd.ntmps11
      go_wp2
      go_loopw [5, 6] (fun v i wr => ∃ (k : Nat) (z : Int) (e : Err), k ≤ n ∧ z = (k : Int) - 1 ∧ i = .int .i64 z ∧ v = e.val ∧ e.In wr ∧ Below w.heap.size w wr ∧ MadeOf code ((ps.take 20).drop k) e) (fun _ i _ => (intOf i + 1).toNat)
      case atStart => exact ⟨n, _, .num code, Nat.le_refl _, by first | rfl | omega, rfl, rfl, trivial, (Below.refl _ w), by rw [List.drop_eq_nil_of_le (by simp; omega)]; exact ⟨rfl, hz⟩⟩
      case round =>
        obtain ⟨k, z, e, hk, hz', rfl, rfl, hin, hbel, hmade⟩ := hrel
        obtain ⟨te, xe, hve⟩ := e.val_iface
        rw [hve]
        cases k with
        | zero =>
          have hzn : z < 0 := by omega
          clear hz'
          go_wp2
          go_ret
          exact ⟨e, by rw [hve]; rfl, hin, hbel, hmade⟩
        | succ j =>
          obtain rfl : z = j := by omega
          obtain ⟨p, hp⟩ : ∃ p, ps[j]? = some p := ⟨_, List.getElem?_eq_getElem (by omega)⟩
          have hd : MadeOf code ((ps.take 20).drop (j + 1)) e := hmade
          have hdj : (ps.take 20).drop j = p :: (ps.take 20).drop (j + 1) := drop_at (by rw [List.getElem?_take, if_pos (by omega)]; exact hp)
          have HD := Lib.hid hdj
          rcases hcells with h | ⟨b, o, rfl, hbl, hcl⟩
          · omega
          obtain ⟨d0, d1, d2⟩ := hcl j p hp
          have c0 : wr.cell? ⟨b, o + j * 3, none⟩ = some (.string p.s) := (hbel.cell (p := ⟨b, o + j * 3, none⟩) hbl).trans d0
          have c1 : wr.cell? ⟨b, o + j * 3 + 1, none⟩ = some (.int .i64 p.n) := (hbel.cell (p := ⟨b, o + j * 3 + 1, none⟩) hbl).trans d1
          have c2 : wr.cell? ⟨b, o + j * 3 + 2, none⟩ = some (.bool p.other) := (hbel.cell (p := ⟨b, o + j * 3 + 2, none⟩) hbl).trans d2
          have hjl : (j : Int) < n := by omega
          clear hcl d0 d1 d2 hp hmade hdj hz'
          have hsr := hbel.size
          obtain ⟨ss, sn, so⟩ := p
          dsimp only at c0 c1 c2
          cases so
          · go_wp2_with (go_at_call 16; refine (at_some _ _ _ _ _).mono ?_; rintro e w' ⟨rfl, rfl⟩)
            have hin2 : (Err.step (wr.heap.size + 1) ss sn e).In ((wr.alloc (.cells #[.string ss, .int .i64 sn, .bool false] 35)).alloc (.cells #[.string ss, .int .i64 sn, .iface te xe] 46)) := by
              have := step_in (s := ss) (n := sn) (hin.below ((Below.refl wr.heap.size wr).alloc (Nat.le_refl _) (.cells #[.string ss, .int .i64 sn, .bool false] 35)) hin.top_le)
              rw [World.size_alloc, hve] at this
              exact this
            exact ⟨⟨j, _, _, by omega, rfl, rfl, rfl, hin2, (hbel.alloc hsr _).alloc (by simp; omega) _, by rw [HD.out]; exact ⟨rfl, rfl, rfl, hd⟩⟩, by simp [intOf]⟩
          · go_wp2
            exact ⟨⟨j, _, .other e, by omega, rfl, rfl, by simp [Err.val, hve], hin.below ((Below.refl wr.heap.size wr).alloc (Nat.le_refl _) _) hin.top_le, hbel.alloc hsr _, by rw [HD.out]; exact ⟨rfl, hd⟩⟩, by simp [intOf]⟩
    · go_enter Tryd.func11, Tryd.ntmps11
      go_wp2
      go_loopw [5, 6] (fun v i wr => ∃ (k : Nat) (z : Int) (e : Err), k ≤ 20 ∧ z = (k : Int) - 1 ∧ i = .int .i64 z ∧ v = e.val ∧ e.In wr ∧ Below w.heap.size w wr ∧ MadeOf code ((ps.take 20).drop k) e) (fun _ i _ => (intOf i + 1).toNat)
      case atStart => exact ⟨20, _, .num code, Nat.le_refl _, by first | rfl | omega, rfl, rfl, trivial, (Below.refl _ w), by rw [List.drop_eq_nil_of_le (by simp; omega)]; exact ⟨rfl, hz⟩⟩
      case round =>
        obtain ⟨k, z, e, hk, hz', rfl, rfl, hin, hbel, hmade⟩ := hrel
        obtain ⟨te, xe, hve⟩ := e.val_iface
        rw [hve]
        cases k with
        | zero =>
          have hzn : z < 0 := by omega
          clear hz'
          go_wp2
          go_ret
          exact ⟨e, by rw [hve]; rfl, hin, hbel, hmade⟩
        | succ j =>
          obtain rfl : z = j := by omega
          obtain ⟨p, hp⟩ : ∃ p, ps[j]? = some p := ⟨_, List.getElem?_eq_getElem (by omega)⟩
          have hd : MadeOf code ((ps.take 20).drop (j + 1)) e := hmade
          have hdj : (ps.take 20).drop j = p :: (ps.take 20).drop (j + 1) := drop_at (by rw [List.getElem?_take, if_pos (by omega)]; exact hp)
          have HD := Lib.hid hdj
          rcases hcells with h | ⟨b, o, rfl, hbl, hcl⟩
          · omega
          obtain ⟨d0, d1, d2⟩ := hcl j p hp
          have c0 : wr.cell? ⟨b, o + j * 3, none⟩ = some (.string p.s) := (hbel.cell (p := ⟨b, o + j * 3, none⟩) hbl).trans d0
          have c1 : wr.cell? ⟨b, o + j * 3 + 1, none⟩ = some (.int .i64 p.n) := (hbel.cell (p := ⟨b, o + j * 3 + 1, none⟩) hbl).trans d1
          have c2 : wr.cell? ⟨b, o + j * 3 + 2, none⟩ = some (.bool p.other) := (hbel.cell (p := ⟨b, o + j * 3 + 2, none⟩) hbl).trans d2
          have hjl : (j : Int) < n := by omega
          clear hcl d0 d1 d2 hp hmade hdj hz'
          have hsr := hbel.size
          obtain ⟨ss, sn, so⟩ := p
          dsimp only at c0 c1 c2
          cases so
          · go_wp2_with (go_at_call 16; refine (at_some _ _ _ _ _).mono ?_; rintro e w' ⟨rfl, rfl⟩)
            have hin2 : (Err.step (wr.heap.size + 1) ss sn e).In ((wr.alloc (.cells #[.string ss, .int .i64 sn, .bool false] 35)).alloc (.cells #[.string ss, .int .i64 sn, .iface te xe] 46)) := by
              have := step_in (s := ss) (n := sn) (hin.below ((Below.refl wr.heap.size wr).alloc (Nat.le_refl _) (.cells #[.string ss, .int .i64 sn, .bool false] 35)) hin.top_le)
              rw [World.size_alloc, hve] at this
              exact this
            exact ⟨⟨j, _, _, by omega, rfl, rfl, rfl, hin2, (hbel.alloc hsr _).alloc (by simp; omega) _, by rw [HD.out]; exact ⟨rfl, rfl, rfl, hd⟩⟩, by simp [intOf]⟩
          · go_wp2
            exact ⟨⟨j, _, .other e, by omega, rfl, rfl, by simp [Err.val, hve], hin.below ((Below.refl wr.heap.size wr).alloc (Nat.le_refl _) _) hin.top_le, hbel.alloc hsr _, by rw [HD.out]; exact ⟨rfl, hd⟩⟩, by simp [intOf]⟩
end Go.Proofs.YtoobblofblodnaaDoor
