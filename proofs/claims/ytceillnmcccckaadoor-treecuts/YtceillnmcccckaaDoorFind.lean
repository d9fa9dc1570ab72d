/-
  What find and without return: the leaf of a key, and a tree without it; conditions: tree and key lie in memory, there are no more than 4294967296 leaves, the table holds its words. find changes nothing, without only makes memory of its own.
-/
import Derived.Test.YtceillnmcccckaaDoorWith
namespace Go.Proofs.YtceillnmcccckaaDoor
open Go.RowKit
open Tr
variable {G : Nat → Prop}

def Tr.ofind (o : Option T) (k : List UInt8) : Option (List UInt8) :=
  match o with
  | none => none
  | some t => t.find k
def Tr.ohigh : Option T → Nat
  | none => 0
  | some t => t.h + 1
def FindPost (G : Nat → Prop) (w : World) (B : Nat) (k : List UInt8) (r : Option (List UInt8)) (e : Ending) (w' : World) : Prop :=
  ∃ q, e = .returned (ptr q) ∧ w = w' ∧ ((r = none ∧ q = none) ∨ ∃ b v, r = some v ∧ q = some b ∧ NIn G w B (.leaf k v) b)

set_option maxRecDepth 100000 in
set_option maxHeartbeats 1000000 in
theorem find_any (o : Option T) (p : Option Nat) (B B2 : Nat) (D : Option Addr) (m d : Nat) (k : List UInt8) (w : World) (h : PIn G w B o p) (hk : Rd w B2 D m k) :
    Calls Tryd.prog 43 #[ptr p, .slice D m d] w (FindPost G w B k (ofind o k)) := by
  have HP := Lib.hid h
  have HK := Lib.hid hk
  clear h hk
  go_enter Tryd.func43, Tryd.ntmps43
  go_wp2_with fail
  go_loopg [0] (ohigh o) (fun gk v wx => ∃ s p', gk = ohigh s ∧ v = ptr p' ∧ PIn G w B s p' ∧ ofind s k = ofind o k ∧ wx = w)
  case atStart => exact ⟨o, p, rfl, rfl, HP.out, rfl, rfl⟩
  case round =>
    clear HP
    obtain ⟨s, p', rfl, rfl, hs, hf, rfl⟩ := hrel
    have HF := Lib.hid hf
    clear hf
    cases s with
    | none =>
      obtain rfl := hs
      rw [ptr_none]
      go_wp2_with fail
      go_ret
      exact ⟨none, rfl, rfl, .inl ⟨HF.out.symm, rfl⟩⟩
    | some t =>
      obtain ⟨b, rfl, hN⟩ := hs
      cases t with
      | leaf k' v =>
        obtain ⟨A, n, c, A', n', c', hh⟩ := hN
        have c0 := hh.cells.1
        have HH := Lib.hid hh
        have HI := Lib.hid (isLeaf_yes hh rfl)
        rw [ptr_some] at HI ⊢
        obtain ⟨R, hR⟩ : ∃ R, (k' == k) = R := ⟨_, rfl⟩
        have HE := Lib.hid (equal_any A D n c m d B B2 k' k wr hh.key HK.out)
        rw [hR] at HE
        clear hh
        cases R with
        | true =>
          have HQ : Hid (k' = k) := Lib.hid (by simpa using hR)
          clear hR
          go_wp2_with fail
          refine HI.out.mono ?_
          rintro e w1 ⟨rfl, rfl⟩
          go_wp2_with fail
          refine HE.out.mono ?_
          rintro e w1 ⟨rfl, rfl⟩
          go_wp2_with fail
          go_ret
          have hq := HQ.out
          subst hq
          refine ⟨some b, by rw [ptr_some]; rfl, rfl, .inr ⟨b, v, ?_, rfl, ⟨A, n, c, A', n', c', HH.out⟩⟩⟩
          rw [← HF.out]
          simp [ofind, T.find]
        | false =>
          have HQ : Hid (k' ≠ k) := Lib.hid (by simpa using hR)
          clear hR
          go_wp2_with fail
          refine HI.out.mono ?_
          rintro e w1 ⟨rfl, rfl⟩
          go_wp2_with fail
          refine HE.out.mono ?_
          rintro e w1 ⟨rfl, rfl⟩
          go_wp2_with fail
          go_ret
          refine ⟨none, rfl, rfl, .inl ⟨?_, rfl⟩⟩
          rw [← HF.out]
          simp [ofind, T.find, HQ.out]
      | node l r =>
        obtain ⟨A, n, c, A', n', c', x, y, hh, hx, hy⟩ := hN
        have HI := Lib.hid (isLeaf_no hh (h_ne l r))
        have HL := Lib.hid (side_left hh)
        have HS := Lib.hid (side_right hh)
        have HRT := Lib.hid (fun R => isRight_any hh D m d B2 k HK.out R)
        have HX := Lib.hid hx
        have HY := Lib.hid hy
        rw [ptr_some] at HI HL HS HRT ⊢
        clear hh hx hy
        have HU : Hid (ofind (some (.node l r)) k = if lt k r.least then l.find k else r.find k) := Lib.hid rfl
        by_cases hlt : lt k r.least = true
        · have HR := Lib.hid (HRT.out false (by rw [show (T.node l r).key = r.least from rfl, hlt]; rfl))
          have HV : Hid (ofind (some l) k = ofind o k) := Lib.hid (by rw [← HF.out, HU.out, if_pos hlt]; rfl)
          clear HRT HU hlt HF
          go_wp2_with fail
          refine HI.out.mono ?_
          rintro e w1 ⟨rfl, rfl⟩
          go_wp2_with fail
          refine HR.out.mono ?_
          rintro e w1 ⟨rfl, rfl⟩
          go_wp2_with fail
          refine HL.out.mono ?_
          rintro e w1 ⟨rfl, rfl⟩
          go_wp2_with fail
          go_roundg (l.h + 1)
          case measure => show l.h + 1 < 1 + max l.h r.h + 1; omega
          case rel => exact ⟨some l, some x, rfl, rfl, ⟨x, rfl, HX.out⟩, HV.out, rfl⟩
        · have HR := Lib.hid (HRT.out true (by rw [show (T.node l r).key = r.least from rfl]; simpa using hlt))
          have HV : Hid (ofind (some r) k = ofind o k) := Lib.hid (by rw [← HF.out, HU.out, if_neg hlt]; rfl)
          clear HRT HU hlt HF
          go_wp2_with fail
          refine HI.out.mono ?_
          rintro e w1 ⟨rfl, rfl⟩
          go_wp2_with fail
          refine HR.out.mono ?_
          rintro e w1 ⟨rfl, rfl⟩
          go_wp2_with fail
          refine HS.out.mono ?_
          rintro e w1 ⟨rfl, rfl⟩
          go_wp2_with fail
          go_roundg (r.h + 1)
          case measure => show r.h + 1 < 1 + max l.h r.h + 1; omega
          case rel => exact ⟨some r, some y, rfl, rfl, ⟨y, rfl, HY.out⟩, HV.out, rfl⟩

theorem cut_n (k : List UInt8) : ∀ t t' : T, t.cut k = some t' → t'.n ≤ t.n
  | .leaf _ _, _, h => by cases h
  | .node l r, t', h => by
    change (if lt k r.least = true then (match l.cut k with | none => some r | some l' => some (bal l' r)) else (match r.cut k with | none => some l | some r' => some (bal l r'))) = some t' at h
    show t'.n ≤ l.n + r.n
    split at h
    · cases hc : l.cut k with
      | none =>
        rw [hc] at h
        injection h with h
        subst h
        omega
      | some l' =>
        rw [hc] at h
        injection h with h
        subst h
        have := cut_n k l l' hc
        rw [bal_n]; omega
    · cases hc : r.cut k with
      | none =>
        rw [hc] at h
        injection h with h
        subst h
        omega
      | some r' =>
        rw [hc] at h
        injection h with h
        subst h
        have := cut_n k r r' hc
        rw [bal_n]; omega

def WoPost (G : Nat → Prop) (o : Option T) (w : World) (e : Ending) (w' : World) : Prop := ∃ p, e = .returned (ptr p) ∧ PIn G w' w'.heap.size o p ∧ Below w.heap.size w w'

set_option maxRecDepth 100000 in
set_option maxHeartbeats 1000000 in
theorem without_any (D : Option Addr) (m d : Nat) (k : List UInt8) : ∀ (t : T) (b : Nat) (w : World) (_ : NIn G w w.heap.size t b) (_ : Rd w w.heap.size D m k) (_ : t.n ≤ 4294967296) (_ : Sh.Tab w 1) (_ : Room G w),
    Calls Tryd.prog 44 #[ptr (some b), .slice D m d] w (WoPost G (t.cut k) w)
  | .leaf k' v', b, w, hl, _, _, _, _ => by
    obtain ⟨A, n, c, A', n', c', hh⟩ := hl
    have HI := Lib.hid (isLeaf_yes hh rfl)
    clear hh
    rw [ptr_some] at HI ⊢
    go_enter Tryd.func44, Tryd.ntmps44
    go_wp2_with fail
    refine HI.out.mono ?_
    rintro e w1 ⟨rfl, rfl⟩
    go_wp2_with fail
    go_ret
    exact ⟨none, rfl, rfl, Below.refl _ _⟩
  | .node l r, b, w, hl, hk, hn, ht, hw => by
    obtain ⟨A, n, c, A', n', c', x, y, hh, hx, hy⟩ := hl
    have HI := Lib.hid (isLeaf_no hh (h_ne l r))
    have HRT := Lib.hid (fun R => isRight_any hh D m d w.heap.size k hk R)
    obtain ⟨c100, c101⟩ := hh.sides (Below.refl _ _)
    have e0 : (T.node l r).n = l.n + r.n := rfl
    have p1 := T.n_pos l
    have p2 := T.n_pos r
    have HH := Lib.hid hh
    have HX := Lib.hid hx
    have HY := Lib.hid hy
    have HT := Lib.hid ht
    have HW := Lib.hid hw
    rw [ptr_some] at HI HRT ⊢
    have HU : Hid ((T.node l r).cut k = if lt k r.least = true then (match l.cut k with | none => some r | some l' => some (bal l' r)) else (match r.cut k with | none => some l | some r' => some (bal l r'))) := Lib.hid rfl
    by_cases hlt : lt k r.least = true
    · rw [HU.out, if_pos hlt]
      have HR := Lib.hid (HRT.out false (by rw [show (T.node l r).key = r.least from rfl, hlt]; rfl))
      have HC1 := Lib.hid (without_any D m d k l x w hx hk (by omega) ht hw)
      rw [ptr_some] at HC1
      clear HRT HU hlt hh hx hy hk ht hw
      cases hc : l.cut k with
      | none =>
        rw [hc] at HC1
        clear hc
        go_enter Tryd.func44, Tryd.ntmps44
        go_wp2_with fail
        refine HI.out.mono ?_
        rintro e w1 ⟨rfl, rfl⟩
        go_wp2_with fail
        refine HR.out.mono ?_
        rintro e w1 ⟨rfl, rfl⟩
        go_wp2_with fail
        refine HC1.out.mono ?_
        rintro e w2 ⟨p, rfl, hP, hb2⟩
        obtain rfl := hP
        rw [ptr_none]
        clear c100 c101
        obtain ⟨c100, c101⟩ := HH.out.sides hb2
        have HB2 := Lib.hid hb2
        clear hb2
        go_wp2_with fail
        go_ret
        exact ⟨some y, rfl, ⟨y, rfl, HY.out.on HB2.out⟩, HB2.out⟩
      | some l' =>
        have hln := cut_n k l l' hc
        rw [hc] at HC1
        clear hc
        go_enter Tryd.func44, Tryd.ntmps44
        go_wp2_with fail
        refine HI.out.mono ?_
        rintro e w1 ⟨rfl, rfl⟩
        go_wp2_with fail
        refine HR.out.mono ?_
        rintro e w1 ⟨rfl, rfl⟩
        go_wp2_with fail
        refine HC1.out.mono ?_
        rintro e w2 ⟨p, rfl, hP, hb2⟩
        obtain ⟨b1, rfl, hN1⟩ := hP
        rw [ptr_some]
        clear c100 c101
        obtain ⟨c100, c101⟩ := HH.out.sides hb2
        have HC2 := Lib.hid (bal_any l' r b1 y w2 hN1 (HY.out.on hb2) (by omega) (Sh.tab_below HT.out hb2 HW.out.1) (HW.out.on hb2))
        rw [ptr_some, ptr_some] at HC2
        have HB2 := Lib.hid hb2
        clear hb2 hN1
        go_wp2_with fail
        refine HC2.out.mono ?_
        rintro e w3 ⟨b2, rfl, hN2, hb3⟩
        have HN2 := Lib.hid hN2
        have HB3 := Lib.hid (HB2.out.trans (hb3.mono HB2.out.size))
        clear hN2 hb3 c100 c101
        rw [ptr_some]
        go_wp2_with fail
        go_ret
        exact ⟨some b2, rfl, ⟨b2, rfl, HN2.out⟩, HB3.out⟩
    · rw [HU.out, if_neg hlt]
      have HR := Lib.hid (HRT.out true (by rw [show (T.node l r).key = r.least from rfl]; simpa using hlt))
      have HC1 := Lib.hid (without_any D m d k r y w hy hk (by omega) ht hw)
      rw [ptr_some] at HC1
      clear HRT HU hlt hh hx hy hk ht hw
      cases hc : r.cut k with
      | none =>
        rw [hc] at HC1
        clear hc
        go_enter Tryd.func44, Tryd.ntmps44
        go_wp2_with fail
        refine HI.out.mono ?_
        rintro e w1 ⟨rfl, rfl⟩
        go_wp2_with fail
        refine HR.out.mono ?_
        rintro e w1 ⟨rfl, rfl⟩
        go_wp2_with fail
        refine HC1.out.mono ?_
        rintro e w2 ⟨p, rfl, hP, hb2⟩
        obtain rfl := hP
        rw [ptr_none]
        clear c100 c101
        obtain ⟨c100, c101⟩ := HH.out.sides hb2
        have HB2 := Lib.hid hb2
        clear hb2
        go_wp2_with fail
        go_ret
        exact ⟨some x, rfl, ⟨x, rfl, HX.out.on HB2.out⟩, HB2.out⟩
      | some r' =>
        have hln := cut_n k r r' hc
        rw [hc] at HC1
        clear hc
        go_enter Tryd.func44, Tryd.ntmps44
        go_wp2_with fail
        refine HI.out.mono ?_
        rintro e w1 ⟨rfl, rfl⟩
        go_wp2_with fail
        refine HR.out.mono ?_
        rintro e w1 ⟨rfl, rfl⟩
        go_wp2_with fail
        refine HC1.out.mono ?_
        rintro e w2 ⟨p, rfl, hP, hb2⟩
        obtain ⟨b1, rfl, hN1⟩ := hP
        rw [ptr_some]
        clear c100 c101
        obtain ⟨c100, c101⟩ := HH.out.sides hb2
        have HC2 := Lib.hid (bal_any l r' x b1 w2 (HX.out.on hb2) hN1 (by omega) (Sh.tab_below HT.out hb2 HW.out.1) (HW.out.on hb2))
        rw [ptr_some, ptr_some] at HC2
        have HB2 := Lib.hid hb2
        clear hb2 hN1
        go_wp2_with fail
        refine HC2.out.mono ?_
        rintro e w3 ⟨b2, rfl, hN2, hb3⟩
        have HN2 := Lib.hid hN2
        have HB3 := Lib.hid (HB2.out.trans (hb3.mono HB2.out.size))
        clear hN2 hb3 c100 c101
        rw [ptr_some]
        go_wp2_with fail
        go_ret
        exact ⟨some b2, rfl, ⟨b2, rfl, HN2.out⟩, HB3.out⟩
end Go.Proofs.YtceillnmcccckaaDoor
