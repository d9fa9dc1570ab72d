/-
  What find and without return: the leaf of a key, and a tree without it; conditions: tree and key lie in memory, there are no more than 4294967296 leaves, the table holds its words. find changes nothing, without only makes memory of its own.
  What told returns: a node as it is answered, of bytes of its own; condition: the node lies in memory. It only makes memory of its own.
  What a tree's Put, Cut, Get, Root, Len return; conditions: tree and bytes lie in memory, there are fewer than 4294967296 leaves, the table holds its words. They only make memory of their own.
  What a tree's Node returns: the node to which a way leads; conditions: tree and way lie in memory. It only makes memory of its own.
  A law of my own for a region that draws its order: a condition on memory that holds behind every operation but the late ones (a store at the region's end), and what is read under it is taken first, if every late operation waits for it: no condition.
  What visit does: it calls a closure at each node, the upmost first, each one's left side ahead of its right one; condition: the tree lies in memory, the closure's contract.
  The fixed fact of the laws: Awake returns true; condition: the table holds its words. It only makes memory of its own.
  What SameNode returns for two nodes that read alike: true; and All, Nodes of a nil or an empty tree: nothing; conditions: their bytes are read.
-/
import Derived.Test.YtolkpjbbfopmnaaDoorLeanA
import Derived.Lib.ConvBytes
namespace Go.Proofs.YtolkpjbbfopmnaaDoor
open Go.RowKit
open Tr
variable {G : Nat → Prop}

def Tr.ofind (o : Option T) (k : List UInt8) : Option (List UInt8) :=
  match o with
  | none => none
  | some t => t.find k
def Tr.ohigh : Option T → Nat
  | none => 0
  | some t => t.h + 1
def FindPost (G : Nat → Prop) (w : World) (B : Nat) (k : List UInt8) (r : Option (List UInt8)) (e : Ending) (w' : World) : Prop :=
  ∃ q, e = .returned (ptr q) ∧ w = w' ∧ ((r = none ∧ q = none) ∨ ∃ b v, r = some v ∧ q = some b ∧ NIn G w B (.leaf k v) b)

set_option maxRecDepth 100000 in
set_option maxHeartbeats 1000000 in
theorem find_any (o : Option T) (p : Option Nat) (B B2 : Nat) (D : Option Addr) (m d : Nat) (k : List UInt8) (w : World) (h : PIn G w B o p) (hk : Rd w B2 D m k) :
    Calls Tryd.prog 39 #[ptr p, .slice D m d] w (FindPost G w B k (ofind o k)) := by
  have HP := Lib.hid h
  have HK := Lib.hid hk
  clear h hk
  go_enter Tryd.func39, Tryd.ntmps39
  go_wp2_with fail
  go_loopg [0] (ohigh o) (fun gk v wx => ∃ s p', gk = ohigh s ∧ v = ptr p' ∧ PIn G w B s p' ∧ ofind s k = ofind o k ∧ wx = w)
  case atStart => exact ⟨o, p, rfl, rfl, HP.out, rfl, rfl⟩
  case round =>
    clear HP
    obtain ⟨s, p', rfl, rfl, hs, hf, rfl⟩ := hrel
    have HF := Lib.hid hf
    clear hf
    cases s with
    | none =>
      obtain rfl := hs
      rw [ptr_none]
      go_wp2_with fail
      go_ret
      exact ⟨none, rfl, rfl, .inl ⟨HF.out.symm, rfl⟩⟩
    | some t =>
      obtain ⟨b, rfl, hN⟩ := hs
      cases t with
      | leaf k' v =>
        obtain ⟨A, n, c, A', n', c', hh⟩ := hN
        have c0 := hh.cells.1
        have HH := Lib.hid hh
        have HI := Lib.hid (isLeaf_yes hh rfl)
        rw [ptr_some] at HI ⊢
        obtain ⟨R, hR⟩ : ∃ R, (k' == k) = R := ⟨_, rfl⟩
        have HE := Lib.hid (equal_any A D n c m d B B2 k' k wr hh.key HK.out)
        rw [hR] at HE
        clear hh
        cases R with
        | true =>
          have HQ : Hid (k' = k) := Lib.hid (by simpa using hR)
          clear hR
          go_wp2_with fail
          refine HI.out.mono ?_
          rintro e w1 ⟨rfl, rfl⟩
          go_wp2_with fail
          refine HE.out.mono ?_
          rintro e w1 ⟨rfl, rfl⟩
          go_wp2_with fail
          go_ret
          have hq := HQ.out
          subst hq
          refine ⟨some b, by rw [ptr_some]; rfl, rfl, .inr ⟨b, v, ?_, rfl, ⟨A, n, c, A', n', c', HH.out⟩⟩⟩
          rw [← HF.out]
          simp [ofind, T.find]
        | false =>
          have HQ : Hid (k' ≠ k) := Lib.hid (by simpa using hR)
          clear hR
          go_wp2_with fail
          refine HI.out.mono ?_
          rintro e w1 ⟨rfl, rfl⟩
          go_wp2_with fail
          refine HE.out.mono ?_
          rintro e w1 ⟨rfl, rfl⟩
          go_wp2_with fail
          go_ret
          refine ⟨none, rfl, rfl, .inl ⟨?_, rfl⟩⟩
          rw [← HF.out]
          simp [ofind, T.find, HQ.out]
      | node l r =>
        obtain ⟨A, n, c, A', n', c', x, y, hh, hx, hy⟩ := hN
        have HI := Lib.hid (isLeaf_no hh (h_ne l r))
        have HL := Lib.hid (side_left hh)
        have HS := Lib.hid (side_right hh)
        have HRT := Lib.hid (fun R => isRight_any hh D m d B2 k HK.out R)
        have HX := Lib.hid hx
        have HY := Lib.hid hy
        rw [ptr_some] at HI HL HS HRT ⊢
        clear hh hx hy
        have HU : Hid (ofind (some (.node l r)) k = if lt k r.least then l.find k else r.find k) := Lib.hid rfl
        by_cases hlt : lt k r.least = true
        · have HR := Lib.hid (HRT.out false (by rw [show (T.node l r).key = r.least from rfl, hlt]; rfl))
          have HV : Hid (ofind (some l) k = ofind o k) := Lib.hid (by rw [← HF.out, HU.out, if_pos hlt]; rfl)
          clear HRT HU hlt HF
          go_wp2_with fail
          refine HI.out.mono ?_
          rintro e w1 ⟨rfl, rfl⟩
          go_wp2_with fail
          refine HR.out.mono ?_
          rintro e w1 ⟨rfl, rfl⟩
          go_wp2_with fail
          refine HL.out.mono ?_
          rintro e w1 ⟨rfl, rfl⟩
          go_wp2_with fail
          go_roundg (l.h + 1)
          case measure => show l.h + 1 < 1 + max l.h r.h + 1; omega
          case rel => exact ⟨some l, some x, rfl, rfl, ⟨x, rfl, HX.out⟩, HV.out, rfl⟩
        · have HR := Lib.hid (HRT.out true (by rw [show (T.node l r).key = r.least from rfl]; simpa using hlt))
          have HV : Hid (ofind (some r) k = ofind o k) := Lib.hid (by rw [← HF.out, HU.out, if_neg hlt]; rfl)
          clear HRT HU hlt HF
          go_wp2_with fail
          refine HI.out.mono ?_
          rintro e w1 ⟨rfl, rfl⟩
          go_wp2_with fail
          refine HR.out.mono ?_
          rintro e w1 ⟨rfl, rfl⟩
          go_wp2_with fail
          refine HS.out.mono ?_
          rintro e w1 ⟨rfl, rfl⟩
          go_wp2_with fail
          go_roundg (r.h + 1)
          case measure => show r.h + 1 < 1 + max l.h r.h + 1; omega
          case rel => exact ⟨some r, some y, rfl, rfl, ⟨y, rfl, HY.out⟩, HV.out, rfl⟩

theorem cut_n (k : List UInt8) : ∀ t t' : T, t.cut k = some t' → t'.n ≤ t.n
  | .leaf _ _, _, h => by cases h
  | .node l r, t', h => by
    change (if lt k r.least = true then (match l.cut k with | none => some r | some l' => some (bal l' r)) else (match r.cut k with | none => some l | some r' => some (bal l r'))) = some t' at h
    show t'.n ≤ l.n + r.n
    split at h
    · cases hc : l.cut k with
      | none =>
        rw [hc] at h
        injection h with h
        subst h
        omega
      | some l' =>
        rw [hc] at h
        injection h with h
        subst h
        have := cut_n k l l' hc
        rw [bal_n]; omega
    · cases hc : r.cut k with
      | none =>
        rw [hc] at h
        injection h with h
        subst h
        omega
      | some r' =>
        rw [hc] at h
        injection h with h
        subst h
        have := cut_n k r r' hc
        rw [bal_n]; omega

def WoPost (G : Nat → Prop) (o : Option T) (w : World) (e : Ending) (w' : World) : Prop := ∃ p, e = .returned (ptr p) ∧ PIn G w' w'.heap.size o p ∧ Below w.heap.size w w'

set_option maxRecDepth 100000 in
set_option maxHeartbeats 1000000 in
theorem without_any (D : Option Addr) (m d : Nat) (k : List UInt8) : ∀ (t : T) (b : Nat) (w : World) (_ : NIn G w w.heap.size t b) (_ : Rd w w.heap.size D m k) (_ : t.n ≤ 4294967296) (_ : Sh.Tab w 1) (_ : Room G w),
    Calls Tryd.prog 40 #[ptr (some b), .slice D m d] w (WoPost G (t.cut k) w)
  | .leaf k' v', b, w, hl, _, _, _, _ => by
    obtain ⟨A, n, c, A', n', c', hh⟩ := hl
    have HI := Lib.hid (isLeaf_yes hh rfl)
    clear hh
    rw [ptr_some] at HI ⊢
    go_enter Tryd.func40, Tryd.ntmps40
    go_wp2_with fail
    refine HI.out.mono ?_
    rintro e w1 ⟨rfl, rfl⟩
    go_wp2_with fail
    go_ret
    exact ⟨none, rfl, rfl, Below.refl _ _⟩
  | .node l r, b, w, hl, hk, hn, ht, hw => by
    obtain ⟨A, n, c, A', n', c', x, y, hh, hx, hy⟩ := hl
    have HI := Lib.hid (isLeaf_no hh (h_ne l r))
    have HRT := Lib.hid (fun R => isRight_any hh D m d w.heap.size k hk R)
    obtain ⟨c100, c101⟩ := hh.sides (Below.refl _ _)
    have e0 : (T.node l r).n = l.n + r.n := rfl
    have p1 := T.n_pos l
    have p2 := T.n_pos r
    have HH := Lib.hid hh
    have HX := Lib.hid hx
    have HY := Lib.hid hy
    have HT := Lib.hid ht
    have HW := Lib.hid hw
    rw [ptr_some] at HI HRT ⊢
    have HU : Hid ((T.node l r).cut k = if lt k r.least = true then (match l.cut k with | none => some r | some l' => some (bal l' r)) else (match r.cut k with | none => some l | some r' => some (bal l r'))) := Lib.hid rfl
    by_cases hlt : lt k r.least = true
    · rw [HU.out, if_pos hlt]
      have HR := Lib.hid (HRT.out false (by rw [show (T.node l r).key = r.least from rfl, hlt]; rfl))
      have HC1 := Lib.hid (without_any D m d k l x w hx hk (by omega) ht hw)
      rw [ptr_some] at HC1
      clear HRT HU hlt hh hx hy hk ht hw
      cases hc : l.cut k with
      | none =>
        rw [hc] at HC1
        clear hc
        go_enter Tryd.func40, Tryd.ntmps40
        go_wp2_with fail
        refine HI.out.mono ?_
        rintro e w1 ⟨rfl, rfl⟩
        go_wp2_with fail
        refine HR.out.mono ?_
        rintro e w1 ⟨rfl, rfl⟩
        go_wp2_with fail
        refine HC1.out.mono ?_
        rintro e w2 ⟨p, rfl, hP, hb2⟩
        obtain rfl := hP
        rw [ptr_none]
        clear c100 c101
        obtain ⟨c100, c101⟩ := HH.out.sides hb2
        have HB2 := Lib.hid hb2
        clear hb2
        go_wp2_with fail
        go_ret
        exact ⟨some y, rfl, ⟨y, rfl, HY.out.on HB2.out⟩, HB2.out⟩
      | some l' =>
        have hln := cut_n k l l' hc
        rw [hc] at HC1
        clear hc
        go_enter Tryd.func40, Tryd.ntmps40
        go_wp2_with fail
        refine HI.out.mono ?_
        rintro e w1 ⟨rfl, rfl⟩
        go_wp2_with fail
        refine HR.out.mono ?_
        rintro e w1 ⟨rfl, rfl⟩
        go_wp2_with fail
        refine HC1.out.mono ?_
        rintro e w2 ⟨p, rfl, hP, hb2⟩
        obtain ⟨b1, rfl, hN1⟩ := hP
        rw [ptr_some]
        clear c100 c101
        obtain ⟨c100, c101⟩ := HH.out.sides hb2
        have HC2 := Lib.hid (bal_any l' r b1 y w2 hN1 (HY.out.on hb2) (by omega) (Sh.tab_below HT.out hb2 HW.out.1) (HW.out.on hb2))
        rw [ptr_some, ptr_some] at HC2
        have HB2 := Lib.hid hb2
        clear hb2 hN1
        go_wp2_with fail
        refine HC2.out.mono ?_
        rintro e w3 ⟨b2, rfl, hN2, hb3⟩
        have HN2 := Lib.hid hN2
        have HB3 := Lib.hid (HB2.out.trans (hb3.mono HB2.out.size))
        clear hN2 hb3 c100 c101
        rw [ptr_some]
        go_wp2_with fail
        go_ret
        exact ⟨some b2, rfl, ⟨b2, rfl, HN2.out⟩, HB3.out⟩
    · rw [HU.out, if_neg hlt]
      have HR := Lib.hid (HRT.out true (by rw [show (T.node l r).key = r.least from rfl]; simpa using hlt))
      have HC1 := Lib.hid (without_any D m d k r y w hy hk (by omega) ht hw)
      rw [ptr_some] at HC1
      clear HRT HU hlt hh hx hy hk ht hw
      cases hc : r.cut k with
      | none =>
        rw [hc] at HC1
        clear hc
        go_enter Tryd.func40, Tryd.ntmps40
        go_wp2_with fail
        refine HI.out.mono ?_
        rintro e w1 ⟨rfl, rfl⟩
        go_wp2_with fail
        refine HR.out.mono ?_
        rintro e w1 ⟨rfl, rfl⟩
        go_wp2_with fail
        refine HC1.out.mono ?_
        rintro e w2 ⟨p, rfl, hP, hb2⟩
        obtain rfl := hP
        rw [ptr_none]
        clear c100 c101
        obtain ⟨c100, c101⟩ := HH.out.sides hb2
        have HB2 := Lib.hid hb2
        clear hb2
        go_wp2_with fail
        go_ret
        exact ⟨some x, rfl, ⟨x, rfl, HX.out.on HB2.out⟩, HB2.out⟩
      | some r' =>
        have hln := cut_n k r r' hc
        rw [hc] at HC1
        clear hc
        go_enter Tryd.func40, Tryd.ntmps40
        go_wp2_with fail
        refine HI.out.mono ?_
        rintro e w1 ⟨rfl, rfl⟩
        go_wp2_with fail
        refine HR.out.mono ?_
        rintro e w1 ⟨rfl, rfl⟩
        go_wp2_with fail
        refine HC1.out.mono ?_
        rintro e w2 ⟨p, rfl, hP, hb2⟩
        obtain ⟨b1, rfl, hN1⟩ := hP
        rw [ptr_some]
        clear c100 c101
        obtain ⟨c100, c101⟩ := HH.out.sides hb2
        have HC2 := Lib.hid (bal_any l r' x b1 w2 (HX.out.on hb2) hN1 (by omega) (Sh.tab_below HT.out hb2 HW.out.1) (HW.out.on hb2))
        rw [ptr_some, ptr_some] at HC2
        have HB2 := Lib.hid hb2
        clear hb2 hN1
        go_wp2_with fail
        refine HC2.out.mono ?_
        rintro e w3 ⟨b2, rfl, hN2, hb3⟩
        have HN2 := Lib.hid hN2
        have HB3 := Lib.hid (HB2.out.trans (hb3.mono HB2.out.size))
        clear hN2 hb3 c100 c101
        rw [ptr_some]
        go_wp2_with fail
        go_ret
        exact ⟨some b2, rfl, ⟨b2, rfl, HN2.out⟩, HB3.out⟩
end Go.Proofs.YtolkpjbbfopmnaaDoor
namespace Go.Proofs.YtolkpjbbfopmnaaDoor
open Go.RowKit
open Tr
variable {G : Nat → Prop}

/-- A node that is answered: its bytes lie in blocks that were not there at B. -/
structure Told (w : World) (B : Nat) (t : T) (cs : Array Value) (A : Option Addr) (n c : Nat) (A' : Option Addr) (n' c' : Nat) : Prop where
  eq : cs = (acells (.slice A n c) (.slice A' n' c') t.h t.n t.lsum t.rsum).toArray
  key : Rd w w.heap.size A n t.key
  knc : n ≤ c
  kle : n ≤ 96
  val : Rd w w.heap.size A' n' t.val
  vnc : n' ≤ c'
  vle : n' ≤ 256
  knew : Fresh B w A
  vnew : Fresh B w A'
def ToldPost (t : T) (w : World) (e : Ending) (w' : World) : Prop := ∃ cs A n c A' n' c', e = .returned (.agg cs) ∧ Told w' w.heap.size t cs A n c A' n' c' ∧ Below w.heap.size w w'

theorem acells_one (A A' : Option Addr) (n c n' c' : Nat) (h : Int) (z : Nat) (l r : List UInt8) : (acells (.slice A n c) (.slice A' n' c') h z l r).toArray.all (·.oneCell') = true := by
  refine all_oneCell_toArray fun u hu => ?_
  simp only [acells, List.mem_cons, List.mem_append] at hu
  rcases hu with rfl | rfl | rfl | rfl | hu | hu
  · rfl
  · rfl
  · rfl
  · rfl
  · exact one_bytes _ u hu
  · exact one_bytes _ u hu
theorem acells_set0 (kv kv' vv : Value) (h : Int) (z : Nat) (l r : List UInt8) : (acells kv vv h z l r).toArray.setIfInBounds 0 kv' = (acells kv' vv h z l r).toArray := rfl
theorem acells_set1 (kv vv vv' : Value) (h : Int) (z : Nat) (l r : List UInt8) : (acells kv vv h z l r).toArray.setIfInBounds 1 vv' = (acells kv vv' h z l r).toArray := rfl

theorem heap_setCells_other (g b : Nat) (hb : b ≠ g) : ∀ (vs : List Value) (o : Nat) (w : World), (w.setCells g o vs).heap[b]? = w.heap[b]? := by
  intro vs
  induction vs with
  | nil => intro o w; rfl
  | cons v r ih => intro o w; exact (ih (o + 1) _).trans (Below.heap_setCell w ⟨g, o, none⟩ v b hb)

set_option maxRecDepth 100000 in
set_option maxHeartbeats 1000000 in
theorem told_any (t : T) (b B : Nat) (w : World) (h : NIn G w B t b) (hB : B ≤ w.heap.size) : Calls Tryd.prog 46 #[ptr (some b)] w (ToldPost t w) := by
  have hz64 := zero64
  obtain ⟨A, n, c, A', n', c', x, y, hh⟩ := h.has
  have hlb : b < w.heap.size := Nat.lt_of_lt_of_le hh.lt hB
  have HH := Lib.hid hh
  clear h hh
  rw [ptr_some]
  go_enter Tryd.func46, Tryd.ntmps46
  go_upto_region 1 with (fail)
  have hb1 : Below w.heap.size w (w.alloc (.cells z64 47)) := (Below.refl _ _).alloc (Nat.le_refl _) _
  have hw1 := Whole.made w 47 z64
  have hs1 : (w.alloc (.cells z64 47)).heap.size = w.heap.size + 1 := size_alloc _ _
  generalize w.alloc (.cells z64 47) = w1 at *
  have HN := Lib.hid (HH.out.below hb1 hB)
  have HW1 := Lib.hid hw1
  have HB1 := Lib.hid hb1
  clear hb1 hw1
  have hl68 : (acells (.slice A n c) (.slice A' n' c') t.h t.n t.lsum t.rsum).length = 68 := acells_len _ _ _ _ _ _ (lsum32 t) (rsum32 t)
  have hz68 : (acells (.slice A n c) (.slice A' n' c') t.h t.n t.lsum t.rsum).toArray.size = 68 := by rw [List.size_toArray, hl68]
  refine wp_region_lit ?_
  iterate 9 go_step
  refine wpList_load_mid rfl 47 (.tmp 6) rfl b 0 rfl _ _ (ncells_arange HN.out.whole) Tryd.underlying47 rfl (by rw [hl68]; exact info64) ?_
  iterate 3 go_step
  clear hz64
  have hw2 := Whole.made w1 47 z64
  rw [hs1] at hw2
  refine wpList_store_mid rfl 47 (.tmp 3) (.tmp 7) rfl (w.heap.size + 1) 0 (acells (.slice A n c) (.slice A' n' c') t.h t.n t.lsum t.rsum).toArray rfl rfl ?_ ?_ (acells_one ..) ?_
  · rw [hz68]; exact hw2.there_
  · rw [hz68]; exact info64
  have hw3 := hw2.setAll (vs := (acells (.slice A n c) (.slice A' n' c') t.h t.n t.lsum t.rsum).toArray) (by rw [hz68]; rfl)
  have hb3 : Below w1.heap.size w1 ((w1.alloc (.cells z64 47)).setCells (w.heap.size + 1) 0 (acells (.slice A n c) (.slice A' n' c') t.h t.n t.lsum t.rsum).toArray.toList) := below_setCells w1 (w.heap.size + 1) _ 0 ((Below.refl _ _).alloc (Nat.le_refl _) _) (by omega)
  generalize (w1.alloc (.cells z64 47)).setCells (w.heap.size + 1) 0 (acells (.slice A n c) (.slice A' n' c') t.h t.n t.lsum t.rsum).toArray.toList = w3 at *
  rw [hs1] at hb3
  have hs3 : w.heap.size + 1 < w3.heap.size := hw3.lt
  have HW3 := Lib.hid hw3
  have HR3 := Lib.hid (HW1.out.below hb3 (Nat.lt_succ_self _))
  have HN3 := Lib.hid (HN.out.below hb3 (by omega))
  have HB3 := Lib.hid (HB1.out.trans (hb3.mono (Nat.le_succ _)))
  clear hw2 hw3 hb3 HN HW1 HB1 HH
  clear hs1
  go_upto_region 2 with (fail)
  have HLEN := Lib.hid (And.intro HN3.out.key.len HN3.out.val.len)
  have hn96 := HN3.out.kle
  have hn256 := HN3.out.vle
  have HW4 : Hid (Whole w3.drew (w.heap.size + 1) 47 _) := Lib.hid HW3.out
  have HR4 : Hid (Whole w3.drew w.heap.size 47 z64) := Lib.hid HR3.out
  have HK4 : Hid (Rd w3.drew w.heap.size A n t.key) := Lib.hid (HN3.out.key.more hB)
  have HV4 : Hid (Rd w3.drew w.heap.size A' n' t.val) := Lib.hid (HN3.out.val.more hB)
  have HB4 := Lib.hid (HB3.out.drew)
  have hs4 : w.heap.size + 1 < w3.drew.heap.size := hs3
  refine wp_region_held_drew (S := fun _ => True) (by kernel_rfl) trivial (fun hHeld => ?_)
  have hHeld := True.intro
  refine wpAnyH_take (i := 0) (oi := { dst := some 8, op := Op.fieldAddr 47 (Operand.tmp 3) 0, type := 0, pos := "node.go:147", after := #[], guard := none }) (v := ?_) rfl (by kernel_rfl) (by kernel_rfl) (by kernel_rfl) (fun _ _ _ h => h) (Or.inl ⟨by rfl, ?_⟩) (by assumption) ?_
  rotate_left
  · first | (intro w hSw; (try dsimp only at hSw); go_simp; done) | (intro w hSw; (try dsimp only at hSw); go_simp; with_reducible rfl)
  simp only [Act.put, List.setIfInBounds_toArray, List.set_cons_zero, List.set_cons_succ]
  refine wpAnyH_take (i := 3) (oi := { dst := some 11, op := Op.fieldAddr 47 (Operand.tmp 3) 1, type := 0, pos := "node.go:147", after := #[], guard := none }) (v := ?_) rfl (by kernel_rfl) (by kernel_rfl) (by kernel_rfl) (fun _ _ _ h => h) (Or.inl ⟨by rfl, ?_⟩) (by assumption) ?_
  rotate_left
  · first | (intro w hSw; (try dsimp only at hSw); go_simp; done) | (intro w hSw; (try dsimp only at hSw); go_simp; with_reducible rfl)
  simp only [Act.put, List.setIfInBounds_toArray, List.set_cons_zero, List.set_cons_succ]
  clear hs3 HW3 HR3 HN3 HB3
  generalize w3.drew = w4 at *
  have k0 : w4.cell? ⟨w.heap.size + 1, 0, none⟩ = some (.slice A n c) := HW4.out.at_ rfl
  have k1 : w4.cell? ⟨w.heap.size + 1, 1, none⟩ = some (.slice A' n' c') := HW4.out.at_ rfl
  have HC1 := Lib.hid (clone_new A n c t.key w4 (HK4.out.more (by omega)) (by omega))
  refine wpAnyH_ready (rs := [1, 4]) (by kernel_rfl) (by simp) ?_
  refine AllReadyH.cons rfl (fun K hK => ?_) (AllReadyH.cons rfl (fun K hK => ?_) AllReadyH.nil)
  · go_simp
    refine hK.out _ _ trivial (fun _ => ?_)
    clear hK K
    refine wpAnyH_ready (rs := [2, 4]) (by kernel_rfl) (by simp) ?_
    refine AllReadyH.cons rfl (fun K hK => ?_) (AllReadyH.cons rfl (fun K hK => ?_) AllReadyH.nil)
    · go_simp
      refine HC1.out.mono ?_
      rintro e w5 ⟨A1, n1, c1, rfl, hr5, hnc1, hnew1, hb5⟩
      have HW5 := Lib.hid (HW4.out.below hb5 hs4)
      have HR5 := Lib.hid (HR4.out.below hb5 (by omega))
      have HV5 := Lib.hid (HV4.out.below hb5 (by omega))
      have hs5 : w4.heap.size ≤ w5.heap.size := hb5.size
      have HB5 := Lib.hid (HB4.out.trans (hb5.mono (by omega)))
      have HK5 := Lib.hid hr5
      have HNEW1 : Hid (Fresh (w.heap.size + 2) w5 A1) := Lib.hid (hnew1.less (by omega))
      have m1 : w5.cell? ⟨w.heap.size + 1, 1, none⟩ = some (.slice A' n' c') := HW5.out.at_ rfl
      refine hK.out _ _ trivial (fun _ => ?_)
      clear hK K HC1 hr5 hnew1 hb5 HW4 HR4 HV4 HB4 HK4 k0 k1
      refine wpAnyH_ready (rs := [4]) (by kernel_rfl) (by simp) ?_
      refine AllReadyH.cons rfl (fun K hK => ?_) AllReadyH.nil
      go_simp
      refine hK.out _ _ trivial (fun _ => ?_)
      clear hK K
      refine wpAnyH_take (i := 6) (oi := { dst := some 14, op := Op.fieldAddr 47 (Operand.tmp 3) 0, type := 0, pos := "node.go:147", after := #[{ on := 0, ground := Ground.phase }, { on := 1, ground := Ground.phase }, { on := 2, ground := Ground.phase }, { on := 3, ground := Ground.phase }, { on := 4, ground := Ground.phase }, { on := 5, ground := Ground.textOnly Departure.lateStoresUnsure }], guard := none }) (v := ?_) rfl (by kernel_rfl) (by kernel_rfl) (by kernel_rfl) (fun _ _ _ h => h) (Or.inl ⟨by rfl, ?_⟩) (by assumption) ?_
      rotate_left
      · first | (intro w hSw; (try dsimp only at hSw); go_simp; done) | (intro w hSw; (try dsimp only at hSw); go_simp; with_reducible rfl)
      simp only [Act.put, List.setIfInBounds_toArray, List.set_cons_zero, List.set_cons_succ]
      clear m1
      have HC2 := Lib.hid (clone_new A' n' c' t.val w5 (HV5.out.more (by omega)) (by omega))
      refine wpAnyH_ready (rs := [5]) (by kernel_rfl) (by simp) ?_
      refine AllReadyH.cons rfl (fun K hK => ?_) AllReadyH.nil
      go_simp
      refine HC2.out.mono ?_
      rintro e w6 ⟨A2, n2, c2, rfl, hr6, hnc2, hnew2, hb6⟩
      have hs6 : w5.heap.size ≤ w6.heap.size := hb6.size
      have hw6 := HW5.out.below hb6 (by omega)
      have HR6 := Lib.hid (HR5.out.below hb6 (by omega))
      have HB6 := Lib.hid (HB5.out.trans (hb6.mono (by omega)))
      have HK6 := Lib.hid ((HK5.out.below hb6 (Nat.le_refl _)).more hs6)
      have HV6 := Lib.hid hr6
      have HNEW2 : Hid (Fresh (w.heap.size + 2) w6 A2) := Lib.hid (hnew2.less (by omega))
      have HNEW1 := Lib.hid (HNEW1.out.below hb6 (Nat.le_refl _))
      have HW6 := Lib.hid hw6
      refine hK.out _ _ trivial (fun _ => ?_)
      clear hK K HC2 hr6 hnew2 hb6 HW5 HR5 HV5 HB5 HK5 hw6
      have f0 := HW6.out.free 0
      have k0 : w6.cell? ⟨w.heap.size + 1, 0, none⟩ = some (.slice A n c) := HW6.out.at_ rfl
      refine wpAnyH_ready (rs := [7]) (by kernel_rfl) (by simp) ?_
      refine AllReadyH.cons rfl (fun K hK => ?_) AllReadyH.nil
      go_simp
      have hw7 := HW6.out.set 0 (.slice A1 n1 c1)
      rw [acells_set0] at hw7
      have hq7 : ∀ b, b ≠ w.heap.size + 1 → (w6.setCell ⟨w.heap.size + 1, 0, none⟩ (.slice A1 n1 c1)).heap[b]? = w6.heap[b]? := fun b hb => Below.heap_setCell w6 ⟨w.heap.size + 1, 0, none⟩ _ b hb
      have hb7 : Below w.heap.size w (w6.setCell ⟨w.heap.size + 1, 0, none⟩ (.slice A1 n1 c1)) := HB6.out.setCell (Nat.le_succ _) _
      have hz7 : (w6.setCell ⟨w.heap.size + 1, 0, none⟩ (.slice A1 n1 c1)).heap.size = w6.heap.size := by simp
      refine hK.out _ _ trivial (fun _ => ?_)
      clear hK K
      generalize w6.setCell ⟨w.heap.size + 1, 0, none⟩ (.slice A1 n1 c1) = w7 at *
      have HR7 := Lib.hid ((hq7 w.heap.size (by omega)).trans HR6.out)
      have HK7 := Lib.hid (HK6.out.keepG (G := fun b => w.heap.size + 1 < b) (fun _ b o e => (HNEW1.out b o e).1) (fun b _ hg => hq7 b (by omega)))
      have HV7 := Lib.hid (HV6.out.keepG (G := fun b => w.heap.size + 1 < b) (fun _ b o e => (HNEW2.out b o e).1) (fun b _ hg => hq7 b (by omega)))
      have HNEW1 := Lib.hid (HNEW1.out.keep (fun b h _ => hq7 b (by omega)) (Nat.le_of_eq hz7.symm))
      have HNEW2 := Lib.hid (HNEW2.out.keep (fun b h _ => hq7 b (by omega)) (Nat.le_of_eq hz7.symm))
      have HW7 := Lib.hid hw7
      have HB7 := Lib.hid hb7
      clear f0 k0 hq7 hw7 hb7 HW6 HR6 HB6 HK6 HV6
      refine wpAnyH_take (i := 8) (oi := { dst := some 15, op := Op.fieldAddr 47 (Operand.tmp 3) 1, type := 0, pos := "node.go:147", after := #[{ on := 0, ground := Ground.phase }, { on := 1, ground := Ground.phase }, { on := 2, ground := Ground.phase }, { on := 3, ground := Ground.phase }, { on := 4, ground := Ground.phase }, { on := 5, ground := Ground.phase }, { on := 6, ground := Ground.phase }, { on := 7, ground := Ground.phase }], guard := none }) (v := ?_) rfl (by kernel_rfl) (by kernel_rfl) (by kernel_rfl) (fun _ _ _ h => h) (Or.inl ⟨by rfl, ?_⟩) (by assumption) ?_
      rotate_left
      · first | (intro w hSw; (try dsimp only at hSw); go_simp; done) | (intro w hSw; (try dsimp only at hSw); go_simp; with_reducible rfl)
      simp only [Act.put, List.setIfInBounds_toArray, List.set_cons_zero, List.set_cons_succ]
      have f1 := HW7.out.free 1
      have k1 : w7.cell? ⟨w.heap.size + 1, 1, none⟩ = some (.slice A' n' c') := HW7.out.at_ rfl
      refine wpAnyH_ready (rs := [9]) (by kernel_rfl) (by simp) ?_
      refine AllReadyH.cons rfl (fun K hK => ?_) AllReadyH.nil
      go_simp
      have hw8 := HW7.out.set 1 (.slice A2 n2 c2)
      rw [acells_set1] at hw8
      have hq8 : ∀ b, b ≠ w.heap.size + 1 → (w7.setCell ⟨w.heap.size + 1, 1, none⟩ (.slice A2 n2 c2)).heap[b]? = w7.heap[b]? := fun b hb => Below.heap_setCell w7 ⟨w.heap.size + 1, 1, none⟩ _ b hb
      have hb8 : Below w.heap.size w (w7.setCell ⟨w.heap.size + 1, 1, none⟩ (.slice A2 n2 c2)) := HB7.out.setCell (Nat.le_succ _) _
      have hz8 : (w7.setCell ⟨w.heap.size + 1, 1, none⟩ (.slice A2 n2 c2)).heap.size = w7.heap.size := by simp
      refine hK.out _ _ trivial (fun _ => ?_)
      clear hK K
      generalize w7.setCell ⟨w.heap.size + 1, 1, none⟩ (.slice A2 n2 c2) = w8 at *
      have HR8 : Hid (Whole w8 w.heap.size 47 z64) := Lib.hid ((hq8 w.heap.size (by omega)).trans HR7.out)
      have HK8 := Lib.hid (HK7.out.keepG (G := fun b => w.heap.size + 1 < b) (fun _ b o e => (HNEW1.out b o e).1) (fun b _ hg => hq8 b (by omega)))
      have HV8 := Lib.hid (HV7.out.keepG (G := fun b => w.heap.size + 1 < b) (fun _ b o e => (HNEW2.out b o e).1) (fun b _ hg => hq8 b (by omega)))
      have HNEW1 := Lib.hid (HNEW1.out.keep (fun b h _ => hq8 b (by omega)) (Nat.le_of_eq hz8.symm))
      have HNEW2 := Lib.hid (HNEW2.out.keep (fun b h _ => hq8 b (by omega)) (Nat.le_of_eq hz8.symm))
      have HW8 := Lib.hid hw8
      have HB8 := Lib.hid hb8
      clear f1 k1 hq8 hw8 hb8 HW7 HR7 HB7 HK7 HV7
      refine wpAnyH_done (by kernel_rfl) ?_ _
      go_upto_region 3 with (fail)
      have hl2 : (acells (.slice A1 n1 c1) (.slice A2 n2 c2) t.h t.n t.lsum t.rsum).length = 68 := acells_len _ _ _ _ _ _ (lsum32 t) (rsum32 t)
      have hz2 : (acells (.slice A1 n1 c1) (.slice A2 n2 c2) t.h t.n t.lsum t.rsum).toArray.size = 68 := by rw [List.size_toArray, hl2]
      refine wp_region_lit ?_
      refine wpList_load_mid rfl 47 (.tmp 3) rfl (w.heap.size + 1) 0 rfl _ _ HW8.out.range Tryd.underlying47 rfl (by rw [hl2]; exact info64) ?_
      refine wpList_store_mid rfl 47 (.tmp 2) (.tmp 16) rfl w.heap.size 0 (acells (.slice A1 n1 c1) (.slice A2 n2 c2) t.h t.n t.lsum t.rsum).toArray rfl rfl ?_ ?_ (acells_one ..) ?_
      · rw [hz2]; exact HR8.out.there_
      · rw [hz2]; exact info64
      have hw9 := HR8.out.setAll (vs := (acells (.slice A1 n1 c1) (.slice A2 n2 c2) t.h t.n t.lsum t.rsum).toArray) (by rw [hz2]; rfl)
      have hb9 := below_setCells w w.heap.size (acells (.slice A1 n1 c1) (.slice A2 n2 c2) t.h t.n t.lsum t.rsum).toArray.toList 0 HB8.out (Nat.le_refl _)
      have hsz9 := size_setCells w.heap.size (acells (.slice A1 n1 c1) (.slice A2 n2 c2) t.h t.n t.lsum t.rsum).toArray.toList 0 w8
      have hbq : ∀ b, b ≠ w.heap.size → (w8.setCells w.heap.size 0 (acells (.slice A1 n1 c1) (.slice A2 n2 c2) t.h t.n t.lsum t.rsum).toArray.toList).heap[b]? = w8.heap[b]? := fun b hb => heap_setCells_other w.heap.size b hb _ 0 w8
      show wpList _ _ _ _ _ (w8.setCells w.heap.size 0 (acells (.slice A1 n1 c1) (.slice A2 n2 c2) t.h t.n t.lsum t.rsum).toArray.toList)
      generalize w8.setCells w.heap.size 0 (acells (.slice A1 n1 c1) (.slice A2 n2 c2) t.h t.n t.lsum t.rsum).toArray.toList = w9 at *
      have HK9 := Lib.hid (HK8.out.keepG (G := fun b => w.heap.size + 1 < b) (fun _ b o e => (HNEW1.out b o e).1) (fun b _ hg => hbq b (by omega)))
      have HV9 := Lib.hid (HV8.out.keepG (G := fun b => w.heap.size + 1 < b) (fun _ b o e => (HNEW2.out b o e).1) (fun b _ hg => hbq b (by omega)))
      have HNEW1 := Lib.hid (HNEW1.out.keep (fun b h _ => hbq b (by omega)) (Nat.le_of_eq hsz9.symm))
      have HNEW2 := Lib.hid (HNEW2.out.keep (fun b h _ => hbq b (by omega)) (Nat.le_of_eq hsz9.symm))
      have HW9 := Lib.hid hw9
      have HB9 := Lib.hid hb9
      clear hw9 hb9 hbq HW8 HB8 HK8 HV8 HR8
      go_wp2_with fail
      have hk1 := HK9.out.len
      have hk2 := HV9.out.len
      have hk3 := HLEN.out.1
      have hk4 := HLEN.out.2
      refine bodyPost_ret (results_cell1 Tryd.results46 _ _ _ ⟨w.heap.size, 0, none⟩ _ rfl (load_whole HW9.out 47 _ Tryd.underlying47 rfl (by rw [hz2]; exact info64))) rfl ⟨_, A1, n1, c1, A2, n2, c2, rfl, ⟨rfl, HK9.out.more (by omega), hnc1, by omega, HV9.out.more (by omega), hnc2, by omega, HNEW1.out.less (by omega), HNEW2.out.less (by omega)⟩, HB9.out⟩
    · go_simp
      refine hK.out _ _ trivial (fun _ => ?_)
      clear hK K
      refine wpAnyH_ready (rs := [2]) (by kernel_rfl) (by simp) ?_
      refine AllReadyH.cons rfl (fun K hK => ?_) AllReadyH.nil
      go_simp
      refine HC1.out.mono ?_
      rintro e w5 ⟨A1, n1, c1, rfl, hr5, hnc1, hnew1, hb5⟩
      have HW5 := Lib.hid (HW4.out.below hb5 hs4)
      have HR5 := Lib.hid (HR4.out.below hb5 (by omega))
      have HV5 := Lib.hid (HV4.out.below hb5 (by omega))
      have hs5 : w4.heap.size ≤ w5.heap.size := hb5.size
      have HB5 := Lib.hid (HB4.out.trans (hb5.mono (by omega)))
      have HK5 := Lib.hid hr5
      have HNEW1 : Hid (Fresh (w.heap.size + 2) w5 A1) := Lib.hid (hnew1.less (by omega))
      have m1 : w5.cell? ⟨w.heap.size + 1, 1, none⟩ = some (.slice A' n' c') := HW5.out.at_ rfl
      refine hK.out _ _ trivial (fun _ => ?_)
      clear hK K HC1 hr5 hnew1 hb5 HW4 HR4 HV4 HB4 HK4 k0 k1
      refine wpAnyH_take (i := 6) (oi := { dst := some 14, op := Op.fieldAddr 47 (Operand.tmp 3) 0, type := 0, pos := "node.go:147", after := #[{ on := 0, ground := Ground.phase }, { on := 1, ground := Ground.phase }, { on := 2, ground := Ground.phase }, { on := 3, ground := Ground.phase }, { on := 4, ground := Ground.phase }, { on := 5, ground := Ground.textOnly Departure.lateStoresUnsure }], guard := none }) (v := ?_) rfl (by kernel_rfl) (by kernel_rfl) (by kernel_rfl) (fun _ _ _ h => h) (Or.inl ⟨by rfl, ?_⟩) (by assumption) ?_
      rotate_left
      · first | (intro w hSw; (try dsimp only at hSw); go_simp; done) | (intro w hSw; (try dsimp only at hSw); go_simp; with_reducible rfl)
      simp only [Act.put, List.setIfInBounds_toArray, List.set_cons_zero, List.set_cons_succ]
      clear m1
      have HC2 := Lib.hid (clone_new A' n' c' t.val w5 (HV5.out.more (by omega)) (by omega))
      refine wpAnyH_ready (rs := [5]) (by kernel_rfl) (by simp) ?_
      refine AllReadyH.cons rfl (fun K hK => ?_) AllReadyH.nil
      go_simp
      refine HC2.out.mono ?_
      rintro e w6 ⟨A2, n2, c2, rfl, hr6, hnc2, hnew2, hb6⟩
      have hs6 : w5.heap.size ≤ w6.heap.size := hb6.size
      have hw6 := HW5.out.below hb6 (by omega)
      have HR6 := Lib.hid (HR5.out.below hb6 (by omega))
      have HB6 := Lib.hid (HB5.out.trans (hb6.mono (by omega)))
      have HK6 := Lib.hid ((HK5.out.below hb6 (Nat.le_refl _)).more hs6)
      have HV6 := Lib.hid hr6
      have HNEW2 : Hid (Fresh (w.heap.size + 2) w6 A2) := Lib.hid (hnew2.less (by omega))
      have HNEW1 := Lib.hid (HNEW1.out.below hb6 (Nat.le_refl _))
      have HW6 := Lib.hid hw6
      refine hK.out _ _ trivial (fun _ => ?_)
      clear hK K HC2 hr6 hnew2 hb6 HW5 HR5 HV5 HB5 HK5 hw6
      have f0 := HW6.out.free 0
      have k0 : w6.cell? ⟨w.heap.size + 1, 0, none⟩ = some (.slice A n c) := HW6.out.at_ rfl
      refine wpAnyH_ready (rs := [7]) (by kernel_rfl) (by simp) ?_
      refine AllReadyH.cons rfl (fun K hK => ?_) AllReadyH.nil
      go_simp
      have hw7 := HW6.out.set 0 (.slice A1 n1 c1)
      rw [acells_set0] at hw7
      have hq7 : ∀ b, b ≠ w.heap.size + 1 → (w6.setCell ⟨w.heap.size + 1, 0, none⟩ (.slice A1 n1 c1)).heap[b]? = w6.heap[b]? := fun b hb => Below.heap_setCell w6 ⟨w.heap.size + 1, 0, none⟩ _ b hb
      have hb7 : Below w.heap.size w (w6.setCell ⟨w.heap.size + 1, 0, none⟩ (.slice A1 n1 c1)) := HB6.out.setCell (Nat.le_succ _) _
      have hz7 : (w6.setCell ⟨w.heap.size + 1, 0, none⟩ (.slice A1 n1 c1)).heap.size = w6.heap.size := by simp
      refine hK.out _ _ trivial (fun _ => ?_)
      clear hK K
      generalize w6.setCell ⟨w.heap.size + 1, 0, none⟩ (.slice A1 n1 c1) = w7 at *
      have HR7 := Lib.hid ((hq7 w.heap.size (by omega)).trans HR6.out)
      have HK7 := Lib.hid (HK6.out.keepG (G := fun b => w.heap.size + 1 < b) (fun _ b o e => (HNEW1.out b o e).1) (fun b _ hg => hq7 b (by omega)))
      have HV7 := Lib.hid (HV6.out.keepG (G := fun b => w.heap.size + 1 < b) (fun _ b o e => (HNEW2.out b o e).1) (fun b _ hg => hq7 b (by omega)))
      have HNEW1 := Lib.hid (HNEW1.out.keep (fun b h _ => hq7 b (by omega)) (Nat.le_of_eq hz7.symm))
      have HNEW2 := Lib.hid (HNEW2.out.keep (fun b h _ => hq7 b (by omega)) (Nat.le_of_eq hz7.symm))
      have HW7 := Lib.hid hw7
      have HB7 := Lib.hid hb7
      clear f0 k0 hq7 hw7 hb7 HW6 HR6 HB6 HK6 HV6
      refine wpAnyH_take (i := 8) (oi := { dst := some 15, op := Op.fieldAddr 47 (Operand.tmp 3) 1, type := 0, pos := "node.go:147", after := #[{ on := 0, ground := Ground.phase }, { on := 1, ground := Ground.phase }, { on := 2, ground := Ground.phase }, { on := 3, ground := Ground.phase }, { on := 4, ground := Ground.phase }, { on := 5, ground := Ground.phase }, { on := 6, ground := Ground.phase }, { on := 7, ground := Ground.phase }], guard := none }) (v := ?_) rfl (by kernel_rfl) (by kernel_rfl) (by kernel_rfl) (fun _ _ _ h => h) (Or.inl ⟨by rfl, ?_⟩) (by assumption) ?_
      rotate_left
      · first | (intro w hSw; (try dsimp only at hSw); go_simp; done) | (intro w hSw; (try dsimp only at hSw); go_simp; with_reducible rfl)
      simp only [Act.put, List.setIfInBounds_toArray, List.set_cons_zero, List.set_cons_succ]
      have f1 := HW7.out.free 1
      have k1 : w7.cell? ⟨w.heap.size + 1, 1, none⟩ = some (.slice A' n' c') := HW7.out.at_ rfl
      refine wpAnyH_ready (rs := [9]) (by kernel_rfl) (by simp) ?_
      refine AllReadyH.cons rfl (fun K hK => ?_) AllReadyH.nil
      go_simp
      have hw8 := HW7.out.set 1 (.slice A2 n2 c2)
      rw [acells_set1] at hw8
      have hq8 : ∀ b, b ≠ w.heap.size + 1 → (w7.setCell ⟨w.heap.size + 1, 1, none⟩ (.slice A2 n2 c2)).heap[b]? = w7.heap[b]? := fun b hb => Below.heap_setCell w7 ⟨w.heap.size + 1, 1, none⟩ _ b hb
      have hb8 : Below w.heap.size w (w7.setCell ⟨w.heap.size + 1, 1, none⟩ (.slice A2 n2 c2)) := HB7.out.setCell (Nat.le_succ _) _
      have hz8 : (w7.setCell ⟨w.heap.size + 1, 1, none⟩ (.slice A2 n2 c2)).heap.size = w7.heap.size := by simp
      refine hK.out _ _ trivial (fun _ => ?_)
      clear hK K
      generalize w7.setCell ⟨w.heap.size + 1, 1, none⟩ (.slice A2 n2 c2) = w8 at *
      have HR8 : Hid (Whole w8 w.heap.size 47 z64) := Lib.hid ((hq8 w.heap.size (by omega)).trans HR7.out)
      have HK8 := Lib.hid (HK7.out.keepG (G := fun b => w.heap.size + 1 < b) (fun _ b o e => (HNEW1.out b o e).1) (fun b _ hg => hq8 b (by omega)))
      have HV8 := Lib.hid (HV7.out.keepG (G := fun b => w.heap.size + 1 < b) (fun _ b o e => (HNEW2.out b o e).1) (fun b _ hg => hq8 b (by omega)))
      have HNEW1 := Lib.hid (HNEW1.out.keep (fun b h _ => hq8 b (by omega)) (Nat.le_of_eq hz8.symm))
      have HNEW2 := Lib.hid (HNEW2.out.keep (fun b h _ => hq8 b (by omega)) (Nat.le_of_eq hz8.symm))
      have HW8 := Lib.hid hw8
      have HB8 := Lib.hid hb8
      clear f1 k1 hq8 hw8 hb8 HW7 HR7 HB7 HK7 HV7
      refine wpAnyH_done (by kernel_rfl) ?_ _
      go_upto_region 3 with (fail)
      have hl2 : (acells (.slice A1 n1 c1) (.slice A2 n2 c2) t.h t.n t.lsum t.rsum).length = 68 := acells_len _ _ _ _ _ _ (lsum32 t) (rsum32 t)
      have hz2 : (acells (.slice A1 n1 c1) (.slice A2 n2 c2) t.h t.n t.lsum t.rsum).toArray.size = 68 := by rw [List.size_toArray, hl2]
      refine wp_region_lit ?_
      refine wpList_load_mid rfl 47 (.tmp 3) rfl (w.heap.size + 1) 0 rfl _ _ HW8.out.range Tryd.underlying47 rfl (by rw [hl2]; exact info64) ?_
      refine wpList_store_mid rfl 47 (.tmp 2) (.tmp 16) rfl w.heap.size 0 (acells (.slice A1 n1 c1) (.slice A2 n2 c2) t.h t.n t.lsum t.rsum).toArray rfl rfl ?_ ?_ (acells_one ..) ?_
      · rw [hz2]; exact HR8.out.there_
      · rw [hz2]; exact info64
      have hw9 := HR8.out.setAll (vs := (acells (.slice A1 n1 c1) (.slice A2 n2 c2) t.h t.n t.lsum t.rsum).toArray) (by rw [hz2]; rfl)
      have hb9 := below_setCells w w.heap.size (acells (.slice A1 n1 c1) (.slice A2 n2 c2) t.h t.n t.lsum t.rsum).toArray.toList 0 HB8.out (Nat.le_refl _)
      have hsz9 := size_setCells w.heap.size (acells (.slice A1 n1 c1) (.slice A2 n2 c2) t.h t.n t.lsum t.rsum).toArray.toList 0 w8
      have hbq : ∀ b, b ≠ w.heap.size → (w8.setCells w.heap.size 0 (acells (.slice A1 n1 c1) (.slice A2 n2 c2) t.h t.n t.lsum t.rsum).toArray.toList).heap[b]? = w8.heap[b]? := fun b hb => heap_setCells_other w.heap.size b hb _ 0 w8
      show wpList _ _ _ _ _ (w8.setCells w.heap.size 0 (acells (.slice A1 n1 c1) (.slice A2 n2 c2) t.h t.n t.lsum t.rsum).toArray.toList)
      generalize w8.setCells w.heap.size 0 (acells (.slice A1 n1 c1) (.slice A2 n2 c2) t.h t.n t.lsum t.rsum).toArray.toList = w9 at *
      have HK9 := Lib.hid (HK8.out.keepG (G := fun b => w.heap.size + 1 < b) (fun _ b o e => (HNEW1.out b o e).1) (fun b _ hg => hbq b (by omega)))
      have HV9 := Lib.hid (HV8.out.keepG (G := fun b => w.heap.size + 1 < b) (fun _ b o e => (HNEW2.out b o e).1) (fun b _ hg => hbq b (by omega)))
      have HNEW1 := Lib.hid (HNEW1.out.keep (fun b h _ => hbq b (by omega)) (Nat.le_of_eq hsz9.symm))
      have HNEW2 := Lib.hid (HNEW2.out.keep (fun b h _ => hbq b (by omega)) (Nat.le_of_eq hsz9.symm))
      have HW9 := Lib.hid hw9
      have HB9 := Lib.hid hb9
      clear hw9 hb9 hbq HW8 HB8 HK8 HV8 HR8
      go_wp2_with fail
      have hk1 := HK9.out.len
      have hk2 := HV9.out.len
      have hk3 := HLEN.out.1
      have hk4 := HLEN.out.2
      refine bodyPost_ret (results_cell1 Tryd.results46 _ _ _ ⟨w.heap.size, 0, none⟩ _ rfl (load_whole HW9.out 47 _ Tryd.underlying47 rfl (by rw [hz2]; exact info64))) rfl ⟨_, A1, n1, c1, A2, n2, c2, rfl, ⟨rfl, HK9.out.more (by omega), hnc1, by omega, HV9.out.more (by omega), hnc2, by omega, HNEW1.out.less (by omega), HNEW2.out.less (by omega)⟩, HB9.out⟩
  · go_simp
    refine hK.out _ _ trivial (fun _ => ?_)
    clear hK K
    refine wpAnyH_ready (rs := [1]) (by kernel_rfl) (by simp) ?_
    refine AllReadyH.cons rfl (fun K hK => ?_) AllReadyH.nil
    go_simp
    refine hK.out _ _ trivial (fun _ => ?_)
    clear hK K
    refine wpAnyH_ready (rs := [2]) (by kernel_rfl) (by simp) ?_
    refine AllReadyH.cons rfl (fun K hK => ?_) AllReadyH.nil
    go_simp
    refine HC1.out.mono ?_
    rintro e w5 ⟨A1, n1, c1, rfl, hr5, hnc1, hnew1, hb5⟩
    have HW5 := Lib.hid (HW4.out.below hb5 hs4)
    have HR5 := Lib.hid (HR4.out.below hb5 (by omega))
    have HV5 := Lib.hid (HV4.out.below hb5 (by omega))
    have hs5 : w4.heap.size ≤ w5.heap.size := hb5.size
    have HB5 := Lib.hid (HB4.out.trans (hb5.mono (by omega)))
    have HK5 := Lib.hid hr5
    have HNEW1 : Hid (Fresh (w.heap.size + 2) w5 A1) := Lib.hid (hnew1.less (by omega))
    have m1 : w5.cell? ⟨w.heap.size + 1, 1, none⟩ = some (.slice A' n' c') := HW5.out.at_ rfl
    refine hK.out _ _ trivial (fun _ => ?_)
    clear hK K HC1 hr5 hnew1 hb5 HW4 HR4 HV4 HB4 HK4 k0 k1
    refine wpAnyH_take (i := 6) (oi := { dst := some 14, op := Op.fieldAddr 47 (Operand.tmp 3) 0, type := 0, pos := "node.go:147", after := #[{ on := 0, ground := Ground.phase }, { on := 1, ground := Ground.phase }, { on := 2, ground := Ground.phase }, { on := 3, ground := Ground.phase }, { on := 4, ground := Ground.phase }, { on := 5, ground := Ground.textOnly Departure.lateStoresUnsure }], guard := none }) (v := ?_) rfl (by kernel_rfl) (by kernel_rfl) (by kernel_rfl) (fun _ _ _ h => h) (Or.inl ⟨by rfl, ?_⟩) (by assumption) ?_
    rotate_left
    · first | (intro w hSw; (try dsimp only at hSw); go_simp; done) | (intro w hSw; (try dsimp only at hSw); go_simp; with_reducible rfl)
    simp only [Act.put, List.setIfInBounds_toArray, List.set_cons_zero, List.set_cons_succ]
    clear m1
    have HC2 := Lib.hid (clone_new A' n' c' t.val w5 (HV5.out.more (by omega)) (by omega))
    refine wpAnyH_ready (rs := [5]) (by kernel_rfl) (by simp) ?_
    refine AllReadyH.cons rfl (fun K hK => ?_) AllReadyH.nil
    go_simp
    refine HC2.out.mono ?_
    rintro e w6 ⟨A2, n2, c2, rfl, hr6, hnc2, hnew2, hb6⟩
    have hs6 : w5.heap.size ≤ w6.heap.size := hb6.size
    have hw6 := HW5.out.below hb6 (by omega)
    have HR6 := Lib.hid (HR5.out.below hb6 (by omega))
    have HB6 := Lib.hid (HB5.out.trans (hb6.mono (by omega)))
    have HK6 := Lib.hid ((HK5.out.below hb6 (Nat.le_refl _)).more hs6)
    have HV6 := Lib.hid hr6
    have HNEW2 : Hid (Fresh (w.heap.size + 2) w6 A2) := Lib.hid (hnew2.less (by omega))
    have HNEW1 := Lib.hid (HNEW1.out.below hb6 (Nat.le_refl _))
    have HW6 := Lib.hid hw6
    refine hK.out _ _ trivial (fun _ => ?_)
    clear hK K HC2 hr6 hnew2 hb6 HW5 HR5 HV5 HB5 HK5 hw6
    have f0 := HW6.out.free 0
    have k0 : w6.cell? ⟨w.heap.size + 1, 0, none⟩ = some (.slice A n c) := HW6.out.at_ rfl
    refine wpAnyH_ready (rs := [7]) (by kernel_rfl) (by simp) ?_
    refine AllReadyH.cons rfl (fun K hK => ?_) AllReadyH.nil
    go_simp
    have hw7 := HW6.out.set 0 (.slice A1 n1 c1)
    rw [acells_set0] at hw7
    have hq7 : ∀ b, b ≠ w.heap.size + 1 → (w6.setCell ⟨w.heap.size + 1, 0, none⟩ (.slice A1 n1 c1)).heap[b]? = w6.heap[b]? := fun b hb => Below.heap_setCell w6 ⟨w.heap.size + 1, 0, none⟩ _ b hb
    have hb7 : Below w.heap.size w (w6.setCell ⟨w.heap.size + 1, 0, none⟩ (.slice A1 n1 c1)) := HB6.out.setCell (Nat.le_succ _) _
    have hz7 : (w6.setCell ⟨w.heap.size + 1, 0, none⟩ (.slice A1 n1 c1)).heap.size = w6.heap.size := by simp
    refine hK.out _ _ trivial (fun _ => ?_)
    clear hK K
    generalize w6.setCell ⟨w.heap.size + 1, 0, none⟩ (.slice A1 n1 c1) = w7 at *
    have HR7 := Lib.hid ((hq7 w.heap.size (by omega)).trans HR6.out)
    have HK7 := Lib.hid (HK6.out.keepG (G := fun b => w.heap.size + 1 < b) (fun _ b o e => (HNEW1.out b o e).1) (fun b _ hg => hq7 b (by omega)))
    have HV7 := Lib.hid (HV6.out.keepG (G := fun b => w.heap.size + 1 < b) (fun _ b o e => (HNEW2.out b o e).1) (fun b _ hg => hq7 b (by omega)))
    have HNEW1 := Lib.hid (HNEW1.out.keep (fun b h _ => hq7 b (by omega)) (Nat.le_of_eq hz7.symm))
    have HNEW2 := Lib.hid (HNEW2.out.keep (fun b h _ => hq7 b (by omega)) (Nat.le_of_eq hz7.symm))
    have HW7 := Lib.hid hw7
    have HB7 := Lib.hid hb7
    clear f0 k0 hq7 hw7 hb7 HW6 HR6 HB6 HK6 HV6
    refine wpAnyH_take (i := 8) (oi := { dst := some 15, op := Op.fieldAddr 47 (Operand.tmp 3) 1, type := 0, pos := "node.go:147", after := #[{ on := 0, ground := Ground.phase }, { on := 1, ground := Ground.phase }, { on := 2, ground := Ground.phase }, { on := 3, ground := Ground.phase }, { on := 4, ground := Ground.phase }, { on := 5, ground := Ground.phase }, { on := 6, ground := Ground.phase }, { on := 7, ground := Ground.phase }], guard := none }) (v := ?_) rfl (by kernel_rfl) (by kernel_rfl) (by kernel_rfl) (fun _ _ _ h => h) (Or.inl ⟨by rfl, ?_⟩) (by assumption) ?_
    rotate_left
    · first | (intro w hSw; (try dsimp only at hSw); go_simp; done) | (intro w hSw; (try dsimp only at hSw); go_simp; with_reducible rfl)
    simp only [Act.put, List.setIfInBounds_toArray, List.set_cons_zero, List.set_cons_succ]
    have f1 := HW7.out.free 1
    have k1 : w7.cell? ⟨w.heap.size + 1, 1, none⟩ = some (.slice A' n' c') := HW7.out.at_ rfl
    refine wpAnyH_ready (rs := [9]) (by kernel_rfl) (by simp) ?_
    refine AllReadyH.cons rfl (fun K hK => ?_) AllReadyH.nil
    go_simp
    have hw8 := HW7.out.set 1 (.slice A2 n2 c2)
    rw [acells_set1] at hw8
    have hq8 : ∀ b, b ≠ w.heap.size + 1 → (w7.setCell ⟨w.heap.size + 1, 1, none⟩ (.slice A2 n2 c2)).heap[b]? = w7.heap[b]? := fun b hb => Below.heap_setCell w7 ⟨w.heap.size + 1, 1, none⟩ _ b hb
    have hb8 : Below w.heap.size w (w7.setCell ⟨w.heap.size + 1, 1, none⟩ (.slice A2 n2 c2)) := HB7.out.setCell (Nat.le_succ _) _
    have hz8 : (w7.setCell ⟨w.heap.size + 1, 1, none⟩ (.slice A2 n2 c2)).heap.size = w7.heap.size := by simp
    refine hK.out _ _ trivial (fun _ => ?_)
    clear hK K
    generalize w7.setCell ⟨w.heap.size + 1, 1, none⟩ (.slice A2 n2 c2) = w8 at *
    have HR8 : Hid (Whole w8 w.heap.size 47 z64) := Lib.hid ((hq8 w.heap.size (by omega)).trans HR7.out)
    have HK8 := Lib.hid (HK7.out.keepG (G := fun b => w.heap.size + 1 < b) (fun _ b o e => (HNEW1.out b o e).1) (fun b _ hg => hq8 b (by omega)))
    have HV8 := Lib.hid (HV7.out.keepG (G := fun b => w.heap.size + 1 < b) (fun _ b o e => (HNEW2.out b o e).1) (fun b _ hg => hq8 b (by omega)))
    have HNEW1 := Lib.hid (HNEW1.out.keep (fun b h _ => hq8 b (by omega)) (Nat.le_of_eq hz8.symm))
    have HNEW2 := Lib.hid (HNEW2.out.keep (fun b h _ => hq8 b (by omega)) (Nat.le_of_eq hz8.symm))
    have HW8 := Lib.hid hw8
    have HB8 := Lib.hid hb8
    clear f1 k1 hq8 hw8 hb8 HW7 HR7 HB7 HK7 HV7
    refine wpAnyH_done (by kernel_rfl) ?_ _
    go_upto_region 3 with (fail)
    have hl2 : (acells (.slice A1 n1 c1) (.slice A2 n2 c2) t.h t.n t.lsum t.rsum).length = 68 := acells_len _ _ _ _ _ _ (lsum32 t) (rsum32 t)
    have hz2 : (acells (.slice A1 n1 c1) (.slice A2 n2 c2) t.h t.n t.lsum t.rsum).toArray.size = 68 := by rw [List.size_toArray, hl2]
    refine wp_region_lit ?_
    refine wpList_load_mid rfl 47 (.tmp 3) rfl (w.heap.size + 1) 0 rfl _ _ HW8.out.range Tryd.underlying47 rfl (by rw [hl2]; exact info64) ?_
    refine wpList_store_mid rfl 47 (.tmp 2) (.tmp 16) rfl w.heap.size 0 (acells (.slice A1 n1 c1) (.slice A2 n2 c2) t.h t.n t.lsum t.rsum).toArray rfl rfl ?_ ?_ (acells_one ..) ?_
    · rw [hz2]; exact HR8.out.there_
    · rw [hz2]; exact info64
    have hw9 := HR8.out.setAll (vs := (acells (.slice A1 n1 c1) (.slice A2 n2 c2) t.h t.n t.lsum t.rsum).toArray) (by rw [hz2]; rfl)
    have hb9 := below_setCells w w.heap.size (acells (.slice A1 n1 c1) (.slice A2 n2 c2) t.h t.n t.lsum t.rsum).toArray.toList 0 HB8.out (Nat.le_refl _)
    have hsz9 := size_setCells w.heap.size (acells (.slice A1 n1 c1) (.slice A2 n2 c2) t.h t.n t.lsum t.rsum).toArray.toList 0 w8
    have hbq : ∀ b, b ≠ w.heap.size → (w8.setCells w.heap.size 0 (acells (.slice A1 n1 c1) (.slice A2 n2 c2) t.h t.n t.lsum t.rsum).toArray.toList).heap[b]? = w8.heap[b]? := fun b hb => heap_setCells_other w.heap.size b hb _ 0 w8
    show wpList _ _ _ _ _ (w8.setCells w.heap.size 0 (acells (.slice A1 n1 c1) (.slice A2 n2 c2) t.h t.n t.lsum t.rsum).toArray.toList)
    generalize w8.setCells w.heap.size 0 (acells (.slice A1 n1 c1) (.slice A2 n2 c2) t.h t.n t.lsum t.rsum).toArray.toList = w9 at *
    have HK9 := Lib.hid (HK8.out.keepG (G := fun b => w.heap.size + 1 < b) (fun _ b o e => (HNEW1.out b o e).1) (fun b _ hg => hbq b (by omega)))
    have HV9 := Lib.hid (HV8.out.keepG (G := fun b => w.heap.size + 1 < b) (fun _ b o e => (HNEW2.out b o e).1) (fun b _ hg => hbq b (by omega)))
    have HNEW1 := Lib.hid (HNEW1.out.keep (fun b h _ => hbq b (by omega)) (Nat.le_of_eq hsz9.symm))
    have HNEW2 := Lib.hid (HNEW2.out.keep (fun b h _ => hbq b (by omega)) (Nat.le_of_eq hsz9.symm))
    have HW9 := Lib.hid hw9
    have HB9 := Lib.hid hb9
    clear hw9 hb9 hbq HW8 HB8 HK8 HV8 HR8
    go_wp2_with fail
    have hk1 := HK9.out.len
    have hk2 := HV9.out.len
    have hk3 := HLEN.out.1
    have hk4 := HLEN.out.2
    refine bodyPost_ret (results_cell1 Tryd.results46 _ _ _ ⟨w.heap.size, 0, none⟩ _ rfl (load_whole HW9.out 47 _ Tryd.underlying47 rfl (by rw [hz2]; exact info64))) rfl ⟨_, A1, n1, c1, A2, n2, c2, rfl, ⟨rfl, HK9.out.more (by omega), hnc1, by omega, HV9.out.more (by omega), hnc2, by omega, HNEW1.out.less (by omega), HNEW2.out.less (by omega)⟩, HB9.out⟩
end Go.Proofs.YtolkpjbbfopmnaaDoor
namespace Go.Proofs.YtolkpjbbfopmnaaDoor
open Go.RowKit
open Tr
variable {G : Nat → Prop}

def Tr.oput (o : Option T) (k v : List UInt8) : T :=
  match o with
  | none => .leaf k v
  | some t => t.put k v
def Tr.ocut (o : Option T) (k : List UInt8) : Option T :=
  match o with
  | none => none
  | some t => t.cut k
def Tr.oln : Option T → Nat
  | none => 0
  | some t => t.n
def osum : Option T → List UInt8
  | none => Sh.Sha.sum []
  | some t => t.sum
theorem osum32 (o : Option T) : (osum o).length = 32 := by
  cases o with
  | none => exact Sh.sum_length _
  | some t => exact sum32 t

theorem put_nil (A A' : Option Addr) (n c n' c' : Nat) (w : World) : Calls Tryd.prog 10 #[.pointer none, .slice A n c, .slice A' n' c'] w fun e w' => e = .returned (.tuple #[.pointer none, .int .i64 1]) ∧ w = w' := by
  go_enter Tryd.func10, Tryd.ntmps10
  go_wp2_with fail
  go_ret2
  exact ⟨rfl, rfl⟩
theorem put_key (g : Nat) (A A' : Option Addr) (n c n' c' : Nat) (w : World) (hn : n < 1 ∨ 96 < n) : Calls Tryd.prog 10 #[ptr (some g), .slice A n c, .slice A' n' c'] w fun e w' => e = .returned (.tuple #[.pointer none, .int .i64 10]) ∧ w = w' := by
  rw [ptr_some]
  rcases Nat.lt_or_ge n 1 with h1 | h1
  · obtain rfl : n = 0 := by omega
    clear hn h1
    go_enter Tryd.func10, Tryd.ntmps10
    go_wp2_with fail
    go_ret2
    exact ⟨rfl, rfl⟩
  · have h2 : 96 < n := by omega
    clear hn
    go_enter Tryd.func10, Tryd.ntmps10
    go_wp2_with fail
    go_ret2
    exact ⟨rfl, rfl⟩
theorem put_long (g : Nat) (A A' : Option Addr) (n c n' c' : Nat) (w : World) (h1 : 1 ≤ n) (h2 : n ≤ 96) (h3 : 256 < n') : Calls Tryd.prog 10 #[ptr (some g), .slice A n c, .slice A' n' c'] w fun e w' => e = .returned (.tuple #[.pointer none, .int .i64 3]) ∧ w = w' := by
  rw [ptr_some]
  go_enter Tryd.func10, Tryd.ntmps10
  go_wp2_with fail
  go_ret2
  exact ⟨rfl, rfl⟩

/-- A tree that is answered, and a number. -/
def PutPost (G : Nat → Prop) (t : T) (w : World) (e : Ending) (w' : World) : Prop := ∃ g, e = .returned (.tuple #[ptr (some g), .int .i64 0]) ∧ w.heap.size ≤ g ∧ TIn G w' w'.heap.size (some t) g ∧ Below w.heap.size w w'

set_option maxRecDepth 100000 in
set_option maxHeartbeats 1000000 in
theorem put_any (o : Option T) (g : Nat) (A A' : Option Addr) (n c n' c' : Nat) (k v : List UInt8) (w : World) (ho : TIn G w w.heap.size o g) (hk : Rd w w.heap.size A n k) (hv : Rd w w.heap.size A' n' v) (h1 : 1 ≤ n) (h2 : n ≤ 96) (h3 : n' ≤ 256)
    (hn : oln o + 1 ≤ 4294967296) (ht : Sh.Tab w 1) (hw : Room G w) : Calls Tryd.prog 10 #[ptr (some g), .slice A n c, .slice A' n' c'] w (PutPost G (oput o k v) w) := by
  have HC1 := Lib.hid (leaf_any (G := G) A n c A' n' c' k v w hk hv h2 h3 ht hw)
  obtain ⟨hg, hgg, p, hW, hP⟩ := ho
  have HW := Lib.hid hW
  have HT := Lib.hid ht
  have HG := Lib.hid hw
  have HP := Lib.hid hP
  clear hk hv hgg hW ht hw hP
  rw [ptr_some]
  go_enter Tryd.func10, Tryd.ntmps10
  go_wp2_with fail
  refine HC1.out.mono ?_
  rintro e w1 ⟨bl, rfl, hN1, hb1⟩
  have hc0 := (HW.out.below hb1 hg).at_ (i := 0) rfl
  have hs1 := hb1.size
  rw [ptr_some]
  cases o with
  | none =>
    obtain rfl := HP.out
    rw [ptr_none] at hc0
    have HN1 := Lib.hid hN1
    have HB1 := Lib.hid hb1
    clear hN1 hb1 HC1
    go_wp2_with fail
    go_ret2
    have hb2 := (Below.refl w1.heap.size w1).alloc (Nat.le_refl _) (.cells #[.pointer (some ⟨bl, 0, none⟩)] 85)
    exact ⟨w1.heap.size, rfl, hs1, ⟨by simp, HG.out.2 _ hs1, some bl, Whole.made w1 85 _, bl, rfl, HN1.out.on hb2⟩, HB1.out.alloc hs1 _⟩
  | some t =>
    obtain ⟨b, rfl, hN⟩ := HP.out
    rw [ptr_some] at hc0
    have HC2 := Lib.hid (with_any k v bl t b w1 (hN.on hb1) hN1 hn (Sh.tab_below HT.out hb1 HG.out.1) (HG.out.on hb1))
    rw [ptr_some, ptr_some] at HC2
    have HB1 := Lib.hid hb1
    clear hN hN1 hb1 HC1
    go_wp2_with fail
    refine HC2.out.mono ?_
    rintro e w2 ⟨b2, rfl, hN2, hb2⟩
    have hs2 := hb2.size
    have HN2 := Lib.hid hN2
    have HB2 := Lib.hid (HB1.out.trans (hb2.mono hs1))
    clear hN2 hb2 HC2 HB1 hc0
    rw [ptr_some]
    go_wp2_with fail
    go_ret2
    have hb3 := (Below.refl w2.heap.size w2).alloc (Nat.le_refl _) (.cells #[.pointer (some ⟨b2, 0, none⟩)] 85)
    exact ⟨w2.heap.size, rfl, by omega, ⟨by simp, HG.out.2 _ (by omega), some b2, Whole.made w2 85 _, b2, rfl, HN2.out.on hb3⟩, HB2.out.alloc (by omega) _⟩

def CutPost (G : Nat → Prop) (o : Option (Option T)) (p : Option Nat) (k : List UInt8) (w : World) (e : Ending) (w' : World) : Prop :=
  (ofind (topOf o) k = none ∧ e = .returned (.tuple #[ptr p, .bool false]) ∧ w = w') ∨
  ∃ v g, ofind (topOf o) k = some v ∧ e = .returned (.tuple #[ptr (some g), .bool true]) ∧ w.heap.size ≤ g ∧ TIn G w' w'.heap.size (ocut (topOf o) k) g ∧ Below w.heap.size w w'

set_option maxRecDepth 100000 in
set_option maxHeartbeats 1000000 in
theorem cut_any (o : Option (Option T)) (p : Option Nat) (A : Option Addr) (n c : Nat) (k : List UInt8) (w : World) (ho : GIn G w w.heap.size o p) (hk : Rd w w.heap.size A n k)
    (hn : oln (topOf o) ≤ 4294967296) (ht : Sh.Tab w 1) (hw : Room G w) : Calls Tryd.prog 11 #[ptr p, .slice A n c] w (CutPost G o p k w) := by
  have HU := Lib.hid (upmost_any o p _ w ho)
  have HO := Lib.hid ho
  have HK := Lib.hid hk
  have HT := Lib.hid ht
  have HG := Lib.hid hw
  clear ho hk ht hw
  go_enter Tryd.func11, Tryd.ntmps11
  go_wp2_with fail
  refine HU.out.mono ?_
  rintro e w1 ⟨q, rfl, hP, rfl⟩
  have HF := Lib.hid (find_any (topOf o) q _ _ A n c k w hP HK.out)
  clear hP
  go_wp2_with fail
  refine HF.out.mono ?_
  rintro e w1 ⟨q2, rfl, rfl, hr⟩
  rcases hr with ⟨hr, rfl⟩ | ⟨b, v, hr, rfl, hN⟩
  · rw [ptr_none]
    have HR := Lib.hid hr
    clear hr HU HF
    go_wp2_with fail
    go_ret2
    exact .inl ⟨HR.out, rfl, rfl⟩
  · rw [ptr_some]
    cases o with
    | none => exact absurd hr (by intro h; cases h)
    | some o =>
      cases o with
      | none => exact absurd hr (by intro h; cases h)
      | some t =>
        obtain ⟨g, rfl, hg, hgg, p1, hW, b1, rfl, hN1⟩ := HO.out
        have hc0 := hW.at_ (i := 0) rfl
        have HC2 := Lib.hid (without_any A n c k t b1 w hN1 HK.out hn HT.out HG.out)
        rw [ptr_some] at HC2 hc0 ⊢
        have HR := Lib.hid hr
        clear hr HU HF hN hgg hW hN1
        go_wp2_with fail
        refine HC2.out.mono ?_
        rintro e w2 ⟨q, rfl, hP2, hb2⟩
        have hs2 := hb2.size
        have HP2 := Lib.hid hP2
        have HB2 := Lib.hid hb2
        clear hP2 hb2 hc0 HC2
        obtain ⟨X, hX⟩ : ∃ X, ptr q = .pointer X := ⟨_, rfl⟩
        rw [hX]
        have HX := Lib.hid hX
        clear hX
        go_wp2_with fail
        go_ret2
        have hb3 := (Below.refl w2.heap.size w2).alloc (Nat.le_refl _) (.cells #[.pointer X] 85)
        exact .inr ⟨v, w2.heap.size, HR.out, rfl, hs2, ⟨by simp, HG.out.2 _ hs2, q, by rw [HX.out]; exact Whole.made w2 85 _, (HP2.out.below hb3 (Nat.le_refl _)).more hb3.size⟩, HB2.out.alloc hs2 _⟩

def GetPost (o : Option T) (k : List UInt8) (w : World) (e : Ending) (w' : World) : Prop :=
  (ofind o k = none ∧ e = .returned (.tuple #[.slice none 0 0, .bool false]) ∧ w = w') ∨
  ∃ v A n c, ofind o k = some v ∧ e = .returned (.tuple #[.slice A n c, .bool true]) ∧ Rd w' w'.heap.size A n v ∧ n ≤ c ∧ n ≤ 256 ∧ Below w.heap.size w w'

set_option maxRecDepth 100000 in
theorem get_any (o : Option (Option T)) (p : Option Nat) (A : Option Addr) (n c : Nat) (k : List UInt8) (w : World) (ho : GIn G w w.heap.size o p) (hk : Rd w w.heap.size A n k) :
    Calls Tryd.prog 31 #[ptr p, .slice A n c] w (GetPost (topOf o) k w) := by
  have HU := Lib.hid (upmost_any o p _ w ho)
  have HK := Lib.hid hk
  clear ho hk
  go_enter Tryd.func31, Tryd.ntmps31
  go_wp2_with fail
  refine HU.out.mono ?_
  rintro e w1 ⟨q, rfl, hP, rfl⟩
  have HF := Lib.hid (find_any (topOf o) q _ _ A n c k w hP HK.out)
  clear hP
  go_wp2_with fail
  refine HF.out.mono ?_
  rintro e w1 ⟨q2, rfl, rfl, hr⟩
  rcases hr with ⟨hr, rfl⟩ | ⟨b, v, hr, rfl, hN⟩
  · rw [ptr_none]
    have HR := Lib.hid hr
    clear hr HU HF
    go_wp2_with fail
    go_ret2
    exact .inl ⟨HR.out, rfl, rfl⟩
  · rw [ptr_some]
    obtain ⟨A1, n1, c1, A', n', c', hh⟩ := hN
    have hc := hh.cells.2.1
    have hle := hh.vle
    have hlen := hh.val.len
    have HC := Lib.hid (clone_any A' n' c' v w hh.val (by omega))
    have HR := Lib.hid (And.intro hr (And.intro hle hlen))
    clear hr HU HF hh hle hlen
    go_wp2_with fail
    refine HC.out.mono ?_
    rintro e w2 ⟨A2, n2, c2, rfl, hr2, hnc2, hb2⟩
    have HH := Lib.hid (And.intro hr2 hb2)
    clear hr2 hb2 hc HC
    go_wp2_with fail
    go_ret2
    have h1 := HH.out.1.len
    have h2 := HR.out.2.1
    have h3 := HR.out.2.2
    exact .inr ⟨v, A2, n2, c2, HR.out.1, rfl, HH.out.1, hnc2, by change v.length = n' at h3; omega, HH.out.2⟩

set_option maxRecDepth 100000 in
theorem len_any (o : Option (Option T)) (p : Option Nat) (w : World) (ho : GIn G w w.heap.size o p) (hn : oln (topOf o) ≤ 4294967296) :
    Calls Tryd.prog 32 #[ptr p] w fun e w' => e = .returned (.int .i64 (oln (topOf o) : Nat)) ∧ w = w' := by
  have HU := Lib.hid (upmost_any o p _ w ho)
  clear ho
  generalize topOf o = q at *
  go_enter Tryd.func32, Tryd.ntmps32
  go_wp2_with fail
  refine HU.out.mono ?_
  rintro e w1 ⟨p1, rfl, hP, rfl⟩
  cases q with
  | none =>
    obtain rfl := hP
    rw [ptr_none]
    clear HU
    go_wp2_with fail
    go_ret
    exact ⟨rfl, rfl⟩
  | some t =>
    obtain ⟨b, rfl, hN⟩ := hP
    obtain ⟨A, n, c, A', n', c', x, y, hh⟩ := hN.has
    have hc := hh.cells.2.2.2.1
    change t.n ≤ _ at hn
    have hi : IntKind.i64.wrap (t.n : Int) = (t.n : Int) := IntWalk.i64_in _ (by omega)
    have HE : Hid (oln (some t) = t.n) := Lib.hid rfl
    rw [ptr_some]
    clear HU hh hN hn
    generalize t.n = N at *
    go_wp2_with fail
    go_ret
    exact ⟨by rw [HE.out]; rfl, rfl⟩

theorem one49 (s : List UInt8) : (s.map V8).toArray.all (·.oneCell') = true := all_oneCell_toArray (one_bytes s)
set_option maxRecDepth 100000 in
theorem root_any (o : Option (Option T)) (p : Option Nat) (w : World) (ho : GIn G w w.heap.size o p) (ht : Sh.Tab w 1) (hw : 1 < w.heap.size) :
    Calls Tryd.prog 8 #[ptr p] w fun e w' => e = .returned (.agg (Sh.bcells (osum (topOf o)))) ∧ Below w.heap.size w w' := by
  have hz49 := zero49
  have hb1 : Below w.heap.size w (w.alloc (.cells (zb 32) 29)) := (Below.refl _ _).alloc (Nat.le_refl _) _
  have hs1 : (w.alloc (.cells (zb 32) 29)).heap.size = w.heap.size + 1 := size_alloc _ _
  have HU := Lib.hid (upmost_any o p _ (w.alloc (.cells (zb 32) 29)) (ho.below hb1 (Nat.le_refl _)))
  have HW := Lib.hid (Whole.made w 29 (zb 32))
  have HE := Lib.hid (empty_any (w.alloc (.cells (zb 32) 29)) (Sh.tab_below ht hb1 hw) (by omega))
  have HB1 := Lib.hid hb1
  clear ho ht hb1
  generalize topOf o = q at *
  go_enter Tryd.func8, Tryd.ntmps8
  go_wp2_with fail
  refine HU.out.mono ?_
  rintro e w1 ⟨p1, rfl, hP, rfl⟩
  generalize w.alloc (.cells (zb 32) 29) = w1 at *
  clear hz49 HU
  cases q with
  | none =>
    obtain rfl := hP
    rw [ptr_none]
    go_wp2_with fail
    refine HE.out.mono ?_
    rintro e w2 ⟨rfl, hb2⟩
    have HW2 := Lib.hid (HW.out.below hb2 (by omega))
    have HB2 := Lib.hid (HB1.out.trans (hb2.mono (by omega)))
    clear hb2 HE HW HB1
    obtain ⟨Y, hY⟩ : ∃ Y, Sh.bcells (Sh.Sha.sum []) = Y := ⟨_, rfl⟩
    have hsizeY : Y.size = 32 := by rw [← hY, Sh.bcells_size, Sh.sum_length]
    have honeY : Y.all (·.oneCell') = true := by rw [← hY]; exact Sh.bcells_one _
    rw [hY]
    have HY := Lib.hid hY
    clear hY
    simp only []
    go_step
    refine wpList_store_mid rfl 29 (.tmp 2) (.tmp 12) rfl w.heap.size 0 Y rfl rfl ?_ ?_ honeY ?_
    · rw [hsizeY]; have := HW2.out.there_; rw [zb_size] at this; exact this
    · rw [hsizeY]; exact info49
    have HW8 := Lib.hid (HW2.out.setAll (vs := Y) (by rw [zb_size, hsizeY]))
    have HB8 := Lib.hid (below_setCells w w.heap.size Y.toList 0 HB2.out (by omega))
    generalize w2.setCells w.heap.size 0 Y.toList = w8 at *
    go_wp2_with fail
    refine bodyPost_ret (results_cell1 Tryd.results8 _ _ _ ⟨w.heap.size, 0, none⟩ _ rfl (load_whole HW8.out 29 _ Tryd.underlying29 rfl (by rw [hsizeY]; exact info49))) rfl ⟨by rw [show osum none = Sh.Sha.sum [] from rfl, HY.out], HB8.out⟩
  | some t =>
    obtain ⟨b, rfl, hN⟩ := hP
    obtain ⟨A, n, c, A', n', c', x, y, hh⟩ := hN.has
    have hbl := hh.lt
    have HR := Lib.hid (ncells_srange hh.whole (lsum32 t) (rsum32 t))
    obtain ⟨Y, hY⟩ : ∃ Y, t.sum.map V8 = Y := ⟨_, rfl⟩
    have hsizeY : Y.toArray.size = 32 := by rw [← hY]; exact sumsize t
    have honeY : Y.toArray.all (·.oneCell') = true := by rw [← hY]; exact one49 _
    rw [hY] at HR
    have HY : Hid (Sh.bcells (osum (some t)) = Y.toArray) := Lib.hid (by rw [← hY]; rfl)
    rw [ptr_some]
    clear HE hh hN hY
    go_upto_region 3 with (fail)
    refine wp_region_lit ?_
    iterate 9 go_step
    refine wpList_load_mid rfl 29 (.tmp 10) rfl b 68 rfl _ _ HR.out Tryd.underlying29 rfl (by rw [← List.size_toArray, hsizeY]; exact info49) ?_
    refine wpList_store_mid rfl 29 (.tmp 2) (.tmp 11) rfl w.heap.size 0 Y.toArray rfl rfl ?_ ?_ honeY ?_
    · rw [hsizeY]; have := HW.out.there_; rw [zb_size] at this; exact this
    · rw [hsizeY]; exact info49
    have HW8 := Lib.hid (HW.out.setAll (vs := Y.toArray) (by rw [zb_size, hsizeY]))
    have HB8 := Lib.hid (below_setCells w w.heap.size Y 0 HB1.out (by omega))
    show wpList _ _ _ _ _ (w1.setCells w.heap.size 0 Y)
    change Hid (Whole (w1.setCells w.heap.size 0 Y) _ _ _) at HW8
    generalize w1.setCells w.heap.size 0 Y = w8 at *
    go_wp2_with fail
    refine bodyPost_ret (results_cell1 Tryd.results8 _ _ _ ⟨w.heap.size, 0, none⟩ _ rfl (load_whole HW8.out 29 _ Tryd.underlying29 rfl (by rw [hsizeY]; exact info49))) rfl ⟨by rw [HY.out], HB8.out⟩
end Go.Proofs.YtolkpjbbfopmnaaDoor
namespace Go.Proofs.YtolkpjbbfopmnaaDoor
open Go.RowKit
open Tr
variable {G : Nat → Prop}

theorem Told.move {w w' : World} {B n c n' c' : Nat} {t : T} {cs : Array Value} {A A' : Option Addr} (h : Told w B t cs A n c A' n' c') (hk : ∀ b, B ≤ b → w'.heap[b]? = w.heap[b]?) (hs : w.heap.size ≤ w'.heap.size) : Told w' B t cs A n c A' n' c' :=
  ⟨h.eq, (h.key.keepG (G := fun b => B ≤ b) (fun _ b o e => (h.knew b o e).1) (fun b _ hb => hk b hb)).more hs, h.knc, h.kle, (h.val.keepG (G := fun b => B ≤ b) (fun _ b o e => (h.vnew b o e).1) (fun b _ hb => hk b hb)).more hs, h.vnc, h.vle, h.knew.keep (fun b hb _ => hk b hb) hs, h.vnew.keep (fun b hb _ => hk b hb) hs⟩
theorem Told.weak {w : World} {B B' n c n' c' : Nat} {t : T} {cs : Array Value} {A A' : Option Addr} (h : Told w B t cs A n c A' n' c') (hB : B' ≤ B) : Told w B' t cs A n c A' n' c' :=
  ⟨h.eq, h.key, h.knc, h.kle, h.val, h.vnc, h.vle, h.knew.less hB, h.vnew.less hB⟩
theorem Told.below {w w' : World} {B n c n' c' : Nat} {t : T} {cs : Array Value} {A A' : Option Addr} (h : Told w B t cs A n c A' n' c') (hb : Below w.heap.size w w') : Told w' B t cs A n c A' n' c' :=
  ⟨h.eq, (h.key.below hb (Nat.le_refl _)).more hb.size, h.knc, h.kle, (h.val.below hb (Nat.le_refl _)).more hb.size, h.vnc, h.vle, h.knew.below hb (Nat.le_refl _), h.vnew.below hb (Nat.le_refl _)⟩

def Tr.oat : Option T → List Bool → Option T
  | none, _ => none
  | some t, [] => some t
  | some (.leaf _ _), _ :: _ => none
  | some (.node l r), b :: way => oat (some (if b then r else l)) way
theorem oat_none (way : List Bool) : oat none way = none := by cases way <;> rfl
theorem oat_nil (o : Option T) : oat o [] = o := by cases o <;> rfl

def WayPost (o : Option T) (w : World) (e : Ending) (w' : World) : Prop :=
  (o = none ∧ e = .returned (.tuple #[.agg z64, .bool false]) ∧ Below w.heap.size w w') ∨
  ∃ t cs A n c A' n' c', o = some t ∧ e = .returned (.tuple #[.agg cs, .bool true]) ∧ Told w' w.heap.size t cs A n c A' n' c' ∧ Below w.heap.size w w'
theorem z64_size : z64.size = 68 := by kernel_rfl
theorem z64_one : z64.all (·.oneCell') = true := acells_one ..

set_option maxRecDepth 100000 in
set_option maxHeartbeats 1000000 in
theorem way_any (o : Option (Option T)) (p : Option Nat) (W : Option Addr) (n c : Nat) (way : List Bool) (w : World) (ho : GIn G w w.heap.size o p) (hway : RdV w w.heap.size 1 W n (way.map Value.bool)) (hn : n ≤ 9223372036854775807) :
    Calls Tryd.prog 30 #[ptr p, .slice W n c] w (WayPost (oat (topOf o) way) w) := by
  have hz64 := zero64
  have hb1 : Below w.heap.size w (w.alloc (.cells z64 47)) := (Below.refl _ _).alloc (Nat.le_refl _) _
  have hs1 : (w.alloc (.cells z64 47)).heap.size = w.heap.size + 1 := size_alloc _ _
  have HU := Lib.hid (upmost_any o p _ (w.alloc (.cells z64 47)) (ho.below hb1 (Nat.le_refl _)))
  have HW := Lib.hid (Whole.made w 47 z64)
  have HB1 := Lib.hid hb1
  have HWAY := Lib.hid (hway.below hb1 (Nat.le_refl _))
  clear ho hway hb1
  generalize topOf o = q at *
  go_enter Tryd.func30, Tryd.ntmps30
  go_wp2_with fail
  refine HU.out.mono ?_
  rintro e w1' ⟨p1, rfl, hP, rfl⟩
  generalize w.alloc (.cells z64 47) = w1 at *
  clear hz64 HU
  have HP := Lib.hid hP
  clear hP
  go_wp2_with fail
  go_loopg [6, 13] n (fun gk s6 s13 wx => ∃ i s p', i + gk = n ∧ s13 = .int .i64 (i : Nat) ∧ s6 = ptr p' ∧ PIn G w1 w.heap.size s p' ∧ oat s (way.drop i) = oat q way ∧ wx = w1)
  case atStart => exact ⟨0, q, p1, by omega, rfl, rfl, HP.out, rfl, rfl⟩
  case round =>
    clear HP
    obtain ⟨i, s, p', hi, rfl, rfl, hP, hat, rfl⟩ := hrel
    have HAT := Lib.hid hat
    clear hat
    cases gk with
    | zero =>
      obtain rfl : i = n := by omega
      have HE : Hid (way.drop i = []) := Lib.hid (List.drop_eq_nil_of_le (by have := HWAY.out.1; simp at this; omega))
      rw [HE.out] at HAT
      clear HE hi
      cases s with
      | none =>
        obtain rfl := hP
        rw [ptr_none]
        have hz64 := zero64
        go_upto_region 9 with (fail)
        refine wp_region_lit ?_
        iterate 3 go_step
        clear hz64
        refine wpList_store_mid rfl 47 (.tmp 4) (.tmp 25) rfl w.heap.size 0 z64 rfl rfl ?_ ?_ z64_one ?_
        · exact HW.out.there_
        · rw [z64_size]; exact info64
        have HW8 := Lib.hid (HW.out.setAll (vs := z64) rfl)
        have HB8 := Lib.hid (below_setCells w w.heap.size z64.toList 0 HB1.out (by omega))
        generalize wr.setCells w.heap.size 0 z64.toList = w8 at *
        go_wp2_with fail
        refine bodyPost_ret (results_cell2 Tryd.results30 _ _ _ ⟨w.heap.size, 0, none⟩ _ rfl (load_whole HW8.out 47 _ Tryd.underlying47 rfl (by rw [z64_size]; exact info64))) rfl (.inl ⟨?_, rfl, HB8.out⟩)
        rw [← HAT.out, oat_none]
      | some t =>
        obtain ⟨b, rfl, hN⟩ := hP
        have HC := Lib.hid (told_any t b w.heap.size wr hN (by omega))
        rw [ptr_some] at HC ⊢
        clear hN
        go_wp2_with fail
        refine HC.out.mono ?_
        rintro e w2 ⟨cs, A, n1, c1, A', n', c', rfl, hT, hb2⟩
        have hcs : cs.size = 68 := by rw [hT.eq, List.size_toArray, acells_len _ _ _ _ _ _ (lsum32 t) (rsum32 t)]
        have hone : cs.all (·.oneCell') = true := by rw [hT.eq]; exact acells_one ..
        have HT := Lib.hid hT
        have hsb := hb2.size
        have HW2 := Lib.hid (HW.out.below hb2 (by omega))
        have HB2 := Lib.hid (HB1.out.trans (hb2.mono (by omega)))
        clear hT hb2 HC HW HB1
        simp only []
        go_step
        refine wpList_store_mid rfl 47 (.tmp 4) (.tmp 27) rfl w.heap.size 0 cs rfl rfl ?_ ?_ hone ?_
        · rw [hcs]; exact HW2.out.there_
        · rw [hcs]; exact info64
        have HW8 := Lib.hid (HW2.out.setAll (vs := cs) (by rw [hcs]; rfl))
        have HB8 := Lib.hid (below_setCells w w.heap.size cs.toList 0 HB2.out (by omega))
        have HT8 := Lib.hid ((HT.out.move (w' := w2.setCells w.heap.size 0 cs.toList) (fun b hb => heap_setCells_other w.heap.size b (by omega) cs.toList 0 w2) (by rw [size_setCells]; omega)).weak (B' := w.heap.size) (by omega))
        generalize w2.setCells w.heap.size 0 cs.toList = w8 at *
        clear HW2 HB2 HT
        go_wp2_with fail
        refine bodyPost_ret (results_cell2 Tryd.results30 _ _ _ ⟨w.heap.size, 0, none⟩ _ rfl (load_whole HW8.out 47 _ Tryd.underlying47 rfl (by rw [hcs]; exact info64))) rfl (.inr ⟨t, cs, A, n1, c1, A', n', c', ?_, rfl, HT8.out, HB8.out⟩)
        rw [← HAT.out]
        rw [oat_nil]
    | succ gn =>
      have hin : i < n := by omega
      have hlen : way.length = n := by have := HWAY.out.1; simpa using this
      obtain ⟨wb, wo, rfl, hwb, hcell⟩ := HWAY.out.2 (by omega)
      have hc := hcell i (.bool way[i]) (by rw [List.getElem?_map, List.getElem?_eq_getElem (by omega)]; rfl)
      have HD : Hid (way.drop i = way[i] :: way.drop (i + 1)) := Lib.hid (List.drop_eq_getElem_cons (by omega))
      clear hcell hwb
      generalize way[i] = R at *
      clear hlen
      cases s with
      | none =>
        obtain rfl := hP
        rw [ptr_none]
        have hz64 := zero64
        go_upto_region 9 with (fail)
        refine wp_region_lit ?_
        iterate 3 go_step
        clear hz64
        refine wpList_store_mid rfl 47 (.tmp 4) (.tmp 25) rfl w.heap.size 0 z64 rfl rfl ?_ ?_ z64_one ?_
        · exact HW.out.there_
        · rw [z64_size]; exact info64
        have HW8 := Lib.hid (HW.out.setAll (vs := z64) rfl)
        have HB8 := Lib.hid (below_setCells w w.heap.size z64.toList 0 HB1.out (by omega))
        generalize wr.setCells w.heap.size 0 z64.toList = w8 at *
        go_wp2_with fail
        refine bodyPost_ret (results_cell2 Tryd.results30 _ _ _ ⟨w.heap.size, 0, none⟩ _ rfl (load_whole HW8.out 47 _ Tryd.underlying47 rfl (by rw [z64_size]; exact info64))) rfl (.inl ⟨?_, rfl, HB8.out⟩)
        rw [← HAT.out, oat_none]
      | some t =>
        obtain ⟨b, rfl, hN⟩ := hP
        cases t with
        | leaf k v =>
          obtain ⟨A, n1, c1, A', n', c', hh⟩ := hN
          cases R with
          | true =>
            have HL := Lib.hid (side_right hh)
            rw [ptr_some] at HL ⊢
            skip
            clear hh
            go_wp2_with fail
            refine HL.out.mono ?_
            rintro e w2 ⟨rfl, rfl⟩
            go_wp2_with fail
            go_roundg gn
            case measure => omega
            case rel => exact ⟨i + 1, none, _, by omega, congrArg (Value.int .i64) (by omega), rfl, rfl, by rw [← HAT.out, HD.out]; simp [oat], rfl⟩
          | false =>
            have HL := Lib.hid (side_left hh)
            rw [ptr_some] at HL ⊢
            skip
            clear hh
            go_wp2_with fail
            refine HL.out.mono ?_
            rintro e w2 ⟨rfl, rfl⟩
            go_wp2_with fail
            go_roundg gn
            case measure => omega
            case rel => exact ⟨i + 1, none, _, by omega, congrArg (Value.int .i64) (by omega), rfl, rfl, by rw [← HAT.out, HD.out]; simp [oat], rfl⟩
        | node l r =>
          obtain ⟨A, n1, c1, A', n', c', x, y, hh, hx, hy⟩ := hN
          cases R with
          | true =>
            have HL := Lib.hid (side_right hh)
            rw [ptr_some] at HL ⊢
            have HX := Lib.hid hy
            clear hh hx hy
            go_wp2_with fail
            refine HL.out.mono ?_
            rintro e w2 ⟨rfl, rfl⟩
            go_wp2_with fail
            go_roundg gn
            case measure => omega
            case rel => exact ⟨i + 1, some r, _, by omega, congrArg (Value.int .i64) (by omega), rfl, ⟨_, rfl, HX.out⟩, by rw [← HAT.out, HD.out]; simp [oat], rfl⟩
          | false =>
            have HL := Lib.hid (side_left hh)
            rw [ptr_some] at HL ⊢
            have HX := Lib.hid hx
            clear hh hx hy
            go_wp2_with fail
            refine HL.out.mono ?_
            rintro e w2 ⟨rfl, rfl⟩
            go_wp2_with fail
            go_roundg gn
            case measure => omega
            case rel => exact ⟨i + 1, some l, _, by omega, congrArg (Value.int .i64) (by omega), rfl, ⟨_, rfl, HX.out⟩, by rw [← HAT.out, HD.out]; simp [oat], rfl⟩
end Go.Proofs.YtolkpjbbfopmnaaDoor
namespace Go.Proofs.YtolkpjbbfopmnaaDoor
open Go.RowKit

section
variable {P : Program} {ops : Array Oper} {Q : Exit → Act → World → Prop} {md : Region.Mode} {S : World → Prop} {late : Nat → Bool}

/-- Whatever comes up next; S is shown behind it, if it is not late. -/
def wpLate (P : Program) (md : Region.Mode) (ops : Array Oper) (Q : Exit → Act → World → Prop) (S : World → Prop) (late : Nat → Bool) : Nat → Array Bool → Act → World → Prop
  | 0, done, a, w => Region.ready md ops done = [] ∧ Q .normal a w
  | f + 1, done, a, w => (Region.ready md ops done = [] → Q .normal a w) ∧
    ∀ k ∈ Region.ready md ops done, wpOp P ops Q k (fun b u => (late k = false → S u) ∧ wpLate P md ops Q S late f (done.setIfInBounds k true) b u) a w

theorem wpAny_of_late : ∀ (f : Nat) (done : Array Bool) (a : Act) (w : World), wpLate P md ops Q S late f done a w → wpAny P md ops Q f done a w
  | 0, _, _, _, h => h
  | f + 1, _, _, _, h => ⟨h.1, fun k hk => wpOp_mono (fun b u g => wpAny_of_late f _ b u g.2) (h.2 k hk)⟩

/-- Operation j waits for operation i. -/
def waits (md : Region.Mode) (ops : Array Oper) (j i : Nat) : Bool :=
  match ops[j]? with
  | some o => o.after.any fun e => Region.binds md e && e.on == i
  | none => true

theorem wpLate_first {i : Nat} {oi : Oper} {v : Value} (hi : ops[i]? = some oi) (hsel : ∀ (j : Nat) (o : Oper) cs b, ops[j]? = some o → o.op ≠ .select cs b)
    (hQ : ∀ c a w, Q (.panic c) (a.put oi.dst v) w → Q (.panic c) a w) (hl : ∀ j, j < ops.size → late j = true → waits md ops j i = true) :
    ∀ (f : Nat) (done : Array Bool) (a : Act) (w : World),
      (∀ j oj, ops[j]? = some oj → j ≠ i → done.getD j true = false → (∀ e ∈ oj.after, Region.binds md e = true → e.on ≠ i) → oi.apart ops oj = true) →
      i ∈ Region.ready md ops done → YieldsIf P ops S oi v a → S w →
      wpLate P md ops Q S late f (done.setIfInBounds i true) (a.put oi.dst v) w → wpLate P md ops Q S late (f + 1) done a w := by
  intro f
  induction f with
  | zero =>
    intro done a w _ hr hy hS H
    refine ⟨fun h => absurd hr (by rw [h]; simp), fun j hj => ?_⟩
    rcases Nat.decEq j i with hji | hji
    · have := ready_mono hj hji
      rw [H.1] at this
      cases this
    · subst hji
      exact hy.wpOp hi hS ⟨fun _ => hS, H⟩
  | succ f ih =>
    intro done a w hfree hr hy hS H
    refine ⟨fun h => absurd hr (by rw [h]; simp), fun j hj => ?_⟩
    rcases Nat.decEq j i with hji | hji
    · have hrest := H.2 j (ready_mono hj hji)
      obtain ⟨hjun, oj, hoj, hall⟩ := mem_ready.1 hj
      have hnot : ∀ e ∈ oj.after, Region.binds md e = true → e.on ≠ i := fun e he hb heq => by
        have g1 := hall e he hb
        have g0 := (mem_ready.1 hr).1
        rw [heq] at g1
        rcases Nat.lt_or_ge i done.size with hlt | hge
        · simp [hlt] at g0 g1
          rw [g0] at g1
          cases g1
        · simp [Array.getElem?_eq_none hge] at g1
      have hearly : late j = false := by
        cases hlj : late j with
        | false => rfl
        | true =>
          have hw := hl j (Array.getElem?_eq_some_iff.1 hoj).1 hlj
          unfold waits at hw
          rw [hoj] at hw
          obtain ⟨k, hk, he⟩ := Array.any_iff_exists.1 hw
          simp only [Bool.and_eq_true, beq_iff_eq] at he
          exact absurd he.2.2.2 (hnot _ (Array.getElem_mem _) he.2.2.1)
      have hput := wpOp_putIf hoj (hfree j oj hoj hji hjun hnot) (fun cs b => hsel i oi cs b hi) (fun cs b => hsel j oj cs b hoj) hQ hy hrest
      refine wpOp_mono (fun b u g => ⟨fun _ => g.2.1 hearly, ih (done.setIfInBounds j true) b u ?_ (ready_mono hr (Ne.symm hji)) g.1 (g.2.1 hearly) ?_⟩) hput
      · intro k ok hk hki hun hno
        refine hfree k ok hk hki ?_ hno
        rcases Nat.decEq j k with hjk | hjk
        · rwa [getD_set_ne true hjk] at hun
        · subst hjk
          exact hjun
      · rw [Array.setIfInBounds_comm _ _ hji]
        exact g.2.2
    · subst hji
      exact hy.wpOp hi hS ⟨fun _ => hS, H⟩

theorem wpLate_take {i : Nat} {oi : Oper} {v : Value} {f : Nat} {done : Array Bool} {a : Act} {w : World} (hi : ops[i]? = some oi)
    (hs : Region.noSelect ops = true) (hf : Region.free md ops done i = true) (hr : (Region.ready md ops done).contains i = true) (hl : ((List.range ops.size).all fun j => !late j || waits md ops j i) = true)
    (hQ : ∀ c a w, Q (.panic c) (a.put oi.dst v) w → Q (.panic c) a w) (hy : YieldsIf P ops S oi v a) (hS : S w)
    (h : wpLate P md ops Q S late f (done.setIfInBounds i true) (a.put oi.dst v) w) : wpLate P md ops Q S late (f + 1) done a w :=
  wpLate_first hi (Region.noSelect_spec hs) hQ (fun j hj hlj => by
    have := List.all_eq_true.1 hl j (List.mem_range.2 hj)
    rw [hlj] at this
    simpa using this) f done a w (Region.free_spec hi hf) (by simpa using hr) hy hS h

/-- Each of these comes up next. -/
def AllLate (P : Program) (md : Region.Mode) (ops : Array Oper) (Q : Exit → Act → World → Prop) (S : World → Prop) (late : Nat → Bool) (f : Nat) (done : Array Bool) (a : Act) (w : World) (rs : List Nat) : Prop :=
  ∀ k ∈ rs, wpOp P ops Q k (fun b u => (late k = false → S u) ∧ wpLate P md ops Q S late f (done.setIfInBounds k true) b u) a w
theorem AllLate.nil {f : Nat} {done : Array Bool} {a : Act} {w : World} : AllLate P md ops Q S late f done a w [] := fun _ h => by cases h
theorem AllLate.cons {f : Nat} {done : Array Bool} {a : Act} {w : World} {i : Nat} {o : Oper} {rs : List Nat} (ho : ops[i]? = some o)
    (h : ∀ K : Act → World → Prop, Shut (∀ b u, (late i = false → S u) → wpLate P md ops Q S late f (done.setIfInBounds i true) b u → K b u) → if Region.wanted o (yielded ops a.tmps) = true then Oper.wp P o a w K Q else K (a.put o.dst undef) w)
    (hs : AllLate P md ops Q S late f done a w rs) : AllLate P md ops Q S late f done a w (i :: rs) := fun j hj => by
  rcases List.mem_cons.1 hj with rfl | hj
  · exact wpOp_step ho (fun K hK => h K (fun b u hS hW => hK b u ⟨hS, hW⟩))
  · exact hs j hj
theorem wpLate_ready {rs : List Nat} {f : Nat} {done : Array Bool} {a : Act} {w : World} (hr : Region.ready md ops done = rs) (hne : rs ≠ [])
    (h : AllLate P md ops Q S late f done a w rs) : wpLate P md ops Q S late (f + 1) done a w := ⟨fun h0 => absurd (hr ▸ h0) hne, hr ▸ h⟩
theorem wpLate_done {done : Array Bool} {a : Act} {w : World} (hr : Region.ready md ops done = []) (h : Q .normal a w) : ∀ f, wpLate P md ops Q S late f done a w
  | 0 => ⟨hr, h⟩
  | _ + 1 => ⟨fun _ => h, by rw [hr]; simp⟩
theorem wp_region_late {id : Nat} {a : Act} {w : World} (hm : P.follows .mixedOrders = true) (h : wpLate P .any ops Q S late ops.size (Array.replicate ops.size false) a w.drew) : (Code.region id ops true).wp P Q a w :=
  wp_region_any hm (wpAny_of_late _ _ _ _ h)
end
end Go.Proofs.YtolkpjbbfopmnaaDoor
namespace Go.Proofs.YtolkpjbbfopmnaaDoor
open Go.RowKit
open Tr
variable {G : Nat → Prop}

theorem visit_nil (F : Value) (w : World) : Calls Tryd.prog 41 #[.pointer none, F] w fun e w' => e = .returned undef ∧ w = w' := by
  go_enter Tryd.func41, Tryd.ntmps41
  go_wp2_with fail
  refine bodyPost_ret (results_none rfl _ _ _) rfl ?_
  exact ⟨rfl, rfl⟩

def Tr.T.all : T → List T
  | .leaf k v => [.leaf k v]
  | .node l r => .node l r :: (l.all ++ r.all)

set_option maxRecDepth 100000 in
theorem visit_any (f : Nat) (C : Value) (ent : ∀ args w, (callFunc f args).run Tryd.prog w = .ok (.enter f args) w) (w0 : World) (B : Nat) (I : List T → World → Prop) (hb : ∀ ns w, I ns w → Below B w0 w)
    (hI : ∀ s b ns w, NIn G w0 B s b → I ns w → Calls Tryd.prog f #[ptr (some b), C] w fun e w' => e = .returned undef ∧ I (ns ++ [s]) w') :
    ∀ (t : T) (b : Nat) (ns : List T) (w : World), NIn G w0 B t b → I ns w → Calls Tryd.prog 41 #[ptr (some b), .func (.func f) #[] #[C]] w fun e w' => e = .returned undef ∧ I (ns ++ t.all) w'
  | .leaf k v, b, ns, w, h, hi => by
    have HC := Lib.hid (hI _ b ns w h hi)
    obtain ⟨A, n, c, A', n', c', hh⟩ := h
    have HH := Lib.hid hh
    have HBB := Lib.hid hb
    rw [ptr_some] at HC ⊢
    clear hi hI hh hb
    go_enter Tryd.func41, Tryd.ntmps41
    go_wp2_with fail
    refine HC.out.mono ?_
    rintro e w1 ⟨rfl, hi1⟩
    obtain ⟨_, _, _, _, c100, c101⟩ := (HH.out.below (HBB.out _ _ hi1) (Nat.le_refl _)).cells
    rw [ptr_none] at c100 c101
    have HI1 := Lib.hid hi1
    have HN := Lib.hid (visit_nil (.func (.func f) #[] #[C]) w1)
    clear hi1 HC
    go_wp2_with fail
    refine HN.out.mono ?_
    rintro e w2 ⟨rfl, rfl⟩
    go_wp2_with fail
    refine HN.out.mono ?_
    rintro e w2 ⟨rfl, rfl⟩
    go_wp2_with fail
    refine bodyPost_end (results_none rfl _ _ _) rfl ?_
    exact ⟨rfl, HI1.out⟩
  | .node l r, b, ns, w, h, hi => by
    have HC := Lib.hid (hI _ b ns w h hi)
    obtain ⟨A, n, c, A', n', c', x, y, hh, hx, hy⟩ := h
    have HH := Lib.hid hh
    have HBB := Lib.hid hb
    have HX := Lib.hid hx
    have HY := Lib.hid hy
    have HL := Lib.hid (visit_any f C ent w0 B I hb hI l x)
    have HR := Lib.hid (visit_any f C ent w0 B I hb hI r y)
    rw [ptr_some] at HC HL HR ⊢
    clear hi hI hh hb hx hy
    go_enter Tryd.func41, Tryd.ntmps41
    go_wp2_with fail
    refine HC.out.mono ?_
    rintro e w1 ⟨rfl, hi1⟩
    obtain ⟨_, _, _, _, c100, c101⟩ := (HH.out.below (HBB.out _ _ hi1) (Nat.le_refl _)).cells
    rw [ptr_some] at c100 c101
    have HC1 := Lib.hid (HL.out _ w1 HX.out hi1)
    clear hi1 HC HL c101
    go_wp2_with fail
    refine HC1.out.mono ?_
    rintro e w2 ⟨rfl, hi2⟩
    clear c100 HC1
    obtain ⟨_, _, _, _, c100, c101⟩ := (HH.out.below (HBB.out _ _ hi2) (Nat.le_refl _)).cells
    rw [ptr_some] at c100 c101
    have HC2 := Lib.hid (HR.out _ w2 HY.out hi2)
    clear hi2 HR c100
    go_wp2_with fail
    refine HC2.out.mono ?_
    rintro e w3 ⟨rfl, hi3⟩
    have HI3 := Lib.hid hi3
    clear c101 hi3 HC2
    go_wp2_with fail
    refine bodyPost_end (results_none rfl _ _ _) rfl ?_
    refine ⟨rfl, ?_⟩
    have := HI3.out
    rw [show ns ++ (T.node l r).all = ns ++ [T.node l r] ++ l.all ++ r.all by simp [T.all]]
    exact this
end Go.Proofs.YtolkpjbbfopmnaaDoor
namespace Go.Proofs.YtolkpjbbfopmnaaDoor
open Go.RowKit
open Tr

/-- []byte(s) of a string: bytes in a new row. -/
theorem conv_new (w : World) (bs : List UInt8) : ∃ c w', (convert 9 31 (.string ⟨bs.toArray⟩)).run Tryd.prog w = .ok (.slice (some ⟨w.heap.size, 0, none⟩) bs.length c) w' ∧ Rd w' w'.heap.size (some ⟨w.heap.size, 0, none⟩) bs.length bs ∧ Below w.heap.size w w' := by
  have hrun := Lib.run_convert_string_bytes (P := Tryd.prog) w 9 31 5 ⟨bs.toArray⟩ Tryd.underlying9 Tryd.underlying31 Tryd.underlying5
  refine ⟨_, _, hrun, ?_, ?_⟩
  · refine Rd.mk_ rfl _ _ (by rw [Lib.bytesWorld_size]; omega) fun j v hv => ?_
    have hj : j < bs.length := (List.getElem?_eq_some_iff.1 hv).1
    rw [Nat.zero_add, Lib.bytesWorld_cell w 5 ⟨bs.toArray⟩ j hj]
    simp [List.getD, hv, V8]
  · exact ⟨rfl, rfl, rfl, by rw [Lib.bytesWorld_size]; omega, fun k hk => Lib.bytesWorld_at_old w 5 _ k hk⟩

theorem rd_marked (w : World) (x : UInt8) : Rd (w.alloc (.cells #[.int .u8 x.toNat] 5 (1, 2))) (w.heap.size + 1) (some ⟨w.heap.size, 0, none⟩) 1 [x] :=
  Rd.mk_ rfl _ _ (by omega) fun j v hv => by
    have hl : (w.alloc (.cells #[.int .u8 x.toNat] 5 (1, 2))).heap[w.heap.size]? = some (.cells #[.int .u8 x.toNat] 5 (1, 2)) := heap_alloc_last w _
    rw [cell_of_row _ _ _ _ _ _ hl]
    match j, hv with
    | 0, hv => obtain rfl : x = v := by injection hv
               rfl
    | j + 1, hv => simp at hv
def All (_ : Nat) : Prop := True
def awk : Nat → Option T
  | 0 => none
  | i + 1 => some (oput (awk i) [UInt8.ofNat (97 + i)] [])
def awt : T := .node (.node (.leaf [97] []) (.leaf [98] [])) (.node (.leaf [99] []) (.leaf [100] []))
theorem awk4 : awk 4 = some awt := by kernel_rfl
theorem oput_n (o : Option T) (k v : List UInt8) : (oput o k v).n ≤ oln o + 1 := by
  cases o with
  | none => exact Nat.le_refl _
  | some t => exact put_n k v t
theorem awk_n : ∀ i, oln (awk i) ≤ i
  | 0 => Nat.le_refl _
  | i + 1 => Nat.le_trans (oput_n (awk i) _ _) (Nat.succ_le_succ (awk_n i))
def strs : Array Value := #[.string ⟨#[97]⟩, .string ⟨#[98]⟩, .string ⟨#[99]⟩, .string ⟨#[100]⟩]
theorem strs_at (i : Nat) (h : i < 4) : strs[i]? = some (.string ⟨[UInt8.ofNat (97 + i)].toArray⟩) := by
  match i, h with
  | 0, _ => rfl
  | 1, _ => rfl
  | 2, _ => rfl
  | 3, _ => rfl
theorem room {w : World} (h : 1 < w.heap.size) : Room All w := ⟨h, fun _ _ => trivial⟩

set_option maxRecDepth 100000 in
set_option maxHeartbeats 1000000 in
theorem awake_any (w : World) (ht : Sh.Tab w 1) (hw : 1 < w.heap.size) : Calls Tryd.prog 6 #[] w fun e w' => e = .returned (.bool true) ∧ Below w.heap.size w w' := by
  have HT := Lib.hid ht
  clear ht
  go_enter Tryd.func6, Tryd.ntmps6
  go_wp2_with fail
  refine (new_any (G := All) w (room hw)).mono ?_
  rintro e w1 ⟨g, rfl, hg, hT, hb1⟩
  have HT1 := Lib.hid hT
  have HB1 := Lib.hid hb1
  have hs1 := hb1.size
  clear hT hb1
  go_upto_region 2 with (fail)
  refine wp_region_lit ?_
  iterate 9 go_step
  have hb2 : Below w1.heap.size w1 (w1.alloc (.cells strs 9)) := (Below.refl _ _).alloc (Nat.le_refl _) _
  have hw2 := Whole.made w1 9 strs
  change Whole (w1.alloc (.cells #[.string ⟨#[97]⟩, .string ⟨#[98]⟩, .string ⟨#[99]⟩, .string ⟨#[100]⟩] 9)) _ _ _ at hw2
  change Below _ _ (w1.alloc (.cells #[.string ⟨#[97]⟩, .string ⟨#[98]⟩, .string ⟨#[99]⟩, .string ⟨#[100]⟩] 9)) at hb2
  generalize w1.alloc (.cells #[.string ⟨#[97]⟩, .string ⟨#[98]⟩, .string ⟨#[99]⟩, .string ⟨#[100]⟩] 9) = w2 at *
  have hs2 : w1.heap.size < w2.heap.size := hw2.lt
  have HW2 := Lib.hid hw2
  have HT2 := Lib.hid ((HT1.out.below hb2 (Nat.le_refl _)).more hb2.size)
  have HB2 := Lib.hid (HB1.out.trans (hb2.mono hs1))
  clear hw2 hb2 HT1 HB1 hg
  generalize w1.heap.size = gs at *
  go_wp2_with fail
  go_loopg [1, 11] 4 (fun gk s1 s11 wx => ∃ i g', i + gk = 4 ∧ s11 = .int .i64 (i : Nat) ∧ s1 = ptr (some g') ∧ TIn All wx wx.heap.size (awk i) g' ∧ Whole wx gs 9 strs ∧ Below w.heap.size w wx)
  case atStart => exact ⟨0, g, by omega, rfl, rfl, HT2.out, HW2.out, HB2.out⟩
  case round =>
    clear HT2 HW2 HB2
    obtain ⟨i, g', hi, rfl, rfl, hT, hW, hb⟩ := hrel
    have HTi := Lib.hid hT
    have HWi := Lib.hid hW
    have HBi := Lib.hid hb
    have hsw := hb.size
    cases gk with
    | succ gn =>
      have hi4 : i < 4 := by omega
      have hc := hW.at_ (strs_at i hi4)
      have hgs := hW.lt
      clear hT hW hb
      obtain ⟨c1, w3, hcv, hr3, hb3⟩ := conv_new wr [UInt8.ofNat (97 + i)]
      have hcv' := hcv
      clear hcv
      rw [show ([UInt8.ofNat (97 + i)] : List UInt8).length = 1 from rfl] at hcv' hr3
      have HP := Lib.hid (put_any (awk i) g' (some ⟨wr.heap.size, 0, none⟩) none 1 c1 0 0 [UInt8.ofNat (97 + i)] [] w3 ((HTi.out.below hb3 (Nat.le_refl _)).more hb3.size) hr3 Rd.nil (by omega) (by omega) (by omega) (by have := awk_n i; omega) (Sh.tab_below HT.out (HBi.out.trans (hb3.mono hsw)) hw) (room (by have := hb3.size; omega)))
      have HW3 := Lib.hid (HWi.out.below hb3 hgs)
      have HB3 := Lib.hid (HBi.out.trans (hb3.mono hsw))
      have hs3 := hb3.size
      clear hr3 hb3 HTi HWi HBi
      rw [ptr_some] at HP ⊢
      generalize ([UInt8.ofNat (97 + i)] : List UInt8).toArray = X at *
      go_wp2_with fail
      refine HP.out.mono ?_
      rintro e w4 ⟨g4, rfl, hg4, hT4, hb4⟩
      have HT4 := Lib.hid hT4
      have HW4 := Lib.hid (HW3.out.below hb4 (by omega))
      have HB4 := Lib.hid (HB3.out.trans (hb4.mono (by omega)))
      clear hT4 hb4 HW3 HB3 HP hc hcv'
      rw [ptr_some]
      go_wp2_with fail
      go_roundg gn
      case measure => omega
      case rel => exact ⟨i + 1, g4, by omega, congrArg (Value.int .i64) (by omega), rfl, HT4.out, HW4.out, HB4.out⟩
    | zero =>
      obtain rfl : i = 4 := by omega
      clear hi hT hW hb HWi
      rw [awk4] at HTi
      have HC := Lib.hid (way_any (some (some awt)) (some g') none 0 0 [] wr ⟨g', rfl, HTi.out⟩ RdV.nil (by omega))
      go_wp2_with fail
      refine HC.out.mono ?_
      rintro e w3 hpost
      rcases hpost with ⟨h, _⟩ | ⟨t, cs, A, n, c, A', n', c', ht, rfl, hTo, hb3⟩
      · exact absurd h (by intro h; cases h)
      obtain rfl : awt = t := by injection ht
      have hs3 := hb3.size
      have HTo := Lib.hid hTo
      have hcs : cs.size = 68 := by rw [hTo.eq, List.size_toArray, acells_len _ _ _ _ _ _ (lsum32 _) (rsum32 _)]
      have hone : cs.all (·.oneCell') = true := by rw [hTo.eq]; exact acells_one ..
      have HT3 := Lib.hid ((HTi.out.below hb3 (Nat.le_refl _)).more hb3.size)
      have HB3 := Lib.hid (HBi.out.trans (hb3.mono hsw))
      clear ht hTo hb3 HC HTi HBi
      simp only []
      have hz64 := zero64
      iterate 13 go_step
      clear hz64
      have hw4 := Whole.made w3 47 z64
      refine wpList_store_mid rfl 47 (.tmp 4) (.tmp 26) rfl w3.heap.size 0 cs rfl rfl ?_ ?_ hone ?_
      · rw [hcs]; exact hw4.there_
      · rw [hcs]; exact info64
      have hw5 := hw4.setAll (vs := cs) (by rw [hcs]; rfl)
      have hb5 : Below w3.heap.size w3 ((w3.alloc (.cells z64 47)).setCells w3.heap.size 0 cs.toList) := below_setCells w3 w3.heap.size _ 0 ((Below.refl _ _).alloc (Nat.le_refl _) _) (Nat.le_refl _)
      generalize (w3.alloc (.cells z64 47)).setCells w3.heap.size 0 cs.toList = w5 at *
      have hs5 : w3.heap.size < w5.heap.size := hw5.lt
      have HTo5 := Lib.hid (HTo.out.below hb5)
      have HT5 := Lib.hid ((HT3.out.below hb5 (Nat.le_refl _)).more hb5.size)
      have HB5 := Lib.hid (HB3.out.trans (hb5.mono (by omega)))
      have HW5 := Lib.hid hw5
      clear hw4 hw5 hb5 HTo HT3 HB3
      generalize w3.heap.size = gn at *
      have hcv := fun (w : World) (C : Array Value) (n c : Nat) => Lib.run_convert_bytes_const (P := Tryd.prog) w 31 5 C n c Tryd.underlying31 Tryd.underlying5
      have hb6 : Below w5.heap.size w5 (w5.alloc (.cells #[.int .u8 100] 5 (1, 2))) := (Below.refl _ _).alloc (Nat.le_refl _) _
      have hr6 : Rd (w5.alloc (.cells #[.int .u8 100] 5 (1, 2))) (w5.heap.size + 1) (some ⟨w5.heap.size, 0, none⟩) 1 [100] := rd_marked w5 100
      have hs6 : (w5.alloc (.cells #[.int .u8 100] 5 (1, 2))).heap.size = w5.heap.size + 1 := size_alloc _ _
      have HC := Lib.hid (get_any (some (some awt)) (some g') (some ⟨w5.heap.size, 0, none⟩) 1 1 [100] (w5.alloc (.cells #[.int .u8 100] 5 (1, 2))) ⟨g', rfl, (HT5.out.below hb6 (Nat.le_refl _)).more hb6.size⟩ (hr6.more (by omega)))
      have HTo6 := Lib.hid (HTo5.out.below hb6)
      have HT6 := Lib.hid ((HT5.out.below hb6 (Nat.le_refl _)).more hb6.size)
      have HB6 := Lib.hid (HB5.out.trans (hb6.mono (by omega)))
      have HW6 := Lib.hid (HW5.out.below hb6 hs5)
      clear hb6 hr6 hs6 HTo5 HT5 HB5 HW5 hone hcs
      go_wp2_with fail
      refine HC.out.mono ?_
      generalize w5.alloc (.cells #[.int .u8 100] 5 (1, 2)) = w6 at *
      rintro e w7 hpost
      rcases hpost with ⟨h, _⟩ | ⟨v, A2, n2, c2, hv, rfl, hr7, hnc7, hn7, hb7⟩
      · exact absurd h (by rw [show ofind (topOf (some (some awt))) [100] = some [] by kernel_rfl]; simp)
      rw [show ofind (topOf (some (some awt))) [100] = some [] by kernel_rfl] at hv
      obtain rfl : [] = v := by injection hv
      obtain rfl : 0 = n2 := hr7.len
      have HTo7 := Lib.hid (HTo6.out.below hb7)
      have HT7 := Lib.hid ((HT6.out.below hb7 (Nat.le_refl _)).more hb7.size)
      have HB7 := Lib.hid (HB6.out.trans (hb7.mono HB6.out.size))
      have hw7 := HW6.out.below hb7 HW6.out.lt
      rw [HTo7.out.eq] at hw7
      have k0 := hw7.at_ (i := 0) (v := .slice A n c) rfl
      have k2 := hw7.at_ (i := 2) (v := .int .i64 2) (by kernel_rfl)
      have k3 := hw7.at_ (i := 3) (v := .int .u64 4) (by kernel_rfl)
      have hst := run_string w7 _ A n c _ HTo7.out.key
      rw [show awt.key = [99] by kernel_rfl] at hst
      have HL := Lib.hid (len_any (some (some awt)) (some g') w7 ⟨g', rfl, HT7.out⟩ (by show awt.n ≤ _; decide))
      rw [show (oln (topOf (some (some awt))) : Nat) = 4 by kernel_rfl] at HL
      clear hv hr7 hb7 HC HTo6 HT6 HB6 HW6 hw7
      go_wp2_with fail
      refine HL.out.mono ?_
      rintro e w8 ⟨rfl, rfl⟩
      go_wp2_with fail
      go_ret
      exact ⟨rfl, HB7.out⟩
end Go.Proofs.YtolkpjbbfopmnaaDoor
namespace Go.Proofs.YtolkpjbbfopmnaaDoor
open Go.RowKit
open Tr

theorem acells_lrange {w : World} {g : Nat} {t : TypeId} {kv vv : Value} {h : Int} {z : Nat} {l r : List UInt8} (hw : Whole w g t (acells kv vv h z l r).toArray) : w.rangeAt g 4 (l.map V8) := fun j v hv =>
  hw.at_ (by
    have hj := (List.getElem?_eq_some_iff.1 hv).1
    rw [List.getElem?_toArray, acells, show 4 + j = j + 4 by omega]
    show (l.map V8 ++ r.map V8)[j]? = some v
    rw [List.getElem?_append_left hj, hv])
theorem acells_rrange {w : World} {g : Nat} {t : TypeId} {kv vv : Value} {h : Int} {z : Nat} {l r : List UInt8} (hw : Whole w g t (acells kv vv h z l r).toArray) (hl : l.length = 32) : w.rangeAt g 36 (r.map V8) := fun j v hv =>
  hw.at_ (by
    rw [List.getElem?_toArray, acells, show 36 + j = (32 + j) + 4 by omega]
    show (l.map V8 ++ r.map V8)[32 + j]? = some v
    rw [List.getElem?_append_right (by rw [List.length_map, hl]; omega), List.length_map, hl, show 32 + j - 32 = j by omega, hv])
/-- A stretch of a block is loaded, by an operation that is wanted. -/
theorem wpList_load_w {ops : Array Oper} {rest : List Oper} {op : Oper} {a : Act} {w : World} {Q : Exit → Act → World → Prop} (hw : Region.wanted op (yielded ops a.tmps) = true) (ty : TypeId) (x : Operand) (ho : op.op = .load ty x)
    (g o : Nat) (hx : a.eval x = .pointer (some ⟨g, o, none⟩)) (cs : List Value) (d : TypeDesc) (hc : w.rangeAt g o cs)
    (hu : Tryd.prog.underlying ty = some d) (hd : d.isRow = true) (hi : (Tryd.prog.info? ty).map (·.size) = some cs.length)
    (h : wpList Tryd.prog ops Q rest (a.put op.dst (.agg cs.toArray)) w) : wpList Tryd.prog ops Q (op :: rest) a w :=
  wpList_step fun K hK => by
    rw [if_pos hw]
    exact wp_load_mid ty x ho g o hx cs d hc hu hd hi (hK _ _ h)
theorem load49 {w : World} {g o : Nat} {s : List UInt8} (h : w.rangeAt g o (s.map V8)) (hs : s.length = 32) : (Instr.loadAt 29 (.pointer (some ⟨g, o, none⟩))).run Tryd.prog w = .ok (.agg (Sh.bcells s)) w :=
  run_loadAt_mid w g o 29 (s.map V8) _ h Tryd.underlying29 rfl (by rw [List.length_map, hs]; exact info49)

set_option maxRecDepth 100000 in
theorem all_nil (w : World) : Calls Tryd.prog 12 #[.pointer none] w fun e w' => e = .returned (.slice none 0 0) ∧ Below w.heap.size w w' := by
  have hmf : ∀ (fn : Fn) (first cap : Array Value) (w : World), (Instr.makeFunc fn first cap).run Tryd.prog w = .ok (.func fn first cap) w := fun _ _ _ _ => rfl
  have hb : Below w.heap.size w (w.alloc (.cells #[.slice none 0 0] 25)) := (Below.refl _ _).alloc (Nat.le_refl _) _
  have hc := (Whole.made w 25 #[.slice none 0 0]).at_ (i := 0) rfl
  have HU := Lib.hid (upmost_any (G := All) none none w.heap.size (w.alloc (.cells #[.slice none 0 0] 25)) rfl)
  have HV := Lib.hid (visit_nil (.func (.func 42) #[] #[.pointer (some ⟨w.heap.size, 0, none⟩)]) (w.alloc (.cells #[.slice none 0 0] 25)))
  have HB := Lib.hid hb
  clear hb
  rw [ptr_none] at HU
  go_enter Tryd.func12, Tryd.ntmps12
  go_wp2_with fail
  refine HU.out.mono ?_
  rintro e w1 ⟨p, rfl, hp, rfl⟩
  obtain rfl := hp
  rw [ptr_none]
  generalize w.alloc (.cells #[.slice none 0 0] 25) = w1 at *
  go_wp2_with fail
  refine HV.out.mono ?_
  rintro e w2 ⟨rfl, rfl⟩
  go_wp2_with fail
  go_ret
  exact ⟨rfl, HB.out⟩
set_option maxRecDepth 100000 in
theorem nodes_nil (w : World) : Calls Tryd.prog 13 #[.pointer none] w fun e w' => e = .returned (.slice none 0 0) ∧ Below w.heap.size w w' := by
  have hmf : ∀ (fn : Fn) (first cap : Array Value) (w : World), (Instr.makeFunc fn first cap).run Tryd.prog w = .ok (.func fn first cap) w := fun _ _ _ _ => rfl
  have hb : Below w.heap.size w (w.alloc (.cells #[.slice none 0 0] 43)) := (Below.refl _ _).alloc (Nat.le_refl _) _
  have hc := (Whole.made w 43 #[.slice none 0 0]).at_ (i := 0) rfl
  have HU := Lib.hid (upmost_any (G := All) none none w.heap.size (w.alloc (.cells #[.slice none 0 0] 43)) rfl)
  have HV := Lib.hid (visit_nil (.func (.func 45) #[] #[.pointer (some ⟨w.heap.size, 0, none⟩)]) (w.alloc (.cells #[.slice none 0 0] 43)))
  have HB := Lib.hid hb
  clear hb
  rw [ptr_none] at HU
  go_enter Tryd.func13, Tryd.ntmps13
  go_wp2_with fail
  refine HU.out.mono ?_
  rintro e w1 ⟨p, rfl, hp, rfl⟩
  obtain rfl := hp
  rw [ptr_none]
  generalize w.alloc (.cells #[.slice none 0 0] 43) = w1 at *
  go_wp2_with fail
  refine HV.out.mono ?_
  rintro e w2 ⟨rfl, rfl⟩
  go_wp2_with fail
  go_ret
  exact ⟨rfl, HB.out⟩
end Go.Proofs.YtolkpjbbfopmnaaDoor
