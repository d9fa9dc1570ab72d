/-
  What find and without return: the leaf of a key, and a tree without it; conditions: tree and key lie in memory, there are no more than 4294967296 leaves, the table holds its words. find changes nothing, without only makes memory of its own.
  What told returns: a node as it is answered, of bytes of its own; condition: the node lies in memory. It only makes memory of its own.
  What a tree's Put, Cut, Get, Root, Len return; conditions: tree and bytes lie in memory, there are fewer than 4294967296 leaves, the table holds its words. They only make memory of their own.
  What a tree's Node returns: the node to which a way leads; conditions: tree and way lie in memory. It only makes memory of its own.
  A law of my own for a region that draws its order: a condition on memory that holds behind every operation but the late ones (a store at the region's end), and what is read under it is taken first, if every late operation waits for it: no condition.
  What visit does: it calls a closure at each node, the upmost first, each one's left side ahead of its right one; condition: the tree lies in memory, the closure's contract.
  The fixed fact of the laws: Awake returns true; condition: the table holds its words. It only makes memory of its own.
  What SameNode returns for two nodes that read alike: true; and All, Nodes of a nil or an empty tree: nothing; conditions: their bytes are read.
  How lists of pairs lie in memory: small facts that the walks lean on: no condition.
  What the document's Find and SamePairs return; conditions: the pairs are read. They make no memory.
  What the document's CutPair returns: the pairs without a key; conditions: pairs and key are read, there are no more than 1000000 of them. It only makes memory of its own.
  What the document's PutPair returns: the pairs in which a key has a value; conditions: pairs, key and value are read, there are no more than 100000 of them. It only makes memory of its own.
  Calls in memory, and their keys: what Act.Key returns; condition: the call's bytes are read. It only makes memory of its own.
  What Grow returns: the tree of calls, and its pairs; conditions: the calls are read, the table holds its words. It only makes memory of its own.
  What a tree's All returns: its pairs, rising by keys; condition: the tree lies in memory and has no more than 1000 leaves. It only makes memory of its own.
  Small facts for the law TreeBalance: sums of answered nodes, ways in a queue: conditions: they lie in memory.
  What the document's Eight returns: the eight bytes of a number, the highest first: no condition.
  What the document's Hash returns: the sum of the text that the chapter gives; conditions: the node's bytes are read, there are no more than 90000 of them, the document's table holds its words. It only makes memory of its own.
  What the document's Text returns: the text that the chapter gives; conditions: the node's bytes are read, there are no more than 90000 of them, the document's table holds its words. It only makes memory of its own.
-/
import Derived.Lib.ConvBytes
import Derived.Test.YtolkpjbbfopmnaaDoorCY07
import Derived.Test.YtolkpjbbfopmnaaDoorCY08
import Derived.Test.YtolkpjbbfopmnaaDoorCY11
namespace Go.Proofs.YtolkpjbbfopmnaaDoor
open Go.RowKit
open Tr
variable {G : Nat → Prop}

def Tr.ofind (o : Option T) (k : List UInt8) : Option (List UInt8) :=
  match o with
  | none => none
  | some t => t.find k
def Tr.ohigh : Option T → Nat
  | none => 0
  | some t => t.h + 1
def FindPost (G : Nat → Prop) (w : World) (B : Nat) (k : List UInt8) (r : Option (List UInt8)) (e : Ending) (w' : World) : Prop :=
  ∃ q, e = .returned (ptr q) ∧ w = w' ∧ ((r = none ∧ q = none) ∨ ∃ b v, r = some v ∧ q = some b ∧ NIn G w B (.leaf k v) b)

set_option maxRecDepth 100000 in
set_option maxHeartbeats 1000000 in
theorem find_any (o : Option T) (p : Option Nat) (B B2 : Nat) (D : Option Addr) (m d : Nat) (k : List UInt8) (w : World) (h : PIn G w B o p) (hk : Rd w B2 D m k) :
    Calls Tryd.prog 39 #[ptr p, .slice D m d] w (FindPost G w B k (ofind o k)) := by
  have HP := Lib.hid h
  have HK := Lib.hid hk
  clear h hk
  go_enter Tryd.func39, Tryd.ntmps39
  go_wp2_with fail
  go_loopg [0] (ohigh o) (fun gk v wx => ∃ s p', gk = ohigh s ∧ v = ptr p' ∧ PIn G w B s p' ∧ ofind s k = ofind o k ∧ wx = w)
  case atStart => exact ⟨o, p, rfl, rfl, HP.out, rfl, rfl⟩
  case round =>
    clear HP
    obtain ⟨s, p', rfl, rfl, hs, hf, rfl⟩ := hrel
    have HF := Lib.hid hf
    clear hf
    cases s with
    | none =>
      obtain rfl := hs
      rw [ptr_none]
      go_wp2_with fail
      go_ret
      exact ⟨none, rfl, rfl, .inl ⟨HF.out.symm, rfl⟩⟩
    | some t =>
      obtain ⟨b, rfl, hN⟩ := hs
      cases t with
      | leaf k' v =>
        obtain ⟨A, n, c, A', n', c', hh⟩ := hN
        have c0 := hh.cells.1
        have HH := Lib.hid hh
        have HI := Lib.hid (isLeaf_yes hh rfl)
        rw [ptr_some] at HI ⊢
        obtain ⟨R, hR⟩ : ∃ R, (k' == k) = R := ⟨_, rfl⟩
        have HE := Lib.hid (equal_any A D n c m d B B2 k' k wr hh.key HK.out)
        rw [hR] at HE
        clear hh
        cases R with
        | true =>
          have HQ : Hid (k' = k) := Lib.hid (by simpa using hR)
          clear hR
          go_wp2_with fail
          refine HI.out.mono ?_
          rintro e w1 ⟨rfl, rfl⟩
          go_wp2_with fail
          refine HE.out.mono ?_
          rintro e w1 ⟨rfl, rfl⟩
          go_wp2_with fail
          go_ret
          have hq := HQ.out
          subst hq
          refine ⟨some b, by rw [ptr_some]; rfl, rfl, .inr ⟨b, v, ?_, rfl, ⟨A, n, c, A', n', c', HH.out⟩⟩⟩
          rw [← HF.out]
          simp [ofind, T.find]
        | false =>
          have HQ : Hid (k' ≠ k) := Lib.hid (by simpa using hR)
          clear hR
          go_wp2_with fail
          refine HI.out.mono ?_
          rintro e w1 ⟨rfl, rfl⟩
          go_wp2_with fail
          refine HE.out.mono ?_
          rintro e w1 ⟨rfl, rfl⟩
          go_wp2_with fail
          go_ret
          refine ⟨none, rfl, rfl, .inl ⟨?_, rfl⟩⟩
          rw [← HF.out]
          simp [ofind, T.find, HQ.out]
      | node l r =>
        obtain ⟨A, n, c, A', n', c', x, y, hh, hx, hy⟩ := hN
        have HI := Lib.hid (isLeaf_no hh (h_ne l r))
        have HL := Lib.hid (side_left hh)
        have HS := Lib.hid (side_right hh)
        have HRT := Lib.hid (fun R => isRight_any hh D m d B2 k HK.out R)
        have HX := Lib.hid hx
        have HY := Lib.hid hy
        rw [ptr_some] at HI HL HS HRT ⊢
        clear hh hx hy
        have HU : Hid (ofind (some (.node l r)) k = if lt k r.least then l.find k else r.find k) := Lib.hid rfl
        by_cases hlt : lt k r.least = true
        · have HR := Lib.hid (HRT.out false (by rw [show (T.node l r).key = r.least from rfl, hlt]; rfl))
          have HV : Hid (ofind (some l) k = ofind o k) := Lib.hid (by rw [← HF.out, HU.out, if_pos hlt]; rfl)
          clear HRT HU hlt HF
          go_wp2_with fail
          refine HI.out.mono ?_
          rintro e w1 ⟨rfl, rfl⟩
          go_wp2_with fail
          refine HR.out.mono ?_
          rintro e w1 ⟨rfl, rfl⟩
          go_wp2_with fail
          refine HL.out.mono ?_
          rintro e w1 ⟨rfl, rfl⟩
          go_wp2_with fail
          go_roundg (l.h + 1)
          case measure => show l.h + 1 < 1 + max l.h r.h + 1; omega
          case rel => exact ⟨some l, some x, rfl, rfl, ⟨x, rfl, HX.out⟩, HV.out, rfl⟩
        · have HR := Lib.hid (HRT.out true (by rw [show (T.node l r).key = r.least from rfl]; simpa using hlt))
          have HV : Hid (ofind (some r) k = ofind o k) := Lib.hid (by rw [← HF.out, HU.out, if_neg hlt]; rfl)
          clear HRT HU hlt HF
          go_wp2_with fail
          refine HI.out.mono ?_
          rintro e w1 ⟨rfl, rfl⟩
          go_wp2_with fail
          refine HR.out.mono ?_
          rintro e w1 ⟨rfl, rfl⟩
          go_wp2_with fail
          refine HS.out.mono ?_
          rintro e w1 ⟨rfl, rfl⟩
          go_wp2_with fail
          go_roundg (r.h + 1)
          case measure => show r.h + 1 < 1 + max l.h r.h + 1; omega
          case rel => exact ⟨some r, some y, rfl, rfl, ⟨y, rfl, HY.out⟩, HV.out, rfl⟩

theorem cut_n (k : List UInt8) : ∀ t t' : T, t.cut k = some t' → t'.n ≤ t.n
  | .leaf _ _, _, h => by cases h
  | .node l r, t', h => by
    change (if lt k r.least = true then (match l.cut k with | none => some r | some l' => some (bal l' r)) else (match r.cut k with | none => some l | some r' => some (bal l r'))) = some t' at h
    show t'.n ≤ l.n + r.n
    split at h
    · cases hc : l.cut k with
      | none =>
        rw [hc] at h
        injection h with h
        subst h
        omega
      | some l' =>
        rw [hc] at h
        injection h with h
        subst h
        have := cut_n k l l' hc
        rw [bal_n]; omega
    · cases hc : r.cut k with
      | none =>
        rw [hc] at h
        injection h with h
        subst h
        omega
      | some r' =>
        rw [hc] at h
        injection h with h
        subst h
        have := cut_n k r r' hc
        rw [bal_n]; omega

def WoPost (G : Nat → Prop) (o : Option T) (w : World) (e : Ending) (w' : World) : Prop := ∃ p, e = .returned (ptr p) ∧ PIn G w' w'.heap.size o p ∧ Below w.heap.size w w'

set_option maxRecDepth 100000 in
set_option maxHeartbeats 1000000 in
theorem without_any (D : Option Addr) (m d : Nat) (k : List UInt8) : ∀ (t : T) (b : Nat) (w : World) (_ : NIn G w w.heap.size t b) (_ : Rd w w.heap.size D m k) (_ : t.n ≤ 4294967296) (_ : Sh.Tab w 1) (_ : Room G w),
    Calls Tryd.prog 40 #[ptr (some b), .slice D m d] w (WoPost G (t.cut k) w)
  | .leaf k' v', b, w, hl, _, _, _, _ => by
    obtain ⟨A, n, c, A', n', c', hh⟩ := hl
    have HI := Lib.hid (isLeaf_yes hh rfl)
    clear hh
    rw [ptr_some] at HI ⊢
    go_enter Tryd.func40, Tryd.ntmps40
    go_wp2_with fail
    refine HI.out.mono ?_
    rintro e w1 ⟨rfl, rfl⟩
    go_wp2_with fail
    go_ret
    exact ⟨none, rfl, rfl, Below.refl _ _⟩
  | .node l r, b, w, hl, hk, hn, ht, hw => by
    obtain ⟨A, n, c, A', n', c', x, y, hh, hx, hy⟩ := hl
    have HI := Lib.hid (isLeaf_no hh (h_ne l r))
    have HRT := Lib.hid (fun R => isRight_any hh D m d w.heap.size k hk R)
    obtain ⟨c100, c101⟩ := hh.sides (Below.refl _ _)
    have e0 : (T.node l r).n = l.n + r.n := rfl
    have p1 := T.n_pos l
    have p2 := T.n_pos r
    have HH := Lib.hid hh
    have HX := Lib.hid hx
    have HY := Lib.hid hy
    have HT := Lib.hid ht
    have HW := Lib.hid hw
    rw [ptr_some] at HI HRT ⊢
    have HU : Hid ((T.node l r).cut k = if lt k r.least = true then (match l.cut k with | none => some r | some l' => some (bal l' r)) else (match r.cut k with | none => some l | some r' => some (bal l r'))) := Lib.hid rfl
    by_cases hlt : lt k r.least = true
    · rw [HU.out, if_pos hlt]
      have HR := Lib.hid (HRT.out false (by rw [show (T.node l r).key = r.least from rfl, hlt]; rfl))
      have HC1 := Lib.hid (without_any D m d k l x w hx hk (by omega) ht hw)
      rw [ptr_some] at HC1
      clear HRT HU hlt hh hx hy hk ht hw
      cases hc : l.cut k with
      | none =>
        rw [hc] at HC1
        clear hc
        go_enter Tryd.func40, Tryd.ntmps40
        go_wp2_with fail
        refine HI.out.mono ?_
        rintro e w1 ⟨rfl, rfl⟩
        go_wp2_with fail
        refine HR.out.mono ?_
        rintro e w1 ⟨rfl, rfl⟩
        go_wp2_with fail
        refine HC1.out.mono ?_
        rintro e w2 ⟨p, rfl, hP, hb2⟩
        obtain rfl := hP
        rw [ptr_none]
        clear c100 c101
        obtain ⟨c100, c101⟩ := HH.out.sides hb2
        have HB2 := Lib.hid hb2
        clear hb2
        go_wp2_with fail
        go_ret
        exact ⟨some y, rfl, ⟨y, rfl, HY.out.on HB2.out⟩, HB2.out⟩
      | some l' =>
        have hln := cut_n k l l' hc
        rw [hc] at HC1
        clear hc
        go_enter Tryd.func40, Tryd.ntmps40
        go_wp2_with fail
        refine HI.out.mono ?_
        rintro e w1 ⟨rfl, rfl⟩
        go_wp2_with fail
        refine HR.out.mono ?_
        rintro e w1 ⟨rfl, rfl⟩
        go_wp2_with fail
        refine HC1.out.mono ?_
        rintro e w2 ⟨p, rfl, hP, hb2⟩
        obtain ⟨b1, rfl, hN1⟩ := hP
        rw [ptr_some]
        clear c100 c101
        obtain ⟨c100, c101⟩ := HH.out.sides hb2
        have HC2 := Lib.hid (bal_any l' r b1 y w2 hN1 (HY.out.on hb2) (by omega) (Sh.tab_below HT.out hb2 HW.out.1) (HW.out.on hb2))
        rw [ptr_some, ptr_some] at HC2
        have HB2 := Lib.hid hb2
        clear hb2 hN1
        go_wp2_with fail
        refine HC2.out.mono ?_
        rintro e w3 ⟨b2, rfl, hN2, hb3⟩
        have HN2 := Lib.hid hN2
        have HB3 := Lib.hid (HB2.out.trans (hb3.mono HB2.out.size))
        clear hN2 hb3 c100 c101
        rw [ptr_some]
        go_wp2_with fail
        go_ret
        exact ⟨some b2, rfl, ⟨b2, rfl, HN2.out⟩, HB3.out⟩
    · rw [HU.out, if_neg hlt]
      have HR := Lib.hid (HRT.out true (by rw [show (T.node l r).key = r.least from rfl]; simpa using hlt))
      have HC1 := Lib.hid (without_any D m d k r y w hy hk (by omega) ht hw)
      rw [ptr_some] at HC1
      clear HRT HU hlt hh hx hy hk ht hw
      cases hc : r.cut k with
      | none =>
        rw [hc] at HC1
        clear hc
        go_enter Tryd.func40, Tryd.ntmps40
        go_wp2_with fail
        refine HI.out.mono ?_
        rintro e w1 ⟨rfl, rfl⟩
        go_wp2_with fail
        refine HR.out.mono ?_
        rintro e w1 ⟨rfl, rfl⟩
        go_wp2_with fail
        refine HC1.out.mono ?_
        rintro e w2 ⟨p, rfl, hP, hb2⟩
        obtain rfl := hP
        rw [ptr_none]
        clear c100 c101
        obtain ⟨c100, c101⟩ := HH.out.sides hb2
        have HB2 := Lib.hid hb2
        clear hb2
        go_wp2_with fail
        go_ret
        exact ⟨some x, rfl, ⟨x, rfl, HX.out.on HB2.out⟩, HB2.out⟩
      | some r' =>
        have hln := cut_n k r r' hc
        rw [hc] at HC1
        clear hc
        go_enter Tryd.func40, Tryd.ntmps40
        go_wp2_with fail
        refine HI.out.mono ?_
        rintro e w1 ⟨rfl, rfl⟩
        go_wp2_with fail
        refine HR.out.mono ?_
        rintro e w1 ⟨rfl, rfl⟩
        go_wp2_with fail
        refine HC1.out.mono ?_
        rintro e w2 ⟨p, rfl, hP, hb2⟩
        obtain ⟨b1, rfl, hN1⟩ := hP
        rw [ptr_some]
        clear c100 c101
        obtain ⟨c100, c101⟩ := HH.out.sides hb2
        have HC2 := Lib.hid (bal_any l r' x b1 w2 (HX.out.on hb2) hN1 (by omega) (Sh.tab_below HT.out hb2 HW.out.1) (HW.out.on hb2))
        rw [ptr_some, ptr_some] at HC2
        have HB2 := Lib.hid hb2
        clear hb2 hN1
        go_wp2_with fail
        refine HC2.out.mono ?_
        rintro e w3 ⟨b2, rfl, hN2, hb3⟩
        have HN2 := Lib.hid hN2
        have HB3 := Lib.hid (HB2.out.trans (hb3.mono HB2.out.size))
        clear hN2 hb3 c100 c101
        rw [ptr_some]
        go_wp2_with fail
        go_ret
        exact ⟨some b2, rfl, ⟨b2, rfl, HN2.out⟩, HB3.out⟩
end Go.Proofs.YtolkpjbbfopmnaaDoor
namespace Go.Proofs.YtolkpjbbfopmnaaDoor
open Go.RowKit
open Tr
variable {G : Nat → Prop}

/-- A node that is answered: its bytes lie in blocks that were not there at B. -/
structure Told (w : World) (B : Nat) (t : T) (cs : Array Value) (A : Option Addr) (n c : Nat) (A' : Option Addr) (n' c' : Nat) : Prop where
  eq : cs = (acells (.slice A n c) (.slice A' n' c') t.h t.n t.lsum t.rsum).toArray
  key : Rd w w.heap.size A n t.key
  knc : n ≤ c
  kle : n ≤ 96
  val : Rd w w.heap.size A' n' t.val
  vnc : n' ≤ c'
  vle : n' ≤ 256
  knew : Fresh B w A
  vnew : Fresh B w A'
def ToldPost (t : T) (w : World) (e : Ending) (w' : World) : Prop := ∃ cs A n c A' n' c', e = .returned (.agg cs) ∧ Told w' w.heap.size t cs A n c A' n' c' ∧ Below w.heap.size w w'

theorem acells_one (A A' : Option Addr) (n c n' c' : Nat) (h : Int) (z : Nat) (l r : List UInt8) : (acells (.slice A n c) (.slice A' n' c') h z l r).toArray.all (·.oneCell') = true := by
  refine all_oneCell_toArray fun u hu => ?_
  simp only [acells, List.mem_cons, List.mem_append] at hu
  rcases hu with rfl | rfl | rfl | rfl | hu | hu
  · rfl
  · rfl
  · rfl
  · rfl
  · exact one_bytes _ u hu
  · exact one_bytes _ u hu
theorem acells_set0 (kv kv' vv : Value) (h : Int) (z : Nat) (l r : List UInt8) : (acells kv vv h z l r).toArray.setIfInBounds 0 kv' = (acells kv' vv h z l r).toArray := rfl
theorem acells_set1 (kv vv vv' : Value) (h : Int) (z : Nat) (l r : List UInt8) : (acells kv vv h z l r).toArray.setIfInBounds 1 vv' = (acells kv vv' h z l r).toArray := rfl

theorem heap_setCells_other (g b : Nat) (hb : b ≠ g) : ∀ (vs : List Value) (o : Nat) (w : World), (w.setCells g o vs).heap[b]? = w.heap[b]? := by
  intro vs
  induction vs with
  | nil => intro o w; rfl
  | cons v r ih => intro o w; exact (ih (o + 1) _).trans (Below.heap_setCell w ⟨g, o, none⟩ v b hb)

set_option maxRecDepth 100000 in
set_option maxHeartbeats 1000000 in
theorem told_any (t : T) (b B : Nat) (w : World) (h : NIn G w B t b) (hB : B ≤ w.heap.size) : Calls Tryd.prog 46 #[ptr (some b)] w (ToldPost t w) := by
  have hz64 := zero64
  obtain ⟨A, n, c, A', n', c', x, y, hh⟩ := h.has
  have hlb : b < w.heap.size := Nat.lt_of_lt_of_le hh.lt hB
  have HH := Lib.hid hh
  clear h hh
  rw [ptr_some]
  go_enter Tryd.func46, Tryd.ntmps46
  go_upto_region 1 with (fail)
  have hb1 : Below w.heap.size w (w.alloc (.cells z64 47)) := (Below.refl _ _).alloc (Nat.le_refl _) _
  have hw1 := Whole.made w 47 z64
  have hs1 : (w.alloc (.cells z64 47)).heap.size = w.heap.size + 1 := size_alloc _ _
  generalize w.alloc (.cells z64 47) = w1 at *
  have HN := Lib.hid (HH.out.below hb1 hB)
  have HW1 := Lib.hid hw1
  have HB1 := Lib.hid hb1
  clear hb1 hw1
  have hl68 : (acells (.slice A n c) (.slice A' n' c') t.h t.n t.lsum t.rsum).length = 68 := acells_len _ _ _ _ _ _ (lsum32 t) (rsum32 t)
  have hz68 : (acells (.slice A n c) (.slice A' n' c') t.h t.n t.lsum t.rsum).toArray.size = 68 := by rw [List.size_toArray, hl68]
  refine wp_region_lit ?_
  iterate 9 go_step
  refine wpList_load_mid rfl 47 (.tmp 6) rfl b 0 rfl _ _ (ncells_arange HN.out.whole) Tryd.underlying47 rfl (by rw [hl68]; exact info64) ?_
  iterate 3 go_step
  clear hz64
  have hw2 := Whole.made w1 47 z64
  rw [hs1] at hw2
  refine wpList_store_mid rfl 47 (.tmp 3) (.tmp 7) rfl (w.heap.size + 1) 0 (acells (.slice A n c) (.slice A' n' c') t.h t.n t.lsum t.rsum).toArray rfl rfl ?_ ?_ (acells_one ..) ?_
  · rw [hz68]; exact hw2.there_
  · rw [hz68]; exact info64
  have hw3 := hw2.setAll (vs := (acells (.slice A n c) (.slice A' n' c') t.h t.n t.lsum t.rsum).toArray) (by rw [hz68]; rfl)
  have hb3 : Below w1.heap.size w1 ((w1.alloc (.cells z64 47)).setCells (w.heap.size + 1) 0 (acells (.slice A n c) (.slice A' n' c') t.h t.n t.lsum t.rsum).toArray.toList) := below_setCells w1 (w.heap.size + 1) _ 0 ((Below.refl _ _).alloc (Nat.le_refl _) _) (by omega)
  generalize (w1.alloc (.cells z64 47)).setCells (w.heap.size + 1) 0 (acells (.slice A n c) (.slice A' n' c') t.h t.n t.lsum t.rsum).toArray.toList = w3 at *
  rw [hs1] at hb3
  have hs3 : w.heap.size + 1 < w3.heap.size := hw3.lt
  have HW3 := Lib.hid hw3
  have HR3 := Lib.hid (HW1.out.below hb3 (Nat.lt_succ_self _))
  have HN3 := Lib.hid (HN.out.below hb3 (by omega))
  have HB3 := Lib.hid (HB1.out.trans (hb3.mono (Nat.le_succ _)))
  clear hw2 hw3 hb3 HN HW1 HB1 HH
  clear hs1
  go_upto_region 2 with (fail)
  have HLEN := Lib.hid (And.intro HN3.out.key.len HN3.out.val.len)
  have hn96 := HN3.out.kle
  have hn256 := HN3.out.vle
  have HW4 : Hid (Whole w3.drew (w.heap.size + 1) 47 _) := Lib.hid HW3.out
  have HR4 : Hid (Whole w3.drew w.heap.size 47 z64) := Lib.hid HR3.out
  have HK4 : Hid (Rd w3.drew w.heap.size A n t.key) := Lib.hid (HN3.out.key.more hB)
  have HV4 : Hid (Rd w3.drew w.heap.size A' n' t.val) := Lib.hid (HN3.out.val.more hB)
  have HB4 := Lib.hid (HB3.out.drew)
  have hs4 : w.heap.size + 1 < w3.drew.heap.size := hs3
  refine wp_region_held_drew (S := fun _ => True) (by kernel_rfl) trivial (fun hHeld => ?_)
  have hHeld := True.intro
  refine wpAnyH_take (i := 0) (oi := { dst := some 8, op := Op.fieldAddr 47 (Operand.tmp 3) 0, type := 0, pos := "node.go:147", after := #[], guard := none }) (v := ?_) rfl (by kernel_rfl) (by kernel_rfl) (by kernel_rfl) (fun _ _ _ h => h) (Or.inl ⟨by rfl, ?_⟩) (by assumption) ?_
  rotate_left
  · first | (intro w hSw; (try dsimp only at hSw); go_simp; done) | (intro w hSw; (try dsimp only at hSw); go_simp; with_reducible rfl)
  simp only [Act.put, List.setIfInBounds_toArray, List.set_cons_zero, List.set_cons_succ]
  refine wpAnyH_take (i := 3) (oi := { dst := some 11, op := Op.fieldAddr 47 (Operand.tmp 3) 1, type := 0, pos := "node.go:147", after := #[], guard := none }) (v := ?_) rfl (by kernel_rfl) (by kernel_rfl) (by kernel_rfl) (fun _ _ _ h => h) (Or.inl ⟨by rfl, ?_⟩) (by assumption) ?_
  rotate_left
  · first | (intro w hSw; (try dsimp only at hSw); go_simp; done) | (intro w hSw; (try dsimp only at hSw); go_simp; with_reducible rfl)
  simp only [Act.put, List.setIfInBounds_toArray, List.set_cons_zero, List.set_cons_succ]
  clear hs3 HW3 HR3 HN3 HB3
  generalize w3.drew = w4 at *
  have k0 : w4.cell? ⟨w.heap.size + 1, 0, none⟩ = some (.slice A n c) := HW4.out.at_ rfl
  have k1 : w4.cell? ⟨w.heap.size + 1, 1, none⟩ = some (.slice A' n' c') := HW4.out.at_ rfl
  have HC1 := Lib.hid (clone_new A n c t.key w4 (HK4.out.more (by omega)) (by omega))
  refine wpAnyH_ready (rs := [1, 4]) (by kernel_rfl) (by simp) ?_
  refine AllReadyH.cons rfl (fun K hK => ?_) (AllReadyH.cons rfl (fun K hK => ?_) AllReadyH.nil)
  · go_simp
    refine hK.out _ _ trivial (fun _ => ?_)
    clear hK K
    refine wpAnyH_ready (rs := [2, 4]) (by kernel_rfl) (by simp) ?_
    refine AllReadyH.cons rfl (fun K hK => ?_) (AllReadyH.cons rfl (fun K hK => ?_) AllReadyH.nil)
    · go_simp
      refine HC1.out.mono ?_
      rintro e w5 ⟨A1, n1, c1, rfl, hr5, hnc1, hnew1, hb5⟩
      have HW5 := Lib.hid (HW4.out.below hb5 hs4)
      have HR5 := Lib.hid (HR4.out.below hb5 (by omega))
      have HV5 := Lib.hid (HV4.out.below hb5 (by omega))
      have hs5 : w4.heap.size ≤ w5.heap.size := hb5.size
      have HB5 := Lib.hid (HB4.out.trans (hb5.mono (by omega)))
      have HK5 := Lib.hid hr5
      have HNEW1 : Hid (Fresh (w.heap.size + 2) w5 A1) := Lib.hid (hnew1.less (by omega))
      have m1 : w5.cell? ⟨w.heap.size + 1, 1, none⟩ = some (.slice A' n' c') := HW5.out.at_ rfl
      refine hK.out _ _ trivial (fun _ => ?_)
      clear hK K HC1 hr5 hnew1 hb5 HW4 HR4 HV4 HB4 HK4 k0 k1
      refine wpAnyH_ready (rs := [4]) (by kernel_rfl) (by simp) ?_
      refine AllReadyH.cons rfl (fun K hK => ?_) AllReadyH.nil
      go_simp
      refine hK.out _ _ trivial (fun _ => ?_)
      clear hK K
      refine wpAnyH_take (i := 6) (oi := { dst := some 14, op := Op.fieldAddr 47 (Operand.tmp 3) 0, type := 0, pos := "node.go:147", after := #[{ on := 0, ground := Ground.phase }, { on := 1, ground := Ground.phase }, { on := 2, ground := Ground.phase }, { on := 3, ground := Ground.phase }, { on := 4, ground := Ground.phase }, { on := 5, ground := Ground.textOnly Departure.lateStoresUnsure }], guard := none }) (v := ?_) rfl (by kernel_rfl) (by kernel_rfl) (by kernel_rfl) (fun _ _ _ h => h) (Or.inl ⟨by rfl, ?_⟩) (by assumption) ?_
      rotate_left
      · first | (intro w hSw; (try dsimp only at hSw); go_simp; done) | (intro w hSw; (try dsimp only at hSw); go_simp; with_reducible rfl)
      simp only [Act.put, List.setIfInBounds_toArray, List.set_cons_zero, List.set_cons_succ]
      clear m1
      have HC2 := Lib.hid (clone_new A' n' c' t.val w5 (HV5.out.more (by omega)) (by omega))
      refine wpAnyH_ready (rs := [5]) (by kernel_rfl) (by simp) ?_
      refine AllReadyH.cons rfl (fun K hK => ?_) AllReadyH.nil
      go_simp
      refine HC2.out.mono ?_
      rintro e w6 ⟨A2, n2, c2, rfl, hr6, hnc2, hnew2, hb6⟩
      have hs6 : w5.heap.size ≤ w6.heap.size := hb6.size
      have hw6 := HW5.out.below hb6 (by omega)
      have HR6 := Lib.hid (HR5.out.below hb6 (by omega))
      have HB6 := Lib.hid (HB5.out.trans (hb6.mono (by omega)))
      have HK6 := Lib.hid ((HK5.out.below hb6 (Nat.le_refl _)).more hs6)
      have HV6 := Lib.hid hr6
      have HNEW2 : Hid (Fresh (w.heap.size + 2) w6 A2) := Lib.hid (hnew2.less (by omega))
      have HNEW1 := Lib.hid (HNEW1.out.below hb6 (Nat.le_refl _))
      have HW6 := Lib.hid hw6
      refine hK.out _ _ trivial (fun _ => ?_)
      clear hK K HC2 hr6 hnew2 hb6 HW5 HR5 HV5 HB5 HK5 hw6
      have f0 := HW6.out.free 0
      have k0 : w6.cell? ⟨w.heap.size + 1, 0, none⟩ = some (.slice A n c) := HW6.out.at_ rfl
      refine wpAnyH_ready (rs := [7]) (by kernel_rfl) (by simp) ?_
      refine AllReadyH.cons rfl (fun K hK => ?_) AllReadyH.nil
      go_simp
      have hw7 := HW6.out.set 0 (.slice A1 n1 c1)
      rw [acells_set0] at hw7
      have hq7 : ∀ b, b ≠ w.heap.size + 1 → (w6.setCell ⟨w.heap.size + 1, 0, none⟩ (.slice A1 n1 c1)).heap[b]? = w6.heap[b]? := fun b hb => Below.heap_setCell w6 ⟨w.heap.size + 1, 0, none⟩ _ b hb
      have hb7 : Below w.heap.size w (w6.setCell ⟨w.heap.size + 1, 0, none⟩ (.slice A1 n1 c1)) := HB6.out.setCell (Nat.le_succ _) _
      have hz7 : (w6.setCell ⟨w.heap.size + 1, 0, none⟩ (.slice A1 n1 c1)).heap.size = w6.heap.size := by simp
      refine hK.out _ _ trivial (fun _ => ?_)
      clear hK K
      generalize w6.setCell ⟨w.heap.size + 1, 0, none⟩ (.slice A1 n1 c1) = w7 at *
      have HR7 := Lib.hid ((hq7 w.heap.size (by omega)).trans HR6.out)
      have HK7 := Lib.hid (HK6.out.keepG (G := fun b => w.heap.size + 1 < b) (fun _ b o e => (HNEW1.out b o e).1) (fun b _ hg => hq7 b (by omega)))
      have HV7 := Lib.hid (HV6.out.keepG (G := fun b => w.heap.size + 1 < b) (fun _ b o e => (HNEW2.out b o e).1) (fun b _ hg => hq7 b (by omega)))
      have HNEW1 := Lib.hid (HNEW1.out.keep (fun b h _ => hq7 b (by omega)) (Nat.le_of_eq hz7.symm))
      have HNEW2 := Lib.hid (HNEW2.out.keep (fun b h _ => hq7 b (by omega)) (Nat.le_of_eq hz7.symm))
      have HW7 := Lib.hid hw7
      have HB7 := Lib.hid hb7
      clear f0 k0 hq7 hw7 hb7 HW6 HR6 HB6 HK6 HV6
      refine wpAnyH_take (i := 8) (oi := { dst := some 15, op := Op.fieldAddr 47 (Operand.tmp 3) 1, type := 0, pos := "node.go:147", after := #[{ on := 0, ground := Ground.phase }, { on := 1, ground := Ground.phase }, { on := 2, ground := Ground.phase }, { on := 3, ground := Ground.phase }, { on := 4, ground := Ground.phase }, { on := 5, ground := Ground.phase }, { on := 6, ground := Ground.phase }, { on := 7, ground := Ground.phase }], guard := none }) (v := ?_) rfl (by kernel_rfl) (by kernel_rfl) (by kernel_rfl) (fun _ _ _ h => h) (Or.inl ⟨by rfl, ?_⟩) (by assumption) ?_
      rotate_left
      · first | (intro w hSw; (try dsimp only at hSw); go_simp; done) | (intro w hSw; (try dsimp only at hSw); go_simp; with_reducible rfl)
      simp only [Act.put, List.setIfInBounds_toArray, List.set_cons_zero, List.set_cons_succ]
      have f1 := HW7.out.free 1
      have k1 : w7.cell? ⟨w.heap.size + 1, 1, none⟩ = some (.slice A' n' c') := HW7.out.at_ rfl
      refine wpAnyH_ready (rs := [9]) (by kernel_rfl) (by simp) ?_
      refine AllReadyH.cons rfl (fun K hK => ?_) AllReadyH.nil
      go_simp
      have hw8 := HW7.out.set 1 (.slice A2 n2 c2)
      rw [acells_set1] at hw8
      have hq8 : ∀ b, b ≠ w.heap.size + 1 → (w7.setCell ⟨w.heap.size + 1, 1, none⟩ (.slice A2 n2 c2)).heap[b]? = w7.heap[b]? := fun b hb => Below.heap_setCell w7 ⟨w.heap.size + 1, 1, none⟩ _ b hb
      have hb8 : Below w.heap.size w (w7.setCell ⟨w.heap.size + 1, 1, none⟩ (.slice A2 n2 c2)) := HB7.out.setCell (Nat.le_succ _) _
      have hz8 : (w7.setCell ⟨w.heap.size + 1, 1, none⟩ (.slice A2 n2 c2)).heap.size = w7.heap.size := by simp
      refine hK.out _ _ trivial (fun _ => ?_)
      clear hK K
      generalize w7.setCell ⟨w.heap.size + 1, 1, none⟩ (.slice A2 n2 c2) = w8 at *
      have HR8 : Hid (Whole w8 w.heap.size 47 z64) := Lib.hid ((hq8 w.heap.size (by omega)).trans HR7.out)
      have HK8 := Lib.hid (HK7.out.keepG (G := fun b => w.heap.size + 1 < b) (fun _ b o e => (HNEW1.out b o e).1) (fun b _ hg => hq8 b (by omega)))
      have HV8 := Lib.hid (HV7.out.keepG (G := fun b => w.heap.size + 1 < b) (fun _ b o e => (HNEW2.out b o e).1) (fun b _ hg => hq8 b (by omega)))
      have HNEW1 := Lib.hid (HNEW1.out.keep (fun b h _ => hq8 b (by omega)) (Nat.le_of_eq hz8.symm))
      have HNEW2 := Lib.hid (HNEW2.out.keep (fun b h _ => hq8 b (by omega)) (Nat.le_of_eq hz8.symm))
      have HW8 := Lib.hid hw8
      have HB8 := Lib.hid hb8
      clear f1 k1 hq8 hw8 hb8 HW7 HR7 HB7 HK7 HV7
      refine wpAnyH_done (by kernel_rfl) ?_ _
      go_upto_region 3 with (fail)
      have hl2 : (acells (.slice A1 n1 c1) (.slice A2 n2 c2) t.h t.n t.lsum t.rsum).length = 68 := acells_len _ _ _ _ _ _ (lsum32 t) (rsum32 t)
      have hz2 : (acells (.slice A1 n1 c1) (.slice A2 n2 c2) t.h t.n t.lsum t.rsum).toArray.size = 68 := by rw [List.size_toArray, hl2]
      refine wp_region_lit ?_
      refine wpList_load_mid rfl 47 (.tmp 3) rfl (w.heap.size + 1) 0 rfl _ _ HW8.out.range Tryd.underlying47 rfl (by rw [hl2]; exact info64) ?_
      refine wpList_store_mid rfl 47 (.tmp 2) (.tmp 16) rfl w.heap.size 0 (acells (.slice A1 n1 c1) (.slice A2 n2 c2) t.h t.n t.lsum t.rsum).toArray rfl rfl ?_ ?_ (acells_one ..) ?_
      · rw [hz2]; exact HR8.out.there_
      · rw [hz2]; exact info64
      have hw9 := HR8.out.setAll (vs := (acells (.slice A1 n1 c1) (.slice A2 n2 c2) t.h t.n t.lsum t.rsum).toArray) (by rw [hz2]; rfl)
      have hb9 := below_setCells w w.heap.size (acells (.slice A1 n1 c1) (.slice A2 n2 c2) t.h t.n t.lsum t.rsum).toArray.toList 0 HB8.out (Nat.le_refl _)
      have hsz9 := size_setCells w.heap.size (acells (.slice A1 n1 c1) (.slice A2 n2 c2) t.h t.n t.lsum t.rsum).toArray.toList 0 w8
      have hbq : ∀ b, b ≠ w.heap.size → (w8.setCells w.heap.size 0 (acells (.slice A1 n1 c1) (.slice A2 n2 c2) t.h t.n t.lsum t.rsum).toArray.toList).heap[b]? = w8.heap[b]? := fun b hb => heap_setCells_other w.heap.size b hb _ 0 w8
      show wpList _ _ _ _ _ (w8.setCells w.heap.size 0 (acells (.slice A1 n1 c1) (.slice A2 n2 c2) t.h t.n t.lsum t.rsum).toArray.toList)
      generalize w8.setCells w.heap.size 0 (acells (.slice A1 n1 c1) (.slice A2 n2 c2) t.h t.n t.lsum t.rsum).toArray.toList = w9 at *
      have HK9 := Lib.hid (HK8.out.keepG (G := fun b => w.heap.size + 1 < b) (fun _ b o e => (HNEW1.out b o e).1) (fun b _ hg => hbq b (by omega)))
      have HV9 := Lib.hid (HV8.out.keepG (G := fun b => w.heap.size + 1 < b) (fun _ b o e => (HNEW2.out b o e).1) (fun b _ hg => hbq b (by omega)))
      have HNEW1 := Lib.hid (HNEW1.out.keep (fun b h _ => hbq b (by omega)) (Nat.le_of_eq hsz9.symm))
      have HNEW2 := Lib.hid (HNEW2.out.keep (fun b h _ => hbq b (by omega)) (Nat.le_of_eq hsz9.symm))
      have HW9 := Lib.hid hw9
      have HB9 := Lib.hid hb9
      clear hw9 hb9 hbq HW8 HB8 HK8 HV8 HR8
      go_wp2_with fail
      have hk1 := HK9.out.len
      have hk2 := HV9.out.len
      have hk3 := HLEN.out.1
      have hk4 := HLEN.out.2
      refine bodyPost_ret (results_cell1 Tryd.results46 _ _ _ ⟨w.heap.size, 0, none⟩ _ rfl (load_whole HW9.out 47 _ Tryd.underlying47 rfl (by rw [hz2]; exact info64))) rfl ⟨_, A1, n1, c1, A2, n2, c2, rfl, ⟨rfl, HK9.out.more (by omega), hnc1, by omega, HV9.out.more (by omega), hnc2, by omega, HNEW1.out.less (by omega), HNEW2.out.less (by omega)⟩, HB9.out⟩
    · go_simp
      refine hK.out _ _ trivial (fun _ => ?_)
      clear hK K
      refine wpAnyH_ready (rs := [2]) (by kernel_rfl) (by simp) ?_
      refine AllReadyH.cons rfl (fun K hK => ?_) AllReadyH.nil
      go_simp
      refine HC1.out.mono ?_
      rintro e w5 ⟨A1, n1, c1, rfl, hr5, hnc1, hnew1, hb5⟩
      have HW5 := Lib.hid (HW4.out.below hb5 hs4)
      have HR5 := Lib.hid (HR4.out.below hb5 (by omega))
      have HV5 := Lib.hid (HV4.out.below hb5 (by omega))
      have hs5 : w4.heap.size ≤ w5.heap.size := hb5.size
      have HB5 := Lib.hid (HB4.out.trans (hb5.mono (by omega)))
      have HK5 := Lib.hid hr5
      have HNEW1 : Hid (Fresh (w.heap.size + 2) w5 A1) := Lib.hid (hnew1.less (by omega))
      have m1 : w5.cell? ⟨w.heap.size + 1, 1, none⟩ = some (.slice A' n' c') := HW5.out.at_ rfl
      refine hK.out _ _ trivial (fun _ => ?_)
      clear hK K HC1 hr5 hnew1 hb5 HW4 HR4 HV4 HB4 HK4 k0 k1
      refine wpAnyH_take (i := 6) (oi := { dst := some 14, op := Op.fieldAddr 47 (Operand.tmp 3) 0, type := 0, pos := "node.go:147", after := #[{ on := 0, ground := Ground.phase }, { on := 1, ground := Ground.phase }, { on := 2, ground := Ground.phase }, { on := 3, ground := Ground.phase }, { on := 4, ground := Ground.phase }, { on := 5, ground := Ground.textOnly Departure.lateStoresUnsure }], guard := none }) (v := ?_) rfl (by kernel_rfl) (by kernel_rfl) (by kernel_rfl) (fun _ _ _ h => h) (Or.inl ⟨by rfl, ?_⟩) (by assumption) ?_
      rotate_left
      · first | (intro w hSw; (try dsimp only at hSw); go_simp; done) | (intro w hSw; (try dsimp only at hSw); go_simp; with_reducible rfl)
      simp only [Act.put, List.setIfInBounds_toArray, List.set_cons_zero, List.set_cons_succ]
      clear m1
      have HC2 := Lib.hid (clone_new A' n' c' t.val w5 (HV5.out.more (by omega)) (by omega))
      refine wpAnyH_ready (rs := [5]) (by kernel_rfl) (by simp) ?_
      refine AllReadyH.cons rfl (fun K hK => ?_) AllReadyH.nil
      go_simp
      refine HC2.out.mono ?_
      rintro e w6 ⟨A2, n2, c2, rfl, hr6, hnc2, hnew2, hb6⟩
      have hs6 : w5.heap.size ≤ w6.heap.size := hb6.size
      have hw6 := HW5.out.below hb6 (by omega)
      have HR6 := Lib.hid (HR5.out.below hb6 (by omega))
      have HB6 := Lib.hid (HB5.out.trans (hb6.mono (by omega)))
      have HK6 := Lib.hid ((HK5.out.below hb6 (Nat.le_refl _)).more hs6)
      have HV6 := Lib.hid hr6
      have HNEW2 : Hid (Fresh (w.heap.size + 2) w6 A2) := Lib.hid (hnew2.less (by omega))
      have HNEW1 := Lib.hid (HNEW1.out.below hb6 (Nat.le_refl _))
      have HW6 := Lib.hid hw6
      refine hK.out _ _ trivial (fun _ => ?_)
      clear hK K HC2 hr6 hnew2 hb6 HW5 HR5 HV5 HB5 HK5 hw6
      have f0 := HW6.out.free 0
      have k0 : w6.cell? ⟨w.heap.size + 1, 0, none⟩ = some (.slice A n c) := HW6.out.at_ rfl
      refine wpAnyH_ready (rs := [7]) (by kernel_rfl) (by simp) ?_
      refine AllReadyH.cons rfl (fun K hK => ?_) AllReadyH.nil
      go_simp
      have hw7 := HW6.out.set 0 (.slice A1 n1 c1)
      rw [acells_set0] at hw7
      have hq7 : ∀ b, b ≠ w.heap.size + 1 → (w6.setCell ⟨w.heap.size + 1, 0, none⟩ (.slice A1 n1 c1)).heap[b]? = w6.heap[b]? := fun b hb => Below.heap_setCell w6 ⟨w.heap.size + 1, 0, none⟩ _ b hb
      have hb7 : Below w.heap.size w (w6.setCell ⟨w.heap.size + 1, 0, none⟩ (.slice A1 n1 c1)) := HB6.out.setCell (Nat.le_succ _) _
      have hz7 : (w6.setCell ⟨w.heap.size + 1, 0, none⟩ (.slice A1 n1 c1)).heap.size = w6.heap.size := by simp
      refine hK.out _ _ trivial (fun _ => ?_)
      clear hK K
      generalize w6.setCell ⟨w.heap.size + 1, 0, none⟩ (.slice A1 n1 c1) = w7 at *
      have HR7 := Lib.hid ((hq7 w.heap.size (by omega)).trans HR6.out)
      have HK7 := Lib.hid (HK6.out.keepG (G := fun b => w.heap.size + 1 < b) (fun _ b o e => (HNEW1.out b o e).1) (fun b _ hg => hq7 b (by omega)))
      have HV7 := Lib.hid (HV6.out.keepG (G := fun b => w.heap.size + 1 < b) (fun _ b o e => (HNEW2.out b o e).1) (fun b _ hg => hq7 b (by omega)))
      have HNEW1 := Lib.hid (HNEW1.out.keep (fun b h _ => hq7 b (by omega)) (Nat.le_of_eq hz7.symm))
      have HNEW2 := Lib.hid (HNEW2.out.keep (fun b h _ => hq7 b (by omega)) (Nat.le_of_eq hz7.symm))
      have HW7 := Lib.hid hw7
      have HB7 := Lib.hid hb7
      clear f0 k0 hq7 hw7 hb7 HW6 HR6 HB6 HK6 HV6
      refine wpAnyH_take (i := 8) (oi := { dst := some 15, op := Op.fieldAddr 47 (Operand.tmp 3) 1, type := 0, pos := "node.go:147", after := #[{ on := 0, ground := Ground.phase }, { on := 1, ground := Ground.phase }, { on := 2, ground := Ground.phase }, { on := 3, ground := Ground.phase }, { on := 4, ground := Ground.phase }, { on := 5, ground := Ground.phase }, { on := 6, ground := Ground.phase }, { on := 7, ground := Ground.phase }], guard := none }) (v := ?_) rfl (by kernel_rfl) (by kernel_rfl) (by kernel_rfl) (fun _ _ _ h => h) (Or.inl ⟨by rfl, ?_⟩) (by assumption) ?_
      rotate_left
      · first | (intro w hSw; (try dsimp only at hSw); go_simp; done) | (intro w hSw; (try dsimp only at hSw); go_simp; with_reducible rfl)
      simp only [Act.put, List.setIfInBounds_toArray, List.set_cons_zero, List.set_cons_succ]
      have f1 := HW7.out.free 1
      have k1 : w7.cell? ⟨w.heap.size + 1, 1, none⟩ = some (.slice A' n' c') := HW7.out.at_ rfl
      refine wpAnyH_ready (rs := [9]) (by kernel_rfl) (by simp) ?_
      refine AllReadyH.cons rfl (fun K hK => ?_) AllReadyH.nil
      go_simp
      have hw8 := HW7.out.set 1 (.slice A2 n2 c2)
      rw [acells_set1] at hw8
      have hq8 : ∀ b, b ≠ w.heap.size + 1 → (w7.setCell ⟨w.heap.size + 1, 1, none⟩ (.slice A2 n2 c2)).heap[b]? = w7.heap[b]? := fun b hb => Below.heap_setCell w7 ⟨w.heap.size + 1, 1, none⟩ _ b hb
      have hb8 : Below w.heap.size w (w7.setCell ⟨w.heap.size + 1, 1, none⟩ (.slice A2 n2 c2)) := HB7.out.setCell (Nat.le_succ _) _
      have hz8 : (w7.setCell ⟨w.heap.size + 1, 1, none⟩ (.slice A2 n2 c2)).heap.size = w7.heap.size := by simp
      refine hK.out _ _ trivial (fun _ => ?_)
      clear hK K
      generalize w7.setCell ⟨w.heap.size + 1, 1, none⟩ (.slice A2 n2 c2) = w8 at *
      have HR8 : Hid (Whole w8 w.heap.size 47 z64) := Lib.hid ((hq8 w.heap.size (by omega)).trans HR7.out)
      have HK8 := Lib.hid (HK7.out.keepG (G := fun b => w.heap.size + 1 < b) (fun _ b o e => (HNEW1.out b o e).1) (fun b _ hg => hq8 b (by omega)))
      have HV8 := Lib.hid (HV7.out.keepG (G := fun b => w.heap.size + 1 < b) (fun _ b o e => (HNEW2.out b o e).1) (fun b _ hg => hq8 b (by omega)))
      have HNEW1 := Lib.hid (HNEW1.out.keep (fun b h _ => hq8 b (by omega)) (Nat.le_of_eq hz8.symm))
      have HNEW2 := Lib.hid (HNEW2.out.keep (fun b h _ => hq8 b (by omega)) (Nat.le_of_eq hz8.symm))
      have HW8 := Lib.hid hw8
      have HB8 := Lib.hid hb8
      clear f1 k1 hq8 hw8 hb8 HW7 HR7 HB7 HK7 HV7
      refine wpAnyH_done (by kernel_rfl) ?_ _
      go_upto_region 3 with (fail)
      have hl2 : (acells (.slice A1 n1 c1) (.slice A2 n2 c2) t.h t.n t.lsum t.rsum).length = 68 := acells_len _ _ _ _ _ _ (lsum32 t) (rsum32 t)
      have hz2 : (acells (.slice A1 n1 c1) (.slice A2 n2 c2) t.h t.n t.lsum t.rsum).toArray.size = 68 := by rw [List.size_toArray, hl2]
      refine wp_region_lit ?_
      refine wpList_load_mid rfl 47 (.tmp 3) rfl (w.heap.size + 1) 0 rfl _ _ HW8.out.range Tryd.underlying47 rfl (by rw [hl2]; exact info64) ?_
      refine wpList_store_mid rfl 47 (.tmp 2) (.tmp 16) rfl w.heap.size 0 (acells (.slice A1 n1 c1) (.slice A2 n2 c2) t.h t.n t.lsum t.rsum).toArray rfl rfl ?_ ?_ (acells_one ..) ?_
      · rw [hz2]; exact HR8.out.there_
      · rw [hz2]; exact info64
      have hw9 := HR8.out.setAll (vs := (acells (.slice A1 n1 c1) (.slice A2 n2 c2) t.h t.n t.lsum t.rsum).toArray) (by rw [hz2]; rfl)
      have hb9 := below_setCells w w.heap.size (acells (.slice A1 n1 c1) (.slice A2 n2 c2) t.h t.n t.lsum t.rsum).toArray.toList 0 HB8.out (Nat.le_refl _)
      have hsz9 := size_setCells w.heap.size (acells (.slice A1 n1 c1) (.slice A2 n2 c2) t.h t.n t.lsum t.rsum).toArray.toList 0 w8
      have hbq : ∀ b, b ≠ w.heap.size → (w8.setCells w.heap.size 0 (acells (.slice A1 n1 c1) (.slice A2 n2 c2) t.h t.n t.lsum t.rsum).toArray.toList).heap[b]? = w8.heap[b]? := fun b hb => heap_setCells_other w.heap.size b hb _ 0 w8
      show wpList _ _ _ _ _ (w8.setCells w.heap.size 0 (acells (.slice A1 n1 c1) (.slice A2 n2 c2) t.h t.n t.lsum t.rsum).toArray.toList)
      generalize w8.setCells w.heap.size 0 (acells (.slice A1 n1 c1) (.slice A2 n2 c2) t.h t.n t.lsum t.rsum).toArray.toList = w9 at *
      have HK9 := Lib.hid (HK8.out.keepG (G := fun b => w.heap.size + 1 < b) (fun _ b o e => (HNEW1.out b o e).1) (fun b _ hg => hbq b (by omega)))
      have HV9 := Lib.hid (HV8.out.keepG (G := fun b => w.heap.size + 1 < b) (fun _ b o e => (HNEW2.out b o e).1) (fun b _ hg => hbq b (by omega)))
      have HNEW1 := Lib.hid (HNEW1.out.keep (fun b h _ => hbq b (by omega)) (Nat.le_of_eq hsz9.symm))
      have HNEW2 := Lib.hid (HNEW2.out.keep (fun b h _ => hbq b (by omega)) (Nat.le_of_eq hsz9.symm))
      have HW9 := Lib.hid hw9
      have HB9 := Lib.hid hb9
      clear hw9 hb9 hbq HW8 HB8 HK8 HV8 HR8
      go_wp2_with fail
      have hk1 := HK9.out.len
      have hk2 := HV9.out.len
      have hk3 := HLEN.out.1
      have hk4 := HLEN.out.2
      refine bodyPost_ret (results_cell1 Tryd.results46 _ _ _ ⟨w.heap.size, 0, none⟩ _ rfl (load_whole HW9.out 47 _ Tryd.underlying47 rfl (by rw [hz2]; exact info64))) rfl ⟨_, A1, n1, c1, A2, n2, c2, rfl, ⟨rfl, HK9.out.more (by omega), hnc1, by omega, HV9.out.more (by omega), hnc2, by omega, HNEW1.out.less (by omega), HNEW2.out.less (by omega)⟩, HB9.out⟩
  · go_simp
    refine hK.out _ _ trivial (fun _ => ?_)
    clear hK K
    refine wpAnyH_ready (rs := [1]) (by kernel_rfl) (by simp) ?_
    refine AllReadyH.cons rfl (fun K hK => ?_) AllReadyH.nil
    go_simp
    refine hK.out _ _ trivial (fun _ => ?_)
    clear hK K
    refine wpAnyH_ready (rs := [2]) (by kernel_rfl) (by simp) ?_
    refine AllReadyH.cons rfl (fun K hK => ?_) AllReadyH.nil
    go_simp
    refine HC1.out.mono ?_
    rintro e w5 ⟨A1, n1, c1, rfl, hr5, hnc1, hnew1, hb5⟩
    have HW5 := Lib.hid (HW4.out.below hb5 hs4)
    have HR5 := Lib.hid (HR4.out.below hb5 (by omega))
    have HV5 := Lib.hid (HV4.out.below hb5 (by omega))
    have hs5 : w4.heap.size ≤ w5.heap.size := hb5.size
    have HB5 := Lib.hid (HB4.out.trans (hb5.mono (by omega)))
    have HK5 := Lib.hid hr5
    have HNEW1 : Hid (Fresh (w.heap.size + 2) w5 A1) := Lib.hid (hnew1.less (by omega))
    have m1 : w5.cell? ⟨w.heap.size + 1, 1, none⟩ = some (.slice A' n' c') := HW5.out.at_ rfl
    refine hK.out _ _ trivial (fun _ => ?_)
    clear hK K HC1 hr5 hnew1 hb5 HW4 HR4 HV4 HB4 HK4 k0 k1
    refine wpAnyH_take (i := 6) (oi := { dst := some 14, op := Op.fieldAddr 47 (Operand.tmp 3) 0, type := 0, pos := "node.go:147", after := #[{ on := 0, ground := Ground.phase }, { on := 1, ground := Ground.phase }, { on := 2, ground := Ground.phase }, { on := 3, ground := Ground.phase }, { on := 4, ground := Ground.phase }, { on := 5, ground := Ground.textOnly Departure.lateStoresUnsure }], guard := none }) (v := ?_) rfl (by kernel_rfl) (by kernel_rfl) (by kernel_rfl) (fun _ _ _ h => h) (Or.inl ⟨by rfl, ?_⟩) (by assumption) ?_
    rotate_left
    · first | (intro w hSw; (try dsimp only at hSw); go_simp; done) | (intro w hSw; (try dsimp only at hSw); go_simp; with_reducible rfl)
    simp only [Act.put, List.setIfInBounds_toArray, List.set_cons_zero, List.set_cons_succ]
    clear m1
    have HC2 := Lib.hid (clone_new A' n' c' t.val w5 (HV5.out.more (by omega)) (by omega))
    refine wpAnyH_ready (rs := [5]) (by kernel_rfl) (by simp) ?_
    refine AllReadyH.cons rfl (fun K hK => ?_) AllReadyH.nil
    go_simp
    refine HC2.out.mono ?_
    rintro e w6 ⟨A2, n2, c2, rfl, hr6, hnc2, hnew2, hb6⟩
    have hs6 : w5.heap.size ≤ w6.heap.size := hb6.size
    have hw6 := HW5.out.below hb6 (by omega)
    have HR6 := Lib.hid (HR5.out.below hb6 (by omega))
    have HB6 := Lib.hid (HB5.out.trans (hb6.mono (by omega)))
    have HK6 := Lib.hid ((HK5.out.below hb6 (Nat.le_refl _)).more hs6)
    have HV6 := Lib.hid hr6
    have HNEW2 : Hid (Fresh (w.heap.size + 2) w6 A2) := Lib.hid (hnew2.less (by omega))
    have HNEW1 := Lib.hid (HNEW1.out.below hb6 (Nat.le_refl _))
    have HW6 := Lib.hid hw6
    refine hK.out _ _ trivial (fun _ => ?_)
    clear hK K HC2 hr6 hnew2 hb6 HW5 HR5 HV5 HB5 HK5 hw6
    have f0 := HW6.out.free 0
    have k0 : w6.cell? ⟨w.heap.size + 1, 0, none⟩ = some (.slice A n c) := HW6.out.at_ rfl
    refine wpAnyH_ready (rs := [7]) (by kernel_rfl) (by simp) ?_
    refine AllReadyH.cons rfl (fun K hK => ?_) AllReadyH.nil
    go_simp
    have hw7 := HW6.out.set 0 (.slice A1 n1 c1)
    rw [acells_set0] at hw7
    have hq7 : ∀ b, b ≠ w.heap.size + 1 → (w6.setCell ⟨w.heap.size + 1, 0, none⟩ (.slice A1 n1 c1)).heap[b]? = w6.heap[b]? := fun b hb => Below.heap_setCell w6 ⟨w.heap.size + 1, 0, none⟩ _ b hb
    have hb7 : Below w.heap.size w (w6.setCell ⟨w.heap.size + 1, 0, none⟩ (.slice A1 n1 c1)) := HB6.out.setCell (Nat.le_succ _) _
    have hz7 : (w6.setCell ⟨w.heap.size + 1, 0, none⟩ (.slice A1 n1 c1)).heap.size = w6.heap.size := by simp
    refine hK.out _ _ trivial (fun _ => ?_)
    clear hK K
    generalize w6.setCell ⟨w.heap.size + 1, 0, none⟩ (.slice A1 n1 c1) = w7 at *
    have HR7 := Lib.hid ((hq7 w.heap.size (by omega)).trans HR6.out)
    have HK7 := Lib.hid (HK6.out.keepG (G := fun b => w.heap.size + 1 < b) (fun _ b o e => (HNEW1.out b o e).1) (fun b _ hg => hq7 b (by omega)))
    have HV7 := Lib.hid (HV6.out.keepG (G := fun b => w.heap.size + 1 < b) (fun _ b o e => (HNEW2.out b o e).1) (fun b _ hg => hq7 b (by omega)))
    have HNEW1 := Lib.hid (HNEW1.out.keep (fun b h _ => hq7 b (by omega)) (Nat.le_of_eq hz7.symm))
    have HNEW2 := Lib.hid (HNEW2.out.keep (fun b h _ => hq7 b (by omega)) (Nat.le_of_eq hz7.symm))
    have HW7 := Lib.hid hw7
    have HB7 := Lib.hid hb7
    clear f0 k0 hq7 hw7 hb7 HW6 HR6 HB6 HK6 HV6
    refine wpAnyH_take (i := 8) (oi := { dst := some 15, op := Op.fieldAddr 47 (Operand.tmp 3) 1, type := 0, pos := "node.go:147", after := #[{ on := 0, ground := Ground.phase }, { on := 1, ground := Ground.phase }, { on := 2, ground := Ground.phase }, { on := 3, ground := Ground.phase }, { on := 4, ground := Ground.phase }, { on := 5, ground := Ground.phase }, { on := 6, ground := Ground.phase }, { on := 7, ground := Ground.phase }], guard := none }) (v := ?_) rfl (by kernel_rfl) (by kernel_rfl) (by kernel_rfl) (fun _ _ _ h => h) (Or.inl ⟨by rfl, ?_⟩) (by assumption) ?_
    rotate_left
    · first | (intro w hSw; (try dsimp only at hSw); go_simp; done) | (intro w hSw; (try dsimp only at hSw); go_simp; with_reducible rfl)
    simp only [Act.put, List.setIfInBounds_toArray, List.set_cons_zero, List.set_cons_succ]
    have f1 := HW7.out.free 1
    have k1 : w7.cell? ⟨w.heap.size + 1, 1, none⟩ = some (.slice A' n' c') := HW7.out.at_ rfl
    refine wpAnyH_ready (rs := [9]) (by kernel_rfl) (by simp) ?_
    refine AllReadyH.cons rfl (fun K hK => ?_) AllReadyH.nil
    go_simp
    have hw8 := HW7.out.set 1 (.slice A2 n2 c2)
    rw [acells_set1] at hw8
    have hq8 : ∀ b, b ≠ w.heap.size + 1 → (w7.setCell ⟨w.heap.size + 1, 1, none⟩ (.slice A2 n2 c2)).heap[b]? = w7.heap[b]? := fun b hb => Below.heap_setCell w7 ⟨w.heap.size + 1, 1, none⟩ _ b hb
    have hb8 : Below w.heap.size w (w7.setCell ⟨w.heap.size + 1, 1, none⟩ (.slice A2 n2 c2)) := HB7.out.setCell (Nat.le_succ _) _
    have hz8 : (w7.setCell ⟨w.heap.size + 1, 1, none⟩ (.slice A2 n2 c2)).heap.size = w7.heap.size := by simp
    refine hK.out _ _ trivial (fun _ => ?_)
    clear hK K
    generalize w7.setCell ⟨w.heap.size + 1, 1, none⟩ (.slice A2 n2 c2) = w8 at *
    have HR8 : Hid (Whole w8 w.heap.size 47 z64) := Lib.hid ((hq8 w.heap.size (by omega)).trans HR7.out)
    have HK8 := Lib.hid (HK7.out.keepG (G := fun b => w.heap.size + 1 < b) (fun _ b o e => (HNEW1.out b o e).1) (fun b _ hg => hq8 b (by omega)))
    have HV8 := Lib.hid (HV7.out.keepG (G := fun b => w.heap.size + 1 < b) (fun _ b o e => (HNEW2.out b o e).1) (fun b _ hg => hq8 b (by omega)))
    have HNEW1 := Lib.hid (HNEW1.out.keep (fun b h _ => hq8 b (by omega)) (Nat.le_of_eq hz8.symm))
    have HNEW2 := Lib.hid (HNEW2.out.keep (fun b h _ => hq8 b (by omega)) (Nat.le_of_eq hz8.symm))
    have HW8 := Lib.hid hw8
    have HB8 := Lib.hid hb8
    clear f1 k1 hq8 hw8 hb8 HW7 HR7 HB7 HK7 HV7
    refine wpAnyH_done (by kernel_rfl) ?_ _
    go_upto_region 3 with (fail)
    have hl2 : (acells (.slice A1 n1 c1) (.slice A2 n2 c2) t.h t.n t.lsum t.rsum).length = 68 := acells_len _ _ _ _ _ _ (lsum32 t) (rsum32 t)
    have hz2 : (acells (.slice A1 n1 c1) (.slice A2 n2 c2) t.h t.n t.lsum t.rsum).toArray.size = 68 := by rw [List.size_toArray, hl2]
    refine wp_region_lit ?_
    refine wpList_load_mid rfl 47 (.tmp 3) rfl (w.heap.size + 1) 0 rfl _ _ HW8.out.range Tryd.underlying47 rfl (by rw [hl2]; exact info64) ?_
    refine wpList_store_mid rfl 47 (.tmp 2) (.tmp 16) rfl w.heap.size 0 (acells (.slice A1 n1 c1) (.slice A2 n2 c2) t.h t.n t.lsum t.rsum).toArray rfl rfl ?_ ?_ (acells_one ..) ?_
    · rw [hz2]; exact HR8.out.there_
    · rw [hz2]; exact info64
    have hw9 := HR8.out.setAll (vs := (acells (.slice A1 n1 c1) (.slice A2 n2 c2) t.h t.n t.lsum t.rsum).toArray) (by rw [hz2]; rfl)
    have hb9 := below_setCells w w.heap.size (acells (.slice A1 n1 c1) (.slice A2 n2 c2) t.h t.n t.lsum t.rsum).toArray.toList 0 HB8.out (Nat.le_refl _)
    have hsz9 := size_setCells w.heap.size (acells (.slice A1 n1 c1) (.slice A2 n2 c2) t.h t.n t.lsum t.rsum).toArray.toList 0 w8
    have hbq : ∀ b, b ≠ w.heap.size → (w8.setCells w.heap.size 0 (acells (.slice A1 n1 c1) (.slice A2 n2 c2) t.h t.n t.lsum t.rsum).toArray.toList).heap[b]? = w8.heap[b]? := fun b hb => heap_setCells_other w.heap.size b hb _ 0 w8
    show wpList _ _ _ _ _ (w8.setCells w.heap.size 0 (acells (.slice A1 n1 c1) (.slice A2 n2 c2) t.h t.n t.lsum t.rsum).toArray.toList)
    generalize w8.setCells w.heap.size 0 (acells (.slice A1 n1 c1) (.slice A2 n2 c2) t.h t.n t.lsum t.rsum).toArray.toList = w9 at *
    have HK9 := Lib.hid (HK8.out.keepG (G := fun b => w.heap.size + 1 < b) (fun _ b o e => (HNEW1.out b o e).1) (fun b _ hg => hbq b (by omega)))
    have HV9 := Lib.hid (HV8.out.keepG (G := fun b => w.heap.size + 1 < b) (fun _ b o e => (HNEW2.out b o e).1) (fun b _ hg => hbq b (by omega)))
    have HNEW1 := Lib.hid (HNEW1.out.keep (fun b h _ => hbq b (by omega)) (Nat.le_of_eq hsz9.symm))
    have HNEW2 := Lib.hid (HNEW2.out.keep (fun b h _ => hbq b (by omega)) (Nat.le_of_eq hsz9.symm))
    have HW9 := Lib.hid hw9
    have HB9 := Lib.hid hb9
    clear hw9 hb9 hbq HW8 HB8 HK8 HV8 HR8
    go_wp2_with fail
    have hk1 := HK9.out.len
    have hk2 := HV9.out.len
    have hk3 := HLEN.out.1
    have hk4 := HLEN.out.2
    refine bodyPost_ret (results_cell1 Tryd.results46 _ _ _ ⟨w.heap.size, 0, none⟩ _ rfl (load_whole HW9.out 47 _ Tryd.underlying47 rfl (by rw [hz2]; exact info64))) rfl ⟨_, A1, n1, c1, A2, n2, c2, rfl, ⟨rfl, HK9.out.more (by omega), hnc1, by omega, HV9.out.more (by omega), hnc2, by omega, HNEW1.out.less (by omega), HNEW2.out.less (by omega)⟩, HB9.out⟩
end Go.Proofs.YtolkpjbbfopmnaaDoor
namespace Go.Proofs.YtolkpjbbfopmnaaDoor
open Go.RowKit
open Tr
variable {G : Nat → Prop}

def Tr.oput (o : Option T) (k v : List UInt8) : T :=
  match o with
  | none => .leaf k v
  | some t => t.put k v
def Tr.ocut (o : Option T) (k : List UInt8) : Option T :=
  match o with
  | none => none
  | some t => t.cut k
def Tr.oln : Option T → Nat
  | none => 0
  | some t => t.n
def osum : Option T → List UInt8
  | none => Sh.Sha.sum []
  | some t => t.sum
theorem osum32 (o : Option T) : (osum o).length = 32 := by
  cases o with
  | none => exact Sh.sum_length _
  | some t => exact sum32 t

theorem put_nil (A A' : Option Addr) (n c n' c' : Nat) (w : World) : Calls Tryd.prog 10 #[.pointer none, .slice A n c, .slice A' n' c'] w fun e w' => e = .returned (.tuple #[.pointer none, .int .i64 1]) ∧ w = w' := by
  go_enter Tryd.func10, Tryd.ntmps10
  go_wp2_with fail
  go_ret2
  exact ⟨rfl, rfl⟩
/-- A tree that is answered, and a number. -/
def PutPost (G : Nat → Prop) (t : T) (w : World) (e : Ending) (w' : World) : Prop := ∃ g, e = .returned (.tuple #[ptr (some g), .int .i64 0]) ∧ w.heap.size ≤ g ∧ TIn G w' w'.heap.size (some t) g ∧ Below w.heap.size w w'

set_option maxRecDepth 100000 in
set_option maxHeartbeats 1000000 in
theorem put_any (o : Option T) (g : Nat) (A A' : Option Addr) (n c n' c' : Nat) (k v : List UInt8) (w : World) (ho : TIn G w w.heap.size o g) (hk : Rd w w.heap.size A n k) (hv : Rd w w.heap.size A' n' v) (h1 : 1 ≤ n) (h2 : n ≤ 96) (h3 : n' ≤ 256)
    (hn : oln o + 1 ≤ 4294967296) (ht : Sh.Tab w 1) (hw : Room G w) : Calls Tryd.prog 10 #[ptr (some g), .slice A n c, .slice A' n' c'] w (PutPost G (oput o k v) w) := by
  have HC1 := Lib.hid (leaf_any (G := G) A n c A' n' c' k v w hk hv h2 h3 ht hw)
  obtain ⟨hg, hgg, p, hW, hP⟩ := ho
  have HW := Lib.hid hW
  have HT := Lib.hid ht
  have HG := Lib.hid hw
  have HP := Lib.hid hP
  clear hk hv hgg hW ht hw hP
  rw [ptr_some]
  go_enter Tryd.func10, Tryd.ntmps10
  go_wp2_with fail
  refine HC1.out.mono ?_
  rintro e w1 ⟨bl, rfl, hN1, hb1⟩
  have hc0 := (HW.out.below hb1 hg).at_ (i := 0) rfl
  have hs1 := hb1.size
  rw [ptr_some]
  cases o with
  | none =>
    obtain rfl := HP.out
    rw [ptr_none] at hc0
    have HN1 := Lib.hid hN1
    have HB1 := Lib.hid hb1
    clear hN1 hb1 HC1
    go_wp2_with fail
    go_ret2
    have hb2 := (Below.refl w1.heap.size w1).alloc (Nat.le_refl _) (.cells #[.pointer (some ⟨bl, 0, none⟩)] 85)
    exact ⟨w1.heap.size, rfl, hs1, ⟨by simp, HG.out.2 _ hs1, some bl, Whole.made w1 85 _, bl, rfl, HN1.out.on hb2⟩, HB1.out.alloc hs1 _⟩
  | some t =>
    obtain ⟨b, rfl, hN⟩ := HP.out
    rw [ptr_some] at hc0
    have HC2 := Lib.hid (with_any k v bl t b w1 (hN.on hb1) hN1 hn (Sh.tab_below HT.out hb1 HG.out.1) (HG.out.on hb1))
    rw [ptr_some, ptr_some] at HC2
    have HB1 := Lib.hid hb1
    clear hN hN1 hb1 HC1
    go_wp2_with fail
    refine HC2.out.mono ?_
    rintro e w2 ⟨b2, rfl, hN2, hb2⟩
    have hs2 := hb2.size
    have HN2 := Lib.hid hN2
    have HB2 := Lib.hid (HB1.out.trans (hb2.mono hs1))
    clear hN2 hb2 HC2 HB1 hc0
    rw [ptr_some]
    go_wp2_with fail
    go_ret2
    have hb3 := (Below.refl w2.heap.size w2).alloc (Nat.le_refl _) (.cells #[.pointer (some ⟨b2, 0, none⟩)] 85)
    exact ⟨w2.heap.size, rfl, by omega, ⟨by simp, HG.out.2 _ (by omega), some b2, Whole.made w2 85 _, b2, rfl, HN2.out.on hb3⟩, HB2.out.alloc (by omega) _⟩

def CutPost (G : Nat → Prop) (o : Option (Option T)) (p : Option Nat) (k : List UInt8) (w : World) (e : Ending) (w' : World) : Prop :=
  (ofind (topOf o) k = none ∧ e = .returned (.tuple #[ptr p, .bool false]) ∧ w = w') ∨
  ∃ v g, ofind (topOf o) k = some v ∧ e = .returned (.tuple #[ptr (some g), .bool true]) ∧ w.heap.size ≤ g ∧ TIn G w' w'.heap.size (ocut (topOf o) k) g ∧ Below w.heap.size w w'

set_option maxRecDepth 100000 in
set_option maxHeartbeats 1000000 in
theorem cut_any (o : Option (Option T)) (p : Option Nat) (A : Option Addr) (n c : Nat) (k : List UInt8) (w : World) (ho : GIn G w w.heap.size o p) (hk : Rd w w.heap.size A n k)
    (hn : oln (topOf o) ≤ 4294967296) (ht : Sh.Tab w 1) (hw : Room G w) : Calls Tryd.prog 11 #[ptr p, .slice A n c] w (CutPost G o p k w) := by
  have HU := Lib.hid (upmost_any o p _ w ho)
  have HO := Lib.hid ho
  have HK := Lib.hid hk
  have HT := Lib.hid ht
  have HG := Lib.hid hw
  clear ho hk ht hw
  go_enter Tryd.func11, Tryd.ntmps11
  go_wp2_with fail
  refine HU.out.mono ?_
  rintro e w1 ⟨q, rfl, hP, rfl⟩
  have HF := Lib.hid (find_any (topOf o) q _ _ A n c k w hP HK.out)
  clear hP
  go_wp2_with fail
  refine HF.out.mono ?_
  rintro e w1 ⟨q2, rfl, rfl, hr⟩
  rcases hr with ⟨hr, rfl⟩ | ⟨b, v, hr, rfl, hN⟩
  · rw [ptr_none]
    have HR := Lib.hid hr
    clear hr HU HF
    go_wp2_with fail
    go_ret2
    exact .inl ⟨HR.out, rfl, rfl⟩
  · rw [ptr_some]
    cases o with
    | none => exact absurd hr (by intro h; cases h)
    | some o =>
      cases o with
      | none => exact absurd hr (by intro h; cases h)
      | some t =>
        obtain ⟨g, rfl, hg, hgg, p1, hW, b1, rfl, hN1⟩ := HO.out
        have hc0 := hW.at_ (i := 0) rfl
        have HC2 := Lib.hid (without_any A n c k t b1 w hN1 HK.out hn HT.out HG.out)
        rw [ptr_some] at HC2 hc0 ⊢
        have HR := Lib.hid hr
        clear hr HU HF hN hgg hW hN1
        go_wp2_with fail
        refine HC2.out.mono ?_
        rintro e w2 ⟨q, rfl, hP2, hb2⟩
        have hs2 := hb2.size
        have HP2 := Lib.hid hP2
        have HB2 := Lib.hid hb2
        clear hP2 hb2 hc0 HC2
        obtain ⟨X, hX⟩ : ∃ X, ptr q = .pointer X := ⟨_, rfl⟩
        rw [hX]
        have HX := Lib.hid hX
        clear hX
        go_wp2_with fail
        go_ret2
        have hb3 := (Below.refl w2.heap.size w2).alloc (Nat.le_refl _) (.cells #[.pointer X] 85)
        exact .inr ⟨v, w2.heap.size, HR.out, rfl, hs2, ⟨by simp, HG.out.2 _ hs2, q, by rw [HX.out]; exact Whole.made w2 85 _, (HP2.out.below hb3 (Nat.le_refl _)).more hb3.size⟩, HB2.out.alloc hs2 _⟩

theorem one49 (s : List UInt8) : (s.map V8).toArray.all (·.oneCell') = true := all_oneCell_toArray (one_bytes s)
set_option maxRecDepth 100000 in
theorem root_any (o : Option (Option T)) (p : Option Nat) (w : World) (ho : GIn G w w.heap.size o p) (ht : Sh.Tab w 1) (hw : 1 < w.heap.size) :
    Calls Tryd.prog 8 #[ptr p] w fun e w' => e = .returned (.agg (Sh.bcells (osum (topOf o)))) ∧ Below w.heap.size w w' := by
  have hz49 := zero49
  have hb1 : Below w.heap.size w (w.alloc (.cells (zb 32) 29)) := (Below.refl _ _).alloc (Nat.le_refl _) _
  have hs1 : (w.alloc (.cells (zb 32) 29)).heap.size = w.heap.size + 1 := size_alloc _ _
  have HU := Lib.hid (upmost_any o p _ (w.alloc (.cells (zb 32) 29)) (ho.below hb1 (Nat.le_refl _)))
  have HW := Lib.hid (Whole.made w 29 (zb 32))
  have HE := Lib.hid (empty_any (w.alloc (.cells (zb 32) 29)) (Sh.tab_below ht hb1 hw) (by omega))
  have HB1 := Lib.hid hb1
  clear ho ht hb1
  generalize topOf o = q at *
  go_enter Tryd.func8, Tryd.ntmps8
  go_wp2_with fail
  refine HU.out.mono ?_
  rintro e w1 ⟨p1, rfl, hP, rfl⟩
  generalize w.alloc (.cells (zb 32) 29) = w1 at *
  clear hz49 HU
  cases q with
  | none =>
    obtain rfl := hP
    rw [ptr_none]
    go_wp2_with fail
    refine HE.out.mono ?_
    rintro e w2 ⟨rfl, hb2⟩
    have HW2 := Lib.hid (HW.out.below hb2 (by omega))
    have HB2 := Lib.hid (HB1.out.trans (hb2.mono (by omega)))
    clear hb2 HE HW HB1
    obtain ⟨Y, hY⟩ : ∃ Y, Sh.bcells (Sh.Sha.sum []) = Y := ⟨_, rfl⟩
    have hsizeY : Y.size = 32 := by rw [← hY, Sh.bcells_size, Sh.sum_length]
    have honeY : Y.all (·.oneCell') = true := by rw [← hY]; exact Sh.bcells_one _
    rw [hY]
    have HY := Lib.hid hY
    clear hY
    simp only []
    go_step
    refine wpList_store_mid rfl 29 (.tmp 2) (.tmp 12) rfl w.heap.size 0 Y rfl rfl ?_ ?_ honeY ?_
    · rw [hsizeY]; have := HW2.out.there_; rw [zb_size] at this; exact this
    · rw [hsizeY]; exact info49
    have HW8 := Lib.hid (HW2.out.setAll (vs := Y) (by rw [zb_size, hsizeY]))
    have HB8 := Lib.hid (below_setCells w w.heap.size Y.toList 0 HB2.out (by omega))
    generalize w2.setCells w.heap.size 0 Y.toList = w8 at *
    go_wp2_with fail
    refine bodyPost_ret (results_cell1 Tryd.results8 _ _ _ ⟨w.heap.size, 0, none⟩ _ rfl (load_whole HW8.out 29 _ Tryd.underlying29 rfl (by rw [hsizeY]; exact info49))) rfl ⟨by rw [show osum none = Sh.Sha.sum [] from rfl, HY.out], HB8.out⟩
  | some t =>
    obtain ⟨b, rfl, hN⟩ := hP
    obtain ⟨A, n, c, A', n', c', x, y, hh⟩ := hN.has
    have hbl := hh.lt
    have HR := Lib.hid (ncells_srange hh.whole (lsum32 t) (rsum32 t))
    obtain ⟨Y, hY⟩ : ∃ Y, t.sum.map V8 = Y := ⟨_, rfl⟩
    have hsizeY : Y.toArray.size = 32 := by rw [← hY]; exact sumsize t
    have honeY : Y.toArray.all (·.oneCell') = true := by rw [← hY]; exact one49 _
    rw [hY] at HR
    have HY : Hid (Sh.bcells (osum (some t)) = Y.toArray) := Lib.hid (by rw [← hY]; rfl)
    rw [ptr_some]
    clear HE hh hN hY
    go_upto_region 3 with (fail)
    refine wp_region_lit ?_
    iterate 9 go_step
    refine wpList_load_mid rfl 29 (.tmp 10) rfl b 68 rfl _ _ HR.out Tryd.underlying29 rfl (by rw [← List.size_toArray, hsizeY]; exact info49) ?_
    refine wpList_store_mid rfl 29 (.tmp 2) (.tmp 11) rfl w.heap.size 0 Y.toArray rfl rfl ?_ ?_ honeY ?_
    · rw [hsizeY]; have := HW.out.there_; rw [zb_size] at this; exact this
    · rw [hsizeY]; exact info49
    have HW8 := Lib.hid (HW.out.setAll (vs := Y.toArray) (by rw [zb_size, hsizeY]))
    have HB8 := Lib.hid (below_setCells w w.heap.size Y 0 HB1.out (by omega))
    show wpList _ _ _ _ _ (w1.setCells w.heap.size 0 Y)
    change Hid (Whole (w1.setCells w.heap.size 0 Y) _ _ _) at HW8
    generalize w1.setCells w.heap.size 0 Y = w8 at *
    go_wp2_with fail
    refine bodyPost_ret (results_cell1 Tryd.results8 _ _ _ ⟨w.heap.size, 0, none⟩ _ rfl (load_whole HW8.out 29 _ Tryd.underlying29 rfl (by rw [hsizeY]; exact info49))) rfl ⟨by rw [HY.out], HB8.out⟩
end Go.Proofs.YtolkpjbbfopmnaaDoor
namespace Go.Proofs.YtolkpjbbfopmnaaDoor
open Go.RowKit
open Tr
variable {G : Nat → Prop}

theorem Told.move {w w' : World} {B n c n' c' : Nat} {t : T} {cs : Array Value} {A A' : Option Addr} (h : Told w B t cs A n c A' n' c') (hk : ∀ b, B ≤ b → w'.heap[b]? = w.heap[b]?) (hs : w.heap.size ≤ w'.heap.size) : Told w' B t cs A n c A' n' c' :=
  ⟨h.eq, (h.key.keepG (G := fun b => B ≤ b) (fun _ b o e => (h.knew b o e).1) (fun b _ hb => hk b hb)).more hs, h.knc, h.kle, (h.val.keepG (G := fun b => B ≤ b) (fun _ b o e => (h.vnew b o e).1) (fun b _ hb => hk b hb)).more hs, h.vnc, h.vle, h.knew.keep (fun b hb _ => hk b hb) hs, h.vnew.keep (fun b hb _ => hk b hb) hs⟩
theorem Told.weak {w : World} {B B' n c n' c' : Nat} {t : T} {cs : Array Value} {A A' : Option Addr} (h : Told w B t cs A n c A' n' c') (hB : B' ≤ B) : Told w B' t cs A n c A' n' c' :=
  ⟨h.eq, h.key, h.knc, h.kle, h.val, h.vnc, h.vle, h.knew.less hB, h.vnew.less hB⟩
theorem Told.below {w w' : World} {B n c n' c' : Nat} {t : T} {cs : Array Value} {A A' : Option Addr} (h : Told w B t cs A n c A' n' c') (hb : Below w.heap.size w w') : Told w' B t cs A n c A' n' c' :=
  ⟨h.eq, (h.key.below hb (Nat.le_refl _)).more hb.size, h.knc, h.kle, (h.val.below hb (Nat.le_refl _)).more hb.size, h.vnc, h.vle, h.knew.below hb (Nat.le_refl _), h.vnew.below hb (Nat.le_refl _)⟩

def Tr.oat : Option T → List Bool → Option T
  | none, _ => none
  | some t, [] => some t
  | some (.leaf _ _), _ :: _ => none
  | some (.node l r), b :: way => oat (some (if b then r else l)) way
theorem oat_none (way : List Bool) : oat none way = none := by cases way <;> rfl
theorem oat_nil (o : Option T) : oat o [] = o := by cases o <;> rfl

def WayPost (o : Option T) (w : World) (e : Ending) (w' : World) : Prop :=
  (o = none ∧ e = .returned (.tuple #[.agg z64, .bool false]) ∧ Below w.heap.size w w') ∨
  ∃ t cs A n c A' n' c', o = some t ∧ e = .returned (.tuple #[.agg cs, .bool true]) ∧ Told w' w.heap.size t cs A n c A' n' c' ∧ Below w.heap.size w w'
theorem z64_size : z64.size = 68 := by kernel_rfl
theorem z64_one : z64.all (·.oneCell') = true := acells_one ..

set_option maxRecDepth 100000 in
set_option maxHeartbeats 1000000 in
theorem way_any (o : Option (Option T)) (p : Option Nat) (W : Option Addr) (n c : Nat) (way : List Bool) (w : World) (ho : GIn G w w.heap.size o p) (hway : RdV w w.heap.size 1 W n (way.map Value.bool)) (hn : n ≤ 9223372036854775807) :
    Calls Tryd.prog 30 #[ptr p, .slice W n c] w (WayPost (oat (topOf o) way) w) := by
  have hz64 := zero64
  have hb1 : Below w.heap.size w (w.alloc (.cells z64 47)) := (Below.refl _ _).alloc (Nat.le_refl _) _
  have hs1 : (w.alloc (.cells z64 47)).heap.size = w.heap.size + 1 := size_alloc _ _
  have HU := Lib.hid (upmost_any o p _ (w.alloc (.cells z64 47)) (ho.below hb1 (Nat.le_refl _)))
  have HW := Lib.hid (Whole.made w 47 z64)
  have HB1 := Lib.hid hb1
  have HWAY := Lib.hid (hway.below hb1 (Nat.le_refl _))
  clear ho hway hb1
  generalize topOf o = q at *
  go_enter Tryd.func30, Tryd.ntmps30
  go_wp2_with fail
  refine HU.out.mono ?_
  rintro e w1' ⟨p1, rfl, hP, rfl⟩
  generalize w.alloc (.cells z64 47) = w1 at *
  clear hz64 HU
  have HP := Lib.hid hP
  clear hP
  go_wp2_with fail
  go_loopg [6, 13] n (fun gk s6 s13 wx => ∃ i s p', i + gk = n ∧ s13 = .int .i64 (i : Nat) ∧ s6 = ptr p' ∧ PIn G w1 w.heap.size s p' ∧ oat s (way.drop i) = oat q way ∧ wx = w1)
  case atStart => exact ⟨0, q, p1, by omega, rfl, rfl, HP.out, rfl, rfl⟩
  case round =>
    clear HP
    obtain ⟨i, s, p', hi, rfl, rfl, hP, hat, rfl⟩ := hrel
    have HAT := Lib.hid hat
    clear hat
    cases gk with
    | zero =>
      obtain rfl : i = n := by omega
      have HE : Hid (way.drop i = []) := Lib.hid (List.drop_eq_nil_of_le (by have := HWAY.out.1; simp at this; omega))
      rw [HE.out] at HAT
      clear HE hi
      cases s with
      | none =>
        obtain rfl := hP
        rw [ptr_none]
        have hz64 := zero64
        go_upto_region 9 with (fail)
        refine wp_region_lit ?_
        iterate 3 go_step
        clear hz64
        refine wpList_store_mid rfl 47 (.tmp 4) (.tmp 25) rfl w.heap.size 0 z64 rfl rfl ?_ ?_ z64_one ?_
        · exact HW.out.there_
        · rw [z64_size]; exact info64
        have HW8 := Lib.hid (HW.out.setAll (vs := z64) rfl)
        have HB8 := Lib.hid (below_setCells w w.heap.size z64.toList 0 HB1.out (by omega))
        generalize wr.setCells w.heap.size 0 z64.toList = w8 at *
        go_wp2_with fail
        refine bodyPost_ret (results_cell2 Tryd.results30 _ _ _ ⟨w.heap.size, 0, none⟩ _ rfl (load_whole HW8.out 47 _ Tryd.underlying47 rfl (by rw [z64_size]; exact info64))) rfl (.inl ⟨?_, rfl, HB8.out⟩)
        rw [← HAT.out, oat_none]
      | some t =>
        obtain ⟨b, rfl, hN⟩ := hP
        have HC := Lib.hid (told_any t b w.heap.size wr hN (by omega))
        rw [ptr_some] at HC ⊢
        clear hN
        go_wp2_with fail
        refine HC.out.mono ?_
        rintro e w2 ⟨cs, A, n1, c1, A', n', c', rfl, hT, hb2⟩
        have hcs : cs.size = 68 := by rw [hT.eq, List.size_toArray, acells_len _ _ _ _ _ _ (lsum32 t) (rsum32 t)]
        have hone : cs.all (·.oneCell') = true := by rw [hT.eq]; exact acells_one ..
        have HT := Lib.hid hT
        have hsb := hb2.size
        have HW2 := Lib.hid (HW.out.below hb2 (by omega))
        have HB2 := Lib.hid (HB1.out.trans (hb2.mono (by omega)))
        clear hT hb2 HC HW HB1
        simp only []
        go_step
        refine wpList_store_mid rfl 47 (.tmp 4) (.tmp 27) rfl w.heap.size 0 cs rfl rfl ?_ ?_ hone ?_
        · rw [hcs]; exact HW2.out.there_
        · rw [hcs]; exact info64
        have HW8 := Lib.hid (HW2.out.setAll (vs := cs) (by rw [hcs]; rfl))
        have HB8 := Lib.hid (below_setCells w w.heap.size cs.toList 0 HB2.out (by omega))
        have HT8 := Lib.hid ((HT.out.move (w' := w2.setCells w.heap.size 0 cs.toList) (fun b hb => heap_setCells_other w.heap.size b (by omega) cs.toList 0 w2) (by rw [size_setCells]; omega)).weak (B' := w.heap.size) (by omega))
        generalize w2.setCells w.heap.size 0 cs.toList = w8 at *
        clear HW2 HB2 HT
        go_wp2_with fail
        refine bodyPost_ret (results_cell2 Tryd.results30 _ _ _ ⟨w.heap.size, 0, none⟩ _ rfl (load_whole HW8.out 47 _ Tryd.underlying47 rfl (by rw [hcs]; exact info64))) rfl (.inr ⟨t, cs, A, n1, c1, A', n', c', ?_, rfl, HT8.out, HB8.out⟩)
        rw [← HAT.out]
        rw [oat_nil]
    | succ gn =>
      have hin : i < n := by omega
      have hlen : way.length = n := by have := HWAY.out.1; simpa using this
      obtain ⟨wb, wo, rfl, hwb, hcell⟩ := HWAY.out.2 (by omega)
      have hc := hcell i (.bool way[i]) (by rw [List.getElem?_map, List.getElem?_eq_getElem (by omega)]; rfl)
      have HD : Hid (way.drop i = way[i] :: way.drop (i + 1)) := Lib.hid (List.drop_eq_getElem_cons (by omega))
      clear hcell hwb
      generalize way[i] = R at *
      clear hlen
      cases s with
      | none =>
        obtain rfl := hP
        rw [ptr_none]
        have hz64 := zero64
        go_upto_region 9 with (fail)
        refine wp_region_lit ?_
        iterate 3 go_step
        clear hz64
        refine wpList_store_mid rfl 47 (.tmp 4) (.tmp 25) rfl w.heap.size 0 z64 rfl rfl ?_ ?_ z64_one ?_
        · exact HW.out.there_
        · rw [z64_size]; exact info64
        have HW8 := Lib.hid (HW.out.setAll (vs := z64) rfl)
        have HB8 := Lib.hid (below_setCells w w.heap.size z64.toList 0 HB1.out (by omega))
        generalize wr.setCells w.heap.size 0 z64.toList = w8 at *
        go_wp2_with fail
        refine bodyPost_ret (results_cell2 Tryd.results30 _ _ _ ⟨w.heap.size, 0, none⟩ _ rfl (load_whole HW8.out 47 _ Tryd.underlying47 rfl (by rw [z64_size]; exact info64))) rfl (.inl ⟨?_, rfl, HB8.out⟩)
        rw [← HAT.out, oat_none]
      | some t =>
        obtain ⟨b, rfl, hN⟩ := hP
        cases t with
        | leaf k v =>
          obtain ⟨A, n1, c1, A', n', c', hh⟩ := hN
          cases R with
          | true =>
            have HL := Lib.hid (side_right hh)
            rw [ptr_some] at HL ⊢
            skip
            clear hh
            go_wp2_with fail
            refine HL.out.mono ?_
            rintro e w2 ⟨rfl, rfl⟩
            go_wp2_with fail
            go_roundg gn
            case measure => omega
            case rel => exact ⟨i + 1, none, _, by omega, congrArg (Value.int .i64) (by omega), rfl, rfl, by rw [← HAT.out, HD.out]; simp [oat], rfl⟩
          | false =>
            have HL := Lib.hid (side_left hh)
            rw [ptr_some] at HL ⊢
            skip
            clear hh
            go_wp2_with fail
            refine HL.out.mono ?_
            rintro e w2 ⟨rfl, rfl⟩
            go_wp2_with fail
            go_roundg gn
            case measure => omega
            case rel => exact ⟨i + 1, none, _, by omega, congrArg (Value.int .i64) (by omega), rfl, rfl, by rw [← HAT.out, HD.out]; simp [oat], rfl⟩
        | node l r =>
          obtain ⟨A, n1, c1, A', n', c', x, y, hh, hx, hy⟩ := hN
          cases R with
          | true =>
            have HL := Lib.hid (side_right hh)
            rw [ptr_some] at HL ⊢
            have HX := Lib.hid hy
            clear hh hx hy
            go_wp2_with fail
            refine HL.out.mono ?_
            rintro e w2 ⟨rfl, rfl⟩
            go_wp2_with fail
            go_roundg gn
            case measure => omega
            case rel => exact ⟨i + 1, some r, _, by omega, congrArg (Value.int .i64) (by omega), rfl, ⟨_, rfl, HX.out⟩, by rw [← HAT.out, HD.out]; simp [oat], rfl⟩
          | false =>
            have HL := Lib.hid (side_left hh)
            rw [ptr_some] at HL ⊢
            have HX := Lib.hid hx
            clear hh hx hy
            go_wp2_with fail
            refine HL.out.mono ?_
            rintro e w2 ⟨rfl, rfl⟩
            go_wp2_with fail
            go_roundg gn
            case measure => omega
            case rel => exact ⟨i + 1, some l, _, by omega, congrArg (Value.int .i64) (by omega), rfl, ⟨_, rfl, HX.out⟩, by rw [← HAT.out, HD.out]; simp [oat], rfl⟩
end Go.Proofs.YtolkpjbbfopmnaaDoor
namespace Go.Proofs.YtolkpjbbfopmnaaDoor
open Go.RowKit

section
variable {P : Program} {ops : Array Oper} {Q : Exit → Act → World → Prop} {md : Region.Mode} {S : World → Prop} {late : Nat → Bool}

/-- Whatever comes up next; S is shown behind it, if it is not late. -/
def wpLate (P : Program) (md : Region.Mode) (ops : Array Oper) (Q : Exit → Act → World → Prop) (S : World → Prop) (late : Nat → Bool) : Nat → Array Bool → Act → World → Prop
  | 0, done, a, w => Region.ready md ops done = [] ∧ Q .normal a w
  | f + 1, done, a, w => (Region.ready md ops done = [] → Q .normal a w) ∧
    ∀ k ∈ Region.ready md ops done, wpOp P ops Q k (fun b u => (late k = false → S u) ∧ wpLate P md ops Q S late f (done.setIfInBounds k true) b u) a w

theorem wpAny_of_late : ∀ (f : Nat) (done : Array Bool) (a : Act) (w : World), wpLate P md ops Q S late f done a w → wpAny P md ops Q f done a w
  | 0, _, _, _, h => h
  | f + 1, _, _, _, h => ⟨h.1, fun k hk => wpOp_mono (fun b u g => wpAny_of_late f _ b u g.2) (h.2 k hk)⟩

/-- Operation j waits for operation i. -/
def waits (md : Region.Mode) (ops : Array Oper) (j i : Nat) : Bool :=
  match ops[j]? with
  | some o => o.after.any fun e => Region.binds md e && e.on == i
  | none => true

theorem wpLate_first {i : Nat} {oi : Oper} {v : Value} (hi : ops[i]? = some oi) (hsel : ∀ (j : Nat) (o : Oper) cs b, ops[j]? = some o → o.op ≠ .select cs b)
    (hQ : ∀ c a w, Q (.panic c) (a.put oi.dst v) w → Q (.panic c) a w) (hl : ∀ j, j < ops.size → late j = true → waits md ops j i = true) :
    ∀ (f : Nat) (done : Array Bool) (a : Act) (w : World),
      (∀ j oj, ops[j]? = some oj → j ≠ i → done.getD j true = false → (∀ e ∈ oj.after, Region.binds md e = true → e.on ≠ i) → oi.apart ops oj = true) →
      i ∈ Region.ready md ops done → YieldsIf P ops S oi v a → S w →
      wpLate P md ops Q S late f (done.setIfInBounds i true) (a.put oi.dst v) w → wpLate P md ops Q S late (f + 1) done a w := by
  intro f
  induction f with
  | zero =>
    intro done a w _ hr hy hS H
    refine ⟨fun h => absurd hr (by rw [h]; simp), fun j hj => ?_⟩
    rcases Nat.decEq j i with hji | hji
    · have := ready_mono hj hji
      rw [H.1] at this
      cases this
    · subst hji
      exact hy.wpOp hi hS ⟨fun _ => hS, H⟩
  | succ f ih =>
    intro done a w hfree hr hy hS H
    refine ⟨fun h => absurd hr (by rw [h]; simp), fun j hj => ?_⟩
    rcases Nat.decEq j i with hji | hji
    · have hrest := H.2 j (ready_mono hj hji)
      obtain ⟨hjun, oj, hoj, hall⟩ := mem_ready.1 hj
      have hnot : ∀ e ∈ oj.after, Region.binds md e = true → e.on ≠ i := fun e he hb heq => by
        have g1 := hall e he hb
        have g0 := (mem_ready.1 hr).1
        rw [heq] at g1
        rcases Nat.lt_or_ge i done.size with hlt | hge
        · simp [hlt] at g0 g1
          rw [g0] at g1
          cases g1
        · simp [Array.getElem?_eq_none hge] at g1
      have hearly : late j = false := by
        cases hlj : late j with
        | false => rfl
        | true =>
          have hw := hl j (Array.getElem?_eq_some_iff.1 hoj).1 hlj
          unfold waits at hw
          rw [hoj] at hw
          obtain ⟨k, hk, he⟩ := Array.any_iff_exists.1 hw
          simp only [Bool.and_eq_true, beq_iff_eq] at he
          exact absurd he.2.2.2 (hnot _ (Array.getElem_mem _) he.2.2.1)
      have hput := wpOp_putIf hoj (hfree j oj hoj hji hjun hnot) (fun cs b => hsel i oi cs b hi) (fun cs b => hsel j oj cs b hoj) hQ hy hrest
      refine wpOp_mono (fun b u g => ⟨fun _ => g.2.1 hearly, ih (done.setIfInBounds j true) b u ?_ (ready_mono hr (Ne.symm hji)) g.1 (g.2.1 hearly) ?_⟩) hput
      · intro k ok hk hki hun hno
        refine hfree k ok hk hki ?_ hno
        rcases Nat.decEq j k with hjk | hjk
        · rwa [getD_set_ne true hjk] at hun
        · subst hjk
          exact hjun
      · rw [Array.setIfInBounds_comm _ _ hji]
        exact g.2.2
    · subst hji
      exact hy.wpOp hi hS ⟨fun _ => hS, H⟩

theorem wpLate_take {i : Nat} {oi : Oper} {v : Value} {f : Nat} {done : Array Bool} {a : Act} {w : World} (hi : ops[i]? = some oi)
    (hs : Region.noSelect ops = true) (hf : Region.free md ops done i = true) (hr : (Region.ready md ops done).contains i = true) (hl : ((List.range ops.size).all fun j => !late j || waits md ops j i) = true)
    (hQ : ∀ c a w, Q (.panic c) (a.put oi.dst v) w → Q (.panic c) a w) (hy : YieldsIf P ops S oi v a) (hS : S w)
    (h : wpLate P md ops Q S late f (done.setIfInBounds i true) (a.put oi.dst v) w) : wpLate P md ops Q S late (f + 1) done a w :=
  wpLate_first hi (Region.noSelect_spec hs) hQ (fun j hj hlj => by
    have := List.all_eq_true.1 hl j (List.mem_range.2 hj)
    rw [hlj] at this
    simpa using this) f done a w (Region.free_spec hi hf) (by simpa using hr) hy hS h

/-- Each of these comes up next. -/
def AllLate (P : Program) (md : Region.Mode) (ops : Array Oper) (Q : Exit → Act → World → Prop) (S : World → Prop) (late : Nat → Bool) (f : Nat) (done : Array Bool) (a : Act) (w : World) (rs : List Nat) : Prop :=
  ∀ k ∈ rs, wpOp P ops Q k (fun b u => (late k = false → S u) ∧ wpLate P md ops Q S late f (done.setIfInBounds k true) b u) a w
theorem AllLate.nil {f : Nat} {done : Array Bool} {a : Act} {w : World} : AllLate P md ops Q S late f done a w [] := fun _ h => by cases h
theorem AllLate.cons {f : Nat} {done : Array Bool} {a : Act} {w : World} {i : Nat} {o : Oper} {rs : List Nat} (ho : ops[i]? = some o)
    (h : ∀ K : Act → World → Prop, Shut (∀ b u, (late i = false → S u) → wpLate P md ops Q S late f (done.setIfInBounds i true) b u → K b u) → if Region.wanted o (yielded ops a.tmps) = true then Oper.wp P o a w K Q else K (a.put o.dst undef) w)
    (hs : AllLate P md ops Q S late f done a w rs) : AllLate P md ops Q S late f done a w (i :: rs) := fun j hj => by
  rcases List.mem_cons.1 hj with rfl | hj
  · exact wpOp_step ho (fun K hK => h K (fun b u hS hW => hK b u ⟨hS, hW⟩))
  · exact hs j hj
theorem wpLate_ready {rs : List Nat} {f : Nat} {done : Array Bool} {a : Act} {w : World} (hr : Region.ready md ops done = rs) (hne : rs ≠ [])
    (h : AllLate P md ops Q S late f done a w rs) : wpLate P md ops Q S late (f + 1) done a w := ⟨fun h0 => absurd (hr ▸ h0) hne, hr ▸ h⟩
theorem wpLate_done {done : Array Bool} {a : Act} {w : World} (hr : Region.ready md ops done = []) (h : Q .normal a w) : ∀ f, wpLate P md ops Q S late f done a w
  | 0 => ⟨hr, h⟩
  | _ + 1 => ⟨fun _ => h, by rw [hr]; simp⟩
theorem wp_region_late {id : Nat} {a : Act} {w : World} (hm : P.follows .mixedOrders = true) (h : wpLate P .any ops Q S late ops.size (Array.replicate ops.size false) a w.drew) : (Code.region id ops true).wp P Q a w :=
  wp_region_any hm (wpAny_of_late _ _ _ _ h)
end
end Go.Proofs.YtolkpjbbfopmnaaDoor
namespace Go.Proofs.YtolkpjbbfopmnaaDoor
open Go.RowKit
open Tr
variable {G : Nat → Prop}

theorem visit_nil (F : Value) (w : World) : Calls Tryd.prog 41 #[.pointer none, F] w fun e w' => e = .returned undef ∧ w = w' := by
  go_enter Tryd.func41, Tryd.ntmps41
  go_wp2_with fail
  refine bodyPost_ret (results_none rfl _ _ _) rfl ?_
  exact ⟨rfl, rfl⟩

def Tr.T.all : T → List T
  | .leaf k v => [.leaf k v]
  | .node l r => .node l r :: (l.all ++ r.all)

end Go.Proofs.YtolkpjbbfopmnaaDoor
namespace Go.Proofs.YtolkpjbbfopmnaaDoor
open Go.RowKit
open Tr

def All (_ : Nat) : Prop := True
theorem oput_n (o : Option T) (k v : List UInt8) : (oput o k v).n ≤ oln o + 1 := by
  cases o with
  | none => exact Nat.le_refl _
  | some t => exact put_n k v t
theorem room {w : World} (h : 1 < w.heap.size) : Room All w := ⟨h, fun _ _ => trivial⟩

end Go.Proofs.YtolkpjbbfopmnaaDoor
namespace Go.Proofs.YtolkpjbbfopmnaaDoor
open Go.RowKit
open Tr

theorem acells_lrange {w : World} {g : Nat} {t : TypeId} {kv vv : Value} {h : Int} {z : Nat} {l r : List UInt8} (hw : Whole w g t (acells kv vv h z l r).toArray) : w.rangeAt g 4 (l.map V8) := fun j v hv =>
  hw.at_ (by
    have hj := (List.getElem?_eq_some_iff.1 hv).1
    rw [List.getElem?_toArray, acells, show 4 + j = j + 4 by omega]
    show (l.map V8 ++ r.map V8)[j]? = some v
    rw [List.getElem?_append_left hj, hv])
theorem acells_rrange {w : World} {g : Nat} {t : TypeId} {kv vv : Value} {h : Int} {z : Nat} {l r : List UInt8} (hw : Whole w g t (acells kv vv h z l r).toArray) (hl : l.length = 32) : w.rangeAt g 36 (r.map V8) := fun j v hv =>
  hw.at_ (by
    rw [List.getElem?_toArray, acells, show 36 + j = (32 + j) + 4 by omega]
    show (l.map V8 ++ r.map V8)[32 + j]? = some v
    rw [List.getElem?_append_right (by rw [List.length_map, hl]; omega), List.length_map, hl, show 32 + j - 32 = j by omega, hv])
/-- A stretch of a block is loaded, by an operation that is wanted. -/
theorem wpList_load_w {ops : Array Oper} {rest : List Oper} {op : Oper} {a : Act} {w : World} {Q : Exit → Act → World → Prop} (hw : Region.wanted op (yielded ops a.tmps) = true) (ty : TypeId) (x : Operand) (ho : op.op = .load ty x)
    (g o : Nat) (hx : a.eval x = .pointer (some ⟨g, o, none⟩)) (cs : List Value) (d : TypeDesc) (hc : w.rangeAt g o cs)
    (hu : Tryd.prog.underlying ty = some d) (hd : d.isRow = true) (hi : (Tryd.prog.info? ty).map (·.size) = some cs.length)
    (h : wpList Tryd.prog ops Q rest (a.put op.dst (.agg cs.toArray)) w) : wpList Tryd.prog ops Q (op :: rest) a w :=
  wpList_step fun K hK => by
    rw [if_pos hw]
    exact wp_load_mid ty x ho g o hx cs d hc hu hd hi (hK _ _ h)
end Go.Proofs.YtolkpjbbfopmnaaDoor
namespace Go.Proofs.YtolkpjbbfopmnaaDoor
open Go.RowKit
open Tr

/-- The cells of one pair. -/
structure PAt (R : Option Addr → Nat → List UInt8 → Prop) (xs : List Value) (j : Nat) (p : List UInt8 × List UInt8) (A : Option Addr) (n c : Nat) (A' : Option Addr) (n' c' : Nat) : Prop where
  c0 : xs[2 * j]? = some (.slice A n c)
  c1 : xs[2 * j + 1]? = some (.slice A' n' c')
  nc : n ≤ c
  nc' : n' ≤ c'
  key : R A n p.1
  val : R A' n' p.2
/-- Cells that are pairs. -/
def PLay (R : Option Addr → Nat → List UInt8 → Prop) (xs : List Value) (ps : Prs) : Prop :=
  xs.length = 2 * ps.length ∧ ∀ (j : Nat) (p : List UInt8 × List UInt8), ps[j]? = some p → ∃ A n c A' n' c', PAt R xs j p A n c A' n' c'
theorem PLay.mono {R R' : Option Addr → Nat → List UInt8 → Prop} {xs : List Value} {ps : Prs} (h : PLay R xs ps) (hR : ∀ A n bs, R A n bs → R' A n bs) : PLay R' xs ps :=
  ⟨h.1, fun j p hp => by
    obtain ⟨A, n, c, A', n', c', k⟩ := h.2 j p hp
    exact ⟨A, n, c, A', n', c', k.c0, k.c1, k.nc, k.nc', hR _ _ _ k.key, hR _ _ _ k.val⟩⟩
theorem PLay.nil {R : Option Addr → Nat → List UInt8 → Prop} : PLay R [] [] := ⟨rfl, fun j p h => by simp at h⟩
theorem PLay.snoc {R : Option Addr → Nat → List UInt8 → Prop} {xs : List Value} {ps : Prs} (h : PLay R xs ps) (p : List UInt8 × List UInt8) (A : Option Addr) (n c : Nat) (A' : Option Addr) (n' c' : Nat) (hnc : n ≤ c) (hnc' : n' ≤ c') (hk : R A n p.1) (hv : R A' n' p.2) :
    PLay R (xs ++ [.slice A n c, .slice A' n' c']) (ps ++ [p]) := by
  refine ⟨by rw [List.length_append, List.length_append, h.1]; simp; omega, fun j q hq => ?_⟩
  by_cases hj : j < ps.length
  · rw [List.getElem?_append_left hj] at hq
    obtain ⟨A1, n1, c1, A2, n2, c2, k⟩ := h.2 j q hq
    exact ⟨A1, n1, c1, A2, n2, c2, by rw [List.getElem?_append_left (by rw [h.1]; omega)]; exact k.c0, by rw [List.getElem?_append_left (by rw [h.1]; omega)]; exact k.c1, k.nc, k.nc', k.key, k.val⟩
  · rw [List.getElem?_append_right (by omega)] at hq
    have h1 : j - ps.length < 1 := (List.getElem?_eq_some_iff.1 hq).1
    obtain rfl : j = ps.length := by omega
    rw [Nat.sub_self] at hq
    simp at hq
    subst hq
    refine ⟨A, n, c, A', n', c', ?_, ?_, hnc, hnc', hk, hv⟩
    · rw [List.getElem?_append_right (by rw [h.1]; omega), h.1, Nat.sub_self]; rfl
    · rw [List.getElem?_append_right (by rw [h.1]; omega), h.1, show 2 * ps.length + 1 - 2 * ps.length = 1 by omega]; rfl
theorem PLay.drop {R : Option Addr → Nat → List UInt8 → Prop} {xs : List Value} {ps : Prs} (h : PLay R xs ps) (i : Nat) : PLay R (xs.drop (2 * i)) (ps.drop i) := by
  refine ⟨by rw [List.length_drop, List.length_drop, h.1]; omega, fun j p hp => ?_⟩
  rw [List.getElem?_drop] at hp
  obtain ⟨A, n, c, A', n', c', k⟩ := h.2 _ p hp
  refine ⟨A, n, c, A', n', c', ?_, ?_, k.nc, k.nc', k.key, k.val⟩
  · rw [List.getElem?_drop, show 2 * i + 2 * j = 2 * (i + j) by omega]; exact k.c0
  · rw [List.getElem?_drop, show 2 * i + (2 * j + 1) = 2 * (i + j) + 1 by omega]; exact k.c1
theorem PLay.append {R : Option Addr → Nat → List UInt8 → Prop} {xs ys : List Value} {ps qs : Prs} (h : PLay R xs ps) (h' : PLay R ys qs) : PLay R (xs ++ ys) (ps ++ qs) := by
  refine ⟨by rw [List.length_append, List.length_append, h.1, h'.1]; omega, fun j p hp => ?_⟩
  by_cases hj : j < ps.length
  · rw [List.getElem?_append_left hj] at hp
    obtain ⟨A1, n1, c1, A2, n2, c2, k⟩ := h.2 j p hp
    exact ⟨A1, n1, c1, A2, n2, c2, by rw [List.getElem?_append_left (by rw [h.1]; omega)]; exact k.c0, by rw [List.getElem?_append_left (by rw [h.1]; omega)]; exact k.c1, k.nc, k.nc', k.key, k.val⟩
  · rw [List.getElem?_append_right (by omega)] at hp
    obtain ⟨A1, n1, c1, A2, n2, c2, k⟩ := h'.2 _ p hp
    refine ⟨A1, n1, c1, A2, n2, c2, ?_, ?_, k.nc, k.nc', k.key, k.val⟩
    · rw [List.getElem?_append_right (by rw [h.1]; omega), h.1, show 2 * j - 2 * ps.length = 2 * (j - ps.length) by omega]; exact k.c0
    · rw [List.getElem?_append_right (by rw [h.1]; omega), h.1, show 2 * j + 1 - 2 * ps.length = 2 * (j - ps.length) + 1 by omega]; exact k.c1
/-- All cells of pairs are one cell each. -/
theorem PLay.one {R : Option Addr → Nat → List UInt8 → Prop} {xs : List Value} {ps : Prs} (h : PLay R xs ps) : ∀ u ∈ xs, u.oneCell' = true := by
  intro u hu
  obtain ⟨i, hi⟩ := List.getElem?_of_mem hu
  have hl := (List.getElem?_eq_some_iff.1 hi).1
  have hp : i / 2 < ps.length := by have := h.1; omega
  obtain ⟨A, n, c, A', n', c', k⟩ := h.2 (i / 2) _ (List.getElem?_eq_getElem hp)
  rcases Nat.mod_two_eq_zero_or_one i with h0 | h0
  · have := k.c0
    rw [show 2 * (i / 2) = i by omega, hi] at this
    injection this with this
    subst this; rfl
  · have := k.c1
    rw [show 2 * (i / 2) + 1 = i by omega, hi] at this
    injection this with this
    subst this; rfl

/-- The slice with address A and n elements reads as pairs. -/
def PRd (w : World) (B : Nat) (A : Option Addr) (n : Nat) (ps : Prs) : Prop := ∃ xs, RdV w B 2 A n xs ∧ ps.length = n ∧ PLay (Rd w B) xs ps
section
variable {w w' : World} {B B' n : Nat} {A : Option Addr} {ps : Prs}
theorem PRd.len (h : PRd w B A n ps) : ps.length = n := by obtain ⟨_, _, h, _⟩ := h; exact h
theorem PRd.nil : PRd w B A 0 [] := ⟨[], RdV.nil, rfl, PLay.nil⟩
theorem PRd.below (h : PRd w B A n ps) (hb : Below B' w w') (hB : B ≤ B') : PRd w' B A n ps := by
  obtain ⟨xs, h1, h2, h3⟩ := h
  exact ⟨xs, h1.below hb hB, h2, h3.mono fun _ _ _ h => h.below hb hB⟩
theorem PRd.more (h : PRd w B A n ps) (hB : B ≤ B') : PRd w B' A n ps := by
  obtain ⟨xs, h1, h2, h3⟩ := h
  exact ⟨xs, h1.more hB, h2, h3.mono fun _ _ _ h => h.more hB⟩
theorem PRd.on (h : PRd w w.heap.size A n ps) (hb : Below w.heap.size w w') : PRd w' w'.heap.size A n ps := (h.below hb (Nat.le_refl _)).more hb.size
/-- Its j-th pair. -/
theorem PRd.at_ (h : PRd w B A n ps) {j : Nat} {p : List UInt8 × List UInt8} (hj : ps[j]? = some p) :
    ∃ b o A1 n1 c1 A2 n2 c2, A = some ⟨b, o, none⟩ ∧ b < B ∧ w.cell? ⟨b, o + 2 * j, none⟩ = some (.slice A1 n1 c1) ∧ w.cell? ⟨b, o + (2 * j + 1), none⟩ = some (.slice A2 n2 c2) ∧ n1 ≤ c1 ∧ n2 ≤ c2 ∧ Rd w B A1 n1 p.1 ∧ Rd w B A2 n2 p.2 := by
  obtain ⟨xs, h1, h2, h3⟩ := h
  obtain ⟨A1, n1, c1, A2, n2, c2, k⟩ := h3.2 j p hj
  have hn : 0 < n := by have := (List.getElem?_eq_some_iff.1 hj).1; omega
  obtain ⟨b, o, e, hb, hc⟩ := h1.2 hn
  exact ⟨b, o, A1, n1, c1, A2, n2, c2, e, hb, hc _ _ k.c0, hc _ _ k.c1, k.nc, k.nc', k.key, k.val⟩
end

/-- Bytes that are read, in another block than the row's. -/
def RdX (w : World) (B : Nat) (row : Option Nat) (A : Option Addr) (n : Nat) (bs : List UInt8) : Prop := Rd w B A n bs ∧ ∀ b o, A = some ⟨b, o, none⟩ → 0 < n → row ≠ some b
section
variable {w w' : World} {B B' n : Nat} {A : Option Addr} {bs : List UInt8} {row row' : Option Nat}
theorem RdX.below (h : RdX w B row A n bs) (hb : Below B' w w') (hB : B ≤ B') : RdX w' B row A n bs := ⟨h.1.below hb hB, h.2⟩
theorem RdX.more (h : RdX w B row A n bs) (hB : B ≤ B') : RdX w B' row A n bs := ⟨h.1.more hB, h.2⟩
theorem RdX.grown (h : RdX w B row A n bs) (hg : w.grownBy w' row) (hB : B ≤ w.heap.size) (hrow : row' = row ∨ row' = some w.heap.size) : RdX w' B row' A n bs := by
  refine ⟨⟨h.1.1, fun hn => ?_⟩, fun b o e hn => ?_⟩
  · obtain ⟨b, o, e, hb, hc⟩ := h.1.2 hn
    refine ⟨b, o, e, hb, fun j u hu => ?_⟩
    rw [World.cell?_of_block (w := w) (hg.block b (by omega) (fun e' => h.2 b o e hn e'.symm))]
    exact hc j u hu
  · rcases hrow with rfl | rfl
    · exact h.2 b o e hn
    · obtain ⟨b', o', e', hb, _⟩ := h.1.2 hn
      rw [e'] at e
      injection e with e
      injection e with e1 _
      subst e1
      intro e2
      injection e2 with e2
      omega
/-- What came in lies in no row of the call's own. -/
theorem rdx_old {base size k : Nat} {e : TypeId} {v : Value} {xs : List Value} (ho : w.ownsRow base e size v k xs) (hr : Rd w' base A n bs) (hb : base ≤ w'.heap.size) : RdX w' w'.heap.size v.ownBlock A n bs :=
  ⟨hr.more hb, fun b o e hn h => by
    have := (ho.lt b h).1
    obtain ⟨b', o', e', hb', _⟩ := hr.2 hn
    rw [e'] at e
    injection e with e
    injection e with e1 _
    omega⟩
end
theorem info44 : (Tryd.prog.info? 42).map (fun i => (i.zero, i.size, i.bytes)) = some (some (.agg #[.slice none 0 0, .slice none 0 0]), 2, 48) := by kernel_rfl
/-- A row of pairs of the call's own. -/
def POwn (w : World) (base : Nat) (v : Value) (n : Nat) (ps : Prs) : Prop := ∃ xs, w.ownsRow base 42 2 v n xs ∧ ps.length = n ∧ PLay (RdX w w.heap.size v.ownBlock) xs ps
theorem POwn.nil (w : World) (base : Nat) : POwn w base (.slice none 0 0) 0 [] := ⟨[], World.ownsRow_nil _ _ _ _, rfl, PLay.nil⟩
theorem POwn.rd {w : World} {base : Nat} {A : Option Addr} {n c : Nat} {ps : Prs} (h : POwn w base (.slice A n c) n ps) : PRd w w.heap.size A n ps := by
  obtain ⟨xs, h1, h2, h3⟩ := h
  exact ⟨xs, RdV.of_own h1, h2, h3.mono fun _ _ _ h => h.1⟩
theorem POwn.form {w : World} {base : Nat} {v : Value} {n : Nat} {ps : Prs} (h : POwn w base v n ps) : ∃ A c, v = .slice A n c ∧ n ≤ c ∧ (A = none → c = 0) := by
  obtain ⟨xs, h1, _, _⟩ := h
  rcases h1.2 with ⟨rfl, rfl⟩ | ⟨g, cap, cur, rfl, _, _, hnc, hm, _⟩
  · exact ⟨none, 0, rfl, Nat.le_refl _, fun _ => rfl⟩
  · exact ⟨_, cap, rfl, hnc, fun h => by cases h⟩
/-- A pair more. -/
theorem wpList_append_pair {ops : Array Oper} {rest : List Oper} {o : Oper} {a : Act} {w : World} {Q : Exit → Act → World → Prop} (hgd : o.guard = none) (s x : Operand)
    (ho : o.op = .call { callee := .builtin .append, args := #[s, x], argTypes := #[25, 25] })
    (base : Nat) (v : Value) (n : Nat) (ps : Prs) (p : List UInt8 × List UInt8) (hs : a.eval s = v) (hown : POwn w base v n ps) (A : Option Addr) (m c : Nat) (A' : Option Addr) (m' c' : Nat)
    (hx : a.eval x = .slice (some ⟨w.heap.size, 0, none⟩) 1 1) (hc : m ≤ c) (hc' : m' ≤ c') (hk : RdX w w.heap.size v.ownBlock A m p.1) (hv : RdX w w.heap.size v.ownBlock A' m' p.2)
    (hn : n ≤ 1000000) (hbase : base ≤ w.heap.size)
    (h : ∀ v' w', POwn w' base v' (n + 1) (ps ++ [p]) → Below base w w' → w.heap.size ≤ w'.heap.size → wpList Tryd.prog ops Q rest (a.put o.dst v') w') :
    wpList Tryd.prog ops Q (o :: rest) a (w.alloc (.cells #[.slice A m c, .slice A' m' c'] 42)) := by
  obtain ⟨xs, h1, h2, h3⟩ := hown
  have hr : RdV (w.alloc (.cells #[.slice A m c, .slice A' m' c'] 42)) (w.heap.size + 1) 2 (some ⟨w.heap.size, 0, none⟩) 1 [.slice A m c, .slice A' m' c'] :=
    ⟨rfl, fun _ => ⟨_, _, rfl, by omega, fun j u hu => (Whole.made w 42 #[.slice A m c, .slice A' m' c']).at_ (by rw [Nat.zero_add]; simpa using hu)⟩⟩
  obtain ⟨v', w', hrun, k2, k3, k4⟩ := run_append_rd (w.alloc (.cells #[.slice A m c, .slice A' m' c'] 42)) base 25 o.type 42 _ 2 48 Tryd.underlying25 info44 rfl (by omega) v n xs (h1.alloc _) _ _ 1 1 _ hr
    (fun u hu => by simp only [List.mem_cons, List.not_mem_nil, or_false] at hu; rcases hu with rfl | rfl <;> rfl) (by unfold maxLen; omega) (by omega) (by rw [size_alloc]; omega)
  have hb0 : Below w.heap.size w (w.alloc (.cells #[.slice A m c, .slice A' m' c'] 42)) := (Below.refl _ _).alloc (Nat.le_refl _) _
  have hbg : Below base w w' := (hb0.mono hbase).grown k3 (by rw [size_alloc]; omega) (fun k hk => (h1.lt k hk).1)
  refine wpList_plain hgd fun K hK => ?_
  unfold Oper.wp execOp
  simp only [ho, resolve, invoke, builtin, Sem.run_bind, Sem.run_pure, Result.andThen_ok, List.map_toArray, List.map_cons, List.map_nil, hs, hx, hrun]
  refine hK _ _ (h v' w' ⟨xs ++ [.slice A m c, .slice A' m' c'], k2, by rw [List.length_append, h2]; rfl, ?_⟩ hbg hbg.size)
  exact (h3.snoc p A m c A' m' c' hc hc' hk hv).mono fun A n bs hx => ((hx.below hb0 (Nat.le_refl _)).more hb0.size |>.grown k3 (Nat.le_refl _) k4).more k3.size
end Go.Proofs.YtolkpjbbfopmnaaDoor
namespace Go.Proofs.YtolkpjbbfopmnaaDoor
open Go.RowKit
open Tr

end Go.Proofs.YtolkpjbbfopmnaaDoor
namespace Go.Proofs.YtolkpjbbfopmnaaDoor
open Go.RowKit
open Tr

def PairsPost (w : World) (ps : Prs) (e : Ending) (w' : World) : Prop := ∃ A n c, e = .returned (.slice A n c) ∧ PRd w' w'.heap.size A n ps ∧ n ≤ c ∧ (A = none → c = 0) ∧ Below w.heap.size w w'

theorem cutL_take (ps : Prs) (i : Nat) (p : List UInt8 × List UInt8) (k : List UInt8) (h : ps[i]? = some p) : cutL (ps.take (i + 1)) k = cutL (ps.take i) k ++ (if p.1 = k then [] else [p]) := by
  rw [List.take_add_one, h, cutL_append]
  congr 1
  by_cases e : p.1 = k
  · simp [cutL, e]
  · simp [cutL, e]

set_option maxRecDepth 100000 in
set_option maxHeartbeats 1000000 in
theorem cutPair_any (A : Option Addr) (n c : Nat) (D : Option Addr) (m d : Nat) (ps : Prs) (k : List UInt8) (w : World) (hp : PRd w w.heap.size A n ps) (hk : Rd w w.heap.size D m k) (hn : n ≤ 1000000) :
    Calls Tryd.prog 34 #[.slice A n c, .slice D m d] w (PairsPost w (cutL ps k)) := by
  have HP := Lib.hid hp
  have HK := Lib.hid hk
  have HLEN := Lib.hid hp.len
  clear hp hk
  go_enter Tryd.func34, Tryd.ntmps34
  go_wp2_with fail
  go_loopg [5, 6] n (fun gk s5 s6 wx => ∃ i q, i + gk = n ∧ q ≤ i ∧ s6 = .int .i64 (i : Nat) ∧ POwn wx w.heap.size s5 q (cutL (ps.take i) k) ∧ Below w.heap.size w wx)
  case atStart => exact ⟨0, 0, by omega, by omega, rfl, POwn.nil _ _, Below.refl _ _⟩
  case round =>
    obtain ⟨i, q, hi, hqi, rfl, hO, hb⟩ := hrel
    obtain ⟨Ao, co, rfl, hco, hAo⟩ := hO.form
    have HAO := Lib.hid hAo
    clear hAo
    have HO := Lib.hid hO
    have HB := Lib.hid hb
    have hs := hb.size
    clear hO hb
    cases gk with
    | zero =>
      obtain rfl : i = n := by omega
      go_wp2_with fail
      go_ret
      have hO := HO.out
      rw [List.take_of_length_le (by rw [HLEN.out]; exact Nat.le_refl _)] at hO
      exact ⟨Ao, q, co, rfl, hO.rd, hco, HAO.out, HB.out⟩
    | succ gn =>
      have hin : i < n := by omega
      obtain ⟨p, hpi⟩ : ∃ p, ps[i]? = some p := ⟨_, List.getElem?_eq_getElem (by rw [HLEN.out]; exact hin)⟩
      obtain ⟨b, o, A1, n1, c1, A2, n2, c2, rfl, hbb, k0, k1, nc1, nc2, r1, r2⟩ := (HP.out.below HB.out (Nat.le_refl _)).at_ hpi
      have k0' : wr.cell? ⟨b, o + i * 2, none⟩ = some (.slice A1 n1 c1) := by rw [Nat.mul_comm]; exact k0
      have k1' : wr.cell? ⟨b, o + i * 2 + 1, none⟩ = some (.slice A2 n2 c2) := by rw [Nat.mul_comm, Nat.add_assoc]; exact k1
      clear k0 k1
      have s1 := fun j => run_string (wr.drewN j) _ A1 n1 c1 p.1 (r1.drewN j)
      have s2 := fun j => run_string (wr.drewN j) _ D m d k ((HK.out.below HB.out (Nat.le_refl _)).drewN j)
      have HR1 := Lib.hid r1
      have HR2 := Lib.hid r2
      have HT := Lib.hid (cutL_take ps i p k hpi)
      clear r1 r2 hpi
      obtain ⟨p1, p2⟩ := p
      dsimp only at s1 HR1 HR2 HT
      by_cases hpk : p1 = k
      · subst hpk
        go_wp2_with fail
        go_quiet (fail)
        rename Nat => nq
        have HO2 : Hid (POwn (wr.drewN nq) w.heap.size (.slice Ao q co) q (cutL (ps.take i) p1)) := Lib.hid HO.out
        have HB2 := Lib.hid (below_drewN HB.out nq)
        clear s1 s2 k0' k1' HO HB
        generalize wr.drewN nq = w2 at *
        go_wp2_with fail
        go_roundg gn
        case measure => omega
        case rel => exact ⟨i + 1, q, by omega, by omega, congrArg (Value.int .i64) (by omega), by rw [HT.out, if_pos trivial, List.append_nil]; exact HO2.out, HB2.out⟩
      · have hq : (p1 == k) = false := by simpa using hpk
        go_wp2_with fail
        go_quiet (fail)
        rename Nat => nq
        have HO2 : Hid (POwn (wr.drewN nq) w.heap.size (.slice Ao q co) q (cutL (ps.take i) k)) := Lib.hid HO.out
        have HB2 := Lib.hid (below_drewN HB.out nq)
        have k0 : (wr.drewN nq).cell? ⟨b, o + i * 2, none⟩ = some (.slice A1 n1 c1) := k0'
        have k1 : (wr.drewN nq).cell? ⟨b, o + i * 2 + 1, none⟩ = some (.slice A2 n2 c2) := k1'
        have HR12 : Hid (Rd (wr.drewN nq) w.heap.size A1 n1 p1) := Lib.hid HR1.out
        have HR22 : Hid (Rd (wr.drewN nq) w.heap.size A2 n2 p2) := Lib.hid HR2.out
        have hs2 : w.heap.size ≤ (wr.drewN nq).heap.size := hs
        clear s1 s2 k0' k1' HO HB HR1 HR2
        generalize wr.drewN nq = w2 at *
        go_upto_region 6 with (fail)
        refine wp_region_lit ?_
        iterate 18 go_step
        refine wpList_append_pair rfl (.tmp 22) (.tmp 27) rfl w.heap.size _ q _ (p1, p2) rfl HO2.out A1 n1 c1 A2 n2 c2 rfl nc1 nc2 (by obtain ⟨_, h1, _⟩ := HO2.out; exact rdx_old h1 HR12.out hs2) (by obtain ⟨_, h1, _⟩ := HO2.out; exact rdx_old h1 HR22.out hs2) (by omega) hs2 ?_
        intro v3 w3 hO3 hb3 hs3
        have HO3 := Lib.hid hO3
        have HB3 := Lib.hid (HB2.out.trans hb3)
        clear hO3 hb3 HO2 HB2 HR12 HR22 k0 k1
        go_simp
        go_wp2_with fail
        go_roundg gn
        case measure => omega
        case rel => exact ⟨i + 1, q + 1, by omega, by omega, congrArg (Value.int .i64) (by omega), by rw [HT.out, if_neg hpk]; exact HO3.out, HB3.out⟩
end Go.Proofs.YtolkpjbbfopmnaaDoor
namespace Go.Proofs.YtolkpjbbfopmnaaDoor
open Go.RowKit
open Tr

theorem putL_drop (k v : List UInt8) (ps : Prs) (i : Nat) (p : List UInt8 × List UInt8) (h : ps[i]? = some p) : putL (ps.drop i) k v = if lt p.1 k then p :: putL (ps.drop (i + 1)) k v else if p.1 = k then (k, v) :: ps.drop (i + 1) else (k, v) :: p :: ps.drop (i + 1) := by
  obtain ⟨hl, rfl⟩ := List.getElem?_eq_some_iff.1 h
  rw [List.drop_eq_getElem_cons hl]
  rfl
theorem take_snoc {α : Type} (ps : List α) (i : Nat) (p : α) (h : ps[i]? = some p) : ps.take (i + 1) = ps.take i ++ [p] := by
  rw [List.take_add_one, h]; rfl

/-- The rest of a row of pairs behind others. -/
theorem wpList_append_rest {ops : Array Oper} {rest : List Oper} {o : Oper} {a : Act} {w : World} {Q : Exit → Act → World → Prop} (hgd : o.guard = none) (s x : Operand)
    (ho : o.op = .call { callee := .builtin .append, args := #[s, x], argTypes := #[25, 25] })
    (base : Nat) (v : Value) (n : Nat) (ps qs : Prs) (hs : a.eval s = v) (hown : POwn w base v n ps) (A : Option Addr) (m c : Nat)
    (hx : a.eval x = .slice A m c) (hr : PRd w base A m qs) (hn : n + m ≤ 1000000) (hbase : base ≤ w.heap.size)
    (h : ∀ v' w', POwn w' base v' (n + m) (ps ++ qs) → Below base w w' → w.heap.size ≤ w'.heap.size → wpList Tryd.prog ops Q rest (a.put o.dst v') w') :
    wpList Tryd.prog ops Q (o :: rest) a w := by
  obtain ⟨xs, h1, h2, h3⟩ := hown
  obtain ⟨ys, g1, g2, g3⟩ := hr
  obtain ⟨v', w', hrun, k2, k3, k4⟩ := run_append_rd w base 25 o.type 42 _ 2 48 Tryd.underlying25 info44 rfl (by omega) v n xs h1 _ A m c ys g1 g3.one (by unfold maxLen; omega) (by omega) hbase
  have hbg : Below base w w' := (Below.refl base w).grown k3 hbase (fun k hk => (h1.lt k hk).1)
  refine wpList_plain hgd fun K hK => ?_
  unfold Oper.wp execOp
  simp only [ho, resolve, invoke, builtin, Sem.run_bind, Sem.run_pure, Result.andThen_ok, List.map_toArray, List.map_cons, List.map_nil, hs, hx, hrun]
  refine hK _ _ (h v' w' ⟨xs ++ ys, k2, by rw [List.length_append, h2, g2], ?_⟩ hbg hbg.size)
  exact (h3.append (g3.mono fun A n bs hq => rdx_old h1 hq hbase)).mono fun A n bs hx => (hx.grown k3 (Nat.le_refl _) k4).more k3.size
theorem PRd.drop {w : World} {B b o n : Nat} {ps : Prs} (h : PRd w B (some ⟨b, o, none⟩) n ps) (i : Nat) (hi : i ≤ n) : PRd w B (some ⟨b, o + i * 2, none⟩) (n - i) (ps.drop i) := by
  obtain ⟨xs, h1, h2, h3⟩ := h
  refine ⟨xs.drop (2 * i), ⟨by rw [List.length_drop, h1.1]; omega, fun hn => ?_⟩, by rw [List.length_drop, h2], h3.drop i⟩
  obtain ⟨b', o', e, hb, hc⟩ := h1.2 (by omega)
  injection e with e
  injection e with e1 e2
  subst e1 e2
  refine ⟨b, o + i * 2, rfl, hb, fun j u hu => ?_⟩
  rw [List.getElem?_drop] at hu
  have := hc _ u hu
  rwa [show o + (2 * i + j) = o + i * 2 + j by omega] at this

set_option maxRecDepth 100000 in
set_option maxHeartbeats 1000000 in
theorem putPair_any (A : Option Addr) (n c : Nat) (D : Option Addr) (m d : Nat) (E : Option Addr) (me ce : Nat) (ps : Prs) (k v : List UInt8) (w : World) (hp : PRd w w.heap.size A n ps) (hnc : n ≤ c) (hA : A = none → c = 0) (hk : Rd w w.heap.size D m k) (hmd : m ≤ d) (hv : Rd w w.heap.size E me v) (hme : me ≤ ce) (hn : n ≤ 100000) :
    Calls Tryd.prog 33 #[.slice A n c, .slice D m d, .slice E me ce] w (PairsPost w (putL ps k v)) := by
  have HP := Lib.hid hp
  have HK := Lib.hid hk
  have HV := Lib.hid hv
  have HLEN := Lib.hid hp.len
  have HA := Lib.hid hA
  clear hp hk hv hA
  go_enter Tryd.func33, Tryd.ntmps33
  go_wp2_with fail
  go_loopg [7, 8] n (fun gk s7 s8 wx => ∃ i, i + gk = n ∧ s8 = .int .i64 (i : Nat) ∧ POwn wx w.heap.size s7 i (ps.take i) ∧ putL ps k v = ps.take i ++ putL (ps.drop i) k v ∧ Below w.heap.size w wx)
  case atStart => exact ⟨0, by omega, rfl, POwn.nil _ _, rfl, Below.refl _ _⟩
  case round =>
    obtain ⟨i, hi, rfl, hO, hput, hb⟩ := hrel
    obtain ⟨Ao, co, rfl, hco, hAo⟩ := hO.form
    clear hAo
    have HO := Lib.hid hO
    have HB := Lib.hid hb
    have HPUT := Lib.hid hput
    have hs := hb.size
    clear hO hb hput
    cases gk with
    | zero =>
      obtain rfl : i = n := by omega
      have HDN : Hid (ps.drop i = []) := Lib.hid (List.drop_eq_nil_of_le (by rw [HLEN.out]; exact Nat.le_refl _))
      go_wp2_with fail
      go_quiet (fail)
      rename Nat => nq
      have HO2 : Hid (POwn (wr.drewN nq) w.heap.size (.slice Ao i co) i (ps.take i)) := Lib.hid HO.out
      have HB2 := Lib.hid (below_drewN HB.out nq)
      have hs2 : w.heap.size ≤ (wr.drewN nq).heap.size := hs
      clear HO HB hs
      generalize wr.drewN nq = w2 at *
      go_upto_region 6 with (fail)
      refine wp_region_lit ?_
      iterate 15 go_step
      refine wpList_append_pair rfl (.tmp 33) (.tmp 37) rfl w.heap.size _ i _ (k, v) rfl HO2.out D m d E me ce rfl hmd hme (by obtain ⟨_, h1, _⟩ := HO2.out; exact rdx_old h1 (HK.out.below HB2.out (Nat.le_refl _)) hs2) (by obtain ⟨_, h1, _⟩ := HO2.out; exact rdx_old h1 (HV.out.below HB2.out (Nat.le_refl _)) hs2) (by omega) hs2 ?_
      intro v3 w3 hO3 hb3 hs3
      obtain ⟨A3, c3, rfl, hc3, _⟩ := hO3.form
      have HO3 := Lib.hid hO3
      have HB3 := Lib.hid (HB2.out.trans hb3)
      clear hO3 hb3 HO2 HB2
      have hs3' : w.heap.size ≤ w3.heap.size := by omega
      clear hs3 hs2
      go_simp
      go_wp2_with fail
      go_quiet (fail)
      rename Nat => nq3
      have HO4 : Hid (POwn (w3.drewN nq3) w.heap.size (.slice A3 (i + 1) c3) (i + 1) (ps.take i ++ [(k, v)])) := Lib.hid HO3.out
      have HB4 := Lib.hid (below_drewN HB3.out nq3)
      have hs4 : w.heap.size ≤ (w3.drewN nq3).heap.size := hs3'
      clear HO3 HB3 hs3'
      generalize w3.drewN nq3 = w4 at *
      go_upto_region 9 with (fail)
      refine wp_region_lit ?_
      iterate 12 go_step
      refine wpList_append_rest rfl (.tmp 56) (.tmp 59) rfl w.heap.size _ (i + 1) _ ([]) rfl HO4.out _ (0) _ rfl ?_ (by omega) hs4 ?_
      · exact PRd.nil
      intro v5 w5 hO5 hb5 hs5
      obtain ⟨A5, c5, rfl, hc5, hA5⟩ := hO5.form
      have HO5 := Lib.hid (And.intro hO5.rd hA5)
      have HB5 := Lib.hid (HB4.out.trans hb5)
      clear hO5 hb5 HO4 HB4 hA5
      go_simp
      go_wp2_with fail
      all_goals
        go_ret
        refine ⟨A5, _, c5, rfl, ?_, hc5, HO5.out.2, HB5.out⟩
        have h5 := HO5.out.1
        rw [HPUT.out, HDN.out, show putL [] k v = [(k, v)] from rfl]
        simpa using h5
    | succ gn =>
      have hin : i < n := by omega
      obtain ⟨p, hpi⟩ : ∃ p, ps[i]? = some p := ⟨_, List.getElem?_eq_getElem (by rw [HLEN.out]; exact hin)⟩
      obtain ⟨b, o, A1, n1, c1, A2, n2, c2, rfl, hbb, kk0, kk1, nc1, nc2, rr1, rr2⟩ := HP.out.at_ hpi
      have HDR := Lib.hid (putL_drop k v ps i p hpi)
      have HTK := Lib.hid (take_snoc ps i p hpi)
      have HDC : Hid (ps.drop i = p :: ps.drop (i + 1)) := Lib.hid (by obtain ⟨hl, rfl⟩ := List.getElem?_eq_some_iff.1 hpi; exact List.drop_eq_getElem_cons hl)
      clear hpi HA
      obtain ⟨p1, p2⟩ := p
      have HF : Hid (∀ u, Below w.heap.size w u → u.cell? ⟨b, o + i * 2, none⟩ = some (.slice A1 n1 c1) ∧ u.cell? ⟨b, o + i * 2 + 1, none⟩ = some (.slice A2 n2 c2) ∧ Rd u w.heap.size A1 n1 p1 ∧ Rd u w.heap.size A2 n2 p2) := Lib.hid (fun u hb => by
        refine ⟨?_, ?_, rr1.below hb (Nat.le_refl _), rr2.below hb (Nat.le_refl _)⟩
        · rw [Nat.mul_comm i 2]; exact (hb.cell (p := ⟨b, o + 2 * i, none⟩) hbb).trans kk0
        · rw [Nat.mul_comm i 2, Nat.add_assoc]; exact (hb.cell (p := ⟨b, o + (2 * i + 1), none⟩) hbb).trans kk1)
      dsimp only at HDR HTK HDC
      clear kk0 kk1 rr1 rr2
      obtain ⟨k0, k1, r1, r2⟩ := HF.out wr HB.out
      have s1 := fun j => run_string (wr.drewN j) _ A1 n1 c1 p1 (r1.drewN j)
      have s2 := fun j => run_string (wr.drewN j) _ D m d k ((HK.out.below HB.out (Nat.le_refl _)).drewN j)
      clear r1 r2
      by_cases hlt : lt p1 k = true
      · have hq : Go.Op.bytesLess p1 k = true := hlt
        go_wp2_with fail
        go_quiet (fail)
        rename Nat => nq
        have HO2 : Hid (POwn (wr.drewN nq) w.heap.size (.slice Ao i co) i (ps.take i)) := Lib.hid HO.out
        have HB2 := Lib.hid (below_drewN HB.out nq)
        have hs2 : w.heap.size ≤ (wr.drewN nq).heap.size := hs
        clear HO HB hs s1 s2 k0 k1
        generalize wr.drewN nq = w2 at *
        obtain ⟨k0, k1, r1, r2⟩ := HF.out w2 HB2.out
        have HR1 := Lib.hid r1
        have HR2 := Lib.hid r2
        clear r1 r2
        go_upto_region 4 with (fail)
        refine wp_region_lit ?_
        iterate 18 go_step
        refine wpList_append_pair rfl (.tmp 24) (.tmp 29) rfl w.heap.size _ i _ (p1, p2) rfl HO2.out A1 n1 c1 A2 n2 c2 rfl nc1 nc2 (by obtain ⟨_, h1, _⟩ := HO2.out; exact rdx_old h1 HR1.out hs2) (by obtain ⟨_, h1, _⟩ := HO2.out; exact rdx_old h1 HR2.out hs2) (by omega) hs2 ?_
        intro v3 w3 hO3 hb3 hs3
        have HO3 := Lib.hid hO3
        have HB3 := Lib.hid (HB2.out.trans hb3)
        clear hO3 hb3 HO2 HB2 HR1 HR2 k0 k1
        go_simp
        go_wp2_with fail
        go_roundg gn
        case measure => omega
        case rel =>
          refine ⟨i + 1, by omega, congrArg (Value.int .i64) (by omega), by rw [HTK.out]; exact HO3.out, ?_, HB3.out⟩
          rw [HPUT.out, HDR.out, if_pos hlt, HTK.out, List.append_assoc]
          rfl
      · have hq : Go.Op.bytesLess p1 k = false := (Bool.not_eq_true _).mp hlt
        go_wp2_with fail
        go_quiet (fail)
        rename Nat => nq
        have HO2 : Hid (POwn (wr.drewN nq) w.heap.size (.slice Ao i co) i (ps.take i)) := Lib.hid HO.out
        have HB2 := Lib.hid (below_drewN HB.out nq)
        have hs2 : w.heap.size ≤ (wr.drewN nq).heap.size := hs
        clear HO HB hs s1 s2 k0 k1
        generalize wr.drewN nq = w2 at *
        go_upto_region 6 with (fail)
        refine wp_region_lit ?_
        iterate 15 go_step
        refine wpList_append_pair rfl (.tmp 33) (.tmp 37) rfl w.heap.size _ i _ (k, v) rfl HO2.out D m d E me ce rfl hmd hme (by obtain ⟨_, h1, _⟩ := HO2.out; exact rdx_old h1 (HK.out.below HB2.out (Nat.le_refl _)) hs2) (by obtain ⟨_, h1, _⟩ := HO2.out; exact rdx_old h1 (HV.out.below HB2.out (Nat.le_refl _)) hs2) (by omega) hs2 ?_
        intro v3 w3 hO3 hb3 hs3
        obtain ⟨A3, c3, rfl, hc3, _⟩ := hO3.form
        have HO3 := Lib.hid hO3
        have HB3 := Lib.hid (HB2.out.trans hb3)
        clear hO3 hb3 HO2 HB2
        have hs3' : w.heap.size ≤ w3.heap.size := by omega
        clear hs3 hs2
        go_simp
        obtain ⟨k0, k1, r1, r2⟩ := HF.out w3 HB3.out
        have s1 := fun j => run_string (w3.drewN j) _ A1 n1 c1 p1 (r1.drewN j)
        have s2 := fun j => run_string (w3.drewN j) _ D m d k ((HK.out.below HB3.out (Nat.le_refl _)).drewN j)
        clear r1 r2
        by_cases hpk : p1 = k
        · have hqk : (p1 == k) = true := by simpa using hpk
          go_wp2_with fail
          go_quiet (fail)
          rename Nat => nq3
          have HO4 : Hid (POwn (w3.drewN nq3) w.heap.size (.slice A3 (i + 1) c3) (i + 1) (ps.take i ++ [(k, v)])) := Lib.hid HO3.out
          have HB4 := Lib.hid (below_drewN HB3.out nq3)
          have hs4 : w.heap.size ≤ (w3.drewN nq3).heap.size := hs3'
          clear HO3 HB3 hs3' s1 s2 k0 k1
          generalize w3.drewN nq3 = w4 at *
          go_upto_region 9 with (fail)
          refine wp_region_lit ?_
          iterate 12 go_step
          refine wpList_append_rest rfl (.tmp 56) (.tmp 59) rfl w.heap.size _ (i + 1) _ (ps.drop (i + 1)) rfl HO4.out _ (n - (i + 1)) _ rfl ?_ (by omega) hs4 ?_
          · by_cases hci : c = i + 1
            · rw [if_pos hci, show n - (i + 1) = 0 by omega, List.drop_eq_nil_of_le (by rw [HLEN.out]; omega)]; exact PRd.nil
            · rw [if_neg hci]
              exact (HP.out.drop (i + 1) (by omega)).below HB4.out (Nat.le_refl _)
          intro v5 w5 hO5 hb5 hs5
          obtain ⟨A5, c5, rfl, hc5, hA5⟩ := hO5.form
          have HO5 := Lib.hid (And.intro hO5.rd hA5)
          have HB5 := Lib.hid (HB4.out.trans hb5)
          clear hO5 hb5 HO4 HB4 hA5
          go_simp
          go_wp2_with fail
          all_goals
            go_ret
            refine ⟨A5, _, c5, rfl, ?_, hc5, HO5.out.2, HB5.out⟩
            have h5 := HO5.out.1
            rw [HPUT.out, HDR.out, if_neg hlt, if_pos hpk]
            simpa using h5
        · have hqk : (p1 == k) = false := by simpa using hpk
          go_wp2_with fail
          go_quiet (fail)
          rename Nat => nq3
          have HO4 : Hid (POwn (w3.drewN nq3) w.heap.size (.slice A3 (i + 1) c3) (i + 1) (ps.take i ++ [(k, v)])) := Lib.hid HO3.out
          have HB4 := Lib.hid (below_drewN HB3.out nq3)
          have hs4 : w.heap.size ≤ (w3.drewN nq3).heap.size := hs3'
          clear HO3 HB3 hs3' s1 s2 k0 k1
          generalize w3.drewN nq3 = w4 at *
          go_upto_region 9 with (fail)
          refine wp_region_lit ?_
          iterate 12 go_step
          refine wpList_append_rest rfl (.tmp 56) (.tmp 59) rfl w.heap.size _ (i + 1) _ (ps.drop i) rfl HO4.out _ (n - i) _ rfl ?_ (by omega) hs4 ?_
          · exact (HP.out.drop i (by omega)).below HB4.out (Nat.le_refl _)
          intro v5 w5 hO5 hb5 hs5
          obtain ⟨A5, c5, rfl, hc5, hA5⟩ := hO5.form
          have HO5 := Lib.hid (And.intro hO5.rd hA5)
          have HB5 := Lib.hid (HB4.out.trans hb5)
          clear hO5 hb5 HO4 HB4 hA5
          go_simp
          go_wp2_with fail
          all_goals
            go_ret
            refine ⟨A5, _, c5, rfl, ?_, hc5, HO5.out.2, HB5.out⟩
            have h5 := HO5.out.1
            rw [HPUT.out, HDR.out, if_neg hlt, if_neg hpk, ← HDC.out]
            simpa using h5
end Go.Proofs.YtolkpjbbfopmnaaDoor
namespace Go.Proofs.YtolkpjbbfopmnaaDoor
open Go.RowKit
open Tr

structure Ac where
  kind : UInt8
  no : UInt8
  raw : List UInt8
  val : List UInt8
def kb1 (x : UInt8) : UInt8 := UInt8.ofNat (97 + x.toNat % 26)
def kb2 (x : UInt8) : UInt8 := UInt8.ofNat (97 + x.toNat / 26)
def Ac.key (a : Ac) : List UInt8 := if a.raw = [] then [107, kb1 a.no, kb2 a.no] else a.raw
def Ac.cut (a : Ac) : List UInt8 := a.val.take 100
theorem Ac.key_pos (a : Ac) : 1 ≤ a.key.length := by
  unfold Ac.key
  split
  · show 1 ≤ 3; omega
  · rename_i h
    cases hr : a.raw with
    | nil => exact absurd hr h
    | cons x r => simp

theorem key_cells (x : UInt8) : #[Value.int .u8 107, Value.int .u8 (97 + (x.toNat : Int) % 26), Value.int .u8 ((97 + (x.toNat : Int) / 26) % 256)] = (([107, kb1 x, kb2 x] : List UInt8).map V8).toArray := by
  have h1 : ((kb1 x).toNat : Int) = 97 + (x.toNat : Int) % 26 := by
    unfold kb1
    rw [UInt8.toNat_ofNat']
    omega
  have h2 : ((kb2 x).toNat : Int) = (97 + (x.toNat : Int) / 26) % 256 := by
    unfold kb2
    rw [UInt8.toNat_ofNat']
    omega
  simp only [List.map_cons, List.map_nil, V8, h1, h2]
  rfl

set_option maxRecDepth 100000 in
theorem key_any (a : Ac) (A1 A2 : Option Addr) (n1 c1 n2 c2 : Nat) (w : World) (h1 : Rd w w.heap.size A1 n1 a.raw) (hnc : n1 ≤ c1) :
    Calls Tryd.prog 9 #[.agg #[.int .u8 a.kind.toNat, .int .u8 a.no.toNat, .slice A1 n1 c1, .slice A2 n2 c2]] w (BytesPost w a.key) := by
  have hb0 : Below w.heap.size w (w.alloc (.cells #[.int .u8 a.kind.toNat, .int .u8 a.no.toNat, .slice A1 n1 c1, .slice A2 n2 c2] 33)) := (Below.refl _ _).alloc (Nat.le_refl _) _
  have hw0 := Whole.made w 33 #[.int .u8 a.kind.toNat, .int .u8 a.no.toNat, .slice A1 n1 c1, .slice A2 n2 c2]
  have c1' := hw0.at_ (i := 1) rfl
  have c2' := hw0.at_ (i := 2) rfl
  have hs0 : (w.alloc (.cells #[.int .u8 a.kind.toNat, .int .u8 a.no.toNat, .slice A1 n1 c1, .slice A2 n2 c2] 33)).heap.size = w.heap.size + 1 := size_alloc _ _
  have HR := Lib.hid h1
  have HB := Lib.hid hb0
  have hlen := h1.len
  clear h1 hb0 hw0
  by_cases hr : a.raw = []
  · have HK : Hid (a.key = [107, kb1 a.no, kb2 a.no]) := Lib.hid (by unfold Ac.key; rw [if_pos hr])
    obtain rfl : n1 = 0 := by rw [← hlen, hr]; rfl
    clear hlen hr
    go_enter Tryd.func9, Tryd.ntmps9
    go_upto_region 3 with (fail)
    generalize w.alloc (.cells #[.int .u8 a.kind.toNat, .int .u8 a.no.toNat, .slice A1 0 c1, .slice A2 n2 c2] 33) = w1 at *
    refine wp_region_lit ?_
    iterate 27 go_step
    have hb2 : Below w1.heap.size w1 (w1.alloc (.cells #[.int .u8 107, .int .u8 (97 + (a.no.toNat : Int) % 26), .int .u8 ((97 + (a.no.toNat : Int) / 26) % 256)] 5)) := (Below.refl _ _).alloc (Nat.le_refl _) _
    have hr2 : Rd (w1.alloc (.cells #[.int .u8 107, .int .u8 (97 + (a.no.toNat : Int) % 26), .int .u8 ((97 + (a.no.toNat : Int) / 26) % 256)] 5)) (w1.heap.size + 1) (some ⟨w1.heap.size, 0, none⟩) 3 [107, kb1 a.no, kb2 a.no] := rd_new w1 5 _ 3 rfl _ (key_cells a.no)
    have hs2 : (w1.alloc (.cells #[.int .u8 107, .int .u8 (97 + (a.no.toNat : Int) % 26), .int .u8 ((97 + (a.no.toNat : Int) / 26) % 256)] 5)).heap.size = w1.heap.size + 1 := size_alloc _ _
    rw [hs0] at hr2
    have HR2 := Lib.hid (hr2.more (B' := (w1.alloc (.cells #[.int .u8 107, .int .u8 (97 + (a.no.toNat : Int) % 26), .int .u8 ((97 + (a.no.toNat : Int) / 26) % 256)] 5)).heap.size) (by omega))
    have HB2 := Lib.hid (HB.out.trans (hb2.mono HB.out.size))
    clear hr2 hb2 hs2 c1' c2'
    generalize w1.alloc (.cells #[.int .u8 107, .int .u8 (97 + (a.no.toNat : Int) % 26), .int .u8 ((97 + (a.no.toNat : Int) / 26) % 256)] 5) = w2 at *
    go_wp2_with fail
    go_ret
    exact ⟨_, 3, 3, rfl, by rw [HK.out]; exact HR2.out, Nat.le_refl _, HB2.out⟩
  · have HK : Hid (a.key = a.raw) := Lib.hid (by unfold Ac.key; rw [if_neg hr])
    have hn : 0 < n1 := by
      rw [← hlen]
      cases ha : a.raw with
      | nil => exact absurd ha hr
      | cons x r => simp
    clear hlen hr
    go_enter Tryd.func9, Tryd.ntmps9
    go_upto_region 1 with (fail)
    generalize w.alloc (.cells #[.int .u8 a.kind.toNat, .int .u8 a.no.toNat, .slice A1 n1 c1, .slice A2 n2 c2] 33) = w1 at *
    go_wp2_with fail
    go_ret
    exact ⟨A1, n1, c1, rfl, by rw [HK.out]; exact (HR.out.below HB.out (Nat.le_refl _)).more HB.out.size, hnc, HB.out⟩

/-- The cells of one call. -/
def Ac.cells (a : Ac) (A1 : Option Addr) (n1 c1 : Nat) (A2 : Option Addr) (n2 c2 : Nat) : Array Value := #[.int .u8 a.kind.toNat, .int .u8 a.no.toNat, .slice A1 n1 c1, .slice A2 n2 c2]
/-- The slice with address A and n elements reads as calls. -/
def ARd (w : World) (B : Nat) (A : Option Addr) (n : Nat) (cs : List Ac) : Prop :=
  cs.length = n ∧ ∀ (j : Nat) (a : Ac), cs[j]? = some a → ∃ b o A1 n1 c1 A2 n2 c2, A = some ⟨b, o, none⟩ ∧ b < B ∧ w.cell? ⟨b, o + j * 4, none⟩ = some (.int .u8 a.kind.toNat) ∧ w.cell? ⟨b, o + j * 4 + 1, none⟩ = some (.int .u8 a.no.toNat) ∧
    w.cell? ⟨b, o + j * 4 + 2, none⟩ = some (.slice A1 n1 c1) ∧ w.cell? ⟨b, o + j * 4 + 3, none⟩ = some (.slice A2 n2 c2) ∧ n1 ≤ c1 ∧ n2 ≤ c2 ∧ n1 ≤ 140737488355328 ∧ n2 ≤ 140737488355328 ∧ Rd w B A1 n1 a.raw ∧ Rd w B A2 n2 a.val
theorem ARd.below {w w' : World} {B B' n : Nat} {A : Option Addr} {cs : List Ac} (h : ARd w B A n cs) (hb : Below B' w w') (hB : B ≤ B') : ARd w' B A n cs :=
  ⟨h.1, fun j a ha => by
    obtain ⟨b, o, A1, n1, c1, A2, n2, c2, e, hbb, k0, k1, k2, k3, m1, m2, m3, m4, r1, r2⟩ := h.2 j a ha
    have hc : ∀ q, w'.cell? ⟨b, q, none⟩ = w.cell? ⟨b, q, none⟩ := fun q => hb.cell (p := ⟨b, q, none⟩) (Nat.lt_of_lt_of_le hbb hB)
    exact ⟨b, o, A1, n1, c1, A2, n2, c2, e, hbb, (hc _).trans k0, (hc _).trans k1, (hc _).trans k2, (hc _).trans k3, m1, m2, m3, m4, r1.below hb hB, r2.below hb hB⟩⟩

theorem ARd.more {w : World} {B B' n : Nat} {A : Option Addr} {cs : List Ac} (h : ARd w B A n cs) (hB : B ≤ B') : ARd w B' A n cs :=
  ⟨h.1, fun j a ha => by
    obtain ⟨b, o, A1, n1, c1, A2, n2, c2, e, hbb, k0, k1, k2, k3, m1, m2, m3, m4, r1, r2⟩ := h.2 j a ha
    exact ⟨b, o, A1, n1, c1, A2, n2, c2, e, Nat.lt_of_lt_of_le hbb hB, k0, k1, k2, k3, m1, m2, m3, m4, r1.more hB, r2.more hB⟩⟩

/-- One call on a tree. -/
def gstep (o : Option T) (a : Ac) : Option T :=
  if a.kind.toNat % 6 < 4 then some (oput o a.key a.cut) else if (ofind o a.key).isSome then ocut o a.key else o
/-- Calls on a tree, no more than so many, as long as keys may be. -/
def grow : Nat → List Ac → Option T → Option T
  | 0, _, o => o
  | _ + 1, [], o => o
  | m + 1, a :: r, o => if 90 < a.key.length then o else grow m r (gstep o a)
/-- A tree that is in order. -/
def OAvl : Option T → Prop
  | none => True
  | some t => Avl t
structure Fine (o : Option T) : Prop where
  srt : Srt (optLeaves o)
  avl : OAvl o
theorem Fine.none : Fine none := ⟨List.Pairwise.nil, trivial⟩
theorem oput_leaves (o : Option T) (k v : List UInt8) (h : Srt (optLeaves o)) : (oput o k v).leaves = putL (optLeaves o) k v := by
  cases o with
  | none => rfl
  | some t => exact put_leaves k v t h
theorem Fine.put {o : Option T} (h : Fine o) (k v : List UInt8) : Fine (some (oput o k v)) := by
  refine ⟨?_, ?_⟩
  · show Srt (oput o k v).leaves
    rw [oput_leaves o k v h.srt]
    exact putL_srt k v _ h.srt
  · cases o with
    | none => exact trivial
    | some t => exact (put_avl k v t h.avl).1
theorem ofind_leaves (o : Option T) (k : List UInt8) (h : Srt (optLeaves o)) : ofind o k = findL (optLeaves o) k := by
  cases o with
  | none => rfl
  | some t => exact find_leaves k t h
theorem ocut_leaves (o : Option T) (k : List UInt8) (h : Srt (optLeaves o)) (hf : (ofind o k).isSome = true) : optLeaves (ocut o k) = cutL (optLeaves o) k := by
  cases o with
  | none => cases hf
  | some t => exact cut_leaves k t h hf
theorem Fine.cut {o : Option T} (h : Fine o) (k : List UInt8) (hf : (ofind o k).isSome = true) : Fine (ocut o k) := by
  refine ⟨?_, ?_⟩
  · rw [ocut_leaves o k h.srt hf]
    exact cutL_srt k h.srt
  · cases o with
    | none => exact trivial
    | some t =>
      show OAvl (t.cut k)
      cases hc : t.cut k with
      | none => exact trivial
      | some t' => exact (cut_avl k t t' h.avl hc).1
theorem findL_none_cut {l : Prs} {k : List UInt8} (h : findL l k = none) : cutL l k = l := by
  refine cutL_none fun p hp e => ?_
  induction l with
  | nil => cases hp
  | cons x r ih =>
    unfold findL at h
    split at h
    · cases h
    · rename_i hx
      rcases List.mem_cons.1 hp with rfl | hp
      · exact hx e
      · exact ih h hp
theorem oln_leaves (o : Option T) : (optLeaves o).length = oln o := by
  cases o with
  | none => rfl
  | some t => exact T.n_leaves t
theorem cutL_le (l : Prs) (k : List UInt8) : (cutL l k).length ≤ l.length := List.length_filter_le _ _
theorem gstep_put {o : Option T} {a : Ac} (h : a.kind.toNat % 6 < 4) : gstep o a = some (oput o a.key a.cut) := by unfold gstep; rw [if_pos h]
theorem grow_stop (m : Nat) (a : Ac) (r : List Ac) (o : Option T) (h : 90 < a.key.length) : grow m (a :: r) o = o := by
  cases m with
  | zero => rfl
  | succ m => show (if 90 < a.key.length then o else _) = o; rw [if_pos h]
theorem grow_nil (m : Nat) (o : Option T) : grow m [] o = o := by cases m <;> rfl
theorem grow_step (m : Nat) (a : Ac) (r : List Ac) (o : Option T) (h : ¬ 90 < a.key.length) : grow (m + 1) (a :: r) o = grow m r (gstep o a) := by
  show (if 90 < a.key.length then o else grow m r (gstep o a)) = _
  rw [if_neg h]
end Go.Proofs.YtolkpjbbfopmnaaDoor
namespace Go.Proofs.YtolkpjbbfopmnaaDoor
open Go.RowKit
open Tr

theorem zero29 : ∀ w, (zeroValue 33).run Tryd.prog w = .ok (.agg #[.int .u8 0, .int .u8 0, .slice none 0 0, .slice none 0 0]) w := (zero_of_info (P := Tryd.prog) (t := 33) (v := .agg #[.int .u8 0, .int .u8 0, .slice none 0 0, .slice none 0 0]) (n := 4) (by kernel_rfl)).1
theorem info29 : (Tryd.prog.info? 33).map (·.size) = some 4 := by kernel_rfl
theorem TIn.on {G : Nat → Prop} {w w' : World} {o : Option T} {g : Nat} (h : TIn G w w.heap.size o g) (hb : Below w.heap.size w w') : TIn G w' w'.heap.size o g := (h.below hb (Nat.le_refl _)).more hb.size

def GrowPost (G : Nat → Prop) (most : Nat) (o : Option T) (w : World) (e : Ending) (w' : World) : Prop := ∃ g A n c, e = .returned (.tuple #[ptr (some g), .slice A n c]) ∧ TIn G w' w'.heap.size o g ∧ PRd w' w'.heap.size A n (optLeaves o) ∧ n ≤ c ∧ (A = none → c = 0) ∧ Fine o ∧ oln o ≤ most ∧ Below w.heap.size w w'

theorem Ac.one (a : Ac) (A1 : Option Addr) (n1 c1 : Nat) (A2 : Option Addr) (n2 c2 : Nat) : (a.cells A1 n1 c1 A2 n2 c2).all (·.oneCell') = true := by
  unfold Ac.cells
  exact all_oneCell_toArray (fun u hu => by
    simp only [List.mem_cons, List.not_mem_nil, or_false] at hu
    rcases hu with rfl | rfl | rfl | rfl <;> rfl)
theorem Rd.pre {w : World} {B n : Nat} {A : Option Addr} {bs : List UInt8} (h : Rd w B A n bs) (m : Nat) (hm : m ≤ n) : Rd w B A m (bs.take m) := by
  have hl := h.len
  refine ⟨by simp; omega, fun hn => ?_⟩
  obtain ⟨b, o, e, hb, hc⟩ := h.2 (by omega)
  refine ⟨b, o, e, hb, fun j u hu => ?_⟩
  rw [List.getElem?_map, List.getElem?_take] at hu
  split at hu
  · exact hc j u (by rw [List.getElem?_map]; exact hu)
  · cases hu
theorem Ac.cut_take (a : Ac) (n2 : Nat) (h : a.val.length = n2) (M : Nat) (hM : M = min 100 n2) : a.val.take M = a.cut := by
  unfold Ac.cut
  subst hM
  rcases Nat.le_total 100 n2 with h1 | h1
  · rw [Nat.min_eq_left h1]
  · rw [Nat.min_eq_right h1, List.take_of_length_le (by omega), List.take_of_length_le (by omega)]
/-- How memory stands at the head of a round. -/
structure GAt (G : Nat → Prop) (W : World) (wx : World) (i : Nat) (o : Option T) (g : Nat) (A : Option Addr) (n c : Nat) : Prop where
  tree : TIn G wx wx.heap.size o g
  prs : PRd wx wx.heap.size A n (optLeaves o)
  nc : n ≤ c
  anc : A = none → c = 0
  fine : Fine o
  few : oln o ≤ i
  bel : Below W.heap.size W wx

theorem GAt.on {G : Nat → Prop} {W wx w' : World} {i : Nat} {o : Option T} {g : Nat} {A : Option Addr} {n c : Nat} (h : GAt G W wx i o g A n c) (hb : Below wx.heap.size wx w') : GAt G W w' i o g A n c :=
  ⟨h.tree.on hb, h.prs.on hb, h.nc, h.anc, h.fine, h.few, h.bel.trans (hb.mono h.bel.size)⟩

set_option maxRecDepth 100000 in
set_option maxHeartbeats 2000000 in
theorem grow_any (G : Nat → Prop) (A : Option Addr) (n c : Nat) (cs : List Ac) (most : Nat) (w : World) (hc : ARd w w.heap.size A n cs) (hn : n ≤ 9223372036854775807) (hm : most ≤ 1000) (ht : Sh.Tab w 1) (hG : Room G w) :
    Calls Tryd.prog 7 #[.slice A n c, .int .i64 most] w (GrowPost G most (grow most cs none) w) := by
  have HC := Lib.hid hc
  have HT := Lib.hid ht
  have HLEN := Lib.hid hc.1
  have hw := hG.1
  have HRM := Lib.hid hG
  clear hc ht hG
  go_enter Tryd.func7, Tryd.ntmps7
  go_wp2_with fail
  refine (new_any (G := G) w HRM.out).mono ?_
  rintro e w1 ⟨g0, rfl, _, hT1, hb1⟩
  have HG1 := Lib.hid (GAt.mk (G := G) (A := none) (n := 0) (c := 0) (i := 0) hT1 PRd.nil (Nat.le_refl _) (fun _ => rfl) Fine.none (Nat.le_refl _) hb1)
  clear hT1 hb1
  go_wp2_with fail
  go_loopg [6, 7, 15] n (fun gk s6 s7 s15 wx => ∃ i o g A' n' c', i + gk = n ∧ i ≤ most ∧ s15 = .int .i64 (i : Nat) ∧ s6 = ptr (some g) ∧ s7 = .slice A' n' c' ∧ GAt G w wx i o g A' n' c' ∧ grow (most - i) (cs.drop i) o = grow most cs none)
  case atStart => exact ⟨0, none, g0, none, 0, 0, by omega, by omega, rfl, rfl, rfl, HG1.out, rfl⟩
  case round =>
    clear HG1
    obtain ⟨i, o, g, A', n', c', hi, him, rfl, rfl, rfl, hG, hgr⟩ := hrel
    have HG := Lib.hid hG
    have HGR := Lib.hid hgr
    have hs := hG.bel.size
    clear hG hgr
    cases gk with
    | zero =>
      obtain rfl : i = n := by omega
      go_wp2_with fail
      go_ret2
      have hgr := HGR.out
      rw [List.drop_eq_nil_of_le (by rw [HLEN.out]; exact Nat.le_refl _), grow_nil] at hgr
      subst hgr
      exact ⟨g, A', n', c', rfl, HG.out.tree, HG.out.prs, HG.out.nc, HG.out.anc, HG.out.fine, Nat.le_trans HG.out.few (by omega), HG.out.bel⟩
    | succ gn =>
      have hin : i < n := by omega
      obtain ⟨a, hai⟩ : ∃ a, cs[i]? = some a := ⟨_, List.getElem?_eq_getElem (by rw [HLEN.out]; exact hin)⟩
      have HDC : Hid (cs.drop i = a :: cs.drop (i + 1)) := Lib.hid (by obtain ⟨hl, rfl⟩ := List.getElem?_eq_some_iff.1 hai; exact List.drop_eq_getElem_cons hl)
      obtain ⟨b, ob, A1, n1, c1, A2, n2, c2, rfl, hbb, k0, k1, k2, k3, m1, m2, m3, m4, r1, r2⟩ := HC.out.2 i a hai
      have HR := Lib.hid (And.intro r1 r2)
      have hcw : ∀ q, wr.cell? ⟨b, q, none⟩ = w.cell? ⟨b, q, none⟩ := fun q => HG.out.bel.cell (p := ⟨b, q, none⟩) hbb
      rw [← hcw] at k0 k1 k2 k3
      clear hai r1 r2 hcw
      have hz29 := zero29
      go_upto_region 5 with (fail)
      refine wp_region_lit ?_
      iterate 15 go_step
      clear hz29 k0 k1 k2 k3
      have hw2 := Whole.made wr 33 #[.int .u8 0, .int .u8 0, .slice none 0 0, .slice none 0 0]
      refine wpList_store_mid rfl 33 (.tmp 9) (.tmp 19) rfl wr.heap.size 0 (a.cells A1 n1 c1 A2 n2 c2) rfl rfl ?_ ?_ (a.one ..) ?_
      · exact hw2.there_
      · exact info29
      have hw3 := hw2.setAll (vs := a.cells A1 n1 c1 A2 n2 c2) rfl
      have hb3 : Below wr.heap.size wr ((wr.alloc (.cells #[.int .u8 0, .int .u8 0, .slice none 0 0, .slice none 0 0] 33)).setCells wr.heap.size 0 (a.cells A1 n1 c1 A2 n2 c2).toList) := below_setCells wr wr.heap.size _ 0 ((Below.refl _ _).alloc (Nat.le_refl _) _) (Nat.le_refl _)
      generalize (wr.alloc (.cells #[.int .u8 0, .int .u8 0, .slice none 0 0, .slice none 0 0] 33)).setCells wr.heap.size 0 (a.cells A1 n1 c1 A2 n2 c2).toList = w3 at *
      have hs3 : wr.heap.size < w3.heap.size := hw3.lt
      have HW3 := Lib.hid hw3
      have HG3 := Lib.hid (HG.out.on hb3)
      clear hw2 hw3 hb3 HG
      generalize wr.heap.size = g3 at *
      go_upto_region 6 with (fail)
      have hS0 : w3.drew.cell? ⟨g3, 0, none⟩ = some (.int .u8 a.kind.toNat) ∧ w3.drew.cell? ⟨g3, 1, none⟩ = some (.int .u8 a.no.toNat) ∧ w3.drew.cell? ⟨g3, 2, none⟩ = some (.slice A1 n1 c1) ∧ w3.drew.cell? ⟨g3, 3, none⟩ = some (.slice A2 n2 c2) := ⟨HW3.out.at_ rfl, HW3.out.at_ rfl, HW3.out.at_ rfl, HW3.out.at_ rfl⟩
      refine wp_region_held_drew (S := fun w' => w'.cell? ⟨g3, 0, none⟩ = some (.int .u8 a.kind.toNat) ∧ w'.cell? ⟨g3, 1, none⟩ = some (.int .u8 a.no.toNat) ∧ w'.cell? ⟨g3, 2, none⟩ = some (.slice A1 n1 c1) ∧ w'.cell? ⟨g3, 3, none⟩ = some (.slice A2 n2 c2)) (by kernel_rfl) hS0 (fun hHeld => ?_)
      obtain ⟨M, hM⟩ : ∃ M : Nat, M = min 100 n2 := ⟨_, rfl⟩
      have hmin : (if (100 : Int) < (n2 : Int) then (100 : Int) else (n2 : Int)) = (M : Int) := by split <;> omega
      have hM1 : M ≤ n2 := by omega
      have hM3 : M ≤ c2 := by omega
      have hM2 : M ≤ 100 := by omega
      have HM := Lib.hid hM
      clear hM
      refine wpAnyH_take (i := 0) (oi := { dst := some 20, op := Op.load 33 (Operand.tmp 9), type := 33, pos := "law.go:42", after := #[], guard := none }) (v := ?_) rfl (by kernel_rfl) (by kernel_rfl) (by kernel_rfl) (fun _ _ _ h => h) (Or.inl ⟨by rfl, ?_⟩) (by assumption) ?_
      rotate_left
      · first | (intro w hSw; (try dsimp only at hSw); go_simp; done) | (intro w hSw; (try dsimp only at hSw); go_simp; with_reducible rfl)
      simp only [Act.put, List.setIfInBounds_toArray, List.set_cons_zero, List.set_cons_succ]
      refine wpAnyH_take (i := 2) (oi := { dst := some 22, op := Op.fieldAddr 33 (Operand.tmp 9) 3, type := 0, pos := "law.go:42", after := #[], guard := none }) (v := ?_) rfl (by kernel_rfl) (by kernel_rfl) (by kernel_rfl) (fun _ _ _ h => h) (Or.inl ⟨by rfl, ?_⟩) (by assumption) ?_
      rotate_left
      · first | (intro w hSw; (try dsimp only at hSw); go_simp; done) | (intro w hSw; (try dsimp only at hSw); go_simp; with_reducible rfl)
      simp only [Act.put, List.setIfInBounds_toArray, List.set_cons_zero, List.set_cons_succ]
      refine wpAnyH_take (i := 3) (oi := { dst := some 23, op := Op.load 31 (Operand.tmp 22), type := 31, pos := "law.go:42", after := #[{ on := 2, ground := Ground.data }], guard := none }) (v := ?_) rfl (by kernel_rfl) (by kernel_rfl) (by kernel_rfl) (fun _ _ _ h => h) (Or.inl ⟨by rfl, ?_⟩) (by assumption) ?_
      rotate_left
      · first | (intro w hSw; (try dsimp only at hSw); go_simp; done) | (intro w hSw; (try dsimp only at hSw); go_simp; with_reducible rfl)
      simp only [Act.put, List.setIfInBounds_toArray, List.set_cons_zero, List.set_cons_succ]
      refine wpAnyH_take (i := 4) (oi := { dst := some 24, op := Op.fieldAddr 33 (Operand.tmp 9) 3, type := 0, pos := "law.go:42", after := #[], guard := none }) (v := ?_) rfl (by kernel_rfl) (by kernel_rfl) (by kernel_rfl) (fun _ _ _ h => h) (Or.inl ⟨by rfl, ?_⟩) (by assumption) ?_
      rotate_left
      · first | (intro w hSw; (try dsimp only at hSw); go_simp; done) | (intro w hSw; (try dsimp only at hSw); go_simp; with_reducible rfl)
      simp only [Act.put, List.setIfInBounds_toArray, List.set_cons_zero, List.set_cons_succ]
      refine wpAnyH_take (i := 5) (oi := { dst := some 25, op := Op.load 31 (Operand.tmp 24), type := 31, pos := "law.go:42", after := #[{ on := 4, ground := Ground.data }], guard := none }) (v := ?_) rfl (by kernel_rfl) (by kernel_rfl) (by kernel_rfl) (fun _ _ _ h => h) (Or.inl ⟨by rfl, ?_⟩) (by assumption) ?_
      rotate_left
      · first | (intro w hSw; (try dsimp only at hSw); go_simp; done) | (intro w hSw; (try dsimp only at hSw); go_simp; with_reducible rfl)
      simp only [Act.put, List.setIfInBounds_toArray, List.set_cons_zero, List.set_cons_succ]
      refine wpAnyH_take (i := 6) (oi := { dst := some 26, op := Op.call { callee := Callee.builtin Builtin.len, args := #[Operand.tmp 25], argTypes := #[31] }, type := 3, pos := "law.go:42", after := #[{ on := 5, ground := Ground.data }], guard := none }) (v := ?_) rfl (by kernel_rfl) (by kernel_rfl) (by kernel_rfl) (fun _ _ _ h => h) (Or.inl ⟨by rfl, ?_⟩) (by assumption) ?_
      rotate_left
      · first | (intro w hSw; (try dsimp only at hSw); go_simp; done) | (intro w hSw; (try dsimp only at hSw); go_simp; with_reducible rfl)
      simp only [Act.put, List.setIfInBounds_toArray, List.set_cons_zero, List.set_cons_succ]
      refine wpAnyH_take (i := 7) (oi := { dst := some 27, op := Op.call { callee := Callee.builtin Builtin.min, args := #[Operand.tmp 26, Operand.const (Value.int IntKind.i64 100)], argTypes := #[3, 3] }, type := 3, pos := "law.go:42", after := #[{ on := 6, ground := Ground.data }], guard := none }) (v := ?_) rfl (by kernel_rfl) (by kernel_rfl) (by kernel_rfl) (fun _ _ _ h => h) (Or.inl ⟨by rfl, ?_⟩) (by assumption) ?_
      rotate_left
      · first | (intro w hSw; (try dsimp only at hSw); go_simp; done) | (intro w hSw; (try dsimp only at hSw); go_simp; with_reducible rfl)
      simp only [Act.put, List.setIfInBounds_toArray, List.set_cons_zero, List.set_cons_succ]
      refine wpAnyH_take (i := 8) (oi := { dst := some 28, op := Op.slice 31 (Operand.tmp 23) none (some (Operand.tmp 27)) none, type := 31, pos := "law.go:42", after := #[{ on := 3, ground := Ground.data }, { on := 7, ground := Ground.data }], guard := none }) (v := ?_) rfl (by kernel_rfl) (by kernel_rfl) (by kernel_rfl) (fun _ _ _ h => h) (Or.inl ⟨by rfl, ?_⟩) (by assumption) ?_
      rotate_left
      · first | (intro w hSw; (try dsimp only at hSw); go_simp; done) | (intro w hSw; (try dsimp only at hSw); go_simp; with_reducible rfl)
      simp only [Act.put, List.setIfInBounds_toArray, List.set_cons_zero, List.set_cons_succ]
      clear hmin hS0 hHeld
      have HW4 : Hid (Whole w3.drew g3 33 (a.cells A1 n1 c1 A2 n2 c2)) := Lib.hid HW3.out
      have HG4 := Lib.hid (HG3.out.on (Below.refl _ _).drew)
      have hs4 : g3 < w3.drew.heap.size := hs3
      clear HW3 HG3 hs3
      generalize w3.drew = w4 at *
      have HCK := Lib.hid (key_any a A1 A2 n1 c1 n2 c2 w4 ((HR.out.1.below HG4.out.bel (Nat.le_refl _)).more HG4.out.bel.size) m1)
      refine wpAnyH_ready (rs := [1]) (by kernel_rfl) (by simp) ?_
      refine AllReadyH.cons rfl (fun K hK => ?_) AllReadyH.nil
      go_simp
      refine HCK.out.mono ?_
      rintro e w5 ⟨Ak, nk, ck, rfl, hrk, hnck, hb5⟩
      have HW5 := Lib.hid (HW4.out.below hb5 hs4)
      have HG5 := Lib.hid (HG4.out.on hb5)
      have hs5 := hb5.size
      have HRK := Lib.hid hrk
      have hS5 : w5.cell? ⟨g3, 0, none⟩ = some (.int .u8 a.kind.toNat) ∧ w5.cell? ⟨g3, 1, none⟩ = some (.int .u8 a.no.toNat) ∧ w5.cell? ⟨g3, 2, none⟩ = some (.slice A1 n1 c1) ∧ w5.cell? ⟨g3, 3, none⟩ = some (.slice A2 n2 c2) := ⟨HW5.out.at_ rfl, HW5.out.at_ rfl, HW5.out.at_ rfl, HW5.out.at_ rfl⟩
      refine hK.out _ _ hS5 (fun hHeld => ?_)
      clear hK K HCK hrk hb5 HW4 HG4
      refine wpAnyH_take (i := 9) (oi := { dst := some 10, op := Op.assign (Operand.tmp 21), type := 31, pos := "law.go:42", after := #[{ on := 1, ground := Ground.data }, { on := 1, ground := Ground.chain }, { on := 0, ground := Ground.phase }, { on := 1, ground := Ground.phase }, { on := 2, ground := Ground.textOnly Departure.lateStores }, { on := 3, ground := Ground.textOnly Departure.lateStores }, { on := 4, ground := Ground.textOnly Departure.lateStores }, { on := 5, ground := Ground.textOnly Departure.lateStores }, { on := 6, ground := Ground.textOnly Departure.lateStoresUnsure }, { on := 7, ground := Ground.textOnly Departure.lateStoresUnsure }, { on := 8, ground := Ground.textOnly Departure.lateStoresUnsure }], guard := none }) (v := ?_) rfl (by kernel_rfl) (by kernel_rfl) (by kernel_rfl) (fun _ _ _ h => h) (Or.inl ⟨by rfl, ?_⟩) (by assumption) ?_
      rotate_left
      · first | (intro w hSw; (try dsimp only at hSw); go_simp; done) | (intro w hSw; (try dsimp only at hSw); go_simp; with_reducible rfl)
      simp only [Act.put, List.setIfInBounds_toArray, List.set_cons_zero, List.set_cons_succ]
      refine wpAnyH_take (i := 10) (oi := { dst := some 11, op := Op.assign (Operand.tmp 28), type := 31, pos := "law.go:42", after := #[{ on := 8, ground := Ground.data }, { on := 9, ground := Ground.chain }, { on := 0, ground := Ground.phase }, { on := 1, ground := Ground.phase }, { on := 2, ground := Ground.phase }, { on := 3, ground := Ground.phase }, { on := 4, ground := Ground.phase }, { on := 5, ground := Ground.phase }, { on := 6, ground := Ground.phase }, { on := 7, ground := Ground.phase }, { on := 8, ground := Ground.phase }, { on := 9, ground := Ground.phase }], guard := none }) (v := ?_) rfl (by kernel_rfl) (by kernel_rfl) (by kernel_rfl) (fun _ _ _ h => h) (Or.inl ⟨by rfl, ?_⟩) (by assumption) ?_
      rotate_left
      · first | (intro w hSw; (try dsimp only at hSw); go_simp; done) | (intro w hSw; (try dsimp only at hSw); go_simp; with_reducible rfl)
      simp only [Act.put, List.setIfInBounds_toArray, List.set_cons_zero, List.set_cons_succ]
      refine wpAnyH_done (by kernel_rfl) ?_ _
      clear hHeld
      obtain ⟨q0, -⟩ := hS5
      have HKL : Hid (a.key.length = nk) := Lib.hid HRK.out.len
      have HRV := Lib.hid (show Rd w5 w5.heap.size A2 M a.cut by
        have h := ((HR.out.2.below HG5.out.bel (Nat.le_refl _)).more HG5.out.bel.size).pre M hM1
        rwa [a.cut_take n2 HR.out.2.len M HM.out] at h)
      have hnk1 : 1 ≤ nk := by have := a.key_pos; have := HKL.out; omega
      have HTB := Lib.hid (Sh.tab_below HT.out HG5.out.bel hw)
      have hws : 1 < w5.heap.size := by have := HG5.out.bel.size; omega
      by_cases him2 : i < most
      · by_cases hk90 : 90 < nk
        · have HX := HDC
          have HY := HKL
          go_wp2_with fail
          go_ret2
          have hgr := HGR.out
          rw [HDC.out, grow_stop _ _ _ _ (by rw [HKL.out]; exact hk90)] at hgr
          subst hgr
          exact ⟨g, A', n', c', rfl, HG5.out.tree, HG5.out.prs, HG5.out.nc, HG5.out.anc, HG5.out.fine, Nat.le_trans HG5.out.few (by omega), HG5.out.bel⟩
        · have hnk : nk ≤ 90 := by omega
          have HGS : Hid (grow (most - (i + 1)) (cs.drop (i + 1)) (gstep o a) = grow most cs none) := Lib.hid (by
            rw [← HGR.out, HDC.out, show most - i = (most - (i + 1)) + 1 by omega, grow_step _ _ _ _ (by rw [HKL.out]; exact hk90)])
          have hfew : oln o ≤ i := HG5.out.few
          have hpl : n' ≤ i := by have h1 := HG5.out.prs.len; have h2 := oln_leaves o; omega
          by_cases hk6 : a.kind.toNat % 6 < 4
          · have hk6' : (a.kind.toNat : Int) % 6 < 4 := by omega
            have HC1 := Lib.hid (put_any o g Ak A2 nk ck M c2 a.key a.cut w5 HG5.out.tree HRK.out HRV.out hnk1 (by omega) (by omega) (by omega) HTB.out (HRM.out.on HG5.out.bel))
            clear HGR HDC
            go_wp2_with fail
            refine HC1.out.mono ?_
            rintro e w6 ⟨g6, rfl, hg6, hT6, hb6⟩
            have hs6 := hb6.size
            have HC2 := Lib.hid (putPair_any A' n' c' Ak nk ck A2 M c2 (optLeaves o) a.key a.cut w6 (HG5.out.prs.on hb6) HG5.out.nc HG5.out.anc ((HRK.out.below hb6 (Nat.le_refl _)).more hs6) hnck ((HRV.out.below hb6 (Nat.le_refl _)).more hs6) (by omega) (by omega))
            have HT6 := Lib.hid hT6
            have HB6 := Lib.hid (HG5.out.bel.trans (hb6.mono HG5.out.bel.size))
            clear hT6 hb6 HC1
            go_wp2_with fail
            refine HC2.out.mono ?_
            rintro e w7 ⟨A7, n7, c7, rfl, hp7, hnc7, hA7, hb7⟩
            have HG7 := Lib.hid (GAt.mk (G := G) (i := i + 1) (W := w) (HT6.out.on hb7) (by rw [show optLeaves (some (oput o a.key a.cut)) = (oput o a.key a.cut).leaves from rfl, oput_leaves o _ _ HG5.out.fine.srt]; exact hp7) hnc7 hA7 (HG5.out.fine.put a.key a.cut) (Nat.le_trans (oput_n o a.key a.cut) (by omega)) (HB6.out.trans (hb7.mono HB6.out.size)))
            clear hp7 hA7 hb7 HC2 HT6 HB6
            go_wp2_with fail
            go_roundg gn
            case measure => omega
            case rel => exact ⟨i + 1, some (oput o a.key a.cut), g6, A7, n7, c7, by omega, by omega, congrArg (Value.int .i64) (by omega), rfl, rfl, HG7.out, by rw [← HGS.out, gstep_put hk6]⟩
          · have hk6' : 4 ≤ (a.kind.toNat : Int) % 6 := by omega
            have HC1 := Lib.hid (cut_any (some o) (some g) Ak nk ck a.key w5 ⟨g, rfl, HG5.out.tree⟩ HRK.out (by show oln o ≤ _; omega) HTB.out (HRM.out.on HG5.out.bel))
            clear HGR HDC
            go_wp2_with fail
            refine HC1.out.mono ?_
            rintro e w6 hpost
            rcases hpost with ⟨hf, rfl, rfl⟩ | ⟨v, g6, hf, rfl, hg6, hT6, hb6⟩
            · have HC2 := Lib.hid (cutPair_any A' n' c' Ak nk ck (optLeaves o) a.key w5 HG5.out.prs HRK.out (by omega))
              have HF := Lib.hid hf
              clear hf HC1
              go_wp2_with fail
              refine HC2.out.mono ?_
              rintro e w7 ⟨A7, n7, c7, rfl, hp7, hnc7, hA7, hb7⟩
              have hfo : ofind o a.key = none := HF.out
              rw [findL_none_cut (by rw [← ofind_leaves o _ HG5.out.fine.srt]; exact hfo)] at hp7
              have HG7 := Lib.hid (GAt.mk (G := G) (i := i + 1) (W := w) (HG5.out.tree.on hb7) hp7 hnc7 hA7 HG5.out.fine (by omega) (HG5.out.bel.trans (hb7.mono HG5.out.bel.size)))
              have HE : Hid (gstep o a = o) := Lib.hid (by unfold gstep; rw [if_neg hk6, hfo]; rfl)
              clear hp7 hA7 hb7 HC2 hfo
              go_wp2_with fail
              go_roundg gn
              case measure => omega
              case rel => exact ⟨i + 1, o, g, A7, n7, c7, by omega, by omega, congrArg (Value.int .i64) (by omega), rfl, rfl, HG7.out, by rw [← HGS.out, HE.out]⟩
            · have hs6 := hb6.size
              have HC2 := Lib.hid (cutPair_any A' n' c' Ak nk ck (optLeaves o) a.key w6 (HG5.out.prs.on hb6) ((HRK.out.below hb6 (Nat.le_refl _)).more hs6) (by omega))
              have HF := Lib.hid hf
              have HT6 := Lib.hid hT6
              have HB6 := Lib.hid (HG5.out.bel.trans (hb6.mono HG5.out.bel.size))
              clear hf HC1 hT6 hb6
              go_wp2_with fail
              refine HC2.out.mono ?_
              rintro e w7 ⟨A7, n7, c7, rfl, hp7, hnc7, hA7, hb7⟩
              have hfs : (ofind o a.key).isSome = true := by rw [show ofind o a.key = some v from HF.out]; rfl
              have hcl := ocut_leaves o a.key HG5.out.fine.srt hfs
              have HG7 := Lib.hid (GAt.mk (G := G) (i := i + 1) (W := w) (HT6.out.on hb7) (by show PRd w7 w7.heap.size A7 n7 (optLeaves (ocut o a.key)); rw [hcl]; exact hp7) hnc7 hA7 (HG5.out.fine.cut a.key hfs) (by rw [← oln_leaves, show topOf (some o) = o from rfl, hcl]; have h1 := cutL_le (optLeaves o) a.key; rw [oln_leaves] at h1; omega) (HB6.out.trans (hb7.mono HB6.out.size)))
              have HE : Hid (gstep o a = ocut o a.key) := Lib.hid (by unfold gstep; rw [if_neg hk6, if_pos hfs])
              clear hp7 hA7 hb7 HC2 hfs hcl HT6 HB6
              go_wp2_with fail
              go_roundg gn
              case measure => omega
              case rel => exact ⟨i + 1, ocut o a.key, g6, A7, n7, c7, by omega, by omega, congrArg (Value.int .i64) (by omega), rfl, rfl, HG7.out, by rw [← HGS.out, HE.out]⟩
      · obtain rfl : i = most := by omega
        go_wp2_with fail
        go_ret2
        have hgr := HGR.out
        rw [Nat.sub_self, show grow 0 (cs.drop i) o = o from rfl] at hgr
        subst hgr
        exact ⟨g, A', n', c', rfl, HG5.out.tree, HG5.out.prs, HG5.out.nc, HG5.out.anc, HG5.out.fine, Nat.le_trans HG5.out.few (by omega), HG5.out.bel⟩
end Go.Proofs.YtolkpjbbfopmnaaDoor
namespace Go.Proofs.YtolkpjbbfopmnaaDoor
open Go.RowKit
open Tr
variable {G : Nat → Prop}

set_option maxRecDepth 100000 in
theorem visit_upto (N : Nat) (f : Nat) (C : Value) (ent : ∀ args w, (callFunc f args).run Tryd.prog w = .ok (.enter f args) w) (w0 : World) (B : Nat) (I : List T → World → Prop) (hb : ∀ ns w, I ns w → Below B w0 w)
    (hI : ∀ s b ns w, ns.length < N → NIn G w0 B s b → I ns w → Calls Tryd.prog f #[ptr (some b), C] w fun e w' => e = .returned undef ∧ I (ns ++ [s]) w') :
    ∀ (t : T) (b : Nat) (ns : List T) (w : World), ns.length + t.all.length ≤ N → NIn G w0 B t b → I ns w → Calls Tryd.prog 41 #[ptr (some b), .func (.func f) #[] #[C]] w fun e w' => e = .returned undef ∧ I (ns ++ t.all) w'
  | .leaf k v, b, ns, w, hN, h, hi => by
    have HC := Lib.hid (hI _ b ns w (by rw [show (T.leaf k v).all.length = 1 from rfl] at hN; omega) h hi)
    clear hN
    obtain ⟨A, n, c, A', n', c', hh⟩ := h
    have HH := Lib.hid hh
    have HBB := Lib.hid hb
    rw [ptr_some] at HC ⊢
    clear hi hI hh hb
    go_enter Tryd.func41, Tryd.ntmps41
    go_wp2_with fail
    refine HC.out.mono ?_
    rintro e w1 ⟨rfl, hi1⟩
    obtain ⟨_, _, _, _, c100, c101⟩ := (HH.out.below (HBB.out _ _ hi1) (Nat.le_refl _)).cells
    rw [ptr_none] at c100 c101
    have HI1 := Lib.hid hi1
    have HN := Lib.hid (visit_nil (.func (.func f) #[] #[C]) w1)
    clear hi1 HC
    go_wp2_with fail
    refine HN.out.mono ?_
    rintro e w2 ⟨rfl, rfl⟩
    go_wp2_with fail
    refine HN.out.mono ?_
    rintro e w2 ⟨rfl, rfl⟩
    go_wp2_with fail
    refine bodyPost_end (results_none rfl _ _ _) rfl ?_
    exact ⟨rfl, HI1.out⟩
  | .node l r, b, ns, w, hN, h, hi => by
    have hal : (T.node l r).all.length = 1 + (l.all.length + r.all.length) := by show (T.node l r :: (l.all ++ r.all)).length = _; rw [List.length_cons, List.length_append]; omega
    have HC := Lib.hid (hI _ b ns w (by omega) h hi)
    have HN := Lib.hid (show ns.length + (1 + (l.all.length + r.all.length)) ≤ N by omega)
    clear hN hal
    obtain ⟨A, n, c, A', n', c', x, y, hh, hx, hy⟩ := h
    have HH := Lib.hid hh
    have HBB := Lib.hid hb
    have HX := Lib.hid hx
    have HY := Lib.hid hy
    have HL := Lib.hid (visit_upto N f C ent w0 B I hb hI l x)
    have HR := Lib.hid (visit_upto N f C ent w0 B I hb hI r y)
    rw [ptr_some] at HC HL HR ⊢
    clear hi hI hh hb hx hy
    go_enter Tryd.func41, Tryd.ntmps41
    go_wp2_with fail
    refine HC.out.mono ?_
    rintro e w1 ⟨rfl, hi1⟩
    obtain ⟨_, _, _, _, c100, c101⟩ := (HH.out.below (HBB.out _ _ hi1) (Nat.le_refl _)).cells
    rw [ptr_some] at c100 c101
    have HC1 := Lib.hid (HL.out _ w1 (by have := HN.out; rw [List.length_append, List.length_singleton]; omega) HX.out hi1)
    clear hi1 HC HL c101
    go_wp2_with fail
    refine HC1.out.mono ?_
    rintro e w2 ⟨rfl, hi2⟩
    clear c100 HC1
    obtain ⟨_, _, _, _, c100, c101⟩ := (HH.out.below (HBB.out _ _ hi2) (Nat.le_refl _)).cells
    rw [ptr_some] at c100 c101
    have HC2 := Lib.hid (HR.out _ w2 (by have := HN.out; rw [List.length_append, List.length_append, List.length_singleton]; omega) HY.out hi2)
    clear hi2 HR c100
    go_wp2_with fail
    refine HC2.out.mono ?_
    rintro e w3 ⟨rfl, hi3⟩
    have HI3 := Lib.hid hi3
    clear c101 hi3 HC2
    go_wp2_with fail
    refine bodyPost_end (results_none rfl _ _ _) rfl ?_
    refine ⟨rfl, ?_⟩
    have := HI3.out
    rw [show ns ++ (T.node l r).all = ns ++ [T.node l r] ++ l.all ++ r.all by simp [T.all]]
    exact this

theorem all_len : ∀ t : T, t.all.length + 1 = 2 * t.n
  | .leaf _ _ => rfl
  | .node l r => by
    have h1 := all_len l
    have h2 := all_len r
    show (T.node l r :: (l.all ++ r.all)).length + 1 = 2 * (l.n + r.n)
    rw [List.length_cons, List.length_append]
    omega

theorem own_keep {w w' : World} {base size n : Nat} {e : TypeId} {v : Value} {xs : List Value} (h : w.ownsRow base e size v n xs) (hb : Below w.heap.size w w') : w'.ownsRow base e size v n xs :=
  h.kept (row := none) ⟨hb.os, hb.tape, hb.output, hb.size, fun i hi _ => hb.block i hi⟩ (by cases v.ownBlock <;> simp)
/-- Bytes behind block g, in another block than the row's. -/
def RdG (w : World) (g : Nat) (row : Option Nat) (A : Option Addr) (n : Nat) (bs : List UInt8) : Prop := RdX w w.heap.size row A n bs ∧ ∀ b o, A = some ⟨b, o, none⟩ → 0 < n → g < b ∧ ∀ j, w.frozen? ⟨b, j, none⟩ = false
theorem RdG.free {w w' : World} {g n : Nat} {row : Option Nat} {A : Option Addr} {bs : List UInt8} (h : RdG w g row A n bs) (hk : ∀ b, b < w.heap.size → row ≠ some b → w'.heap[b]? = w.heap[b]?) : ∀ b o, A = some ⟨b, o, none⟩ → 0 < n → g < b ∧ ∀ j, w'.frozen? ⟨b, j, none⟩ = false := fun b o e hn => by
  obtain ⟨h1, h2⟩ := h.2 b o e hn
  obtain ⟨b', o', e', hlt, _⟩ := h.1.1.2 hn
  rw [e] at e'
  injection e' with e'
  injection e' with e1 _
  subst e1
  exact ⟨h1, fun j => by rw [← h2 j]; exact World.frozen?_of_block (hk b hlt (h.1.2 b o e hn))⟩
/-- A row of pairs of the call's own, all of it behind block g. -/
def AOwn (w : World) (g : Nat) (v : Value) (n : Nat) (ps : Prs) : Prop := ∃ xs, w.ownsRow (g + 1) 42 2 v n xs ∧ ps.length = n ∧ PLay (RdG w g v.ownBlock) xs ps
theorem AOwn.nil (w : World) (g : Nat) : AOwn w g (.slice none 0 0) 0 [] := ⟨[], World.ownsRow_nil _ _ _ _, rfl, PLay.nil⟩
theorem AOwn.pown {w : World} {g n : Nat} {v : Value} {ps : Prs} (h : AOwn w g v n ps) : POwn w (g + 1) v n ps := by
  obtain ⟨xs, h1, h2, h3⟩ := h
  exact ⟨xs, h1, h2, h3.mono fun _ _ _ h => h.1⟩
theorem AOwn.on {w w' : World} {g n : Nat} {v : Value} {ps : Prs} (h : AOwn w g v n ps) (hb : Below w.heap.size w w') : AOwn w' g v n ps := by
  obtain ⟨xs, h1, h2, h3⟩ := h
  exact ⟨xs, own_keep h1 hb, h2, h3.mono fun _ _ _ h => ⟨(h.1.below hb (Nat.le_refl _)).more hb.size, h.free fun b hl _ => hb.block b hl⟩⟩
/-- Block g itself turns. -/
theorem AOwn.set {w : World} {g n : Nat} {v : Value} {ps : Prs} (h : AOwn w g v n ps) (u : Value) : AOwn (w.setCell ⟨g, 0, none⟩ u) g v n ps := by
  have hk : ∀ b, b ≠ g → (w.setCell ⟨g, 0, none⟩ u).heap[b]? = w.heap[b]? := fun b hb => Below.heap_setCell w ⟨g, 0, none⟩ u b hb
  have hs : (w.setCell ⟨g, 0, none⟩ u).heap.size = w.heap.size := by simp
  obtain ⟨xs, h1, h2, h3⟩ := h
  refine ⟨xs, ⟨h1.1, ?_⟩, h2, h3.mono fun A n bs h => ⟨⟨?_, h.1.2⟩, fun b o e hn => ⟨(h.2 b o e hn).1, fun j => by rw [World.frozen?_setCell]; exact (h.2 b o e hn).2 j⟩⟩⟩
  · rcases h1.2 with h | ⟨b, cap, cur, e1, e2, e3, e4⟩
    · exact .inl h
    · exact .inr ⟨b, cap, cur, e1, e2, by rw [hk b (by omega)]; exact e3, e4⟩
  · rw [hs]
    exact h.1.1.keepG (G := fun b => g < b) (fun hn b o e => (h.2 b o e hn).1) (fun b _ hb => hk b (by omega))
end Go.Proofs.YtolkpjbbfopmnaaDoor
namespace Go.Proofs.YtolkpjbbfopmnaaDoor
open Go.RowKit
open Tr

theorem oat_snoc (t : T) : ∀ (way : List Bool) (l r : T) (b : Bool), oat (some t) way = some (.node l r) → oat (some t) (way ++ [b]) = some (if b then r else l) := by
  intro way
  induction way generalizing t with
  | nil =>
    intro l r b h
    rw [oat_nil] at h
    injection h with h
    subst h
    cases b <;> simp [oat]
  | cons x way ih =>
    intro l r b h
    cases t with
    | leaf k v => simp [oat] at h
    | node tl tr =>
      cases x
      · simp [oat] at h ⊢
        exact ih tl l r b h
      · simp [oat] at h ⊢
        exact ih tr l r b h
theorem n_pos : ∀ t : T, 1 ≤ t.n
  | .leaf _ _ => Nat.le_refl _
  | .node l r => by have := n_pos l; show 1 ≤ l.n + r.n; omega
theorem oat_deep (t : T) : ∀ (way : List Bool) (s : T), oat (some t) way = some s → way.length + s.n ≤ t.n := by
  intro way
  induction way generalizing t with
  | nil =>
    intro s h
    rw [oat_nil] at h
    injection h with h
    subst h
    simp
  | cons x way ih =>
    intro s h
    cases t with
    | leaf k v => simp [oat] at h
    | node tl tr =>
      have h1 := n_pos tl
      have h2 := n_pos tr
      show way.length + 1 + s.n ≤ tl.n + tr.n
      cases x
      · have := ih tl s (by simpa [oat] using h)
        omega
      · have := ih tr s (by simpa [oat] using h)
        omega

/-- A way in a cell of a queue, in another block than the queue's. -/
def WAt (w : World) (row : Option Nat) (u : Value) (way : List Bool) : Prop :=
  ∃ A n c, u = .slice A n c ∧ n ≤ c ∧ RdV w w.heap.size 1 A n (way.map Value.bool) ∧ ∀ b o, A = some ⟨b, o, none⟩ → 0 < n → row ≠ some b
theorem WAt.below {w w' : World} {row : Option Nat} {u : Value} {way : List Bool} (h : WAt w row u way) (hb : Below w.heap.size w w') : WAt w' row u way := by
  obtain ⟨A, n, c, h1, h2, h3, h4⟩ := h
  exact ⟨A, n, c, h1, h2, (h3.below hb (Nat.le_refl _)).more hb.size, h4⟩
theorem WAt.grown {w w' : World} {row row' : Option Nat} {u : Value} {way : List Bool} (h : WAt w row u way) (hg : w.grownBy w' row) (hr : row' = row ∨ ∃ b, row' = some b ∧ w.heap.size ≤ b) : WAt w' row' u way := by
  obtain ⟨A, n, c, h1, h2, h3, h4⟩ := h
  refine ⟨A, n, c, h1, h2, ⟨h3.1, fun hn => ?_⟩, fun b o e hn => ?_⟩
  · obtain ⟨b, o, e, hb, hc⟩ := h3.2 hn
    exact ⟨b, o, e, Nat.lt_of_lt_of_le hb hg.size, fun j u hu => (World.cell?_of_block (w := w) (hg.block b hb (fun e' => h4 b o e hn e'.symm))).trans (hc j u hu)⟩
  · rcases hr with rfl | ⟨q, rfl, hq⟩
    · exact h4 b o e hn
    · obtain ⟨b', o', e', hb, _⟩ := h3.2 hn
      rw [e] at e'
      injection e' with e'
      injection e' with e' _
      subst e'
      intro e2
      injection e2 with e2
      omega
end Go.Proofs.YtolkpjbbfopmnaaDoor
namespace Go.Proofs.YtolkpjbbfopmnaaDoor
open Go.RowKit
open Tr

/-- append of bytes, at an operation of a region that draws. -/
theorem step_append_b {ops : Array Oper} {o : Oper} {a : Act} {w : World} {K : Act → World → Prop} {Q : Exit → Act → World → Prop} {F : Prop} (hgd : o.guard = none) (s x : Operand)
    (ho : o.op = .call { callee := .builtin .append, args := #[s, x], argTypes := #[31, 31] })
    (base : Nat) (v : Value) (n : Nat) (bs : List UInt8) (hs : a.eval s = v) (hown : w.ownsRow base 5 1 v n (bs.map V8))
    (B : Nat) (A : Option Addr) (m c : Nat) (cs : List UInt8) (hx : a.eval x = .slice A m c) (hr : Rd w B A m cs)
    (hb : n + m ≤ 140737488355328) (hbase : base ≤ w.heap.size)
    (h : ∀ v' w', w'.ownsRow base 5 1 v' (n + m) ((bs ++ cs).map V8) → w.grownBy w' v.ownBlock → (v'.ownBlock = v.ownBlock ∨ v'.ownBlock = some w.heap.size) → K (a.put o.dst v') w') :
    if Region.wanted o (yielded ops a.tmps) = true then Oper.wp Tryd.prog o a w K Q else F := by
  have hw : Region.wanted o (yielded ops a.tmps) = true := by simp [Region.wanted, hgd]
  rw [if_pos hw]
  obtain ⟨v', w', hrun, h2, h3, h4⟩ := run_append_rd w base 31 o.type 5 _ 1 1 Tryd.underlying31 info5 rfl (by omega) v n _ hown B A m c _ hr (one_bytes cs) (by unfold maxLen; omega) (by omega) hbase
  unfold Oper.wp execOp
  simp only [ho, resolve, invoke, builtin, Sem.run_bind, Sem.run_pure, Result.andThen_ok, List.map_toArray, List.map_cons, List.map_nil, hs, hx, hrun]
  exact h v' w' (by rw [List.map_append]; exact h2) h3 h4

set_option maxRecDepth 100000 in
theorem eight_any (z : UInt64) (w : World) : Calls Tryd.prog 89 #[.int .u64 z.toNat] w (BytesPost w (Sh.Sha.be8 z)) := by
  go_enter Tryd.func89, Tryd.ntmps89
  go_wp2_with fail
  go_loopg [3, 4] 8 (fun gk o i wx => ∃ k : Nat, k + gk = 8 ∧ i = .int .i64 k ∧ wx.ownsRow w.heap.size 5 1 o k (((Sh.Sha.be8 z).take k).map V8) ∧ Below w.heap.size w wx)
  case atStart => exact ⟨0, by omega, rfl, World.ownsRow_nil _ _ _ _, Below.refl _ _⟩
  case round =>
    obtain ⟨k, hk, rfl, hown, hbl⟩ := hrel
    obtain ⟨A0, c0, rfl, _, _⟩ := own_form hown
    have HO := Lib.hid hown
    have HB := Lib.hid hbl
    have hbs : w.heap.size ≤ wr.heap.size := hbl.size
    clear hown hbl
    cases gk with
    | succ gn =>
      have hi8 : k < 8 := by omega
      have hsh : (56 - 8 * (k : Int)).toNat = 56 - 8 * k := by omega
      have z0 : 0 ≤ 56 - 8 * (k : Int) := by omega
      have z1 : 56 - 8 * (k : Int) ≤ 64 := by omega
      obtain ⟨v, hv⟩ : ∃ v, (z >>> UInt64.ofNat (56 - 8 * k)).toUInt8 = v := ⟨_, rfl⟩
      have hbyte := Sh.Sha.be8_byte z k hi8
      rw [hv] at hbyte
      have HV : Hid ((Sh.Sha.be8 z).take (k + 1) = (Sh.Sha.be8 z).take k ++ [v]) := Lib.hid (by rw [Sh.Sha.be8_take z k hi8, hv])
      clear hv
      go_upto_region 5 with (fail)
      refine wp_region_lit ?_
      iterate 24 go_step
      have hb0 : Below w.heap.size w (wr.alloc (.cells #[.int .u8 v.toNat] 5)) := HB.out.alloc hbs _
      refine wpList_append_b rfl (.tmp 9) (.tmp 16) rfl w.heap.size _ k _ rfl (HO.out.alloc _) _ _ 1 1 [v] rfl (rd_new wr 5 _ 1 rfl _ rfl) (by omega) (by simp; omega) ?_
      intro v1 w1 hown hb1
      rw [← HV.out] at hown
      have hb : Below w.heap.size w w1 := hb0.trans hb1
      have HH := Lib.hid (And.intro hown hb)
      clear hb0 hb1 hown hb HO HB hsh hbyte
      go_simp
      go_wp2_with fail
      go_roundg gn
      case measure => omega
      case rel => exact ⟨k + 1, by omega, congrArg (Value.int .i64) (by omega), HH.out.1, HH.out.2⟩
    | zero =>
      obtain rfl : k = 8 := by omega
      have hown := HO.out
      rw [List.take_of_length_le (by rw [Sh.Sha.be8_length]; exact Nat.le_refl _)] at hown
      obtain ⟨A1, c1, e, hc, _⟩ := own_form hown
      injection e with e1 _ e2
      subst e1 e2
      have HH := Lib.hid (Rd.of_own hown)
      clear hown HO
      go_wp2_with fail
      go_ret
      exact ⟨A0, 8, c0, rfl, HH.out, hc, HB.out⟩
end Go.Proofs.YtolkpjbbfopmnaaDoor
namespace Go.Proofs.YtolkpjbbfopmnaaDoor
open Go.RowKit
open Tr

theorem tab0_below {w w' : World} (h : Sh.Tab w 0) (hb : Below w.heap.size w w') (hw : 1 < w.heap.size) : Sh.Tab w' 0 := fun j hj =>
  (hb.cell (p := ⟨0, j, none⟩) (by show 0 < _; omega)).trans (h j hj)

theorem own_on {w w' : World} {base size n : Nat} {e : TypeId} {v : Value} {xs : List Value} (h : w.ownsRow base e size v n xs) (hb : Below w.heap.size w w') : w'.ownsRow base e size v n xs :=
  h.kept (row := none) ⟨hb.os, hb.tape, hb.output, hb.size, fun i hi _ => hb.block i hi⟩ (by cases v.ownBlock <;> simp)
theorem own_base {w : World} {base base' size n : Nat} {e : TypeId} {v : Value} {xs : List Value} (h : w.ownsRow base e size v n xs) (hb : base' ≤ base) : w.ownsRow base' e size v n xs := by
  refine ⟨h.1, ?_⟩
  rcases h.2 with h | ⟨g, cap, cur, h1, h2, h3⟩
  · exact .inl h
  · exact .inr ⟨g, cap, cur, h1, Nat.le_trans hb h2, h3⟩

end Go.Proofs.YtolkpjbbfopmnaaDoor
namespace Go.Proofs.YtolkpjbbfopmnaaDoor
open Go.RowKit
open Tr

set_option maxRecDepth 100000 in
set_option maxHeartbeats 2000000 in
theorem text_leaf (A : Option Addr) (n c : Nat) (A' : Option Addr) (n' c' : Nat) (z : Nat) (l r k v : List UInt8) (w : World) (hk : Rd w w.heap.size A n k) (hv : Rd w w.heap.size A' n' v) (hn : n ≤ 90000) (hn' : n' ≤ 90000)
    (ht : Sh.Tab w 0) (hw : 1 < w.heap.size) :
    Calls Tryd.prog 74 #[.agg (acells (.slice A n c) (.slice A' n' c') 0 z l r).toArray] w (ClonePost w (leafText k v)) := by
  have hz49 := zero49
  have HK := Lib.hid hk
  have HV := Lib.hid hv
  have HT := Lib.hid ht
  clear hk hv ht
  go_enter Tryd.func74, Tryd.ntmps74
  go_upto_region 1 with (fail)
  clear hz49
  have hb : Below w.heap.size w (w.alloc (.cells (acells (.slice A n c) (.slice A' n' c') 0 z l r).toArray 47)) := (Below.refl _ _).alloc (Nat.le_refl _) _
  have hw1 := Whole.made w 47 (acells (.slice A n c) (.slice A' n' c') 0 z l r).toArray
  have hs : w.heap.size < (w.alloc (.cells (acells (.slice A n c) (.slice A' n' c') 0 z l r).toArray 47)).heap.size := by simp
  generalize w.alloc (.cells (acells (.slice A n c) (.slice A' n' c') 0 z l r).toArray 47) = w1 at *
  obtain ⟨c0, c1, c2, c3⟩ := abox hw1
  have hv1 := HV.out.below hb (Nat.le_refl _)
  have HSUM := Lib.hid (Sh.ref_any A' n' c' v w1 (reads_of_rd hv1 hb.size) (by omega) (tab0_below HT.out hb hw) (by omega))
  have HB := Lib.hid hb
  have HW1 := Lib.hid hw1
  clear hb hw1 hv1 c3
  generalize (acells (.slice A n c) (.slice A' n' c') 0 z l r).toArray = X at *
  go_wp2_with fail
  refine HSUM.out.mono ?_
  rintro e w2 ⟨rfl, hbx⟩
  have HBX := Lib.hid hbx
  clear HSUM hbx
  obtain ⟨S, hS⟩ : ∃ S, Sh.Sha.sum v = S := ⟨_, rfl⟩
  have hS32 : S.length = 32 := by rw [← hS]; exact Sh.sum_length _
  rw [hS]
  have HS := Lib.hid (And.intro hS hS32)
  clear hS hS32
  simp only []
  have hz49 := zero49
  iterate 4 go_step
  clear hz49
  have hw3 := Whole.made w2 29 (zb 32)
  have hsizeS : (Sh.bcells S).size = 32 := (Sh.bcells_size S).trans HS.out.2
  refine wpList_store_mid rfl 29 (.tmp 3) (.tmp 10) rfl w2.heap.size 0 (Sh.bcells S) rfl rfl ?_ ?_ (Sh.bcells_one S) ?_
  · rw [hsizeS]; have := hw3.there_; rw [zb_size] at this; exact this
  · rw [hsizeS]; exact info49
  have hw4 := hw3.setAll (vs := Sh.bcells S) (by rw [zb_size, hsizeS])
  have hb4 : Below w1.heap.size w1 ((w2.alloc (.cells (zb 32) 29)).setCells w2.heap.size 0 (Sh.bcells S).toList) := below_setCells w1 w2.heap.size _ 0 (HBX.out.alloc HBX.out.size _) HBX.out.size
  have hs4 : w1.heap.size ≤ w2.heap.size := HBX.out.size
  have hlt4 : w2.heap.size < ((w2.alloc (.cells (zb 32) 29)).setCells w2.heap.size 0 (Sh.bcells S).toList).heap.size := by rw [size_setCells, size_alloc]; omega
  generalize (w2.alloc (.cells (zb 32) 29)).setCells w2.heap.size 0 (Sh.bcells S).toList = w4 at *
  have d0 : w4.cell? ⟨w.heap.size, 0, none⟩ = some (.slice A n c) := by rw [hb4.cell (p := ⟨w.heap.size, 0, none⟩) (by show w.heap.size < _; omega)]; exact c0
  have HB4 := Lib.hid (HB.out.trans (hb4.mono HB.out.size))
  have HW4 := Lib.hid hw4
  generalize w2.heap.size = g3 at *
  clear hw3 hsizeS hw4 hb4 HBX HB HW1 c0 c1 c2
  go_upto_region 3 with (fail)
  have hS0 : w4.drew.cell? ⟨w.heap.size, 0, none⟩ = some (.slice A n c) := d0
  refine wp_region_held_drew (S := fun w' => w'.cell? ⟨w.heap.size, 0, none⟩ = some (.slice A n c)) (by kernel_rfl) hS0 (fun hHeld => ?_)
  refine wpAnyH_take (i := 0) (oi := { dst := some 11, op := Op.fieldAddr 47 (Operand.tmp 1) 0, type := 0, pos := "ref.go:853", after := #[], guard := none }) (v := ?_) rfl (by kernel_rfl) (by kernel_rfl) (by kernel_rfl) (fun _ _ _ h => h) (Or.inl ⟨by rfl, ?_⟩) (by assumption) ?_
  rotate_left
  · first | (intro w hSw; (try dsimp only at hSw); go_simp; done) | (intro w hSw; (try dsimp only at hSw); go_simp; with_reducible rfl)
  simp only [Act.put, List.setIfInBounds_toArray, List.set_cons_zero, List.set_cons_succ]
  refine wpAnyH_take (i := 1) (oi := { dst := some 12, op := Op.load 31 (Operand.tmp 11), type := 31, pos := "ref.go:853", after := #[{ on := 0, ground := Ground.data }], guard := none }) (v := ?_) rfl (by kernel_rfl) (by kernel_rfl) (by kernel_rfl) (fun _ _ _ h => h) (Or.inl ⟨by rfl, ?_⟩) (by assumption) ?_
  rotate_left
  · first | (intro w hSw; (try dsimp only at hSw); go_simp; done) | (intro w hSw; (try dsimp only at hSw); go_simp; with_reducible rfl)
  simp only [Act.put, List.setIfInBounds_toArray, List.set_cons_zero, List.set_cons_succ]
  refine wpAnyH_take (i := 2) (oi := { dst := some 13, op := Op.call { callee := Callee.builtin Builtin.len, args := #[Operand.tmp 12], argTypes := #[31] }, type := 3, pos := "ref.go:853", after := #[{ on := 1, ground := Ground.data }], guard := none }) (v := ?_) rfl (by kernel_rfl) (by kernel_rfl) (by kernel_rfl) (fun _ _ _ h => h) (Or.inl ⟨by rfl, ?_⟩) (by assumption) ?_
  rotate_left
  · first | (intro w hSw; (try dsimp only at hSw); go_simp; done) | (intro w hSw; (try dsimp only at hSw); go_simp; with_reducible rfl)
  simp only [Act.put, List.setIfInBounds_toArray, List.set_cons_zero, List.set_cons_succ]
  refine wpAnyH_take (i := 3) (oi := { dst := some 14, op := Op.convert 3 5 (Operand.tmp 13), type := 5, pos := "ref.go:853", after := #[{ on := 2, ground := Ground.data }], guard := none }) (v := ?_) rfl (by kernel_rfl) (by kernel_rfl) (by kernel_rfl) (fun _ _ _ h => h) (Or.inl ⟨by rfl, ?_⟩) (by assumption) ?_
  rotate_left
  · first | (intro w hSw; (try dsimp only at hSw); go_simp; done) | (intro w hSw; (try dsimp only at hSw); go_simp; with_reducible rfl)
  simp only [Act.put, List.setIfInBounds_toArray, List.set_cons_zero, List.set_cons_succ]
  refine wpAnyH_take (i := 5) (oi := { dst := some 16, op := Op.fieldAddr 47 (Operand.tmp 1) 0, type := 0, pos := "ref.go:853", after := #[], guard := none }) (v := ?_) rfl (by kernel_rfl) (by kernel_rfl) (by kernel_rfl) (fun _ _ _ h => h) (Or.inl ⟨by rfl, ?_⟩) (by assumption) ?_
  rotate_left
  · first | (intro w hSw; (try dsimp only at hSw); go_simp; done) | (intro w hSw; (try dsimp only at hSw); go_simp; with_reducible rfl)
  simp only [Act.put, List.setIfInBounds_toArray, List.set_cons_zero, List.set_cons_succ]
  refine wpAnyH_take (i := 6) (oi := { dst := some 17, op := Op.load 31 (Operand.tmp 16), type := 31, pos := "ref.go:853", after := #[{ on := 5, ground := Ground.data }], guard := none }) (v := ?_) rfl (by kernel_rfl) (by kernel_rfl) (by kernel_rfl) (fun _ _ _ h => h) (Or.inl ⟨by rfl, ?_⟩) (by assumption) ?_
  rotate_left
  · first | (intro w hSw; (try dsimp only at hSw); go_simp; done) | (intro w hSw; (try dsimp only at hSw); go_simp; with_reducible rfl)
  simp only [Act.put, List.setIfInBounds_toArray, List.set_cons_zero, List.set_cons_succ]
  refine wpAnyH_take (i := 8) (oi := { dst := some 19, op := Op.slice 29 (Operand.tmp 3) none none none, type := 31, pos := "ref.go:853", after := #[], guard := none }) (v := ?_) rfl (by kernel_rfl) (by kernel_rfl) (by kernel_rfl) (fun _ _ _ h => h) (Or.inl ⟨by rfl, ?_⟩) (by assumption) ?_
  rotate_left
  · first | (intro w hSw; (try dsimp only at hSw); go_simp; done) | (intro w hSw; (try dsimp only at hSw); go_simp; with_reducible rfl)
  simp only [Act.put, List.setIfInBounds_toArray, List.set_cons_zero, List.set_cons_succ]
  refine wpAnyH_ready (rs := [4]) (by kernel_rfl) (by simp) ?_
  refine AllReadyH.cons rfl (fun K hK => ?_) AllReadyH.nil
  go_simp
  have hb5 : Below w4.heap.size w4 (w4.alloc (.cells #[.int .u8 0, .int .u8 (IntKind.u8.wrap (n : Int))] 5)).drew := ((Below.refl _ _).alloc (Nat.le_refl _) _).drew
  have ho5 : (w4.alloc (.cells #[.int .u8 0, .int .u8 (IntKind.u8.wrap (n : Int))] 5)).drew.ownsRow w4.heap.size 5 1 (.slice (some ⟨w4.heap.size, 0, none⟩) 2 2) 2 (([0, UInt8.ofNat n] : List UInt8).map V8) := by
    have := World.ownsRow_lit (base := w4.heap.size) (e := 5) (size := 1) w4 #[.int .u8 0, .int .u8 (IntKind.u8.wrap (n : Int))] 2 (Nat.le_refl _) (by unfold maxLen; omega) rfl
    rw [u8_len] at this ⊢
    exact this
  have hsz5 : (w4.alloc (.cells #[.int .u8 0, .int .u8 (IntKind.u8.wrap (n : Int))] 5)).drew.heap.size = w4.heap.size + 1 := size_alloc _ _
  generalize (w4.alloc (.cells #[.int .u8 0, .int .u8 (IntKind.u8.wrap (n : Int))] 5)).drew = w5 at *
  have d5 : w5.cell? ⟨w.heap.size, 0, none⟩ = some (.slice A n c) := by rw [hb5.cell (p := ⟨w.heap.size, 0, none⟩) (by show w.heap.size < _; omega)]; exact d0
  have HO5 := Lib.hid ho5
  have HBB5 := Lib.hid hb5
  refine hK.out _ _ d5 (fun _ => ?_)
  clear hK K hHeld hS0 ho5 hb5
  have hk5 := HK.out.below (HB4.out.trans (HBB5.out.mono HB4.out.size)) (Nat.le_refl _)
  refine wpAnyH_ready (rs := [7]) (by kernel_rfl) (by simp) ?_
  refine AllReadyH.cons (o := { dst := some 18, op := Op.call { callee := Callee.builtin Builtin.append, args := #[Operand.tmp 15, Operand.tmp 17], argTypes := #[31, 31] }, type := 31, pos := "ref.go:853", after := #[{ on := 4, ground := Ground.data }, { on := 6, ground := Ground.data }], guard := none }) rfl (fun K hK => ?_) AllReadyH.nil
  refine step_append_b rfl (.tmp 15) (.tmp 17) rfl w4.heap.size _ 2 _ rfl HO5.out _ A n c k rfl hk5 (by omega) (by omega) ?_
  intro v6 w6 ho6 hg6 _
  have hb6 : Below w4.heap.size w4 w6 := HBB5.out.grown hg6 (by omega) (fun i hi => (HO5.out.lt i hi).1)
  have d6 : w6.cell? ⟨w.heap.size, 0, none⟩ = some (.slice A n c) := by rw [hb6.cell (p := ⟨w.heap.size, 0, none⟩) (by show w.heap.size < _; omega)]; exact d0
  obtain ⟨A6, c6, rfl, hc6, _⟩ := own_form ho6
  have HO6 := Lib.hid ho6
  have HBB6 := Lib.hid hb6
  have hs6 := hb6.size
  refine hK.out _ _ d6 (fun _ => ?_)
  clear hK K ho6 hg6 hb6 HO5 HBB5 hk5 d5 hsz5
  simp only [Act.put, List.setIfInBounds_toArray, List.set_cons_zero, List.set_cons_succ]
  have hv6 : Rd w6 w6.heap.size (some ⟨g3, 0, none⟩) 32 S := Rd.mk_ HS.out.2 g3 0 (by omega) fun j u hu => (HW4.out.below HBB6.out hlt4).at_ (by rw [Nat.zero_add, Sh.bcells, List.getElem?_toArray, List.getElem?_map, hu]; rfl)
  refine wpAnyH_ready (rs := [9]) (by kernel_rfl) (by simp) ?_
  refine AllReadyH.cons (o := { dst := some 20, op := Op.call { callee := Callee.builtin Builtin.append, args := #[Operand.tmp 18, Operand.tmp 19], argTypes := #[31, 31] }, type := 31, pos := "ref.go:853", after := #[{ on := 7, ground := Ground.data }, { on := 8, ground := Ground.data }, { on := 7, ground := Ground.chain }], guard := none }) rfl (fun K hK => ?_) AllReadyH.nil
  refine step_append_b rfl (.tmp 18) (.tmp 19) rfl w4.heap.size _ (2 + n) _ rfl HO6.out _ (some ⟨g3, 0, none⟩) 32 32 S rfl hv6 (by omega) (by omega) ?_
  intro v7 w7 ho7 hg7 _
  have hb7 : Below w4.heap.size w4 w7 := HBB6.out.grown hg7 (by omega) (fun i hi => (HO6.out.lt i hi).1)
  have d7 : w7.cell? ⟨w.heap.size, 0, none⟩ = some (.slice A n c) := by rw [hb7.cell (p := ⟨w.heap.size, 0, none⟩) (by show w.heap.size < _; omega)]; exact d0
  obtain ⟨A7, c7, rfl, hc7, _⟩ := own_form ho7
  have htxt : [0, UInt8.ofNat n] ++ k ++ S = leafText k v := by
    rw [leafText, HS.out.1, HK.out.len]; simp
  rw [htxt] at ho7
  have hs7 := hb7.size
  have HB7 := Lib.hid (HB4.out.trans (hb7.mono HB4.out.size))
  have HEND := Lib.hid (And.intro (Rd.of_own ho7) (And.intro ((Fresh.own ho7).less HB4.out.size) HB7.out))
  refine hK.out _ _ d7 (fun hHeld => ?_)
  clear hK K ho7 hg7 hb7 HO6 HBB6 hv6 d6 htxt HW4
  simp only [Act.put, List.setIfInBounds_toArray, List.set_cons_zero, List.set_cons_succ]
  refine wpAnyH_take (i := 10) (oi := { dst := some 2, op := Op.assign (Operand.tmp 20), type := 31, pos := "ref.go:853", after := #[{ on := 9, ground := Ground.data }, { on := 9, ground := Ground.chain }, { on := 0, ground := Ground.phase }, { on := 1, ground := Ground.phase }, { on := 2, ground := Ground.phase }, { on := 3, ground := Ground.phase }, { on := 4, ground := Ground.phase }, { on := 5, ground := Ground.phase }, { on := 6, ground := Ground.phase }, { on := 7, ground := Ground.phase }, { on := 8, ground := Ground.phase }, { on := 9, ground := Ground.phase }], guard := none }) (v := ?_) rfl (by kernel_rfl) (by kernel_rfl) (by kernel_rfl) (fun _ _ _ h => h) (Or.inl ⟨by rfl, ?_⟩) (by assumption) ?_
  rotate_left
  · first | (intro w hSw; (try dsimp only at hSw); go_simp; done) | (intro w hSw; (try dsimp only at hSw); go_simp; with_reducible rfl)
  simp only [Act.put, List.setIfInBounds_toArray, List.set_cons_zero, List.set_cons_succ]
  clear hHeld d7
  refine wpAnyH_done (by kernel_rfl) ?_ _
  go_wp2_with fail
  go_ret
  exact ⟨A7, _, c7, rfl, HEND.out.1, hc7, HEND.out.2.1, HEND.out.2.2⟩

set_option maxRecDepth 100000 in
set_option maxHeartbeats 2000000 in
theorem text_inner (kv vv : Value) (h : Int) (hb8 : UInt8) (z : UInt64) (l r : List UInt8) (w : World) (hh : h ≠ 0) (hbyte : IntKind.u8.wrap h = (hb8.toNat : Int)) (hl : l.length = 32) (hr : r.length = 32)
    :
    Calls Tryd.prog 74 #[.agg (acells kv vv h z.toNat l r).toArray] w (ClonePost w (innerText hb8 z l r)) := by
  have hz49 := zero49
  have HL := Lib.hid (And.intro hl hr)
  have HBY := Lib.hid hbyte
  have hh0 : (h == 0) = false := by rw [beq_eq_false_iff_ne]; exact hh
  clear hl hr hbyte hh
  go_enter Tryd.func74, Tryd.ntmps74
  go_upto_region 1 with (fail)
  clear hz49
  have hb : Below w.heap.size w (w.alloc (.cells (acells kv vv h z.toNat l r).toArray 47)) := (Below.refl _ _).alloc (Nat.le_refl _) _
  have hw1 := Whole.made w 47 (acells kv vv h z.toNat l r).toArray
  have hs : w.heap.size < (w.alloc (.cells (acells kv vv h z.toNat l r).toArray 47)).heap.size := by simp
  generalize w.alloc (.cells (acells kv vv h z.toNat l r).toArray 47) = w1 at *
  obtain ⟨_, _, c2, c3⟩ := abox hw1
  have HB := Lib.hid hb
  have HW1 := Lib.hid hw1
  clear hb hw1
  obtain ⟨X, hX⟩ : ∃ X, (acells kv vv h z.toNat l r).toArray = X := ⟨_, rfl⟩
  rw [hX] at HW1 ⊢
  have HX := Lib.hid hX
  clear hX
  go_upto_region 4 with (fail)
  have hS0 : w1.drew.cell? ⟨w.heap.size, 2, none⟩ = some (.int .i64 h) ∧ w1.drew.cell? ⟨w.heap.size, 3, none⟩ = some (.int .u64 z.toNat) := ⟨c2, c3⟩
  refine wp_region_held_drew (S := fun w' => w'.cell? ⟨w.heap.size, 2, none⟩ = some (.int .i64 h) ∧ w'.cell? ⟨w.heap.size, 3, none⟩ = some (.int .u64 z.toNat)) (by kernel_rfl) hS0 (fun hHeld => ?_)
  refine wpAnyH_take (i := 0) (oi := { dst := some 21, op := Op.fieldAddr 47 (Operand.tmp 1) 2, type := 0, pos := "ref.go:855", after := #[], guard := none }) (v := ?_) rfl (by kernel_rfl) (by kernel_rfl) (by kernel_rfl) (fun _ _ _ h => h) (Or.inl ⟨by rfl, ?_⟩) (by assumption) ?_
  rotate_left
  · first | (intro w hSw; (try dsimp only at hSw); go_simp; done) | (intro w hSw; (try dsimp only at hSw); go_simp; with_reducible rfl)
  simp only [Act.put, List.setIfInBounds_toArray, List.set_cons_zero, List.set_cons_succ]
  refine wpAnyH_take (i := 1) (oi := { dst := some 22, op := Op.load 3 (Operand.tmp 21), type := 3, pos := "ref.go:855", after := #[{ on := 0, ground := Ground.data }], guard := none }) (v := ?_) rfl (by kernel_rfl) (by kernel_rfl) (by kernel_rfl) (fun _ _ _ h => h) (Or.inl ⟨by rfl, ?_⟩) (by assumption) ?_
  rotate_left
  · first | (intro w hSw; (try dsimp only at hSw); go_simp; done) | (intro w hSw; (try dsimp only at hSw); go_simp; with_reducible rfl)
  simp only [Act.put, List.setIfInBounds_toArray, List.set_cons_zero, List.set_cons_succ]
  refine wpAnyH_take (i := 2) (oi := { dst := some 23, op := Op.convert 3 5 (Operand.tmp 22), type := 5, pos := "ref.go:855", after := #[{ on := 1, ground := Ground.data }], guard := none }) (v := ?_) rfl (by kernel_rfl) (by kernel_rfl) (by kernel_rfl) (fun _ _ _ h => h) (Or.inl ⟨by rfl, ?_⟩) (by assumption) ?_
  rotate_left
  · first | (intro w hSw; (try dsimp only at hSw); go_simp; done) | (intro w hSw; (try dsimp only at hSw); go_simp; with_reducible rfl)
  simp only [Act.put, List.setIfInBounds_toArray, List.set_cons_zero, List.set_cons_succ]
  refine wpAnyH_take (i := 4) (oi := { dst := some 25, op := Op.fieldAddr 47 (Operand.tmp 1) 3, type := 0, pos := "ref.go:855", after := #[], guard := none }) (v := ?_) rfl (by kernel_rfl) (by kernel_rfl) (by kernel_rfl) (fun _ _ _ h => h) (Or.inl ⟨by rfl, ?_⟩) (by assumption) ?_
  rotate_left
  · first | (intro w hSw; (try dsimp only at hSw); go_simp; done) | (intro w hSw; (try dsimp only at hSw); go_simp; with_reducible rfl)
  simp only [Act.put, List.setIfInBounds_toArray, List.set_cons_zero, List.set_cons_succ]
  refine wpAnyH_take (i := 5) (oi := { dst := some 26, op := Op.load 45 (Operand.tmp 25), type := 45, pos := "ref.go:855", after := #[{ on := 4, ground := Ground.data }], guard := none }) (v := ?_) rfl (by kernel_rfl) (by kernel_rfl) (by kernel_rfl) (fun _ _ _ h => h) (Or.inl ⟨by rfl, ?_⟩) (by assumption) ?_
  rotate_left
  · first | (intro w hSw; (try dsimp only at hSw); go_simp; done) | (intro w hSw; (try dsimp only at hSw); go_simp; with_reducible rfl)
  simp only [Act.put, List.setIfInBounds_toArray, List.set_cons_zero, List.set_cons_succ]
  have d1 : w1.drew.cell? ⟨w.heap.size, 2, none⟩ = some (.int .i64 h) ∧ w1.drew.cell? ⟨w.heap.size, 3, none⟩ = some (.int .u64 z.toNat) := ⟨c2, c3⟩
  have HW1d : Hid (Whole w1.drew w.heap.size 47 X) := Lib.hid HW1.out
  have HBd := Lib.hid HB.out.drew
  have hsd : w.heap.size < w1.drew.heap.size := hs
  clear c2 c3 hS0 hHeld hh0 HW1 HB hs
  generalize w1.drew = w1 at *
  refine wpAnyH_ready (rs := [3, 6]) (by kernel_rfl) (by simp) ?_
  refine AllReadyH.cons rfl (fun K hK => ?_) (AllReadyH.cons rfl (fun K hK => ?_) AllReadyH.nil)
  · go_simp
    have hba : Below w1.heap.size w1 (w1.alloc (.cells #[.int .u8 1, .int .u8 (IntKind.u8.wrap h)] 5)) := (Below.refl _ _).alloc (Nat.le_refl _) _
    have hoa : (w1.alloc (.cells #[.int .u8 1, .int .u8 (IntKind.u8.wrap h)] 5)).ownsRow w1.heap.size 5 1 (.slice (some ⟨w1.heap.size, 0, none⟩) 2 2) 2 (([1, hb8] : List UInt8).map V8) := by
      have := World.ownsRow_lit (base := w1.heap.size) (e := 5) (size := 1) w1 #[.int .u8 1, .int .u8 (IntKind.u8.wrap h)] 2 (Nat.le_refl _) (by unfold maxLen; omega) rfl
      rw [HBY.out] at this ⊢
      exact this
    have hsa : (w1.alloc (.cells #[.int .u8 1, .int .u8 (IntKind.u8.wrap h)] 5)).heap.size = w1.heap.size + 1 := size_alloc _ _
    generalize w1.alloc (.cells #[.int .u8 1, .int .u8 (IntKind.u8.wrap h)] 5) = w2 at *
    have HBW0 := Lib.hid hba
    have HO0 := Lib.hid hoa
    have d2 : w2.cell? ⟨w.heap.size, 2, none⟩ = some (.int .i64 h) ∧ w2.cell? ⟨w.heap.size, 3, none⟩ = some (.int .u64 z.toNat) := by
      rw [hba.cell (p := ⟨w.heap.size, 2, none⟩) (by show w.heap.size < _; omega), hba.cell (p := ⟨w.heap.size, 3, none⟩) (by show w.heap.size < _; omega)]; exact d1
    refine hK.out _ _ d2 (fun _ => ?_)
    clear hK K hba hoa
    have HC := Lib.hid (eight_any z w2)
    refine wpAnyH_ready (rs := [6]) (by kernel_rfl) (by simp) ?_
    refine AllReadyH.cons rfl (fun K hK => ?_) AllReadyH.nil
    go_simp
    refine HC.out.mono ?_
    rintro e w3 ⟨Ae, ne, ce, rfl, hre, hnce, hbe⟩
    have HNE : Hid (ne = 8) := Lib.hid (by rw [← hre.len]; exact Sh.Sha.be8_length z)
    have HE := Lib.hid hre
    have HBW := Lib.hid (HBW0.out.trans (hbe.mono (by omega)))
    have HO := Lib.hid (own_on HO0.out hbe)
    have d3 : w3.cell? ⟨w.heap.size, 2, none⟩ = some (.int .i64 h) ∧ w3.cell? ⟨w.heap.size, 3, none⟩ = some (.int .u64 z.toNat) := by
      rw [hbe.cell (p := ⟨w.heap.size, 2, none⟩) (by show w.heap.size < _; omega), hbe.cell (p := ⟨w.heap.size, 3, none⟩) (by show w.heap.size < _; omega)]; exact d2
    refine hK.out _ _ d3 (fun _ => ?_)
    clear hK K HC hre hbe HBW0 HO0 d2 d3
    have hbB : w.heap.size ≤ w1.heap.size := HBd.out.size
    refine wpAnyH_ready (rs := [7]) (by kernel_rfl) (by simp) ?_
    refine AllReadyH.cons (o := { dst := some 28, op := Op.call { callee := Callee.builtin Builtin.append, args := #[Operand.tmp 24, Operand.tmp 27], argTypes := #[31, 31] }, type := 31, pos := "ref.go:855", after := #[{ on := 3, ground := Ground.data }, { on := 6, ground := Ground.data }, { on := 6, ground := Ground.chain }], guard := none }) rfl (fun K hK => ?_) AllReadyH.nil
    refine step_append_b rfl (.tmp 24) (.tmp 27) rfl w1.heap.size _ 2 _ rfl HO.out _ Ae ne ce (Sh.Sha.be8 z) rfl HE.out (by have := HNE.out; omega) HBW.out.size ?_
    intro v6 w6 ho6 hg6 _
    have hb6 : Below w1.heap.size w1 w6 := HBW.out.grown hg6 HBW.out.size (fun i hi => (HO.out.lt i hi).1)
    have d6 : w6.cell? ⟨w.heap.size, 2, none⟩ = some (.int .i64 h) ∧ w6.cell? ⟨w.heap.size, 3, none⟩ = some (.int .u64 z.toNat) := by
      rw [hb6.cell (p := ⟨w.heap.size, 2, none⟩) (by show w.heap.size < _; omega), hb6.cell (p := ⟨w.heap.size, 3, none⟩) (by show w.heap.size < _; omega)]; exact d1
    obtain ⟨A6, c6, rfl, hc6, _⟩ := own_form ho6
    have HO6 := Lib.hid ho6
    have HBW6 := Lib.hid hb6
    refine hK.out _ _ d6 (fun _ => ?_)
    have hHeld := d6
    clear hK K ho6 hg6 hb6 HO HE HBW
    simp only [Act.put, List.setIfInBounds_toArray, List.set_cons_zero, List.set_cons_succ]
    refine wpAnyH_take (i := 8) (oi := { dst := some 4, op := Op.assign (Operand.tmp 28), type := 31, pos := "ref.go:855", after := #[{ on := 7, ground := Ground.data }, { on := 7, ground := Ground.chain }, { on := 0, ground := Ground.phase }, { on := 1, ground := Ground.phase }, { on := 2, ground := Ground.phase }, { on := 3, ground := Ground.phase }, { on := 4, ground := Ground.phase }, { on := 5, ground := Ground.phase }, { on := 6, ground := Ground.phase }, { on := 7, ground := Ground.phase }], guard := none }) (v := ?_) rfl (by kernel_rfl) (by kernel_rfl) (by kernel_rfl) (fun _ _ _ h => h) (Or.inl ⟨by rfl, ?_⟩) (by assumption) ?_
    rotate_left
    · first | (intro w hSw; (try dsimp only at hSw); go_simp; done) | (intro w hSw; (try dsimp only at hSw); go_simp; with_reducible rfl)
    simp only [Act.put, List.setIfInBounds_toArray, List.set_cons_zero, List.set_cons_succ]
    clear hHeld d6
    refine wpAnyH_done (by kernel_rfl) ?_ _
    have hs6 := HBW6.out.size
    go_upto_region 5 with (fail)
    refine wp_region_held_drew (S := fun _ => True) (by kernel_rfl) trivial (fun hHeld => ?_)
    refine wpAnyH_take (i := 0) (oi := { dst := some 29, op := Op.move (Operand.tmp 4), type := 31, pos := "ref.go:856", after := #[], guard := none }) (v := ?_) rfl (by kernel_rfl) (by kernel_rfl) (by kernel_rfl) (fun _ _ _ h => h) (Or.inl ⟨by rfl, ?_⟩) (by assumption) ?_
    rotate_left
    · first | (intro w hSw; (try dsimp only at hSw); go_simp; done) | (intro w hSw; (try dsimp only at hSw); go_simp; with_reducible rfl)
    simp only [Act.put, List.setIfInBounds_toArray, List.set_cons_zero, List.set_cons_succ]
    refine wpAnyH_take (i := 1) (oi := { dst := some 30, op := Op.fieldAddr 47 (Operand.tmp 1) 4, type := 0, pos := "ref.go:856", after := #[], guard := none }) (v := ?_) rfl (by kernel_rfl) (by kernel_rfl) (by kernel_rfl) (fun _ _ _ h => h) (Or.inl ⟨by rfl, ?_⟩) (by assumption) ?_
    rotate_left
    · first | (intro w hSw; (try dsimp only at hSw); go_simp; done) | (intro w hSw; (try dsimp only at hSw); go_simp; with_reducible rfl)
    simp only [Act.put, List.setIfInBounds_toArray, List.set_cons_zero, List.set_cons_succ]
    refine wpAnyH_take (i := 2) (oi := { dst := some 31, op := Op.slice 29 (Operand.tmp 30) none none none, type := 31, pos := "ref.go:856", after := #[{ on := 1, ground := Ground.data }], guard := none }) (v := ?_) rfl (by kernel_rfl) (by kernel_rfl) (by kernel_rfl) (fun _ _ _ h => h) (Or.inl ⟨by rfl, ?_⟩) (by assumption) ?_
    rotate_left
    · first | (intro w hSw; (try dsimp only at hSw); go_simp; done) | (intro w hSw; (try dsimp only at hSw); go_simp; with_reducible rfl)
    simp only [Act.put, List.setIfInBounds_toArray, List.set_cons_zero, List.set_cons_succ]
    refine wpAnyH_take (i := 4) (oi := { dst := some 33, op := Op.fieldAddr 47 (Operand.tmp 1) 5, type := 0, pos := "ref.go:856", after := #[], guard := none }) (v := ?_) rfl (by kernel_rfl) (by kernel_rfl) (by kernel_rfl) (fun _ _ _ h => h) (Or.inl ⟨by rfl, ?_⟩) (by assumption) ?_
    rotate_left
    · first | (intro w hSw; (try dsimp only at hSw); go_simp; done) | (intro w hSw; (try dsimp only at hSw); go_simp; with_reducible rfl)
    simp only [Act.put, List.setIfInBounds_toArray, List.set_cons_zero, List.set_cons_succ]
    refine wpAnyH_take (i := 5) (oi := { dst := some 34, op := Op.slice 29 (Operand.tmp 33) none none none, type := 31, pos := "ref.go:856", after := #[{ on := 4, ground := Ground.data }], guard := none }) (v := ?_) rfl (by kernel_rfl) (by kernel_rfl) (by kernel_rfl) (fun _ _ _ h => h) (Or.inl ⟨by rfl, ?_⟩) (by assumption) ?_
    rotate_left
    · first | (intro w hSw; (try dsimp only at hSw); go_simp; done) | (intro w hSw; (try dsimp only at hSw); go_simp; with_reducible rfl)
    simp only [Act.put, List.setIfInBounds_toArray, List.set_cons_zero, List.set_cons_succ]
    have HO6d : Hid (w6.drew.ownsRow w1.heap.size 5 1 (.slice A6 (2 + ne) c6) (2 + ne) (([1, hb8] ++ Sh.Sha.be8 z).map V8)) := Lib.hid HO6.out
    have HBW6d := Lib.hid HBW6.out.drew
    have hs6d : w1.heap.size ≤ w6.drew.heap.size := hs6
    clear HO6 HBW6 hs6
    generalize w6.drew = w6 at *
    have hX6 := HW1d.out.below HBW6d.out (by omega)
    rw [← HX.out] at hX6
    refine wpAnyH_ready (rs := [3]) (by kernel_rfl) (by simp) ?_
    refine AllReadyH.cons (o := { dst := some 32, op := Op.call { callee := Callee.builtin Builtin.append, args := #[Operand.tmp 29, Operand.tmp 31], argTypes := #[31, 31] }, type := 31, pos := "ref.go:856", after := #[{ on := 0, ground := Ground.data }, { on := 2, ground := Ground.data }], guard := none }) rfl (fun K hK => ?_) AllReadyH.nil
    refine step_append_b rfl (.tmp 29) (.tmp 31) rfl w1.heap.size _ (2 + ne) _ rfl HO6d.out _ (some ⟨w.heap.size, 4, none⟩) 32 32 l rfl (abox_l hX6 HL.out.1) (by have := HNE.out; omega) hs6d ?_
    intro v7 w7 ho7 hg7 _
    have hb7 : Below w1.heap.size w1 w7 := HBW6d.out.grown hg7 hs6d (fun i hi => (HO6d.out.lt i hi).1)
    obtain ⟨A7, c7, rfl, hc7, _⟩ := own_form ho7
    have hs7 := hb7.size
    refine hK.out _ _ trivial (fun _ => ?_)
    have HO7 := Lib.hid ho7
    have HBW7 := Lib.hid hb7
    clear hK K ho7 hg7 hb7 HO6d HBW6d hX6
    simp only [Act.put, List.setIfInBounds_toArray, List.set_cons_zero, List.set_cons_succ]
    have hX7 := HW1d.out.below HBW7.out (by omega)
    rw [← HX.out] at hX7
    refine wpAnyH_ready (rs := [6]) (by kernel_rfl) (by simp) ?_
    refine AllReadyH.cons (o := { dst := some 35, op := Op.call { callee := Callee.builtin Builtin.append, args := #[Operand.tmp 32, Operand.tmp 34], argTypes := #[31, 31] }, type := 31, pos := "ref.go:856", after := #[{ on := 3, ground := Ground.data }, { on := 5, ground := Ground.data }, { on := 3, ground := Ground.chain }], guard := none }) rfl (fun K hK => ?_) AllReadyH.nil
    refine step_append_b rfl (.tmp 32) (.tmp 34) rfl w1.heap.size _ (2 + ne + 32) _ rfl HO7.out _ (some ⟨w.heap.size, 36, none⟩) 32 32 r rfl (abox_r hX7 HL.out.1 HL.out.2) (by have := HNE.out; omega) hs7 ?_
    intro v8 w8 ho8 hg8 _
    have hb8' : Below w1.heap.size w1 w8 := HBW7.out.grown hg8 hs7 (fun i hi => (HO7.out.lt i hi).1)
    obtain ⟨A8, c8, rfl, hc8, _⟩ := own_form ho8
    have htxt : [1, hb8] ++ Sh.Sha.be8 z ++ l ++ r = innerText hb8 z l r := by rw [innerText]; simp
    rw [htxt] at ho8
    have hs8 := hb8'.size
    have HB8 := Lib.hid (HBd.out.trans (hb8'.mono HBd.out.size))
    have HEND := Lib.hid (And.intro (Rd.of_own ho8) (And.intro ((Fresh.own ho8).less hbB) HB8.out))
    refine hK.out _ _ trivial (fun hHeld => ?_)
    clear hK K ho8 hg8 hb8' HO7 HBW7 hX7 htxt
    simp only [Act.put, List.setIfInBounds_toArray, List.set_cons_zero, List.set_cons_succ]
    refine wpAnyH_take (i := 7) (oi := { dst := some 2, op := Op.assign (Operand.tmp 35), type := 31, pos := "ref.go:856", after := #[{ on := 6, ground := Ground.data }, { on := 6, ground := Ground.chain }, { on := 0, ground := Ground.phase }, { on := 1, ground := Ground.phase }, { on := 2, ground := Ground.phase }, { on := 3, ground := Ground.phase }, { on := 4, ground := Ground.phase }, { on := 5, ground := Ground.phase }, { on := 6, ground := Ground.phase }], guard := none }) (v := ?_) rfl (by kernel_rfl) (by kernel_rfl) (by kernel_rfl) (fun _ _ _ h => h) (Or.inl ⟨by rfl, ?_⟩) (by assumption) ?_
    rotate_left
    · first | (intro w hSw; (try dsimp only at hSw); go_simp; done) | (intro w hSw; (try dsimp only at hSw); go_simp; with_reducible rfl)
    simp only [Act.put, List.setIfInBounds_toArray, List.set_cons_zero, List.set_cons_succ]
    clear hHeld
    refine wpAnyH_done (by kernel_rfl) ?_ _
    go_wp2_with fail
    go_ret
    exact ⟨A8, _, c8, rfl, HEND.out.1, hc8, HEND.out.2.1, HEND.out.2.2⟩
  · have HC := Lib.hid (eight_any z w1)
    go_simp
    refine HC.out.mono ?_
    rintro e w2 ⟨Ae, ne, ce, rfl, hre, hnce, hbe⟩
    have HNE : Hid (ne = 8) := Lib.hid (by rw [← hre.len]; exact Sh.Sha.be8_length z)
    have hse := hbe.size
    have HE0 := Lib.hid hre
    have HBE := Lib.hid hbe
    have d2 : w2.cell? ⟨w.heap.size, 2, none⟩ = some (.int .i64 h) ∧ w2.cell? ⟨w.heap.size, 3, none⟩ = some (.int .u64 z.toNat) := by
      rw [hbe.cell (p := ⟨w.heap.size, 2, none⟩) (by show w.heap.size < _; omega), hbe.cell (p := ⟨w.heap.size, 3, none⟩) (by show w.heap.size < _; omega)]; exact d1
    refine hK.out _ _ d2 (fun _ => ?_)
    clear hK K HC hre hbe
    refine wpAnyH_ready (rs := [3]) (by kernel_rfl) (by simp) ?_
    refine AllReadyH.cons rfl (fun K hK => ?_) AllReadyH.nil
    go_simp
    have hba : Below w2.heap.size w2 (w2.alloc (.cells #[.int .u8 1, .int .u8 (IntKind.u8.wrap h)] 5)) := (Below.refl _ _).alloc (Nat.le_refl _) _
    have hoa : (w2.alloc (.cells #[.int .u8 1, .int .u8 (IntKind.u8.wrap h)] 5)).ownsRow w2.heap.size 5 1 (.slice (some ⟨w2.heap.size, 0, none⟩) 2 2) 2 (([1, hb8] : List UInt8).map V8) := by
      have := World.ownsRow_lit (base := w2.heap.size) (e := 5) (size := 1) w2 #[.int .u8 1, .int .u8 (IntKind.u8.wrap h)] 2 (Nat.le_refl _) (by unfold maxLen; omega) rfl
      rw [HBY.out] at this ⊢
      exact this
    have hsa : (w2.alloc (.cells #[.int .u8 1, .int .u8 (IntKind.u8.wrap h)] 5)).heap.size = w2.heap.size + 1 := size_alloc _ _
    generalize w2.alloc (.cells #[.int .u8 1, .int .u8 (IntKind.u8.wrap h)] 5) = w3 at *
    have HE := Lib.hid (HE0.out.below hba (Nat.le_refl _))
    have HBW := Lib.hid (HBE.out.trans (hba.mono hse))
    have HO := Lib.hid (own_base hoa hse)
    have d3 : w3.cell? ⟨w.heap.size, 2, none⟩ = some (.int .i64 h) ∧ w3.cell? ⟨w.heap.size, 3, none⟩ = some (.int .u64 z.toNat) := by
      rw [hba.cell (p := ⟨w.heap.size, 2, none⟩) (by show w.heap.size < _; omega), hba.cell (p := ⟨w.heap.size, 3, none⟩) (by show w.heap.size < _; omega)]; exact d2
    refine hK.out _ _ d3 (fun _ => ?_)
    clear hK K hba hoa HE0 HBE d2 d3
    have hbB : w.heap.size ≤ w1.heap.size := HBd.out.size
    refine wpAnyH_ready (rs := [7]) (by kernel_rfl) (by simp) ?_
    refine AllReadyH.cons (o := { dst := some 28, op := Op.call { callee := Callee.builtin Builtin.append, args := #[Operand.tmp 24, Operand.tmp 27], argTypes := #[31, 31] }, type := 31, pos := "ref.go:855", after := #[{ on := 3, ground := Ground.data }, { on := 6, ground := Ground.data }, { on := 6, ground := Ground.chain }], guard := none }) rfl (fun K hK => ?_) AllReadyH.nil
    refine step_append_b rfl (.tmp 24) (.tmp 27) rfl w1.heap.size _ 2 _ rfl HO.out _ Ae ne ce (Sh.Sha.be8 z) rfl HE.out (by have := HNE.out; omega) HBW.out.size ?_
    intro v6 w6 ho6 hg6 _
    have hb6 : Below w1.heap.size w1 w6 := HBW.out.grown hg6 HBW.out.size (fun i hi => (HO.out.lt i hi).1)
    have d6 : w6.cell? ⟨w.heap.size, 2, none⟩ = some (.int .i64 h) ∧ w6.cell? ⟨w.heap.size, 3, none⟩ = some (.int .u64 z.toNat) := by
      rw [hb6.cell (p := ⟨w.heap.size, 2, none⟩) (by show w.heap.size < _; omega), hb6.cell (p := ⟨w.heap.size, 3, none⟩) (by show w.heap.size < _; omega)]; exact d1
    obtain ⟨A6, c6, rfl, hc6, _⟩ := own_form ho6
    have HO6 := Lib.hid ho6
    have HBW6 := Lib.hid hb6
    refine hK.out _ _ d6 (fun _ => ?_)
    have hHeld := d6
    clear hK K ho6 hg6 hb6 HO HE HBW
    simp only [Act.put, List.setIfInBounds_toArray, List.set_cons_zero, List.set_cons_succ]
    refine wpAnyH_take (i := 8) (oi := { dst := some 4, op := Op.assign (Operand.tmp 28), type := 31, pos := "ref.go:855", after := #[{ on := 7, ground := Ground.data }, { on := 7, ground := Ground.chain }, { on := 0, ground := Ground.phase }, { on := 1, ground := Ground.phase }, { on := 2, ground := Ground.phase }, { on := 3, ground := Ground.phase }, { on := 4, ground := Ground.phase }, { on := 5, ground := Ground.phase }, { on := 6, ground := Ground.phase }, { on := 7, ground := Ground.phase }], guard := none }) (v := ?_) rfl (by kernel_rfl) (by kernel_rfl) (by kernel_rfl) (fun _ _ _ h => h) (Or.inl ⟨by rfl, ?_⟩) (by assumption) ?_
    rotate_left
    · first | (intro w hSw; (try dsimp only at hSw); go_simp; done) | (intro w hSw; (try dsimp only at hSw); go_simp; with_reducible rfl)
    simp only [Act.put, List.setIfInBounds_toArray, List.set_cons_zero, List.set_cons_succ]
    clear hHeld d6
    refine wpAnyH_done (by kernel_rfl) ?_ _
    have hs6 := HBW6.out.size
    go_upto_region 5 with (fail)
    refine wp_region_held_drew (S := fun _ => True) (by kernel_rfl) trivial (fun hHeld => ?_)
    refine wpAnyH_take (i := 0) (oi := { dst := some 29, op := Op.move (Operand.tmp 4), type := 31, pos := "ref.go:856", after := #[], guard := none }) (v := ?_) rfl (by kernel_rfl) (by kernel_rfl) (by kernel_rfl) (fun _ _ _ h => h) (Or.inl ⟨by rfl, ?_⟩) (by assumption) ?_
    rotate_left
    · first | (intro w hSw; (try dsimp only at hSw); go_simp; done) | (intro w hSw; (try dsimp only at hSw); go_simp; with_reducible rfl)
    simp only [Act.put, List.setIfInBounds_toArray, List.set_cons_zero, List.set_cons_succ]
    refine wpAnyH_take (i := 1) (oi := { dst := some 30, op := Op.fieldAddr 47 (Operand.tmp 1) 4, type := 0, pos := "ref.go:856", after := #[], guard := none }) (v := ?_) rfl (by kernel_rfl) (by kernel_rfl) (by kernel_rfl) (fun _ _ _ h => h) (Or.inl ⟨by rfl, ?_⟩) (by assumption) ?_
    rotate_left
    · first | (intro w hSw; (try dsimp only at hSw); go_simp; done) | (intro w hSw; (try dsimp only at hSw); go_simp; with_reducible rfl)
    simp only [Act.put, List.setIfInBounds_toArray, List.set_cons_zero, List.set_cons_succ]
    refine wpAnyH_take (i := 2) (oi := { dst := some 31, op := Op.slice 29 (Operand.tmp 30) none none none, type := 31, pos := "ref.go:856", after := #[{ on := 1, ground := Ground.data }], guard := none }) (v := ?_) rfl (by kernel_rfl) (by kernel_rfl) (by kernel_rfl) (fun _ _ _ h => h) (Or.inl ⟨by rfl, ?_⟩) (by assumption) ?_
    rotate_left
    · first | (intro w hSw; (try dsimp only at hSw); go_simp; done) | (intro w hSw; (try dsimp only at hSw); go_simp; with_reducible rfl)
    simp only [Act.put, List.setIfInBounds_toArray, List.set_cons_zero, List.set_cons_succ]
    refine wpAnyH_take (i := 4) (oi := { dst := some 33, op := Op.fieldAddr 47 (Operand.tmp 1) 5, type := 0, pos := "ref.go:856", after := #[], guard := none }) (v := ?_) rfl (by kernel_rfl) (by kernel_rfl) (by kernel_rfl) (fun _ _ _ h => h) (Or.inl ⟨by rfl, ?_⟩) (by assumption) ?_
    rotate_left
    · first | (intro w hSw; (try dsimp only at hSw); go_simp; done) | (intro w hSw; (try dsimp only at hSw); go_simp; with_reducible rfl)
    simp only [Act.put, List.setIfInBounds_toArray, List.set_cons_zero, List.set_cons_succ]
    refine wpAnyH_take (i := 5) (oi := { dst := some 34, op := Op.slice 29 (Operand.tmp 33) none none none, type := 31, pos := "ref.go:856", after := #[{ on := 4, ground := Ground.data }], guard := none }) (v := ?_) rfl (by kernel_rfl) (by kernel_rfl) (by kernel_rfl) (fun _ _ _ h => h) (Or.inl ⟨by rfl, ?_⟩) (by assumption) ?_
    rotate_left
    · first | (intro w hSw; (try dsimp only at hSw); go_simp; done) | (intro w hSw; (try dsimp only at hSw); go_simp; with_reducible rfl)
    simp only [Act.put, List.setIfInBounds_toArray, List.set_cons_zero, List.set_cons_succ]
    have HO6d : Hid (w6.drew.ownsRow w1.heap.size 5 1 (.slice A6 (2 + ne) c6) (2 + ne) (([1, hb8] ++ Sh.Sha.be8 z).map V8)) := Lib.hid HO6.out
    have HBW6d := Lib.hid HBW6.out.drew
    have hs6d : w1.heap.size ≤ w6.drew.heap.size := hs6
    clear HO6 HBW6 hs6
    generalize w6.drew = w6 at *
    have hX6 := HW1d.out.below HBW6d.out (by omega)
    rw [← HX.out] at hX6
    refine wpAnyH_ready (rs := [3]) (by kernel_rfl) (by simp) ?_
    refine AllReadyH.cons (o := { dst := some 32, op := Op.call { callee := Callee.builtin Builtin.append, args := #[Operand.tmp 29, Operand.tmp 31], argTypes := #[31, 31] }, type := 31, pos := "ref.go:856", after := #[{ on := 0, ground := Ground.data }, { on := 2, ground := Ground.data }], guard := none }) rfl (fun K hK => ?_) AllReadyH.nil
    refine step_append_b rfl (.tmp 29) (.tmp 31) rfl w1.heap.size _ (2 + ne) _ rfl HO6d.out _ (some ⟨w.heap.size, 4, none⟩) 32 32 l rfl (abox_l hX6 HL.out.1) (by have := HNE.out; omega) hs6d ?_
    intro v7 w7 ho7 hg7 _
    have hb7 : Below w1.heap.size w1 w7 := HBW6d.out.grown hg7 hs6d (fun i hi => (HO6d.out.lt i hi).1)
    obtain ⟨A7, c7, rfl, hc7, _⟩ := own_form ho7
    have hs7 := hb7.size
    refine hK.out _ _ trivial (fun _ => ?_)
    have HO7 := Lib.hid ho7
    have HBW7 := Lib.hid hb7
    clear hK K ho7 hg7 hb7 HO6d HBW6d hX6
    simp only [Act.put, List.setIfInBounds_toArray, List.set_cons_zero, List.set_cons_succ]
    have hX7 := HW1d.out.below HBW7.out (by omega)
    rw [← HX.out] at hX7
    refine wpAnyH_ready (rs := [6]) (by kernel_rfl) (by simp) ?_
    refine AllReadyH.cons (o := { dst := some 35, op := Op.call { callee := Callee.builtin Builtin.append, args := #[Operand.tmp 32, Operand.tmp 34], argTypes := #[31, 31] }, type := 31, pos := "ref.go:856", after := #[{ on := 3, ground := Ground.data }, { on := 5, ground := Ground.data }, { on := 3, ground := Ground.chain }], guard := none }) rfl (fun K hK => ?_) AllReadyH.nil
    refine step_append_b rfl (.tmp 32) (.tmp 34) rfl w1.heap.size _ (2 + ne + 32) _ rfl HO7.out _ (some ⟨w.heap.size, 36, none⟩) 32 32 r rfl (abox_r hX7 HL.out.1 HL.out.2) (by have := HNE.out; omega) hs7 ?_
    intro v8 w8 ho8 hg8 _
    have hb8' : Below w1.heap.size w1 w8 := HBW7.out.grown hg8 hs7 (fun i hi => (HO7.out.lt i hi).1)
    obtain ⟨A8, c8, rfl, hc8, _⟩ := own_form ho8
    have htxt : [1, hb8] ++ Sh.Sha.be8 z ++ l ++ r = innerText hb8 z l r := by rw [innerText]; simp
    rw [htxt] at ho8
    have hs8 := hb8'.size
    have HB8 := Lib.hid (HBd.out.trans (hb8'.mono HBd.out.size))
    have HEND := Lib.hid (And.intro (Rd.of_own ho8) (And.intro ((Fresh.own ho8).less hbB) HB8.out))
    refine hK.out _ _ trivial (fun hHeld => ?_)
    clear hK K ho8 hg8 hb8' HO7 HBW7 hX7 htxt
    simp only [Act.put, List.setIfInBounds_toArray, List.set_cons_zero, List.set_cons_succ]
    refine wpAnyH_take (i := 7) (oi := { dst := some 2, op := Op.assign (Operand.tmp 35), type := 31, pos := "ref.go:856", after := #[{ on := 6, ground := Ground.data }, { on := 6, ground := Ground.chain }, { on := 0, ground := Ground.phase }, { on := 1, ground := Ground.phase }, { on := 2, ground := Ground.phase }, { on := 3, ground := Ground.phase }, { on := 4, ground := Ground.phase }, { on := 5, ground := Ground.phase }, { on := 6, ground := Ground.phase }], guard := none }) (v := ?_) rfl (by kernel_rfl) (by kernel_rfl) (by kernel_rfl) (fun _ _ _ h => h) (Or.inl ⟨by rfl, ?_⟩) (by assumption) ?_
    rotate_left
    · first | (intro w hSw; (try dsimp only at hSw); go_simp; done) | (intro w hSw; (try dsimp only at hSw); go_simp; with_reducible rfl)
    simp only [Act.put, List.setIfInBounds_toArray, List.set_cons_zero, List.set_cons_succ]
    clear hHeld
    refine wpAnyH_done (by kernel_rfl) ?_ _
    go_wp2_with fail
    go_ret
    exact ⟨A8, _, c8, rfl, HEND.out.1, hc8, HEND.out.2.1, HEND.out.2.2⟩
end Go.Proofs.YtolkpjbbfopmnaaDoor
