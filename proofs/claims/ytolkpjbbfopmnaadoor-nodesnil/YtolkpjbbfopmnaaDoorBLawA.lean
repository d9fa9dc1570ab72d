/-
  A tree's root as a node with its bytes, and Get of a base that has it; conditions: the tree's keys are no empty ones.
-/
import Derived.Test.YtolkpjbbfopmnaaDoorBSaveB
import Derived.Test.YtolkpjbbfopmnaaDoorTlNdBack
import Derived.Test.YtolkpjbbfopmnaaDoorGrow
namespace Go.Proofs.YtolkpjbbfopmnaaDoor
open Go.RowKit Go.Shelf
open Tr

theorem gstep_keys (o : Option T) (a : Ac) (hs : Srt (optLeaves o)) (h : ∀ p ∈ optLeaves o, 1 ≤ p.1.length) (ha : 1 ≤ a.key.length) : ∀ p ∈ optLeaves (gstep o a), 1 ≤ p.1.length := by
  unfold gstep
  split
  · intro p hp
    have hp' : p ∈ putL (optLeaves o) a.key a.cut := by rw [← oput_leaves o a.key a.cut hs]; exact hp
    rcases putL_mem hp' with h1 | rfl
    · exact h p h1
    · exact ha
  · split
    · rename_i hf
      cases o with
      | none => intro p hp; cases hp
      | some t =>
        intro p hp
        have hp' : p ∈ cutL t.leaves a.key := by rw [← cut_leaves a.key t hs hf]; exact hp
        exact h p (List.mem_filter.1 hp').1
    · exact h
def ndT (t : T) : Tl.Tlv.Nd := ⟨t.key, t.val, t.h, t.n, t.lsum, t.rsum⟩
theorem key_leaf (t : T) : ∃ v, (t.key, v) ∈ t.leaves := by
  cases t with
  | leaf k v => exact ⟨v, by simp [T.leaves, T.key]⟩
  | node l r =>
    obtain ⟨v, q, h⟩ := T.head_leaves r
    exact ⟨v, by show (r.least, v) ∈ l.leaves ++ r.leaves; rw [h]; simp⟩
theorem ndT_fit (t : T) (h : t.n ≤ 1000) : (ndT t).fit := ⟨lsum32 t, rsum32 t, by show t.n < _; omega⟩
theorem ndT_may (t : T) (h : t.n ≤ 64) (hv : t.val.length ≤ 256) : (ndT t).may = true := by
  have hh := T.h_lt t
  cases t with
  | leaf k v =>
    have e1 : (T.leaf k v).lsum = Tl.Tlv.nought := rfl
    have e2 : (T.leaf k v).rsum = Tl.Tlv.nought := rfl
    have hv' : v.length ≤ 256 := hv
    simp [Tl.Tlv.Nd.may, ndT, T.h, T.n, T.val, e1, e2, hv']
  | node l r =>
    have h1 : 0 < (T.node l r).h := by show 0 < 1 + _; omega
    have e1 : (ndT (T.node l r)).h = ((T.node l r).h : Int) := rfl
    unfold Tl.Tlv.Nd.may
    rw [if_neg (by rw [e1]; omega), if_pos (by rw [e1]; omega)]
    rfl
theorem grow_keys : ∀ (m : Nat) (cs : List Ac) (o : Option T), Fine o → (∀ p ∈ optLeaves o, 1 ≤ p.1.length) → ∀ p ∈ optLeaves (grow m cs o), 1 ≤ p.1.length
  | 0, _, _, _, h => h
  | _ + 1, [], _, _, h => h
  | m + 1, a :: r, o, hf, h => by
    unfold grow
    split
    · exact h
    · refine grow_keys m r _ ?_ (gstep_keys o a hf.srt h (Ac.key_pos a))
      unfold gstep
      split
      · exact hf.put _ _
      · split
        · rename_i h2; exact hf.cut _ h2
        · exact hf
theorem grow_key {m : Nat} {cs : List Ac} {t : T} (h : grow m cs none = some t) : 1 ≤ t.key.length := by
  obtain ⟨v, hv⟩ := key_leaf t
  refine grow_keys m cs none Fine.none (fun p hp => by cases hp) (t.key, v) ?_
  rw [h]
  exact hv
/-- Get of a root that is there, as its own node. -/
theorem get_root (pb M : Nat) (t : T) (ms : List (List UInt8 × Value)) (v : Value) (B : Nat) (w : World) (hB : BAt w pb M ms) (hV : NVals ms) (hv : MAt.look ms t.sum = some v) (hn : NodeV w B t v) (htn : t.n ≤ 64) (hk : 1 ≤ t.key.length) :
    Calls Tryd.prog 18 #[ptr (some pb), .agg (Sh.bcells t.sum)] w fun e w' => (∃ A n c, e = .returned (.tuple #[.slice A n c, .bool true]) ∧ Rd w' w'.heap.size A n (ndT t).bytes ∧ n ≤ c ∧ Tl.Fresh w.heap.size w' A) ∧ Below w.heap.size w w' ∧ Tl.Tlv.dec (ndT t).bytes = (0, ndT t) := by
  obtain ⟨cs, A, n, c, A', n', c', rfl, hT⟩ := hn
  obtain ⟨X, is, hX, hone, hrun, hyes, hno⟩ := look_case (M := M) hV t.sum (sum32 t)
  have hkl : t.key.length ≤ 96 := by rw [hT.key.len]; exact hT.kle
  have hvl : t.val.length ≤ 256 := by rw [hT.val.len]; exact hT.vle
  have hmay := ndT_may t htn hvl
  have hfit := ndT_fit t (by omega)
  have hz : (ndT t).z ≠ 0 := by have := n_pos t; show t.n ≠ 0; omega
  have hdec := Tl.dec_back (nd := ndT t) ⟨hk, hkl⟩ hmay hfit hz
  have henc := Tl.enc_good (nd := ndT t) (by show ¬ (t.key.length < 1 ∨ 96 < t.key.length); omega) hmay
  have his : is = true := by
    cases is with
    | true => rfl
    | false => rw [hno rfl] at hv; cases hv
  subst his
  have hXe : X = cs := by have := hyes rfl; rw [hv] at this; injection this with this; injection this with this; exact this.symm
  refine (get_core pb M ms t.sum (sum32 t) X true w hB hX hone hrun (ndT t) (fun _ => ⟨A, n, c, A', n', c', by rw [hXe, hT.eq]; rfl, ⟨hT.key, hT.knc, hT.val, hT.vnc⟩⟩) hfit).mono ?_
  rintro e w' ⟨_, h2, h3⟩
  obtain ⟨A1, n1, c1, he, hr, hnc, hnew⟩ := h2 rfl
  rw [henc] at he hr
  exact ⟨⟨A1, n1, c1, he, hr, hnc, hnew⟩, h3, hdec⟩
/-- Get of a root that is not there. -/
theorem get_none (pb M : Nat) (h : List UInt8) (hl : h.length = 32) (ms : List (List UInt8 × Value)) (w : World) (hB : BAt w pb M ms) (hV : NVals ms) (hv : MAt.look ms h = none) :
    Calls Tryd.prog 18 #[ptr (some pb), .agg (Sh.bcells h)] w fun e w' => e = .returned (.tuple #[.slice none 0 0, .bool false]) ∧ Below w.heap.size w w' := by
  obtain ⟨X, is, hX, hone, hrun, hyes, hno⟩ := look_case (M := M) hV h hl
  have his : is = false := by
    cases is with
    | false => rfl
    | true => rw [hyes rfl] at hv; cases hv
  subst his
  refine (get_core pb M ms h hl X false w hB hX hone hrun Tl.Tlv.Nd.zero (fun h => by cases h) Tl.Tlv.fit_zero).mono ?_
  rintro e w' ⟨h1, _, h3⟩
  exact ⟨h1 rfl, h3⟩
/-- The bytes of a tree's root: none of a tree that has none. -/
def obytes : Option T → List UInt8
  | none => []
  | some t => (ndT t).bytes
/-- Get of a tree's root behind a Save. -/
theorem get_o (pb M : Nat) (o : Option T) (ms : List (List UInt8 × Value)) (B : Nat) (w : World) (hB : BAt w pb M ms) (hV : NVals ms) (h0 : o = none → MAt.look ms (osum o) = none) (h1 : ∀ t, o = some t → (∃ v, MAt.look ms t.sum = some v ∧ NodeV w B t v) ∧ t.n ≤ 64 ∧ 1 ≤ t.key.length) :
    Calls Tryd.prog 18 #[ptr (some pb), .agg (Sh.bcells (osum o))] w fun e w' => (∃ A n c, e = .returned (.tuple #[.slice A n c, .bool o.isSome]) ∧ Rd w' w'.heap.size A n (obytes o) ∧ n ≤ c ∧ Tl.Fresh w.heap.size w' A) ∧ Below w.heap.size w w' ∧ (o.isSome = true → (Tl.Tlv.dec (obytes o)).1 = 0) := by
  cases o with
  | none =>
    refine (get_none pb M _ (osum32 none) ms w hB hV (h0 rfl)).mono ?_
    rintro e w' ⟨rfl, hb⟩
    exact ⟨⟨none, 0, 0, rfl, ⟨rfl, fun h => absurd h (Nat.lt_irrefl 0)⟩, Nat.le_refl _, fun b p h => by cases h⟩, hb, fun h => by cases h⟩
  | some t =>
    obtain ⟨⟨v, hv, hn⟩, htn, hk⟩ := h1 t rfl
    refine (get_root pb M t ms v B w hB hV hv hn htn hk).mono ?_
    rintro e w' ⟨h1, h2, h3⟩
    exact ⟨h1, h2, fun _ => by rw [show obytes (some t) = (ndT t).bytes from rfl, h3]⟩
end Go.Proofs.YtolkpjbbfopmnaaDoor
