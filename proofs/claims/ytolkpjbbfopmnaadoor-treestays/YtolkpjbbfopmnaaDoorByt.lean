/-
  Bytes that are turned in place: rows of answered keys, and what is kept while they are turned; no condition on any call.
-/
import Derived.Test.YtolkpjbbfopmnaaDoorNodesM
import Derived.Laws.BitsAllLaws
namespace Go.Proofs.YtolkpjbbfopmnaaDoor
open Go.RowKit
open Tr

theorem xor_255 (x : UInt8) : ∃ x' : UInt8, bits .xor .u8 (x.toNat : Int) 255 = (x'.toNat : Int) := by
  have hx := x.toNat_lt
  refine ⟨UInt8.ofNat (x.toNat ^^^ 255), ?_⟩
  rw [u8_xor _ _ (by omega) (by omega) (by omega) (by omega), UInt8.toNat_ofNat']
  have : x.toNat ^^^ 255 < 2 ^ 8 := Nat.xor_lt_two_pow (by omega) (by omega)
  rw [Int.toNat_natCast, Nat.mod_eq_of_lt (by simpa using this)]
  rfl
/-- Only blocks where G does not hold, and new ones, have turned. -/
structure Kp (G : Nat → Prop) (w w' : World) : Prop where
  os : w'.os = w.os
  tape : w'.tape = w.tape
  output : w'.output = w.output
  size : w.heap.size ≤ w'.heap.size
  block : ∀ b, b < w.heap.size → G b → w'.heap[b]? = w.heap[b]?
theorem Kp.refl (G : Nat → Prop) (w : World) : Kp G w w := ⟨rfl, rfl, rfl, Nat.le_refl _, fun _ _ _ => rfl⟩
theorem Kp.on {G : Nat → Prop} {w w1 w2 : World} (h : Kp G w w1) (hb : Below w1.heap.size w1 w2) : Kp G w w2 :=
  ⟨hb.os.trans h.os, hb.tape.trans h.tape, hb.output.trans h.output, Nat.le_trans h.size hb.size, fun b hl hg => (hb.block b (Nat.lt_of_lt_of_le hl h.size)).trans (h.block b hl hg)⟩
theorem Kp.turn {G : Nat → Prop} {w w1 : World} (h : Kp G w w1) {b q : Nat} (u : Value) (hb : w.heap.size ≤ b ∨ ¬ G b) : Kp G w (w1.setCell ⟨b, q, none⟩ u) := by
  have hk := Below.heap_setCell w1 ⟨b, q, none⟩ u
  refine ⟨h.os, h.tape, h.output, by rw [World.size_setCell]; exact h.size, fun k hl hg => (hk k ?_).trans (h.block k hl hg)⟩
  rintro rfl
  rcases hb with hb | hb
  · omega
  · exact hb hg
theorem Kp.below {G : Nat → Prop} {w w' : World} {B : Nat} (h : Kp G w w') (hB : B ≤ w.heap.size) (hG : ∀ b, b < B → G b) : Below B w w' :=
  ⟨h.os, h.tape, h.output, h.size, fun b hb => h.block b (by omega) (hG b hb)⟩
theorem Kp.tree {G : Nat → Prop} {w w' : World} {o : Option T} {g : Nat} (h : Kp G w w') (ht : TIn G w w.heap.size o g) : TIn G w' w'.heap.size o g :=
  (ht.keepG h.block).more h.size

/-- So many bytes that may be turned, in a block from g on. -/
def Byt (w : World) (g : Nat) (A : Option Addr) (n : Nat) : Prop :=
  0 < n → ∃ b o, A = some ⟨b, o, none⟩ ∧ g ≤ b ∧ b < w.heap.size ∧ (∀ j, j < n → ∃ x : UInt8, w.cell? ⟨b, o + j, none⟩ = some (.int .u8 x.toNat)) ∧ ∀ j, w.frozen? ⟨b, j, none⟩ = false
theorem Byt.mk {w : World} {g n : Nat} {A : Option Addr} {bs : List UInt8} (hr : Rd w w.heap.size A n bs) (hf : ∀ b o, A = some ⟨b, o, none⟩ → 0 < n → g ≤ b ∧ ∀ j, w.frozen? ⟨b, j, none⟩ = false) : Byt w g A n := fun hn => by
  obtain ⟨b, o, rfl, hlt, hc⟩ := hr.at_ hn
  obtain ⟨h1, h2⟩ := hf b o rfl hn
  exact ⟨b, o, rfl, h1, hlt, fun j hj => ⟨bs[j]'(by rw [hr.len]; exact hj), hc j _ (List.getElem?_eq_getElem _)⟩, h2⟩
theorem Byt.on {w w' : World} {g n : Nat} {A : Option Addr} (h : Byt w g A n) (hb : Below w.heap.size w w') : Byt w' g A n := fun hn => by
  obtain ⟨b, o, e, h1, h2, h3, h4⟩ := h hn
  exact ⟨b, o, e, h1, Nat.lt_of_lt_of_le h2 hb.size, fun j hj => by obtain ⟨x, hx⟩ := h3 j hj; exact ⟨x, (hb.cell (p := ⟨b, o + j, none⟩) h2).trans hx⟩, fun j => by rw [← h4 j]; exact World.frozen?_of_block (hb.block b h2)⟩
theorem Byt.turn {w : World} {g n b q : Nat} {A : Option Addr} (h : Byt w g A n) (x : UInt8) (hc : ∃ y : UInt8, w.cell? ⟨b, q, none⟩ = some (.int .u8 y.toNat)) : Byt (w.setCell ⟨b, q, none⟩ (.int .u8 x.toNat)) g A n := fun hn => by
  obtain ⟨c, o, e, h1, h2, h3, h4⟩ := h hn
  refine ⟨c, o, e, h1, by rw [World.size_setCell]; exact h2, fun j hj => ?_, fun j => by rw [World.frozen?_setCell]; exact h4 j⟩
  by_cases he : (⟨b, q, none⟩ : Addr) = ⟨c, o + j, none⟩
  · obtain ⟨y, hy⟩ := hc
    rw [← he]
    exact ⟨x, World.cell?_setCell_same _ _ _ hy⟩
  · rw [World.cell?_setCell_other _ _ _ _ he]
    exact h3 j hj
/-- A row of elements of s cells, each of which begins with bytes that may be turned, in other blocks than the row's. -/
def KeyRow (w : World) (g : Nat) (A : Option Addr) (s : Nat) (xs : List Value) (m : Nat) : Prop :=
  xs.length = s * m ∧ (0 < m → ∃ R o, A = some ⟨R, o, none⟩ ∧ R < w.heap.size ∧ (∀ j u, xs[j]? = some u → w.cell? ⟨R, o + j, none⟩ = some u) ∧
    ∀ i, i < m → ∃ K n c, xs[s * i]? = some (.slice K n c) ∧ n ≤ 96 ∧ Byt w g K n ∧ ∀ b p, K = some ⟨b, p, none⟩ → 0 < n → b ≠ R)
theorem KeyRow.on {w w' : World} {g s m : Nat} {A : Option Addr} {xs : List Value} (h : KeyRow w g A s xs m) (hb : Below w.heap.size w w') : KeyRow w' g A s xs m :=
  ⟨h.1, fun hm => by
    obtain ⟨R, o, e, h1, h2, h3⟩ := h.2 hm
    refine ⟨R, o, e, Nat.lt_of_lt_of_le h1 hb.size, fun j u hu => (hb.cell (p := ⟨R, o + j, none⟩) h1).trans (h2 j u hu), fun i hi => ?_⟩
    obtain ⟨K, n, c, k1, k2, k3, k4⟩ := h3 i hi
    exact ⟨K, n, c, k1, k2, k3.on hb, k4⟩⟩
theorem KeyRow.turn {w : World} {g s m b q : Nat} {A : Option Addr} {xs : List Value} (h : KeyRow w g A s xs m) (x : UInt8) (hc : ∃ y : UInt8, w.cell? ⟨b, q, none⟩ = some (.int .u8 y.toNat)) (hb : ∀ R o, A = some ⟨R, o, none⟩ → b ≠ R) : KeyRow (w.setCell ⟨b, q, none⟩ (.int .u8 x.toNat)) g A s xs m :=
  ⟨h.1, fun hm => by
    obtain ⟨R, o, e, h1, h2, h3⟩ := h.2 hm
    refine ⟨R, o, e, by rw [World.size_setCell]; exact h1, fun j u hu => ?_, fun i hi => ?_⟩
    · rw [World.cell?_setCell_other _ _ _ _ (fun e2 => by injection e2 with e2 _; exact hb R o e e2)]
      exact h2 j u hu
    · obtain ⟨K, n, c, k1, k2, k3, k4⟩ := h3 i hi
      exact ⟨K, n, c, k1, k2, k3.turn x hc, k4⟩⟩
theorem nin_leaves {G : Nat → Prop} {w : World} {B : Nat} : ∀ {t : T} {b : Nat}, NIn G w B t b → ∀ p ∈ t.leaves, p.1.length ≤ 96
  | .leaf k v, _, ⟨A, n, c, A', n', c', h⟩, p, hp => by
    obtain rfl : p = (k, v) := by simpa [T.leaves] using hp
    have := h.key.len
    have h2 := h.kle
    change k.length = n at this
    show k.length ≤ 96
    omega
  | .node l r, _, ⟨A, n, c, A', n', c', x, y, h, h1, h2⟩, p, hp => by
    rcases List.mem_append.1 (show p ∈ l.leaves ++ r.leaves from hp) with hp | hp
    · exact nin_leaves h1 p hp
    · exact nin_leaves h2 p hp
theorem nin_all {G : Nat → Prop} {w : World} {B : Nat} : ∀ {t : T} {b : Nat}, NIn G w B t b → ∀ s ∈ t.all, s.key.length ≤ 96
  | .leaf k v, _, ⟨A, n, c, A', n', c', h⟩, p, hp => by
    obtain rfl : p = .leaf k v := by simpa [T.all] using hp
    have := h.key.len
    have h2 := h.kle
    omega
  | .node l r, _, ⟨A, n, c, A', n', c', x, y, h, h1, h2⟩, p, hp => by
    rcases List.mem_cons.1 (show p ∈ T.node l r :: (l.all ++ r.all) from hp) with rfl | hp
    · have := h.key.len
      have h2 := h.kle
      omega
    · rcases List.mem_append.1 hp with hp | hp
      · exact nin_all h1 p hp
      · exact nin_all h2 p hp
theorem tin_leaves {G : Nat → Prop} {w : World} {B g : Nat} {o : Option T} (h : TIn G w B o g) : ∀ p ∈ optLeaves o, p.1.length ≤ 96 := by
  obtain ⟨_, _, p, _, hP⟩ := h
  cases o with
  | none => intro p hp; cases hp
  | some t =>
    obtain ⟨b, _, hN⟩ := hP
    exact nin_leaves hN
theorem tin_all {G : Nat → Prop} {w : World} {B g : Nat} {o : Option T} (h : TIn G w B o g) : ∀ s ∈ oall o, s.key.length ≤ 96 := by
  obtain ⟨_, _, p, _, hP⟩ := h
  cases o with
  | none => intro p hp; cases hp
  | some t =>
    obtain ⟨b, _, hN⟩ := hP
    exact nin_all hN
theorem AOwn.keys {w : World} {g n c : Nat} {A : Option Addr} {ps : Prs} (h : AOwn w g (.slice A n c) n ps) (hk : ∀ p ∈ ps, p.1.length ≤ 96) : ∃ xs, KeyRow w g A 2 xs n ∧ ∀ i, i < n → ∃ K k d, xs[2 * i + 1]? = some (.slice K k d) := by
  obtain ⟨xs, h1, h2, h3⟩ := h
  refine ⟨xs, ⟨by rw [h3.1, h2], fun hn => ?_⟩, fun i hi => ?_⟩
  · obtain ⟨R, o, rfl, hR, hc⟩ := (RdV.of_own h1).2 hn
    refine ⟨R, o, rfl, hR, fun j u hu => hc j u hu, fun i hi => ?_⟩
    have hp : ps[i]? = some (ps[i]'(by omega)) := List.getElem?_eq_getElem _
    obtain ⟨K, k, c', A', n', c'', hx⟩ := h3.2 i _ hp
    refine ⟨K, k, c', hx.c0, ?_, Byt.mk hx.key.1.1 (fun b p e hk => ⟨Nat.le_of_lt (hx.key.2 b p e hk).1, (hx.key.2 b p e hk).2⟩), fun b p e hk e2 => hx.key.1.2 b p e hk (by rw [e2]; rfl)⟩
    have := hx.key.1.1.len
    have h5 := hk _ (List.mem_of_getElem? hp)
    omega
  · have hp : ps[i]? = some (ps[i]'(by omega)) := List.getElem?_eq_getElem _
    obtain ⟨K, k, c', A', n', c'', hx⟩ := h3.2 i _ hp
    exact ⟨A', n', c'', hx.c1⟩
theorem NOwn.keys {w : World} {g n c : Nat} {A : Option Addr} {ts : List T} (h : NOwn w g (.slice A n c) n ts) (hk : ∀ s ∈ ts, s.key.length ≤ 96) : ∃ xs, KeyRow w g A 68 xs n ∧ ∀ u ∈ xs, u.oneCell' = true := by
  obtain ⟨xs, h1, h2, h3⟩ := h
  refine ⟨xs, ⟨by rw [h3.1, h2], fun hn => ?_⟩, fun u hu => ?_⟩
  · obtain ⟨R, o, rfl, hR, hc⟩ := (RdV.of_own h1).2 hn
    refine ⟨R, o, rfl, hR, fun j u hu => hc j u hu, fun i hi => ?_⟩
    have hp : ts[i]? = some (ts[i]'(by omega)) := List.getElem?_eq_getElem _
    obtain ⟨K, k, c', A', n', c'', hx⟩ := h3.2 i _ hp
    refine ⟨K, k, c', hx.cells 0 _ rfl, ?_, Byt.mk hx.key.1.1 (fun b p e hk => ⟨Nat.le_of_lt (hx.key.2 b p e hk).1, (hx.key.2 b p e hk).2⟩), fun b p e hk e2 => hx.key.1.2 b p e hk (by rw [e2]; rfl)⟩
    have := hx.key.1.1.len
    have h5 := hk _ (List.mem_of_getElem? hp)
    omega
  · obtain ⟨q, hq, rfl⟩ := List.getElem_of_mem hu
    have hl := h3.1
    have hj : q / 68 < ts.length := by omega
    have hp : ts[q / 68]? = some (ts[q / 68]'hj) := List.getElem?_eq_getElem _
    obtain ⟨K, k, c', A', n', c'', hx⟩ := h3.2 (q / 68) _ hp
    have hr : q % 68 < (acells (.slice K k c') (.slice A' n' c'') (ts[q / 68]'hj).h (ts[q / 68]'hj).n (ts[q / 68]'hj).lsum (ts[q / 68]'hj).rsum).length := by rw [ac_len]; omega
    have h6 := hx.cells (q % 68) _ (List.getElem?_eq_getElem hr)
    rw [show 68 * (q / 68) + q % 68 = q by omega, List.getElem?_eq_getElem hq] at h6
    injection h6 with h6
    rw [h6]
    exact acells_mem K A' k c' n' c'' _ _ (List.getElem_mem hr)
end Go.Proofs.YtolkpjbbfopmnaaDoor
