/-
  Small facts on rows of sums and on regions that draw: no condition.
-/
import Derived.Great.BuildSlice
import Derived.Test.YtbhmldoehgkhfaaDoorLogA
import Derived.Test.YtbhmldoehgkhfaaDoorGrow
namespace Go.Proofs.YtbhmldoehgkhfaaDoor
open Go.RowKit
open Tr

/-- A stronger condition on the worlds serves, too. -/
theorem heldMore {P : Program} {md : Region.Mode} {ops : Array Oper} {Q : Exit → Act → World → Prop} {S S' : World → Prop} (h : ∀ w, S' w → S w) :
    ∀ (fuel : Nat) (listed : Array Bool) (a : Act) (w : World), wpAnyH P md ops Q S' fuel listed a w → wpAnyH P md ops Q S fuel listed a w
  | 0, _, _, _, k => k
  | fuel + 1, _, _, _, k => ⟨k.1, fun i hi => wpOp_mono (fun a' w' k' => ⟨h _ k'.1, heldMore h fuel _ a' w' k'.2⟩) (k.2 i hi)⟩
theorem sums_at (ts : List (Option T)) (t : Option T) (j : Nat) (h : ts[j]? = some t) : ((sums ts).drop (j * 32)).take 32 = osum t := by
  have hj := (List.getElem?_eq_some_iff.1 h).1
  have h1 : ts = ts.take j ++ (t :: ts.drop (j + 1)) := by
    obtain ⟨hl, rfl⟩ := List.getElem?_eq_some_iff.1 h
    rw [← List.drop_eq_getElem_cons hl, List.take_append_drop]
  have h2 : sums ts = sums (ts.take j) ++ (osum t ++ sums (ts.drop (j + 1))) := by
    conv => lhs; rw [h1]
    simp [sums]
  have h3 : (sums (ts.take j)).length = j * 32 := by rw [sums_len, List.length_take, Nat.min_eq_left (by omega)]
  rw [h2, ← h3, List.drop_left]
  have h4 := osum32 t
  rw [← h4, List.take_left]
theorem range_part {w : World} {g n : Nat} {bs : List UInt8} (h : w.rangeAt g 0 (bs.map V8)) (k : Nat) : w.rangeAt g k (((bs.drop k).take n).map V8) := fun j v hv => by
  rw [List.getElem?_map, Option.map_eq_some_iff] at hv
  obtain ⟨x, hx, rfl⟩ := hv
  rw [List.getElem?_take] at hx
  split at hx
  · rw [List.getElem?_drop] at hx
    have := h (k + j) (V8 x) (by rw [List.getElem?_map, hx]; rfl)
    rwa [Nat.zero_add] at this
  · cases hx
/-- A sum in a row of sums. -/
theorem sums_range {w : World} {g : Nat} {ty : TypeId} {ts : List (Option T)} {t : Option T} {j : Nat} (hW : Whole w g ty ((sums ts).map V8).toArray) (h : ts[j]? = some t) : w.rangeAt g (j * 32) ((osum t).map V8) := by
  have h1 : w.rangeAt g 0 ((sums ts).map V8) := hW.range
  have h2 := range_part (n := 32) h1 (j * 32)
  rwa [sums_at ts t j h] at h2
theorem len49 (t : Option T) : (Tryd.prog.info? 49).map (·.size) = some ((osum t).map V8).length := by rw [List.length_map, osum32]; exact info49
theorem own_range {w : World} {base n : Nat} {e : TypeId} {size g c : Nat} {xs : List Value} (h : w.ownsRow base e size (.slice (some ⟨g, 0, none⟩) n c) n xs) : w.rangeAt g 0 xs := fun j v hv => by
  have hj := (List.getElem?_eq_some_iff.1 hv).1
  rw [Nat.zero_add, World.ownsRow.cellAt h j (by rw [← h.1]; exact hj), hv]
/-- A sum in a row of sums that is the call's own. -/
theorem own_sum {w : World} {base n : Nat} {e : TypeId} {g c : Nat} {ts : List (Option T)} {t : Option T} {j : Nat} (h : w.ownsRow base e 32 (.slice (some ⟨g, 0, none⟩) n c) n ((sums ts).map V8)) (ht : ts[j]? = some t) : w.rangeAt g (j * 32) ((osum t).map V8) := by
  have h2 := range_part (n := 32) (own_range h) (j * 32)
  rwa [sums_at ts t j ht] at h2

theorem RdV.keepG {G : Nat → Prop} {w w' : World} {B size n : Nat} {A : Option Addr} {xs : List Value} (h : RdV w B size A n xs) (hg : 0 < n → ∀ b o, A = some ⟨b, o, none⟩ → G b) (hk : ∀ b, b < B → G b → w'.heap[b]? = w.heap[b]?) : RdV w' B size A n xs :=
  ⟨h.1, fun hn => by
    obtain ⟨b, o, e, hb, hc⟩ := h.2 hn
    exact ⟨b, o, e, hb, fun j u hu => (cell_keep (hk b hb (hg hn b o e)) _).trans (hc j u hu)⟩⟩
theorem LIn.regood {G G' : Nat → Prop} {w w' : World} {l keep last : Nat} {ts : List (Option T)} (h : LIn G w l keep last ts) (hs : w.heap.size ≤ w'.heap.size) (hl : w'.heap[l]? = w.heap[l]?)
    (hk : ∀ b, b < w.heap.size → G b → w'.heap[b]? = w.heap[b]?) (hg : ∀ b, b < w.heap.size → G b → G' b) (hap : ∀ b, G' b → b ≠ l) : LIn G' w' l keep last ts := by
  obtain ⟨A, n, c, ps, h⟩ := h
  refine ⟨A, n, c, ps, Nat.lt_of_lt_of_le h.lt hs, hl.trans h.whole, h.nc, (h.row.keepG h.out hk).more hs, fun hn b o e => ?_, hap, h.all.mono fun t p hp => ((hp.keepG hk).regood hg).more hs, h.k1, h.k64, h.few, h.old⟩
  obtain ⟨b', o', e', hb', _⟩ := h.row.2 hn
  have := h.out hn b o e
  rw [e] at e'
  injection e' with e'
  injection e' with e' _
  subst e'
  exact hg _ hb' this
theorem fill_one (z Y : Array Value) (hz : z.size = 32) (hY : Y.size = 32) : Instr.fill (fun i => some (i * 32, 32)) z [(0, Value.agg Y)] = some Y := by
  have h := Great.fill_whole (s := 32) (by omega) [Value.agg Y] z (fun v hv => by simp at hv; subst hv; exact hY) (by simp [hz])
  simpa [Value.cells] using h
/-- A slice of one sum. -/
theorem wpList_build_sum {ops : Array Oper} {rest : List Oper} {o : Oper} {a : Act} {w : World} {Q : Exit → Act → World → Prop} (hgd : o.guard = none) (x : Operand)
    (ho : o.op = .buildSlice 76 1 #[(0, x)]) (Y : Array Value) (hY : Y.size = 32) (hx : a.eval x = .agg Y)
    (h : wpList Tryd.prog ops Q rest (a.put o.dst (.slice (some ⟨w.heap.size, 0, none⟩) 1 1)) (w.alloc (.cells Y 49))) : wpList Tryd.prog ops Q (o :: rest) a w := by
  obtain ⟨i, hi, hz, hs, hby⟩ := info_of info49f
  refine wpList_buildSlice hgd 76 49 1 _ ho Y i _ Tryd.underlying76 hi hz (by rw [hs]; omega) (by rw [hs]; omega) ?_ h
  rw [hs]
  have := fill_one ((Array.range (1 * 32)).map ((Value.agg (zb 32)).cells[· % (Value.agg (zb 32)).cells.size]!)) Y (by simp) hY
  simpa [hx] using this
/-- A sum more in a row of sums of the call's own. -/
theorem wpList_append_sum {ops : Array Oper} {rest : List Oper} {o : Oper} {a : Act} {w : World} {Q : Exit → Act → World → Prop} (hgd : o.guard = none) (s x : Operand)
    (ho : o.op = .call { callee := .builtin .append, args := #[s, x], argTypes := #[76, 76] })
    (base : Nat) (v : Value) (n : Nat) (ts : List (Option T)) (t : Option T) (hs : a.eval s = v) (hown : w.ownsRow base 49 32 v n ((sums ts).map V8))
    (hx : a.eval x = .slice (some ⟨w.heap.size, 0, none⟩) 1 1) (hn : n ≤ 1000000) (hbase : base ≤ w.heap.size)
    (h : ∀ v' w', w'.ownsRow base 49 32 v' (n + 1) ((sums (ts ++ [t])).map V8) → w.grownBy w' v.ownBlock → (v'.ownBlock = v.ownBlock ∨ ∃ b, v'.ownBlock = some b ∧ w.heap.size ≤ b) → wpList Tryd.prog ops Q rest (a.put o.dst v') w') :
    wpList Tryd.prog ops Q (o :: rest) a (w.alloc (.cells (Sh.bcells (osum t)) 49)) := by
  have hr : RdV (w.alloc (.cells (Sh.bcells (osum t)) 49)) (w.heap.size + 1) 32 (some ⟨w.heap.size, 0, none⟩) 1 ((osum t).map V8) :=
    ⟨by rw [List.length_map, osum32], fun _ => ⟨_, _, rfl, by omega, fun j u hu => (Whole.made w 49 (Sh.bcells (osum t))).at_ (by rw [Nat.zero_add]; show ((osum t).map V8).toArray[j]? = some u; rw [List.getElem?_toArray]; exact hu)⟩⟩
  obtain ⟨v', w', hrun, k2, k3, k4⟩ := run_append_rd (w.alloc (.cells (Sh.bcells (osum t)) 49)) base 76 o.type 49 _ 32 32 Tryd.underlying76 info49f (zb_size 32) (by omega) v n _ (own_turn hown ((Below.refl _ _).alloc (Nat.le_refl _) _)) _ _ 1 1 _ hr
    (one_bytes _) (by unfold maxLen; omega) (by omega) (by rw [size_alloc]; omega)
  refine wpList_plain hgd fun K hK => ?_
  unfold Oper.wp execOp
  simp only [ho, resolve, invoke, builtin, Sem.run_bind, Sem.run_pure, Result.andThen_ok, List.map_toArray, List.map_cons, List.map_nil, hs, hx, hrun]
  have hsz : (w.alloc (.cells (Sh.bcells (osum t)) 49)).heap.size = w.heap.size + 1 := size_alloc _ _
  refine hK _ _ (h v' w' (by rw [sums_snoc, List.map_append]; exact k2) ⟨k3.os, k3.tape, k3.output, by have := k3.size; omega, fun b hb hne => (k3.block b (by omega) hne).trans (Below.heap_alloc w _ b hb)⟩ ?_)
  rcases k4 with k4 | k4
  · exact .inl k4
  · exact .inr ⟨_, k4, by omega⟩
end Go.Proofs.YtbhmldoehgkhfaaDoor
