/-
  Rows of answered nodes in memory; what a tree's Nodes returns: its nodes, each ahead of what is beneath it; condition: the tree lies in memory and has no more than 1000 leaves. It only makes memory of its own.
  Bytes that are turned in place: rows of answered keys, and what is kept while they are turned; no condition on any call.
-/
import Derived.Great.BuildSlice
import Derived.Laws.BitsAllLaws
import Derived.Test.YtolkpjbbfopmnaaDoorCY12
namespace Go.Proofs.YtolkpjbbfopmnaaDoor
open Go.RowKit
open Tr
variable {G : Nat → Prop}

/-- The cells of one answered node in a row. -/
structure NAt (R : Option Addr → Nat → List UInt8 → Prop) (xs : List Value) (j : Nat) (t : T) (A : Option Addr) (n c : Nat) (A' : Option Addr) (n' c' : Nat) : Prop where
  cells : ∀ (k : Nat) (v : Value), (acells (.slice A n c) (.slice A' n' c') t.h t.n t.lsum t.rsum)[k]? = some v → xs[68 * j + k]? = some v
  nc : n ≤ c
  nc' : n' ≤ c'
  key : R A n t.key
  val : R A' n' t.val
def NLay (R : Option Addr → Nat → List UInt8 → Prop) (xs : List Value) (ts : List T) : Prop := xs.length = 68 * ts.length ∧ ∀ (j : Nat) (t : T), ts[j]? = some t → ∃ A n c A' n' c', NAt R xs j t A n c A' n' c'
theorem NLay.mono {R R' : Option Addr → Nat → List UInt8 → Prop} {xs : List Value} {ts : List T} (h : NLay R xs ts) (hR : ∀ A n bs, R A n bs → R' A n bs) : NLay R' xs ts :=
  ⟨h.1, fun j t ht => by
    obtain ⟨A, n, c, A', n', c', k⟩ := h.2 j t ht
    exact ⟨A, n, c, A', n', c', k.cells, k.nc, k.nc', hR _ _ _ k.key, hR _ _ _ k.val⟩⟩
theorem NLay.nil {R : Option Addr → Nat → List UInt8 → Prop} : NLay R [] [] := ⟨rfl, fun j t h => by simp at h⟩
theorem ac_len (kv vv : Value) (t : T) : (acells kv vv t.h t.n t.lsum t.rsum).length = 68 := acells_len _ _ _ _ _ _ (lsum32 t) (rsum32 t)
theorem NLay.snoc {R : Option Addr → Nat → List UInt8 → Prop} {xs : List Value} {ts : List T} (h : NLay R xs ts) (t : T) (A : Option Addr) (n c : Nat) (A' : Option Addr) (n' c' : Nat) (hnc : n ≤ c) (hnc' : n' ≤ c') (hk : R A n t.key) (hv : R A' n' t.val) :
    NLay R (xs ++ acells (.slice A n c) (.slice A' n' c') t.h t.n t.lsum t.rsum) (ts ++ [t]) := by
  refine ⟨by rw [List.length_append, List.length_append, h.1, ac_len]; simp; omega, fun j u hu => ?_⟩
  by_cases hj : j < ts.length
  · rw [List.getElem?_append_left hj] at hu
    obtain ⟨A1, n1, c1, A2, n2, c2, k⟩ := h.2 j u hu
    refine ⟨A1, n1, c1, A2, n2, c2, fun q v hv => ?_, k.nc, k.nc', k.key, k.val⟩
    have hq := (List.getElem?_eq_some_iff.1 hv).1
    rw [ac_len] at hq
    rw [List.getElem?_append_left (by rw [h.1]; omega)]
    exact k.cells q v hv
  · rw [List.getElem?_append_right (by omega)] at hu
    have h1 : j - ts.length < 1 := (List.getElem?_eq_some_iff.1 hu).1
    obtain rfl : j = ts.length := by omega
    rw [Nat.sub_self] at hu
    simp at hu
    subst hu
    refine ⟨A, n, c, A', n', c', fun q v hv => ?_, hnc, hnc', hk, hv⟩
    rw [List.getElem?_append_right (by rw [h.1]; omega), h.1, show 68 * ts.length + q - 68 * ts.length = q by omega]
    exact hv

/-- The slice with address A and n elements reads as nodes. -/
def NRd (w : World) (B : Nat) (A : Option Addr) (n : Nat) (ts : List T) : Prop := ∃ xs, RdV w B 68 A n xs ∧ ts.length = n ∧ NLay (Rd w B) xs ts
section
variable {w w' : World} {B B' n : Nat} {A : Option Addr} {ts : List T}
theorem NRd.len (h : NRd w B A n ts) : ts.length = n := by obtain ⟨_, _, h, _⟩ := h; exact h
theorem NRd.nil : NRd w B A 0 [] := ⟨[], RdV.nil, rfl, NLay.nil⟩
theorem NRd.below (h : NRd w B A n ts) (hb : Below B' w w') (hB : B ≤ B') : NRd w' B A n ts := by
  obtain ⟨xs, h1, h2, h3⟩ := h
  exact ⟨xs, h1.below hb hB, h2, h3.mono fun _ _ _ h => h.below hb hB⟩
theorem NRd.more (h : NRd w B A n ts) (hB : B ≤ B') : NRd w B' A n ts := by
  obtain ⟨xs, h1, h2, h3⟩ := h
  exact ⟨xs, h1.more hB, h2, h3.mono fun _ _ _ h => h.more hB⟩
theorem NRd.on (h : NRd w w.heap.size A n ts) (hb : Below w.heap.size w w') : NRd w' w'.heap.size A n ts := (h.below hb (Nat.le_refl _)).more hb.size
/-- Its j-th node. -/
theorem NRd.at_ (h : NRd w B A n ts) {j : Nat} {t : T} (hj : ts[j]? = some t) :
    ∃ b o A1 n1 c1 A2 n2 c2, A = some ⟨b, o, none⟩ ∧ b < B ∧ w.rangeAt b (o + j * 68) (acells (.slice A1 n1 c1) (.slice A2 n2 c2) t.h t.n t.lsum t.rsum) ∧ n1 ≤ c1 ∧ n2 ≤ c2 ∧ Rd w B A1 n1 t.key ∧ Rd w B A2 n2 t.val := by
  obtain ⟨xs, h1, h2, h3⟩ := h
  obtain ⟨A1, n1, c1, A2, n2, c2, k⟩ := h3.2 j t hj
  have hn : 0 < n := by have := (List.getElem?_eq_some_iff.1 hj).1; omega
  obtain ⟨b, o, e, hb, hc⟩ := h1.2 hn
  refine ⟨b, o, A1, n1, c1, A2, n2, c2, e, hb, fun q v hv => ?_, k.nc, k.nc', k.key, k.val⟩
  have := hc _ _ (k.cells q v hv)
  rw [show o + j * 68 + q = o + (68 * j + q) by omega]
  exact this
end

theorem info64f : (Tryd.prog.info? 47).map (fun i => (i.zero, i.size, i.bytes)) = some (some (.agg z64), 68, 128) := by kernel_rfl
/-- A row of nodes of the call's own. -/
def NPOwn (w : World) (base : Nat) (v : Value) (n : Nat) (ts : List T) : Prop := ∃ xs, w.ownsRow base 47 68 v n xs ∧ ts.length = n ∧ NLay (RdX w w.heap.size v.ownBlock) xs ts
theorem NPOwn.nil (w : World) (base : Nat) : NPOwn w base (.slice none 0 0) 0 [] := ⟨[], World.ownsRow_nil _ _ _ _, rfl, NLay.nil⟩
theorem NPOwn.rd {w : World} {base : Nat} {A : Option Addr} {n c : Nat} {ts : List T} (h : NPOwn w base (.slice A n c) n ts) : NRd w w.heap.size A n ts := by
  obtain ⟨xs, h1, h2, h3⟩ := h
  exact ⟨xs, RdV.of_own h1, h2, h3.mono fun _ _ _ h => h.1⟩
theorem NPOwn.form {w : World} {base : Nat} {v : Value} {n : Nat} {ts : List T} (h : NPOwn w base v n ts) : ∃ A c, v = .slice A n c ∧ n ≤ c ∧ (A = none → c = 0) := by
  obtain ⟨xs, h1, _, _⟩ := h
  rcases h1.2 with ⟨rfl, rfl⟩ | ⟨g, cap, cur, rfl, _, _, hnc, hm, _⟩
  · exact ⟨none, 0, rfl, Nat.le_refl _, fun _ => rfl⟩
  · exact ⟨_, cap, rfl, hnc, fun h => by cases h⟩
theorem NPOwn.on {w w' : World} {base n : Nat} {v : Value} {ts : List T} (h : NPOwn w base v n ts) (hb : Below w.heap.size w w') : NPOwn w' base v n ts := by
  obtain ⟨xs, h1, h2, h3⟩ := h
  exact ⟨xs, own_keep h1 hb, h2, h3.mono fun _ _ _ h => (h.below hb (Nat.le_refl _)).more hb.size⟩
/-- A row of nodes of the call's own, all of it behind block g. -/
def NOwn (w : World) (g : Nat) (v : Value) (n : Nat) (ts : List T) : Prop := ∃ xs, w.ownsRow (g + 1) 47 68 v n xs ∧ ts.length = n ∧ NLay (RdG w g v.ownBlock) xs ts
theorem NOwn.nil (w : World) (g : Nat) : NOwn w g (.slice none 0 0) 0 [] := ⟨[], World.ownsRow_nil _ _ _ _, rfl, NLay.nil⟩
theorem NOwn.pown {w : World} {g n : Nat} {v : Value} {ts : List T} (h : NOwn w g v n ts) : NPOwn w (g + 1) v n ts := by
  obtain ⟨xs, h1, h2, h3⟩ := h
  exact ⟨xs, h1, h2, h3.mono fun _ _ _ h => h.1⟩
theorem NOwn.on {w w' : World} {g n : Nat} {v : Value} {ts : List T} (h : NOwn w g v n ts) (hb : Below w.heap.size w w') : NOwn w' g v n ts := by
  obtain ⟨xs, h1, h2, h3⟩ := h
  exact ⟨xs, own_keep h1 hb, h2, h3.mono fun _ _ _ h => ⟨(h.1.below hb (Nat.le_refl _)).more hb.size, h.free fun b hl _ => hb.block b hl⟩⟩
theorem NOwn.set {w : World} {g n : Nat} {v : Value} {ts : List T} (h : NOwn w g v n ts) (u : Value) : NOwn (w.setCell ⟨g, 0, none⟩ u) g v n ts := by
  have hk : ∀ b, b ≠ g → (w.setCell ⟨g, 0, none⟩ u).heap[b]? = w.heap[b]? := fun b hb => Below.heap_setCell w ⟨g, 0, none⟩ u b hb
  have hs : (w.setCell ⟨g, 0, none⟩ u).heap.size = w.heap.size := by simp
  obtain ⟨xs, h1, h2, h3⟩ := h
  refine ⟨xs, ⟨h1.1, ?_⟩, h2, h3.mono fun A n bs h => ⟨⟨?_, h.1.2⟩, fun b o e hn => ⟨(h.2 b o e hn).1, fun j => by rw [World.frozen?_setCell]; exact (h.2 b o e hn).2 j⟩⟩⟩
  · rcases h1.2 with h | ⟨b, cap, cur, e1, e2, e3, e4⟩
    · exact .inl h
    · exact .inr ⟨b, cap, cur, e1, e2, by rw [hk b (by omega)]; exact e3, e4⟩
  · rw [hs]
    exact h.1.1.keepG (G := fun b => g < b) (fun hn b o e => (h.2 b o e hn).1) (fun b _ hb => hk b (by omega))
theorem acells_mem (A A' : Option Addr) (n c n' c' : Nat) (t : T) : ∀ u ∈ acells (.slice A n c) (.slice A' n' c') t.h t.n t.lsum t.rsum, u.oneCell' = true := fun u hu => by
  have := acells_one A A' n c n' c' t.h t.n t.lsum t.rsum
  rw [Array.all_eq_true_iff_forall_mem] at this
  exact this u (by simpa using hu)
/-- A node more, where its literal lies. -/
theorem run_append_node (w : World) (base : Nat) (ty : TypeId) (v : Value) (n : Nat) (xs : List Value) (h1 : w.ownsRow base 47 68 v n xs) (t : T) (A A' : Option Addr) (m c m' c' : Nat) (hn : n ≤ 1000000) (hbase : base ≤ w.heap.size) :
    ∃ v' w', (Builtin.append_ #[43, 43] ty #[v, .slice (some ⟨w.heap.size, 0, none⟩) 1 1]).run Tryd.prog (w.alloc (.cells (acells (.slice A m c) (.slice A' m' c') t.h t.n t.lsum t.rsum).toArray 47)) = .ok v' w' ∧
      w'.ownsRow base 47 68 v' (n + 1) (xs ++ acells (.slice A m c) (.slice A' m' c') t.h t.n t.lsum t.rsum) ∧
      (w.alloc (.cells (acells (.slice A m c) (.slice A' m' c') t.h t.n t.lsum t.rsum).toArray 47)).grownBy w' v.ownBlock ∧ (v'.ownBlock = v.ownBlock ∨ v'.ownBlock = some (w.alloc (.cells (acells (.slice A m c) (.slice A' m' c') t.h t.n t.lsum t.rsum).toArray 47)).heap.size) := by
  have hr : RdV (w.alloc (.cells (acells (.slice A m c) (.slice A' m' c') t.h t.n t.lsum t.rsum).toArray 47)) (w.heap.size + 1) 68 (some ⟨w.heap.size, 0, none⟩) 1 (acells (.slice A m c) (.slice A' m' c') t.h t.n t.lsum t.rsum) :=
    ⟨by rw [ac_len], fun _ => ⟨_, _, rfl, by omega, fun j u hu => (Whole.made w 47 _).at_ (by rw [Nat.zero_add, List.getElem?_toArray]; exact hu)⟩⟩
  exact run_append_rd (w.alloc (.cells (acells (.slice A m c) (.slice A' m' c') t.h t.n t.lsum t.rsum).toArray 47)) base 43 ty 47 _ 68 128 Tryd.underlying43 info64f z64_size (by omega) v n xs (h1.alloc _) _ _ 1 1 _ hr
    (acells_mem A A' m c m' c' t) (by unfold maxLen; omega) (by omega) (by rw [size_alloc]; omega)
theorem step_append_node {ops : Array Oper} {o : Oper} {a : Act} {w : World} {K : Act → World → Prop} {Q : Exit → Act → World → Prop} {F : Prop} (hgd : o.guard = none) (s x : Operand)
    (ho : o.op = .call { callee := .builtin .append, args := #[s, x], argTypes := #[43, 43] })
    (g : Nat) (v : Value) (n : Nat) (ts : List T) (t : T) (hs : a.eval s = v) (hown : NOwn w g v n ts) (A : Option Addr) (m c : Nat) (A' : Option Addr) (m' c' : Nat)
    (hx : a.eval x = .slice (some ⟨w.heap.size, 0, none⟩) 1 1) (hc : m ≤ c) (hc' : m' ≤ c') (hk : RdG w g v.ownBlock A m t.key) (hv : RdG w g v.ownBlock A' m' t.val)
    (hn : n ≤ 1000000) (hbase : g + 1 ≤ w.heap.size)
    (h : ∀ v' w', NOwn w' g v' (n + 1) (ts ++ [t]) → Below (g + 1) w w' → K (a.put o.dst v') w') :
    if Region.wanted o (yielded ops a.tmps) = true then Oper.wp Tryd.prog o a (w.alloc (.cells (acells (.slice A m c) (.slice A' m' c') t.h t.n t.lsum t.rsum).toArray 47)) K Q else F := by
  have hw : Region.wanted o (yielded ops a.tmps) = true := by simp [Region.wanted, hgd]
  rw [if_pos hw]
  obtain ⟨xs, h1, h2, h3⟩ := hown
  obtain ⟨v', w', hrun, k2, k3, k4⟩ := run_append_node w (g + 1) o.type v n xs h1 t A A' m c m' c' hn hbase
  have hb0 : Below w.heap.size w (w.alloc (.cells (acells (.slice A m c) (.slice A' m' c') t.h t.n t.lsum t.rsum).toArray 47)) := (Below.refl _ _).alloc (Nat.le_refl _) _
  have hbg : Below (g + 1) w w' := (hb0.mono hbase).grown k3 (by rw [size_alloc]; omega) (fun k hk => (h1.lt k hk).1)
  unfold Oper.wp execOp
  simp only [ho, resolve, invoke, builtin, Sem.run_bind, Sem.run_pure, Result.andThen_ok, List.map_toArray, List.map_cons, List.map_nil, hs, hx, hrun]
  refine h v' w' ⟨_, k2, by rw [List.length_append, h2]; rfl, ?_⟩ hbg
  exact (h3.snoc t A m c A' m' c' hc hc' hk hv).mono fun A n bs hx => ⟨((hx.1.below hb0 (Nat.le_refl _)).more hb0.size |>.grown k3 (Nat.le_refl _) k4).more k3.size, hx.free fun b hl hr => (k3.block b (by rw [size_alloc]; omega) (fun e => hr e.symm)).trans (hb0.block b hl)⟩
theorem fill_node (z Y : Array Value) (hz : z.size = 68) (hY : Y.size = 68) : Instr.fill (fun i => some (i * 68, 68)) z [(0, Value.agg Y)] = some Y := by
  have h := Great.fill_whole (s := 68) (by omega) [Value.agg Y] z (fun v hv => by simp at hv; subst hv; exact hY) (by simp [hz])
  simpa [Value.cells] using h
/-- A slice of one node. -/
theorem wp_build_node {o : Oper} {a : Act} {w : World} {K : Act → World → Prop} {Q : Exit → Act → World → Prop} (x : Operand)
    (ho : o.op = .buildSlice 43 1 #[(0, x)]) (Y : Array Value) (hY : Y.size = 68) (hx : a.eval x = .agg Y)
    (h : K (a.put o.dst (.slice (some ⟨w.heap.size, 0, none⟩) 1 1)) (w.alloc (.cells Y 47))) : o.wp Tryd.prog a w K Q := by
  obtain ⟨i, hi, hz, hs, hby⟩ := info_of info64f
  refine wp_buildSlice 43 47 1 _ ho Y i _ Tryd.underlying43 hi hz (by rw [hs]; omega) (by rw [hs]; omega) ?_ h
  rw [hs]
  have := fill_node ((Array.range (1 * 68)).map ((Value.agg z64).cells[· % (Value.agg z64).cells.size]!)) Y (by simp) hY
  simpa [hx] using this

/-- How memory stands while Nodes goes through a tree. -/
def NodesAt (w0 : World) (B g : Nat) (ns : List T) (w : World) : Prop := ∃ v, Whole w g 43 #[v] ∧ NOwn w g v ns.length ns ∧ Below B w0 w

set_option maxRecDepth 100000 in
set_option maxHeartbeats 1000000 in
theorem nodes1_any (w0 : World) (B g : Nat) (hBg : B ≤ g) (s : T) (b : Nat) (ns : List T) (w : World) (hl : ns.length < 100000) (h : NIn G w0 B s b) (hi : NodesAt w0 B g ns w) :
    Calls Tryd.prog 45 #[ptr (some b), .pointer (some ⟨g, 0, none⟩)] w fun e w' => e = .returned undef ∧ NodesAt w0 B g (ns ++ [s]) w' := by
  obtain ⟨v, hW, hO, hb⟩ := hi
  have hgs := hW.lt
  have HN := Lib.hid (h.below hb (Nat.le_refl _))
  have HW := Lib.hid hW
  have HO := Lib.hid hO
  have HB := Lib.hid hb
  rw [ptr_some]
  clear h hW hO hb
  go_enter Tryd.func45, Tryd.ntmps45
  have hS0 : w.drew.cell? ⟨g, 0, none⟩ = some v := HW.out.at_ rfl
  refine wp_region_late (S := fun u => u.cell? ⟨g, 0, none⟩ = some v) (late := (· == 5)) (by kernel_rfl) ?_
  have hHeld := hS0
  refine wpLate_take (i := 0) (oi := { dst := some 3, op := Op.load 43 (Operand.tmp 1), type := 43, pos := "tree.go:123", after := #[], guard := none }) (v := ?_) rfl (by kernel_rfl) (by kernel_rfl) (by kernel_rfl) (by kernel_rfl) (fun _ _ _ h => h) (Or.inl ⟨by rfl, ?_⟩) (by assumption) ?_
  rotate_left
  · first | (intro w hSw; (try dsimp only at hSw); go_simp; done) | (intro w hSw; (try dsimp only at hSw); go_simp; with_reducible rfl)
  simp only [Act.put, List.setIfInBounds_toArray, List.set_cons_zero, List.set_cons_succ]
  refine wpLate_take (i := 1) (oi := { dst := some 4, op := Op.move (Operand.tmp 0), type := 79, pos := "tree.go:123", after := #[], guard := none }) (v := ?_) rfl (by kernel_rfl) (by kernel_rfl) (by kernel_rfl) (by kernel_rfl) (fun _ _ _ h => h) (Or.inl ⟨by rfl, ?_⟩) (by assumption) ?_
  rotate_left
  · first | (intro w hSw; (try dsimp only at hSw); go_simp; done) | (intro w hSw; (try dsimp only at hSw); go_simp; with_reducible rfl)
  simp only [Act.put, List.setIfInBounds_toArray, List.set_cons_zero, List.set_cons_succ]
  have HW1 : Hid (Whole w.drew g 43 #[v]) := Lib.hid HW.out
  have HO1 : Hid (NOwn w.drew g v ns.length ns) := Lib.hid HO.out
  have HB1 := Lib.hid HB.out.drew
  have HN1 : Hid (NIn G w.drew B s b) := Lib.hid (HN.out.below (Below.refl w.heap.size w).drew (by omega))
  have hgs1 : g < w.drew.heap.size := hgs
  clear hHeld hS0 HW HO HB HN hgs
  generalize w.drew = w1 at *
  have HT := Lib.hid (told_any s b B w1 HN1.out (by omega))
  rw [ptr_some] at HT
  refine wpLate_ready (rs := [2]) (by kernel_rfl) (by simp) ?_
  refine AllLate.cons rfl (fun K hK => ?_) AllLate.nil
  go_simp
  refine HT.out.mono ?_
  rintro e w2 ⟨cs, A2, n2, c2, A3, n3, c3, rfl, hTo, hb2⟩
  have hs2 := hb2.size
  have hcs : cs.size = 68 := by rw [hTo.eq, List.size_toArray, ac_len]
  have HTO := Lib.hid hTo
  have HW2 := Lib.hid (HW1.out.below hb2 hgs1)
  have HO2 := Lib.hid (HO1.out.on hb2)
  have HB2 := Lib.hid (HB1.out.trans (hb2.mono (by omega)))
  have hnb : ∀ b, v.ownBlock = some b → b < w1.heap.size := fun b hb => by obtain ⟨xs, h1, _⟩ := HO1.out; exact (h1.lt b hb).2
  have hgk : RdG w2 g v.ownBlock A2 n2 s.key := ⟨⟨hTo.key, fun b o e _ h => by have h1 := hnb b h; have h2 := hTo.knew b o e; omega⟩, fun b o e _ => by have h2 := hTo.knew b o e; exact ⟨by omega, h2.2.2⟩⟩
  have hgv : RdG w2 g v.ownBlock A3 n3 s.val := ⟨⟨hTo.val, fun b o e _ h => by have h1 := hnb b h; have h2 := hTo.vnew b o e; omega⟩, fun b o e _ => by have h2 := hTo.vnew b o e; exact ⟨by omega, h2.2.2⟩⟩
  have hS2 : w2.cell? ⟨g, 0, none⟩ = some v := HW2.out.at_ rfl
  refine hK.out _ _ (fun _ => hS2) ?_
  clear hK K HT hb2 hTo HW1 HO1 HB1 HN1 hnb
  refine wpLate_ready (rs := [3]) (by kernel_rfl) (by simp) ?_
  refine AllLate.cons rfl (fun K hK => ?_) AllLate.nil
  refine Eq.mpr (if_pos (by rfl)) ?_
  refine wp_build_node (.tmp 5) rfl cs hcs rfl ?_
  have hb3 : Below w2.heap.size w2 (w2.alloc (.cells cs 47)) := (Below.refl _ _).alloc (Nat.le_refl _) _
  refine hK.out _ _ (fun _ => (hb3.cell (p := ⟨g, 0, none⟩) (by show g < _; omega)).trans hS2) ?_
  clear hK K hb3
  rw [HTO.out.eq]
  refine wpLate_ready (rs := [4]) (by kernel_rfl) (by simp) ?_
  refine AllLate.cons (o := { dst := some 7, op := Op.call { callee := Callee.builtin Builtin.append, args := #[Operand.tmp 3, Operand.tmp 6], argTypes := #[43, 43] }, type := 43, pos := "tree.go:123", after := #[{ on := 0, ground := Ground.data }, { on := 3, ground := Ground.data }, { on := 2, ground := Ground.chain }], guard := none }) rfl (fun K hK => ?_) AllLate.nil
  refine step_append_node rfl (.tmp 3) (.tmp 6) rfl g v ns.length ns s rfl HO2.out A2 n2 c2 A3 n3 c3 rfl HTO.out.knc HTO.out.vnc hgk hgv (by omega) (by omega) ?_
  intro v5 w5 hO5 hb5
  obtain ⟨A5, c5, rfl, hc5, _⟩ := hO5.pown.form
  have hd5 : w5.cell? ⟨g, 0, none⟩ = some v := (hb5.cell (p := ⟨g, 0, none⟩) (by show g < _; omega)).trans hS2
  have HW5 := Lib.hid (HW2.out.below hb5 (by omega))
  have HB5 := Lib.hid (HB2.out.trans (hb5.mono (by omega)))
  have HO5 := Lib.hid hO5
  refine hK.out _ _ (fun _ => hd5) ?_
  clear hK K hO5 hb5 HO2 HW2 HB2 hgk hgv HTO hS2
  simp only [Act.put, List.setIfInBounds_toArray]
  have f0 := HW5.out.free 0
  refine wpLate_ready (rs := [5]) (by kernel_rfl) (by simp) ?_
  refine AllLate.cons rfl (fun K hK => ?_) AllLate.nil
  go_simp
  refine hK.out _ _ (fun h => absurd h (by decide)) ?_
  clear hK K f0 hd5
  have HW6 := Lib.hid (HW5.out.set 0 (.slice A5 (ns.length + 1) c5))
  have HO6 := Lib.hid (HO5.out.set (.slice A5 (ns.length + 1) c5))
  have HB6 := Lib.hid (HB5.out.setCell (p := ⟨g, 0, none⟩) hBg (.slice A5 (ns.length + 1) c5))
  generalize w5.setCell ⟨g, 0, none⟩ (.slice A5 (ns.length + 1) c5) = w6 at *
  refine wpLate_done (by kernel_rfl) ?_ _
  go_wp2_with fail
  refine bodyPost_end (results_none rfl _ _ _) rfl ?_
  refine ⟨rfl, _, HW6.out, ?_, HB6.out⟩
  rw [List.length_append]
  exact HO6.out

def oall : Option T → List T
  | none => []
  | some t => t.all
def NodesPost (ts : List T) (w : World) (e : Ending) (w' : World) : Prop := ∃ v, e = .returned v ∧ NOwn w' w.heap.size v ts.length ts ∧ Below w.heap.size w w'
theorem NodesPost.nodes {ts : List T} {w : World} {e : Ending} {w' : World} (h : NodesPost ts w e w') : ∃ A c, e = .returned (.slice A ts.length c) ∧ NRd w' w'.heap.size A ts.length ts ∧ ts.length ≤ c ∧ (A = none → c = 0) ∧ Below w.heap.size w w' := by
  obtain ⟨v, rfl, hO, hb⟩ := h
  obtain ⟨A, c, rfl, hc, hA⟩ := hO.pown.form
  exact ⟨A, c, rfl, hO.pown.rd, hc, hA, hb⟩

set_option maxRecDepth 100000 in
set_option maxHeartbeats 1000000 in
theorem nodes_any (o : Option T) (g0 : Nat) (w : World) (ho : TIn G w w.heap.size o g0) (hn : oln o ≤ 1000) : Calls Tryd.prog 13 #[ptr (some g0)] w (NodesPost (oall o) w) := by
  have hmf : ∀ (fn : Fn) (first cap : Array Value) (w : World), (Instr.makeFunc fn first cap).run Tryd.prog w = .ok (.func fn first cap) w := fun _ _ _ _ => rfl
  have hb0 : Below w.heap.size w (w.alloc (.cells #[.slice none 0 0] 43)) := (Below.refl _ _).alloc (Nat.le_refl _) _
  have hw0 := Whole.made w 43 #[.slice none 0 0]
  have HU := Lib.hid (upmost_any (some o) (some g0) w.heap.size (w.alloc (.cells #[.slice none 0 0] 43)) ⟨g0, rfl, ho.below hb0 (Nat.le_refl _)⟩)
  have HW0 := Lib.hid hw0
  have HB0 := Lib.hid hb0
  clear hb0 hw0 ho
  go_enter Tryd.func13, Tryd.ntmps13
  go_wp2_with fail
  refine HU.out.mono ?_
  rintro e w1' ⟨p, rfl, hp, rfl⟩
  generalize w.alloc (.cells #[.slice none 0 0] 43) = w1 at *
  clear HU
  rw [show topOf (some o) = o from rfl] at hp
  cases o with
  | none =>
    obtain rfl := hp
    have HV := Lib.hid (visit_nil (.func (.func 45) #[] #[.pointer (some ⟨w.heap.size, 0, none⟩)]) w1)
    have k0 := HW0.out.at_ (i := 0) rfl
    rw [ptr_none]
    go_wp2_with fail
    refine HV.out.mono ?_
    rintro e w2 ⟨rfl, rfl⟩
    go_wp2_with fail
    go_ret
    exact ⟨_, rfl, NOwn.nil _ _, HB0.out⟩
  | some t =>
    obtain ⟨b, rfl, hN⟩ := hp
    have HV := Lib.hid (visit_upto 100000 45 (.pointer (some ⟨w.heap.size, 0, none⟩)) (fun args w => by simp [go_sem]) w1 w.heap.size (NodesAt w1 w.heap.size w.heap.size) (fun ns u h => by obtain ⟨_, _, _, h⟩ := h; exact h) (fun s b ns u hl hs hi => nodes1_any w1 w.heap.size w.heap.size (Nat.le_refl _) s b ns u hl hs hi) t b [] w1 (by have h1 := all_len t; change t.n ≤ 1000 at hn; rw [List.length_nil]; omega) hN ⟨_, HW0.out, NOwn.nil _ _, Below.refl _ _⟩)
    rw [ptr_some] at HV ⊢
    clear hN hn
    go_wp2_with fail
    refine HV.out.mono ?_
    rintro e w2 ⟨rfl, v, hW2, hO2, hb2⟩
    have k0 := hW2.at_ (i := 0) rfl
    rw [List.nil_append] at hO2
    have HO2 := Lib.hid hO2
    have HB2 := Lib.hid (HB0.out.trans hb2)
    clear hW2 hO2 hb2 HV
    go_wp2_with fail
    go_ret
    exact ⟨v, rfl, HO2.out, HB2.out⟩
end Go.Proofs.YtolkpjbbfopmnaaDoor
namespace Go.Proofs.YtolkpjbbfopmnaaDoor
open Go.RowKit
open Tr

/-- Only blocks where G does not hold, and new ones, have turned. -/
structure Kp (G : Nat → Prop) (w w' : World) : Prop where
  os : w'.os = w.os
  tape : w'.tape = w.tape
  output : w'.output = w.output
  size : w.heap.size ≤ w'.heap.size
  block : ∀ b, b < w.heap.size → G b → w'.heap[b]? = w.heap[b]?
theorem Kp.refl (G : Nat → Prop) (w : World) : Kp G w w := ⟨rfl, rfl, rfl, Nat.le_refl _, fun _ _ _ => rfl⟩
theorem Kp.on {G : Nat → Prop} {w w1 w2 : World} (h : Kp G w w1) (hb : Below w1.heap.size w1 w2) : Kp G w w2 :=
  ⟨hb.os.trans h.os, hb.tape.trans h.tape, hb.output.trans h.output, Nat.le_trans h.size hb.size, fun b hl hg => (hb.block b (Nat.lt_of_lt_of_le hl h.size)).trans (h.block b hl hg)⟩
theorem Kp.below {G : Nat → Prop} {w w' : World} {B : Nat} (h : Kp G w w') (hB : B ≤ w.heap.size) (hG : ∀ b, b < B → G b) : Below B w w' :=
  ⟨h.os, h.tape, h.output, h.size, fun b hb => h.block b (by omega) (hG b hb)⟩
theorem Kp.tree {G : Nat → Prop} {w w' : World} {o : Option T} {g : Nat} (h : Kp G w w') (ht : TIn G w w.heap.size o g) : TIn G w' w'.heap.size o g :=
  (ht.keepG h.block).more h.size

/-- So many bytes that may be turned, in a block from g on. -/
def Byt (w : World) (g : Nat) (A : Option Addr) (n : Nat) : Prop :=
  0 < n → ∃ b o, A = some ⟨b, o, none⟩ ∧ g ≤ b ∧ b < w.heap.size ∧ (∀ j, j < n → ∃ x : UInt8, w.cell? ⟨b, o + j, none⟩ = some (.int .u8 x.toNat)) ∧ ∀ j, w.frozen? ⟨b, j, none⟩ = false
theorem Byt.mk {w : World} {g n : Nat} {A : Option Addr} {bs : List UInt8} (hr : Rd w w.heap.size A n bs) (hf : ∀ b o, A = some ⟨b, o, none⟩ → 0 < n → g ≤ b ∧ ∀ j, w.frozen? ⟨b, j, none⟩ = false) : Byt w g A n := fun hn => by
  obtain ⟨b, o, rfl, hlt, hc⟩ := hr.at_ hn
  obtain ⟨h1, h2⟩ := hf b o rfl hn
  exact ⟨b, o, rfl, h1, hlt, fun j hj => ⟨bs[j]'(by rw [hr.len]; exact hj), hc j _ (List.getElem?_eq_getElem _)⟩, h2⟩
theorem Byt.on {w w' : World} {g n : Nat} {A : Option Addr} (h : Byt w g A n) (hb : Below w.heap.size w w') : Byt w' g A n := fun hn => by
  obtain ⟨b, o, e, h1, h2, h3, h4⟩ := h hn
  exact ⟨b, o, e, h1, Nat.lt_of_lt_of_le h2 hb.size, fun j hj => by obtain ⟨x, hx⟩ := h3 j hj; exact ⟨x, (hb.cell (p := ⟨b, o + j, none⟩) h2).trans hx⟩, fun j => by rw [← h4 j]; exact World.frozen?_of_block (hb.block b h2)⟩
/-- A row of elements of s cells, each of which begins with bytes that may be turned, in other blocks than the row's. -/
def KeyRow (w : World) (g : Nat) (A : Option Addr) (s : Nat) (xs : List Value) (m : Nat) : Prop :=
  xs.length = s * m ∧ (0 < m → ∃ R o, A = some ⟨R, o, none⟩ ∧ R < w.heap.size ∧ (∀ j u, xs[j]? = some u → w.cell? ⟨R, o + j, none⟩ = some u) ∧
    ∀ i, i < m → ∃ K n c, xs[s * i]? = some (.slice K n c) ∧ n ≤ 96 ∧ Byt w g K n ∧ ∀ b p, K = some ⟨b, p, none⟩ → 0 < n → b ≠ R)
theorem KeyRow.on {w w' : World} {g s m : Nat} {A : Option Addr} {xs : List Value} (h : KeyRow w g A s xs m) (hb : Below w.heap.size w w') : KeyRow w' g A s xs m :=
  ⟨h.1, fun hm => by
    obtain ⟨R, o, e, h1, h2, h3⟩ := h.2 hm
    refine ⟨R, o, e, Nat.lt_of_lt_of_le h1 hb.size, fun j u hu => (hb.cell (p := ⟨R, o + j, none⟩) h1).trans (h2 j u hu), fun i hi => ?_⟩
    obtain ⟨K, n, c, k1, k2, k3, k4⟩ := h3 i hi
    exact ⟨K, n, c, k1, k2, k3.on hb, k4⟩⟩
theorem nin_all {G : Nat → Prop} {w : World} {B : Nat} : ∀ {t : T} {b : Nat}, NIn G w B t b → ∀ s ∈ t.all, s.key.length ≤ 96
  | .leaf k v, _, ⟨A, n, c, A', n', c', h⟩, p, hp => by
    obtain rfl : p = .leaf k v := by simpa [T.all] using hp
    have := h.key.len
    have h2 := h.kle
    omega
  | .node l r, _, ⟨A, n, c, A', n', c', x, y, h, h1, h2⟩, p, hp => by
    rcases List.mem_cons.1 (show p ∈ T.node l r :: (l.all ++ r.all) from hp) with rfl | hp
    · have := h.key.len
      have h2 := h.kle
      omega
    · rcases List.mem_append.1 hp with hp | hp
      · exact nin_all h1 p hp
      · exact nin_all h2 p hp
end Go.Proofs.YtolkpjbbfopmnaaDoor
