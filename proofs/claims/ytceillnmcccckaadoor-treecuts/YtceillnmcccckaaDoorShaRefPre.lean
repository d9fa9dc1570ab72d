/-
  Small facts for the walk of the document's answer Sum: words out of bytes by adding, a new row of 64 words, how memory stands while the text is padded and its blocks are mixed: no condition.
-/
import Derived.Test.YtceillnmcccckaaDoorShaTurn
import Derived.Deep.CutBlock
namespace Go.Proofs.YtceillnmcccckaaDoor.Sh
open Go.RowKit
theorem info34 : (Tryd.prog.info? 96).map (fun i => (i.zero, i.size, i.bytes)) = some (some (.int .u32 0), 1, 4) := by kernel_rfl
def z64 : List UInt32 := List.replicate 64 0
theorem run_make64 (w : World) : (Instr.makeSlice 97 (.int .i64 64) (.int .i64 64)).run Tryd.prog w = .ok (.slice (some ⟨w.heap.size, 0, none⟩) 64 64) (w.alloc (.cells (wcells z64) 96)) := by
  obtain ⟨i, hi, hz, hs, hb⟩ := info_of info34
  have hr := run_make (P := Tryd.prog) w 97 96 i (.int .u32 0) Tryd.underlying97 hi hz .i64 .i64 64 64 (by omega) (by omega) (by rw [hb]; decide) (by omega)
  rw [hs] at hr
  rw [show wcells z64 = madeCells (Value.cells (.int .u32 0)) ((64 : Int).toNat * 1) from by kernel_rfl]
  exact hr
namespace Sha
theorem mkWord_toNat (b0 b1 b2 b3 : UInt8) : (mkWord b0 b1 b2 b3).toNat = b0.toNat * 16777216 + b1.toNat * 65536 + b2.toNat * 256 + b3.toNat := by
  have h0 := b0.toNat_lt
  have h1 := b1.toNat_lt
  have h2 := b2.toNat_lt
  have h3 := b3.toNat_lt
  have e0 : (b0.toUInt32 <<< 24).toNat = b0.toNat * 2 ^ 24 := by
    rw [UInt32.toNat_shiftLeft, UInt8.toNat_toUInt32]
    show b0.toNat <<< 24 % 4294967296 = _
    rw [Nat.shiftLeft_eq]
    exact Nat.mod_eq_of_lt (by omega)
  have e1 : (b1.toUInt32 <<< 16).toNat = b1.toNat * 2 ^ 16 := by
    rw [UInt32.toNat_shiftLeft, UInt8.toNat_toUInt32]
    show b1.toNat <<< 16 % 4294967296 = _
    rw [Nat.shiftLeft_eq]
    exact Nat.mod_eq_of_lt (by omega)
  have e2 : (b2.toUInt32 <<< 8).toNat = b2.toNat * 2 ^ 8 := by
    rw [UInt32.toNat_shiftLeft, UInt8.toNat_toUInt32]
    show b2.toNat <<< 8 % 4294967296 = _
    rw [Nat.shiftLeft_eq]
    exact Nat.mod_eq_of_lt (by omega)
  unfold mkWord
  rw [UInt32.toNat_or, UInt32.toNat_or, UInt32.toNat_or, e0, e1, e2, UInt8.toNat_toUInt32]
  have s1 : b0.toNat * 2 ^ 24 ||| b1.toNat * 2 ^ 16 = b0.toNat * 2 ^ 24 + b1.toNat * 2 ^ 16 := by
    rw [Nat.mul_comm b0.toNat]
    exact (Nat.two_pow_add_eq_or_of_lt (i := 24) (b := b1.toNat * 2 ^ 16) (by omega) b0.toNat).symm
  rw [s1]
  have s2 : (b0.toNat * 2 ^ 24 + b1.toNat * 2 ^ 16) ||| b2.toNat * 2 ^ 8 = (b0.toNat * 2 ^ 24 + b1.toNat * 2 ^ 16) + b2.toNat * 2 ^ 8 := by
    rw [show b0.toNat * 2 ^ 24 + b1.toNat * 2 ^ 16 = 2 ^ 16 * (b0.toNat * 256 + b1.toNat) by omega]
    exact (Nat.two_pow_add_eq_or_of_lt (i := 16) (b := b2.toNat * 2 ^ 8) (by omega) _).symm
  rw [s2]
  have s3 : (b0.toNat * 2 ^ 24 + b1.toNat * 2 ^ 16 + b2.toNat * 2 ^ 8) ||| b3.toNat = (b0.toNat * 2 ^ 24 + b1.toNat * 2 ^ 16 + b2.toNat * 2 ^ 8) + b3.toNat := by
    rw [show b0.toNat * 2 ^ 24 + b1.toNat * 2 ^ 16 + b2.toNat * 2 ^ 8 = 2 ^ 8 * (b0.toNat * 65536 + b1.toNat * 256 + b2.toNat) by omega]
    exact (Nat.two_pow_add_eq_or_of_lt (i := 8) (b := b3.toNat) (by omega) _).symm
  rw [s3]
theorem word_plus (b0 b1 b2 b3 : UInt8) : IntKind.u32.wrap (IntKind.u32.wrap (IntKind.u32.wrap (IntKind.u32.wrap (IntKind.u32.wrap (b0.toNat : Int) * 16777216) + IntKind.u32.wrap (IntKind.u32.wrap (b1.toNat : Int) * 65536)) + IntKind.u32.wrap (IntKind.u32.wrap (b2.toNat : Int) * 256)) + IntKind.u32.wrap (b3.toNat : Int)) = ((mkWord b0 b1 b2 b3).toNat : Int) := by
  have h0 := b0.toNat_lt
  have h1 := b1.toNat_lt
  have h2 := b2.toNat_lt
  have h3 := b3.toNat_lt
  rw [mkWord_toNat]
  simp only [IntKind.wrap_u32']
  omega
theorem sum5 (a b c d e : UInt32) : (((a.toNat : Int) + (b.toNat : Int) + (c.toNat : Int) + (d.toNat : Int)) % (4294967296 : Int) + (e.toNat : Int)) % (4294967296 : Int) = ((a + b + c + d + e).toNat : Int) := by
  simp only [UInt32.toNat_add]
  omega
theorem shr3 (x : UInt32) : (x.toNat : Int) / (8 : Int) = ((x >>> 3).toNat : Int) := shr_u32 x 3 (by omega)
theorem shr10 (x : UInt32) : (x.toNat : Int) / (1024 : Int) = ((x >>> 10).toNat : Int) := shr_u32 x 10 (by omega)
end Sha

/-- How it stands while the text is padded: the text so far, in a row of the call's own. -/
structure RPad (w : World) (v : Value) (l : List UInt8) (wx : World) : Prop where
  own : wx.ownsRow w.heap.size 5 1 v l.length (l.map V8)
  res : Whole wx w.heap.size 49 (bcells (List.replicate 32 0))
  bel : Below w.heap.size w wx
  apart : ∀ k, v.ownBlock = some k → w.heap.size < k

theorem rpad_step {w wx w' : World} {v v' : Value} {l : List UInt8} {b : UInt8} (h : RPad w v l wx) (t : TypeId)
    (h1 : w'.ownsRow w.heap.size 5 1 v' (l.length + 1) (l.map V8 ++ [b].map V8)) (h2 : (wx.alloc (.cells #[.int .u8 (b.toNat : Int)] t)).grownBy w' v.ownBlock) (h3 : v'.ownBlock = v.ownBlock ∨ v'.ownBlock = some (wx.alloc (.cells #[.int .u8 (b.toNat : Int)] t)).heap.size) :
    RPad w v' (l ++ [b]) w' := by
  have hs := h.bel.size
  refine ⟨by rw [List.length_append, List.map_append]; exact h1, ?_, (h.bel.alloc hs _).grown h2 (by simp; omega) (fun k hk => (h.own.lt k hk).1), ?_⟩
  · have h4 : Whole (wx.alloc (.cells #[.int .u8 (b.toNat : Int)] t)) w.heap.size 49 (bcells (List.replicate 32 0)) := h.res.alloc _
    exact (h2.block _ h4.lt (fun e => by have := h.apart _ e.symm; omega)).trans h4
  · intro k hk
    rcases h3 with h3 | h3
    · exact h.apart k (by rw [← h3, hk])
    · rw [hk] at h3
      injection h3 with h3
      have := h.res.lt
      rw [h3]; simp; omega

theorem own_empty (w : World) (Z : Array Value) : ((w.alloc (.cells Z 49)).alloc (.cells #[] 5)).ownsRow w.heap.size 5 1 (.slice (some ⟨w.heap.size + 1, 0, none⟩) 0 0) 0 [] := by
  have := World.ownsRow_lit (base := w.heap.size) (size := 1) (e := 5) (w.alloc (.cells Z 49)) #[] 0 (by simp) (by unfold maxLen; omega) rfl
  rw [show (w.alloc (.cells Z 49)).heap.size = w.heap.size + 1 by simp] at this
  exact this
theorem rpad_first {w w' : World} {v' : Value} {l : List UInt8} (Z : Array Value) (hZ : Z = bcells (List.replicate 32 0)) (n : Nat) (hn : l.length = n)
    (h1 : w'.ownsRow w.heap.size 5 1 v' (0 + n) ([] ++ l.map V8)) (h2 : ((w.alloc (.cells Z 49)).alloc (.cells #[] 5)).grownBy w' (Value.ownBlock (.slice (some ⟨w.heap.size + 1, 0, none⟩) 0 0)))
    (h3 : v'.ownBlock = Value.ownBlock (.slice (some ⟨w.heap.size + 1, 0, none⟩) 0 0) ∨ v'.ownBlock = some ((w.alloc (.cells Z 49)).alloc (.cells #[] 5)).heap.size) : RPad w v' l w' := by
  subst hZ hn
  have hb : Below w.heap.size w ((w.alloc (.cells (bcells (List.replicate 32 0)) 49)).alloc (.cells #[] 5)) := ((Below.refl _ _).alloc (Nat.le_refl _) _).alloc (by simp) _
  have hr : Whole ((w.alloc (.cells (bcells (List.replicate 32 0)) 49)).alloc (.cells #[] 5)) w.heap.size 49 (bcells (List.replicate 32 0)) := (Whole.made _ _ _).alloc _
  refine ⟨by rw [Nat.zero_add, List.nil_append] at h1; exact h1, (h2.block _ hr.lt (fun e => by simp only [Value.ownBlock, Option.some.injEq] at e; omega)).trans hr, hb.grown h2 (by simp; omega) (fun k hk => by simp only [Value.ownBlock, Option.some.injEq] at hk; omega), ?_⟩
  intro k hk
  rcases h3 with h3 | h3
  · rw [hk] at h3; simp only [Value.ownBlock, Option.some.injEq] at h3; omega
  · rw [hk] at h3; injection h3 with h3; rw [h3]; simp; omega

/-- How it stands behind k blocks: the eight words in block gh, the padded text in block gm. -/
structure BRel (w : World) (msg : List UInt8) (gm gh : Nat) (s : Sha.St) (wx : World) : Prop where
  words : Whole wx gh 96 (wcells s.list)
  text : Row wx gm msg
  res : Whole wx w.heap.size 49 (bcells (List.replicate 32 0))
  bel : Below w.heap.size w wx
  tab : Tab wx 0
  hgm : w.heap.size < gm
  hgh : w.heap.size < gh
  ne : gm ≠ gh
theorem BRel.below {w : World} {msg : List UInt8} {gm gh : Nat} {s : Sha.St} {wx w' : World} (h : BRel w msg gm gh s wx) (hb : Below wx.heap.size wx w') (hw : 1 < w.heap.size) : BRel w msg gm gh s w' :=
  ⟨h.words.below hb h.words.lt, h.text.below hb, h.res.below hb h.res.lt, h.bel.trans (hb.mono h.bel.size), fun j hj => by rw [hb.cell (p := ⟨0, j, none⟩) (by have := h.bel.size; show 0 < _; omega)]; exact h.tab j hj, h.hgm, h.hgh, h.ne⟩
theorem BRel.drew {w : World} {msg : List UInt8} {gm gh : Nat} {s : Sha.St} {wx : World} (h : BRel w msg gm gh s wx) : BRel w msg gm gh s wx.drew :=
  ⟨h.words, h.text, h.res, h.bel.drew, h.tab, h.hgm, h.hgh, h.ne⟩
theorem brel_start {w wr : World} {msg : List UInt8} {gm : Nat} (Z : Array Value) (hZ : Z = wcells Sha.init.list) (hrow : Row wr gm msg) (hres : Whole wr w.heap.size 49 (bcells (List.replicate 32 0))) (hbel : Below w.heap.size w wr) (ht : Tab w 0) (hgm : w.heap.size < gm) (hw : 1 < w.heap.size) :
    BRel w msg gm wr.heap.size Sha.init (wr.alloc (.cells Z 96)) := by
  subst hZ
  have hb : Below w.heap.size w (wr.alloc (.cells (wcells Sha.init.list) 96)) := hbel.alloc hbel.size _
  exact ⟨Whole.made _ _ _, hrow.below ((Below.refl _ _).alloc (Nat.le_refl _) _), hres.alloc _, hb, fun j hj => by rw [hb.cell (p := ⟨0, j, none⟩) (by show 0 < _; omega)]; exact ht j hj, hgm, hres.lt, fun e => by have := hrow.1; omega⟩


/-- The words of a block, being filled in block gw. -/
structure WRel (w : World) (msg : List UInt8) (gm gh : Nat) (s : Sha.St) (gw : Nat) (l : List UInt32) (wx : World) : Prop where
  base : BRel w msg gm gh s wx
  sch : Whole wx gw 96 (wcells l)
  hgw : w.heap.size < gw
  nem : gm ≠ gw
  neh : gh ≠ gw
theorem WRel.drew {w : World} {msg : List UInt8} {gm gh : Nat} {s : Sha.St} {gw : Nat} {l : List UInt32} {wx : World} (h : WRel w msg gm gh s gw l wx) : WRel w msg gm gh s gw l wx.drew :=
  ⟨h.base.drew, h.sch, h.hgw, h.nem, h.neh⟩
theorem WRel.drewN {w : World} {msg : List UInt8} {gm gh : Nat} {s : Sha.St} {gw : Nat} {l : List UInt32} {wx : World} (h : WRel w msg gm gh s gw l wx) (n : Nat) : WRel w msg gm gh s gw l (wx.drewN n) :=
  ⟨⟨h.base.words, h.base.text, h.base.res, ⟨h.base.bel.os, h.base.bel.tape, h.base.bel.output, h.base.bel.size, h.base.bel.block⟩, h.base.tab, h.base.hgm, h.base.hgh, h.base.ne⟩, h.sch, h.hgw, h.nem, h.neh⟩
theorem Row.other {w : World} {g : Nat} {bs : List UInt8} (h : Row w g bs) {p : Addr} (hp : g ≠ p.block) (u : Value) : Row (w.setCell p u) g bs :=
  ⟨by simpa using h.1, fun j v hv => by
    rw [World.cell?_setCell_other _ _ _ _ (fun e => hp (by rw [e]))]
    exact h.2 j v hv⟩
theorem tab_other {w : World} (h : Tab w 0) {p : Addr} (hp : 0 ≠ p.block) (u : Value) : Tab (w.setCell p u) 0 := fun j hj => by
  rw [World.cell?_setCell_other _ _ _ _ (fun e => hp (by rw [e]))]
  exact h j hj
theorem BRel.other {w : World} {msg : List UInt8} {gm gh : Nat} {s : Sha.St} {wx : World} (h : BRel w msg gm gh s wx) {p : Addr} (h1 : gm ≠ p.block) (h2 : gh ≠ p.block) (h3 : w.heap.size < p.block) (u : Value) : BRel w msg gm gh s (wx.setCell p u) :=
  ⟨h.words.other h2 u, h.text.other h1 u, h.res.other (by omega) u, h.bel.setCell (by omega) u, tab_other h.tab (by omega) u, h.hgm, h.hgh, h.ne⟩
theorem wrel_start {w : World} {msg : List UInt8} {gm gh : Nat} {s : Sha.St} {wx : World} (h : BRel w msg gm gh s wx) (l : List UInt32) (hw : 1 < w.heap.size) :
    WRel w msg gm gh s wx.heap.size l (wx.alloc (.cells (wcells l) 96)) :=
  ⟨h.below ((Below.refl _ _).alloc (Nat.le_refl _) _) hw, Whole.made _ _ _, h.res.lt, fun e => by have := h.text.1; omega, fun e => by have := h.words.lt; omega⟩
theorem wrel_step {w : World} {msg : List UInt8} {gm gh : Nat} {s : Sha.St} {gw : Nat} {l : List UInt32} {wx : World} (h : WRel w msg gm gh s gw l wx) (i : Nat) (x : UInt32) :
    WRel w msg gm gh s gw (l.set i x) (wx.setCell ⟨gw, i, none⟩ (.int .u32 x.toNat)) :=
  ⟨h.base.other h.nem h.neh h.hgw _, by have := h.sch.set i (.int .u32 x.toNat); rwa [wcells_set] at this, h.hgw, h.nem, h.neh⟩
theorem fill_step (b : List UInt8) (k : Nat) (x : UInt32) (hx : x = if k < 16 then Sha.word b k else Sha.nextW (Sha.fill b k) k) : (Sha.fill b k).set k x = Sha.fill b (k + 1) := by rw [hx]; rfl
/-- While what was mixed is added: the words so far in block gh, what is added in block gl. -/
structure SRel7 (w : World) (msg : List UInt8) (gm gh gl : Nat) (l r : List UInt32) (wx : World) : Prop where
  words : Whole wx gh 96 (wcells l)
  add : Whole wx gl 96 (wcells r)
  text : Row wx gm msg
  res : Whole wx w.heap.size 49 (bcells (List.replicate 32 0))
  bel : Below w.heap.size w wx
  tab : Tab wx 0
  hgm : w.heap.size < gm
  hgh : w.heap.size < gh
  ne : gm ≠ gh
  nel : gl ≠ gh
theorem SRel7.drew {w : World} {msg : List UInt8} {gm gh gl : Nat} {l r : List UInt32} {wx : World} (h : SRel7 w msg gm gh gl l r wx) : SRel7 w msg gm gh gl l r wx.drew :=
  ⟨h.words, h.add, h.text, h.res, h.bel.drew, h.tab, h.hgm, h.hgh, h.ne, h.nel⟩
theorem srel_start7 {w : World} {msg : List UInt8} {gm gh : Nat} {s : Sha.St} {gw : Nat} {l : List UInt32} {wx : World} (h : WRel w msg gm gh s gw l wx) (r : List UInt32) (hw : 1 < w.heap.size) :
    SRel7 w msg gm gh wx.heap.size s.list r (wx.alloc (.cells (wcells r) 96)) := by
  have h1 := h.base.below ((Below.refl _ wx).alloc (Nat.le_refl _) (.cells (wcells r) 96)) hw
  exact ⟨h1.words, Whole.made _ _ _, h1.text, h1.res, h1.bel, h1.tab, h1.hgm, h1.hgh, h1.ne, fun e => by have := h.base.words.lt; omega⟩
theorem srel_step7 {w : World} {msg : List UInt8} {gm gh gl : Nat} {l r : List UInt32} {wx : World} (i : Nat) (h : SRel7 w msg gm gh gl (Sha.acc l r i) r wx) :
    SRel7 w msg gm gh gl (Sha.acc l r (i + 1)) r (wx.setCell ⟨gh, i, none⟩ (.int .u32 ((Sha.acc l r i).getD i 0 + r.getD i 0).toNat)) := by
  have hgh := h.hgh
  refine ⟨?_, h.add.other h.nel _, h.text.other h.ne _, h.res.other (by show _ ≠ gh; omega) _, h.bel.setCell (by show _ ≤ gh; omega) _, tab_other h.tab (by show 0 ≠ gh; omega) _, h.hgm, h.hgh, h.ne, h.nel⟩
  have := h.words.set i (.int .u32 ((Sha.acc l r i).getD i 0 + r.getD i 0).toNat)
  rwa [wcells_set] at this
theorem srel_end7 {w : World} {msg : List UInt8} {gm gh gl : Nat} {s r : Sha.St} {wx : World} (h : SRel7 w msg gm gh gl (Sha.acc s.list r.list 8) r.list wx) : BRel w msg gm gh (Sha.addSt s r) wx :=
  ⟨h.words, h.text, h.res, h.bel, h.tab, h.hgm, h.hgh, h.ne⟩
namespace Sha
def byteAt (x : UInt32) (m : Nat) : UInt8 := (x >>> UInt32.ofNat (24 - 8 * m)).toUInt8
def outR (l : List UInt32) : Nat → List UInt8
  | 0 => List.replicate 32 0
  | j + 1 => (outR l j).set j (byteAt (l.getD (j / 4) 0) (j % 4))
theorem outR_length (l : List UInt32) (j : Nat) : (outR l j).length = 32 := by
  induction j with
  | zero => rfl
  | succ j ih => simp [outR, ih]
theorem byteAt_spell (x : UInt32) (m : Nat) (h : m < 4) : IntKind.u8.wrap ((x.toNat : Int) / 2 ^ (24 - 8 * m)) = ((byteAt x m).toNat : Int) := byte_shr x _ (by omega)
theorem shr0 (x : UInt32) : x >>> UInt32.ofNat 0 = x := by
  apply UInt32.eq_of_toBitVec_eq
  show x.toBitVec >>> (0#32 % 32#32) = x.toBitVec
  simp
theorem outR_eq (s : St) : outR s.list 32 = out s := by
  have h0 : ∀ x : UInt32, byteAt x 0 = b24 x := fun _ => rfl
  have h1 : ∀ x : UInt32, byteAt x 1 = b16 x := fun _ => rfl
  have h2 : ∀ x : UInt32, byteAt x 2 = b8 x := fun _ => rfl
  have h3 : ∀ x : UInt32, byteAt x 3 = b0 x := fun x => by
    show (x >>> UInt32.ofNat 0).toUInt8 = _
    rw [shr0]
    rfl
  have step : ∀ k, outR s.list (4 * k) = outTo s.list k → outR s.list (4 * (k + 1)) = outTo s.list (k + 1) := fun k hk => by
    have d0 : (4 * k) / 4 = k := by omega
    have d1 : (4 * k + 1) / 4 = k := by omega
    have d2 : (4 * k + 2) / 4 = k := by omega
    have d3 : (4 * k + 3) / 4 = k := by omega
    have m0 : (4 * k) % 4 = 0 := by omega
    have m1 : (4 * k + 1) % 4 = 1 := by omega
    have m2 : (4 * k + 2) % 4 = 2 := by omega
    have m3 : (4 * k + 3) % 4 = 3 := by omega
    show outR s.list (4 * k + 1 + 1 + 1 + 1) = _
    simp only [outR, outTo, d0, d1, d2, d3, m0, m1, m2, m3, h0, h1, h2, h3, hk]
  have all : ∀ k, outR s.list (4 * k) = outTo s.list k := fun k => by
    induction k with
    | zero => rfl
    | succ k ih => exact step k ih
  exact all 8
end Sha
/-- While the words are laid out as bytes. -/
structure ORel (w : World) (gh go : Nat) (l : List UInt32) (j : Nat) (wx : World) : Prop where
  words : Whole wx gh 96 (wcells l)
  out : Whole wx go 49 (bcells (Sha.outR l j))
  res : Whole wx w.heap.size 49 (bcells (List.replicate 32 0))
  bel : Below w.heap.size w wx
  neh : gh ≠ go
  hgo : w.heap.size < go
theorem orel_start {w : World} {msg : List UInt8} {gm gh : Nat} {s : Sha.St} {wx : World} (h : BRel w msg gm gh s wx) (hw : 1 < w.heap.size) : ORel w gh wx.heap.size s.list 0 (wx.alloc (.cells (bcells (List.replicate 32 0)) 49)) := by
  have h1 := h.below ((Below.refl _ wx).alloc (Nat.le_refl _) (.cells (bcells (List.replicate 32 0)) 49)) hw
  exact ⟨h1.words, Whole.made _ _ _, h1.res, h1.bel, fun e => by have := h.words.lt; omega, h.res.lt⟩
theorem orel_step {w : World} {gh go : Nat} {l : List UInt32} {wx : World} (j : Nat) (h : ORel w gh go l j wx) : ORel w gh go l (j + 1) (wx.setCell ⟨go, j, none⟩ (.int .u8 (Sha.byteAt (l.getD (j / 4) 0) (j % 4)).toNat)) := by
  have hgo := h.hgo
  refine ⟨h.words.other h.neh _, ?_, h.res.other (by show _ ≠ go; omega) _, h.bel.setCell (by show _ ≤ go; omega) _, h.neh, h.hgo⟩
  have := h.out.set j (.int .u8 (Sha.byteAt (l.getD (j / 4) 0) (j % 4)).toNat)
  rwa [bcells_set] at this
theorem whole8g {w : World} {g : Nat} {s : Sha.St} {t : TypeId} (h : Whole w g t (wcells s.list)) :
    w.cell? ⟨g, 0, none⟩ = some (.int .u32 s.a.toNat) ∧ w.cell? ⟨g, 1, none⟩ = some (.int .u32 s.b.toNat) ∧ w.cell? ⟨g, 2, none⟩ = some (.int .u32 s.c.toNat) ∧ w.cell? ⟨g, 3, none⟩ = some (.int .u32 s.d.toNat) ∧
    w.cell? ⟨g, 4, none⟩ = some (.int .u32 s.e.toNat) ∧ w.cell? ⟨g, 5, none⟩ = some (.int .u32 s.f.toNat) ∧ w.cell? ⟨g, 6, none⟩ = some (.int .u32 s.g.toNat) ∧ w.cell? ⟨g, 7, none⟩ = some (.int .u32 s.h.toNat) :=
  ⟨h.at_ rfl, h.at_ rfl, h.at_ rfl, h.at_ rfl, h.at_ rfl, h.at_ rfl, h.at_ rfl, h.at_ rfl⟩
theorem row_byte {w : World} {g : Nat} {msg : List UInt8} (h : Row w g msg) (k i : Nat) (hk : 64 * k + 64 ≤ msg.length) (hi : i < 64) : w.cell? ⟨g, 64 * k + i, none⟩ = some (.int .u8 (((msg.drop (64 * k)).take 64).getD i 0).toNat) := by
  refine h.2 (64 * k + i) _ ?_
  have hl : 64 * k + i < msg.length := by omega
  rw [List.getD_eq_getElem?_getD, List.getElem?_take, if_pos hi, List.getElem?_drop, List.getElem?_eq_getElem hl]
  rfl
end Go.Proofs.YtceillnmcccckaaDoor.Sh
