/-
  The law of a nil base: what a base answers to nil and to a tree that grew by calls; conditions: the calls and the sum lie in memory.
-/
import Derived.Test.YtolkpjbbfopmnaaDoorBLawA
import Derived.Test.YtolkpjbbfopmnaaDoorTlNdAwk
import Derived.Test.YtolkpjbbfopmnaaDoorTlNdDec
import Derived.Test.YtolkpjbbfopmnaaDoorNodesM
namespace Go.Proofs.YtolkpjbbfopmnaaDoor
open Go.RowKit Go.Shelf
open Tr

theorem xor_byte (x : UInt8) : ∃ x' : UInt8, bits .xor .u8 (x.toNat : Int) 255 = (x'.toNat : Int) := by
  have hx := x.toNat_lt
  refine ⟨UInt8.ofNat (x.toNat ^^^ 255), ?_⟩
  rw [u8_xor _ _ (by omega) (by omega) (by omega) (by omega), UInt8.toNat_ofNat']
  have : x.toNat ^^^ 255 < 2 ^ 8 := Nat.xor_lt_two_pow (by omega) (by omega)
  rw [Int.toNat_natCast, Nat.mod_eq_of_lt (by simpa using this)]
  rfl
theorem bytes_len (nd : Tl.Tlv.Nd) (hk : nd.key.length ≤ 96) (hv : nd.value.length ≤ 256) (hh : nd.h.toNat < 18446744073709551616) (hf : nd.fit) : nd.bytes.length ≤ 1000 := by
  obtain ⟨h1, h2, h3⟩ := hf
  have l0 : (Tl.Tlv.put [] 1 nd.key).length ≤ 99 := Tl.put_len (b := []) (n := 0) (m := 96) (Nat.le_refl _) hk rfl
  have l1 : nd.front.length ≤ 358 := Tl.put_len (m := 256) l0 hv rfl
  have l2 : nd.mid.length ≤ 369 := Tl.put_len (m := 8) l1 (Tl.Tlv.num_len8 _ hh) rfl
  have l4 : (Tl.Tlv.put nd.mid 4 (Tl.Tlv.num nd.z)).length ≤ 380 := Tl.put_len (m := 8) l2 (Tl.Tlv.num_len8 _ h3) rfl
  have l5 : (Tl.Tlv.put (Tl.Tlv.put nd.mid 4 (Tl.Tlv.num nd.z)) 5 nd.l).length ≤ 415 := Tl.put_len (m := 32) l4 (by omega) rfl
  have l6 : nd.whole.length ≤ 450 := Tl.put_len (m := 32) l5 (by omega) rfl
  unfold Tl.Tlv.Nd.bytes
  split <;> omega
theorem obytes_len {o : Option T} {w : World} {B : Nat} (h : ∀ t, o = some t → (∃ v, NodeV w B t v) ∧ t.n ≤ 64) : (obytes o).length ≤ 1000 := by
  cases o with
  | none => simp [obytes]
  | some t =>
    obtain ⟨⟨v, cs, A, n, c, A', n', c', rfl, hT⟩, htn⟩ := h t rfl
    have hh := T.h_lt t
    exact bytes_len (ndT t) (by show t.key.length ≤ 96; rw [hT.key.len]; exact hT.kle) (by show t.val.length ≤ 256; rw [hT.val.len]; exact hT.vle) (by show (t.h : Int).toNat < _; omega) (ndT_fit t (by omega))
theorem says_fit : ∀ (fs : List (UInt8 × List UInt8)) (n : Tl.Tlv.Nd), n.fit → (Tl.Tlv.says n fs).2.fit
  | [], _, h => h
  | f :: fs, n, h => by
    unfold Tl.Tlv.says
    split
    · exact says_fit fs _ (Tl.Tlv.say_fit h _ _)
    · exact h
theorem dec_fit (b : List UInt8) : (Tl.Tlv.dec b).2.fit := by
  unfold Tl.Tlv.dec
  split
  · split
    · unfold Tl.Tlv.judge
      split
      · split
        · exact says_fit _ _ Tl.Tlv.fit_one
        · exact Tl.Tlv.fit_zero
      · exact Tl.Tlv.fit_zero
    · exact Tl.Tlv.fit_zero
  · exact Tl.Tlv.fit_zero
theorem fr_over {M B : Nat} {w w7 w8 : World} (h : Below B w w7) (hf : Fr M none w7 w8) (hB : B ≤ w7.heap.size) (hM : B ≤ M) : Below B w w8 :=
  ⟨hf.os.trans h.os, hf.tape.trans h.tape, hf.output.trans h.output, Nat.le_trans h.size hf.size, fun k hk => (hf.block k (by omega) (by omega) (fun e => by cases e)).trans (h.block k hk)⟩
theorem info49f : (Tryd.prog.info? 29).map (fun i => (i.zero, i.size, i.bytes)) = some (some (.agg (zb 32)), 32, 32) := by kernel_rfl
theorem fill_sum (z Y : Array Value) (hz : z.size = 32) (hY : Y.size = 32) : Instr.fill (fun i => some (i * 32, 32)) z [(0, Value.agg Y)] = some Y := by
  have h := Great.fill_whole (s := 32) (by omega) [Value.agg Y] z (fun v hv => by simp at hv; subst hv; exact hY) (by simp [hz])
  simpa [Value.cells] using h
/-- A slice of one sum. -/
theorem wp_build_sum {o : Oper} {a : Act} {w : World} {K : Act → World → Prop} {Q : Exit → Act → World → Prop} (x : Operand)
    (ho : o.op = .buildSlice 61 1 #[(0, x)]) (Y : Array Value) (hY : Y.size = 32) (hx : a.eval x = .agg Y)
    (h : K (a.put o.dst (.slice (some ⟨w.heap.size, 0, none⟩) 1 1)) (w.alloc (.cells Y 29))) : o.wp Tryd.prog a w K Q := by
  obtain ⟨i, hi, hz, hs, hby⟩ := info_of info49f
  refine wp_buildSlice 61 29 1 _ ho Y i _ Tryd.underlying61 hi hz (by rw [hs]; omega) (by rw [hs]; omega) ?_ h
  rw [hs]
  have := fill_sum ((Array.range (1 * 32)).map ((Value.agg (zb 32)).cells[· % (Value.agg (zb 32)).cells.size]!)) Y (by simp) hY
  simpa [hx] using this
theorem wpList_build_sum_w {ops : Array Oper} {rest : List Oper} {op : Oper} {a : Act} {w : World} {Q : Exit → Act → World → Prop} (hw : Region.wanted op (yielded ops a.tmps) = true) (x : Operand)
    (ho : op.op = .buildSlice 61 1 #[(0, x)]) (Y : Array Value) (hY : Y.size = 32) (hx : a.eval x = .agg Y)
    (h : wpList Tryd.prog ops Q rest (a.put op.dst (.slice (some ⟨w.heap.size, 0, none⟩) 1 1)) (w.alloc (.cells Y 29))) : wpList Tryd.prog ops Q (op :: rest) a w :=
  wpList_step fun K hK => by
    rw [if_pos hw]
    exact wp_build_sum x ho Y hY hx (hK _ _ h)
theorem rd_set {w : World} {B b o n i : Nat} {bs : List UInt8} (h : Rd w B (some ⟨b, o, none⟩) n bs) (hi : i < n) (x : UInt8) : Rd (w.setCell ⟨b, o + i, none⟩ (.int .u8 x.toNat)) B (some ⟨b, o, none⟩) n (bs.set i x) := by
  have hl := h.len
  obtain ⟨b', o', e, hlt, hc⟩ := h.at_ (by omega)
  injection e with e
  injection e with e1 e2
  subst e1 e2
  refine Rd.mk_ (by rw [List.length_set]; exact hl) _ _ hlt fun j v hv => ?_
  rw [List.getElem?_set] at hv
  split at hv
  · rename_i e
    subst e
    rw [if_pos (by omega)] at hv
    injection hv with hv
    subst hv
    exact World.cell?_setCell_same _ _ _ (hc i (bs[i]'(by omega)) (List.getElem?_eq_getElem _))
  · rename_i e
    have hne : (⟨b, o + i, none⟩ : Addr) ≠ ⟨b, o + j, none⟩ := fun h => by
      injection h with _ h
      omega
    rw [World.cell?_setCell_other _ _ _ _ hne]
    exact hc j v hv
theorem Tl.Fresh.setCell {w : World} {B : Nat} {A : Option Addr} (h : Tl.Fresh B w A) (p : Addr) (u : Value) : Tl.Fresh B (w.setCell p u) A := fun b o e => by
  obtain ⟨h1, h2, h3⟩ := h b o e
  exact ⟨h1, by rw [World.size_setCell]; exact h2, fun j => by rw [World.frozen?_setCell]; exact h3 j⟩
theorem node_below {w w' : World} {B : Nat} {s : T} {v : Value} (h : NodeV w B s v) (hb : Below w.heap.size w w') : NodeV w' B s v := by
  obtain ⟨cs, A, n, c, A', n', c', e, h⟩ := h
  exact ⟨cs, A, n, c, A', n', c', e, h.below hb⟩

set_option maxRecDepth 100000 in
set_option maxHeartbeats 600000 in
theorem nodesNil_any (A : Option Addr) (n c : Nat) (cs : List Ac) (h : List UInt8) (hl : h.length = 32) (w : World) (hc : ARd w w.heap.size A n cs) (hn : n ≤ 9223372036854775807) (ht : Sh.Tab w 1) (hw : 1 < w.heap.size) :
    Calls Tryd.prog 4 #[.slice A n c, .agg (Sh.bcells h)] w fun e w' => e = .returned (.bool true) ∧ Below w.heap.size w w' := by
  have hb0 : Below w.heap.size w (w.alloc (.cells (Sh.bcells h) 29)) := (Below.refl _ _).alloc (Nat.le_refl _) _
  have hw0 := Whole.made w 29 (Sh.bcells h)
  have hs0 : (w.alloc (.cells (Sh.bcells h) 29)).heap.size = w.heap.size + 1 := size_alloc _ _
  have HC := Lib.hid hc
  have HT := Lib.hid ht
  have HW0 := Lib.hid hw0
  have HB0 := Lib.hid hb0
  have hi : (Tryd.prog.info? 29).map (·.size) = some (h.map V8).length := by rw [List.length_map, hl]; exact info49
  clear hc ht hw0 hb0
  obtain ⟨gh, hgh⟩ : ∃ g, w.heap.size = g := ⟨_, rfl⟩
  have HGH := Lib.hid hgh
  go_enter Tryd.func4, Tryd.ntmps4
  go_upto_region 1 with (fail)
  generalize w.alloc (.cells (Sh.bcells h) 29) = w0 at *
  have HAW := Lib.hid (Tl.awake_any w0)
  go_wp2_with fail
  refine HAW.out.mono ?_
  rintro e w1 ⟨rfl, hb1⟩
  have hs1 := hb1.size
  have HB1 := Lib.hid (HB0.out.trans (hb1.mono (by omega)))
  have HW1 := Lib.hid (HW0.out.below hb1 (by omega))
  clear hb1 HAW HB0 HW0
  go_upto_region 4 with (fail)
  have HN := Lib.hid (new_any (G := All) w1 (room (by omega)))
  go_wp2_with fail
  refine HN.out.mono ?_
  rintro e w2 ⟨g0, rfl, _, _, hb2⟩
  have hs2 := hb2.size
  have HS := Lib.hid (save_nil none (some g0) (Or.inl rfl) w2)
  rw [ptr_some] at HS
  rw [ptr_some]
  clear HN
  go_wp2_with fail
  refine HS.out.mono ?_
  rintro e w3 ⟨rfl, hb3⟩
  have hs3 := hb3.size
  clear HS
  simp only []
  have hz49 := zero49
  iterate 13 go_step
  clear hz49
  have hwm3 := Whole.made w3 29 (zb 32)
  refine wpList_store_mid rfl 29 (.tmp 6) (.tmp 28) rfl w3.heap.size 0 (zb 32) rfl rfl hwm3.there_ (by rw [zb_size]; exact info49) (Sh.bcells_one z32) ?_
  have hws3 := hwm3.setAll (vs := zb 32) rfl
  have hbs3 : Below w3.heap.size w3 ((w3.alloc (.cells (zb 32) 29)).setCells w3.heap.size 0 (zb 32).toList) := below_setCells w3 w3.heap.size _ 0 ((Below.refl _ _).alloc (Nat.le_refl _) _) (Nat.le_refl _)
  generalize (w3.alloc (.cells (zb 32) 29)).setCells w3.heap.size 0 (zb 32).toList = w3s at *

  have hs3s : w3.heap.size ≤ w3s.heap.size := hbs3.size
  have HB3 := Lib.hid (HB1.out.trans ((hb2.trans (hb3.mono hs2)).trans (hbs3.mono (by omega))|>.mono (by omega)))
  have HW3 := Lib.hid (HW1.out.below ((hb2.trans (hb3.mono hs2)).trans (hbs3.mono (by omega))) (by omega))
  obtain ⟨gx, hgx⟩ : ∃ g, w3.heap.size = g := ⟨_, rfl⟩
  rw [hgx] at hws3 ⊢
  have HX3 := Lib.hid hws3
  have hxl : gx < w3s.heap.size := hws3.lt
  have h3 : w3s.rangeAt gh 0 (h.map V8) := by rw [← hgh]; exact HW3.out.range
  clear hb2 hb3 hbs3 hwm3 hws3 HB1 HW1
  go_upto_region 5 with (fail)
  refine wp_region_lit ?_
  iterate 3 go_step
  refine wpList_load_mid rfl 29 (.tmp 3) rfl gh 0 rfl _ _ h3 Tryd.underlying29 rfl hi ?_
  simp only [Act.put, List.setIfInBounds_toArray, List.set_cons_zero, List.set_cons_succ]
  have HGN := Lib.hid (get_nil h w3s)
  go_wp2_with fail
  refine HGN.out.mono ?_
  rintro e w4 ⟨rfl, hb4⟩
  have hs4 := hb4.size
  clear HGN h3
  have HBN := Lib.hid (base_new w4)
  go_wp2_with fail
  refine HBN.out.mono ?_
  rintro e w5 ⟨pb, M, rfl, hB5, hpb5, hM5, hb5⟩
  have hs5 := hb5.size
  have HB5 := Lib.hid (HB3.out.trans ((hb4.trans (hb5.mono hs4)).mono (by omega)))
  have HW5 := Lib.hid (HW3.out.below (hb4.trans (hb5.mono hs4)) (by omega))
  have HX5 := Lib.hid (HX3.out.below (hb4.trans (hb5.mono hs4)) (by omega))
  have hxl5 : gx < w5.heap.size := by omega
  have hMl : M < w5.heap.size := hB5.2.1.lt
  have hpl : pb < w5.heap.size := hB5.1.lt
  have HBA := Lib.hid hB5
  clear hb4 hb5 HB3 HW3 HX3 HBN hB5
  have HS := Lib.hid (save_nil (some pb) none (Or.inr rfl) w5)
  rw [ptr_some] at HS
  rw [ptr_some]
  go_wp2_with fail
  refine HS.out.mono ?_
  rintro e w6 ⟨rfl, hb6⟩
  have hs6 := hb6.size
  clear HS
  simp only []
  have hz49 := zero49
  iterate 13 go_step
  clear hz49
  have hwm6 := Whole.made w6 29 (zb 32)
  refine wpList_store_mid rfl 29 (.tmp 11) (.tmp 40) rfl w6.heap.size 0 (zb 32) rfl rfl hwm6.there_ (by rw [zb_size]; exact info49) (Sh.bcells_one z32) ?_
  have hws6 := hwm6.setAll (vs := zb 32) rfl
  have hbs6 : Below w6.heap.size w6 ((w6.alloc (.cells (zb 32) 29)).setCells w6.heap.size 0 (zb 32).toList) := below_setCells w6 w6.heap.size _ 0 ((Below.refl _ _).alloc (Nat.le_refl _) _) (Nat.le_refl _)
  generalize (w6.alloc (.cells (zb 32) 29)).setCells w6.heap.size 0 (zb 32).toList = w6s at *

  have hs6s : w6.heap.size ≤ w6s.heap.size := hbs6.size
  obtain ⟨gz, hgz⟩ : ∃ g, w6.heap.size = g := ⟨_, rfl⟩
  have hzl : gz < w6s.heap.size := by rw [← hgz]; exact hws6.lt
  have h56 := hb6.trans (hbs6.mono hs6)
  have HB6 := Lib.hid (HB5.out.trans (h56.mono (by omega)))
  have HW6 := Lib.hid (HW5.out.below h56 (by omega))
  have HX6 := Lib.hid (HX5.out.below h56 (by omega))
  have HZ6 := Lib.hid (show Whole w6s gz 29 (zb 32) from hgz ▸ hws6)
  rw [hgz]
  have HBA6 := Lib.hid (HBA.out.below h56)
  clear hb6 hbs6 hwm6 hws6 h56 HB5 HW5 HX5 HBA
  have HGR := Lib.hid (grow_any (fun b => b ≠ M) A n c cs 20 w6s (ARd.more (HC.out.below HB6.out (Nat.le_refl _)) (by omega)) hn (by omega) (Sh.tab_below HT.out HB6.out hw) ⟨by omega, fun b hb => by omega⟩)
  go_wp2_with fail
  refine HGR.out.mono ?_
  rintro e w7 ⟨g, A2, n2, c2, rfl, hT7, hp7, _, _, hF7, hm7, hb7⟩
  have hs7 := hb7.size
  have hon : ∀ t, grow 20 cs none = some t → 1 ≤ t.key.length := fun t e => grow_key e
  generalize grow 20 cs none = o at *
  have hn20 : n2 ≤ 20 := by have h1 := hp7.len; have h2 := oln_leaves o; omega
  have HLN : Hid (oln o = n2 ∧ n2 ≤ 20) := Lib.hid ⟨by rw [← oln_leaves]; exact hp7.len, hn20⟩
  have HON := Lib.hid hon
  have hB07 : Below w.heap.size w w7 := HB6.out.trans (hb7.mono (by omega))
  have HBA7 := Lib.hid (HBA6.out.below hb7)
  have HM7 := Lib.hid (And.intro (HW6.out.below hb7 (by omega)) (And.intro (HX6.out.below hb7 (by omega)) (HZ6.out.below hb7 hzl)))
  have HT7 := Lib.hid hT7
  have HTB7 := Lib.hid (Sh.tab_below HT.out hB07 hw)
  have HB7 := Lib.hid hB07
  clear HGR hT7 hp7 hF7 hm7 hb7 hon hB07 HBA6 HW6 HX6 HZ6 HB6
  have HSV := Lib.hid (save_tree pb M g o [] w7 HBA7.out (fun p hp => by cases hp) HT7.out (fun t e => by have := HLN.out.1; rw [e] at this; have h2 : oln (some t) = t.n := rfl; omega) HTB7.out (by omega))
  rw [ptr_some, ptr_some] at HSV
  rw [ptr_some]
  go_wp2_with fail
  refine HSV.out.mono ?_
  rintro e w8 ⟨rfl, ms, hB8, hV8, -, hn8, he8, hf8⟩
  have hs8 := hf8.size
  have hT8 := (tin_fr HT7.out hf8 (Nat.le_refl _) (fun r hr => by cases hr)).more hs8
  have htab8 : Sh.Tab w8 1 := fun j hj => (hf8.cell (k := 1) (by omega) (by omega) (fun e => by cases e)).trans (HTB7.out j hj)
  have HOB := Lib.hid (show (o = none → MAt.look ms (osum o) = none) ∧ ∀ t, o = some t → (∃ v, MAt.look ms t.sum = some v ∧ NodeV w8 w7.heap.size t v) ∧ t.n ≤ 64 ∧ 1 ≤ t.key.length from ⟨fun e => by rw [he8 e]; rfl, fun t e => by
    obtain ⟨v, h1, h2⟩ := hn8 t e
    refine ⟨⟨v, h1, h2 rfl⟩, ?_, HON.out t e⟩
    have := HLN.out
    rw [e] at this
    have h2 : oln (some t) = t.n := rfl
    omega⟩)
  have HV8 := Lib.hid hV8
  have HB8 := Lib.hid hB8
  have HT8 := Lib.hid hT8
  have HTB8 := Lib.hid htab8
  have HF8 := Lib.hid hf8
  clear HSV hT8 htab8 hn8 he8 hf8 hB8 hV8 HT7 HTB7 HBA7
  have HR := Lib.hid (root_any (G := fun b => b ≠ M) (some o) (some g) w8 ⟨g, rfl, HT8.out⟩ HTB8.out (by omega))
  rw [ptr_some] at HR
  go_wp2_with fail
  refine HR.out.mono ?_
  rintro e w9 ⟨rfl, hb9⟩
  have hs9 := hb9.size
  rw [show topOf (some o) = o from rfl]
  clear HR
  have HG := Lib.hid (get_o pb M o ms w7.heap.size w9 (HB8.out.below hb9) HV8.out HOB.out.1 (fun t e => by
    obtain ⟨⟨v, h1, h2⟩, h3⟩ := HOB.out.2 t e
    exact ⟨⟨v, h1, node_below h2 hb9⟩, h3⟩))
  rw [ptr_some] at HG
  go_wp2_with fail
  refine HG.out.mono ?_
  rintro e w10 ⟨⟨A3, n3, c3, rfl, hr10, hnc10, hnew10⟩, hb10, hdec⟩
  have hs10 := hb10.size
  clear HG
  have hn3k : n3 ≤ 1000 := by rw [← hr10.len]; exact obytes_len fun t e => ⟨⟨_, ((HOB.out.2 t e).1.choose_spec).2⟩, (HOB.out.2 t e).2.1⟩
  have HR10 := Lib.hid hr10
  have HNEW := Lib.hid hnew10
  have HDEC := Lib.hid hdec
  have HB10 := Lib.hid hb10
  clear hr10 hnew10 hdec hb10
  go_wp2_with fail
  go_loopg [59, 17] n3 (fun gk s5 s6 wx => ∃ i, i + gk = n3 ∧ s5 = .int .i64 (i : Nat) ∧ Below w9.heap.size w9 wx ∧ wx.heap.size = w10.heap.size ∧ Tl.Fresh w9.heap.size wx A3 ∧ ∃ bs, Rd wx wx.heap.size A3 n3 bs)
  case atStart => exact ⟨0, by omega, rfl, HB10.out, rfl, HNEW.out, _, HR10.out⟩
  case round =>
    obtain ⟨i, hi3, rfl, hb, hsz, hfr, bs, hrd⟩ := hrel
    by_cases hin : i < n3
    · obtain ⟨b, q, rfl, hlt, hcs⟩ := hrd.at_ (by omega)
      obtain ⟨x, hx⟩ : ∃ x, bs[i]? = some x := ⟨bs[i]'(by rw [hrd.len]; exact hin), List.getElem?_eq_getElem _⟩
      have c1 := hcs i x hx
      obtain ⟨hge, hltb, hfree⟩ := hfr b q rfl
      have f1 := hfree (q + i)
      obtain ⟨x', hx'⟩ := xor_byte x
      have HH := Lib.hid (And.intro hb (And.intro hsz (And.intro hfr hrd)))
      clear hb hsz hfr hrd hcs hx hfree
      go_wp2_with fail
      go_roundg (n3 - (i + 1))
      case measure => omega
      case rel =>
        obtain ⟨hb, hsz, hfr, hrd⟩ := HH.out
        exact ⟨i + 1, by omega, by go_num, hb.setCell (p := ⟨b, q + i, none⟩) hge _, by rw [World.size_setCell]; exact hsz, hfr.setCell _ _, _, by rw [World.size_setCell]; exact rd_set hrd hin x'⟩
    · obtain rfl : i = n3 := by omega
      have HBX := Lib.hid (hb9.trans (hb.mono hs9))
      have hsx := HBX.out.size
      clear hb hfr hrd HR10 HNEW HB10 HDEC hin
      have HR := Lib.hid (root_any (G := fun b => b ≠ M) (some o) (some g) wr ⟨g, rfl, HT8.out.on HBX.out⟩ (Sh.tab_below HTB8.out HBX.out (by omega)) (by omega))
      rw [ptr_some] at HR
      go_wp2_with fail
      refine HR.out.mono ?_
      rintro e w11 ⟨rfl, hb11⟩
      have hs11 := hb11.size
      rw [show topOf (some o) = o from rfl]
      have HB11 := Lib.hid (HBX.out.trans (hb11.mono hsx))
      clear HR hb11 HBX
      have HG := Lib.hid (get_o pb M o ms w7.heap.size w11 (HB8.out.below HB11.out) HV8.out HOB.out.1 (fun t e => by
        obtain ⟨⟨v, h1, h2⟩, h3⟩ := HOB.out.2 t e
        exact ⟨⟨v, h1, node_below h2 HB11.out⟩, h3⟩))
      rw [ptr_some] at HG
      go_wp2_with fail
      refine HG.out.mono ?_
      rintro e w12 ⟨⟨A4, n4, c4, rfl, hr12, hnc12, -⟩, hb12, hdec⟩
      have hs12 := hb12.size
      have HB12 := Lib.hid (HB11.out.trans (hb12.mono (by omega)))
      have hn4 : n4 ≤ 1000 := by rw [← hr12.len]; exact obytes_len fun t e => ⟨⟨_, ((HOB.out.2 t e).1.choose_spec).2⟩, (HOB.out.2 t e).2.1⟩
      clear HG HB11 hb12
      have HD := Lib.hid (Tl.decode_any A4 n4 c4 (obytes o) w12 hr12 hnc12 (by omega))
      have hfit := dec_fit (obytes o)
      have HDE := Lib.hid hdec
      go_wp2_with fail
      refine HD.out.mono ?_
      rintro e w13 ⟨A5, n5, c5, A6, n6, c6, rfl, -, hb13⟩
      have hs13 := hb13.size
      have HB13 := Lib.hid (HB12.out.trans (hb13.mono (by omega)))
      have honx : ((Tl.ndc A5 n5 c5 A6 n6 c6 (Tl.Tlv.dec (obytes o)).2).toArray).all (·.oneCell') = true := Tl.acells_one _ _ _ _ _ _ _ _ _ _
      have hcs : ((Tl.ndc A5 n5 c5 A6 n6 c6 (Tl.Tlv.dec (obytes o)).2).toArray).size = z64.size := by rw [z64_size, List.size_toArray, Tl.ndc_len hfit]
      generalize (Tl.ndc A5 n5 c5 A6 n6 c6 (Tl.Tlv.dec (obytes o)).2).toArray = xs at *
      obtain ⟨code, hcode⟩ : ∃ x, (Tl.Tlv.dec (obytes o)).1 = x := ⟨_, rfl⟩
      have HCODE := Lib.hid hcode
      rw [hcode]
      clear HD hb13 HB12 hdec hr12 hcode hfit
      simp only []
      have hz64 := zero64
      iterate 13 go_step
      clear hz64
      have hwm := Whole.made w13 47 z64
      refine wpList_store_mid rfl 47 (.tmp 20) (.tmp 79) rfl w13.heap.size 0 xs rfl rfl ?_ ?_ honx ?_
      · rw [hcs]; exact hwm.there_
      · rw [hcs]; exact info64
      have hbs : Below w13.heap.size w13 ((w13.alloc (.cells z64 47)).setCells w13.heap.size 0 xs.toList) := below_setCells w13 w13.heap.size _ 0 ((Below.refl _ _).alloc (Nat.le_refl _) _) (Nat.le_refl _)
      generalize (w13.alloc (.cells z64 47)).setCells w13.heap.size 0 xs.toList = w14 at *
      have HB14 := Lib.hid (HB13.out.trans (hbs.mono (by omega)))
      have hs14 := HB14.out.size
      clear hwm hbs honx HB13 hcs
      have h8g := HF8.out.size
      have hmg : Whole w7 gh 29 (Sh.bcells h) := by have h1 := HM7.out.1; rw [HGH.out] at h1; exact h1
      have hgl : gh < w7.heap.size := hmg.lt
      have hxl7 : gx < w7.heap.size := HM7.out.2.1.lt
      have hzl7 : gz < w7.heap.size := HM7.out.2.2.lt
      have rh : w14.rangeAt gh 0 (h.map V8) := range_keep (range_fr hmg.range HF8.out hgl (by omega) (fun e => by cases e)) HB14.out (by omega)
      have rx : w14.rangeAt gx 0 ((List.replicate 32 (0 : UInt8)).map V8) := range_keep (range_fr HM7.out.2.1.range HF8.out hxl7 (by omega) (fun e => by cases e)) HB14.out (by omega)
      have rz : w14.rangeAt gz 0 ((List.replicate 32 (0 : UInt8)).map V8) := range_keep (range_fr HM7.out.2.2.range HF8.out hzl7 (by omega) (fun e => by cases e)) HB14.out (by omega)
      have hi0 : (Tryd.prog.info? 29).map (·.size) = some ((List.replicate 32 (0 : UInt8)).map V8).length := by rw [List.length_map, List.length_replicate]; exact info49
      have heq : ∀ u : World, (Op.equalIn 10000 29 (.agg ((List.replicate 32 (0 : UInt8)).map V8).toArray) (.agg #[.int .u8 0, .int .u8 0, .int .u8 0, .int .u8 0, .int .u8 0, .int .u8 0, .int .u8 0, .int .u8 0, .int .u8 0, .int .u8 0, .int .u8 0, .int .u8 0, .int .u8 0, .int .u8 0, .int .u8 0, .int .u8 0, .int .u8 0, .int .u8 0, .int .u8 0, .int .u8 0, .int .u8 0, .int .u8 0, .int .u8 0, .int .u8 0, .int .u8 0, .int .u8 0, .int .u8 0, .int .u8 0, .int .u8 0, .int .u8 0, .int .u8 0, .int .u8 0])).run Tryd.prog u = .ok true u := fun u => by
        have := run_eq49 (List.replicate 32 0) (List.replicate 32 0) (by simp) (by simp) u
        rw [beq_self_eq_true] at this
        exact this
      have hdec : o.isSome = true → code = 0 := fun e => by rw [← HCODE.out]; exact HDE.out e
      have hlen : o.isSome = decide (0 < n2) := by
        have := HLN.out.1
        cases o with
        | none => have h2 : oln none = 0 := rfl; simp; omega
        | some t => have h2 : oln (some t) = t.n := rfl; have := n_pos t; simp; omega
      have HEND := Lib.hid (show Below w.heap.size w w14 from (fr_over HB7.out HF8.out (by omega) (by omega)).trans (HB14.out.mono (by omega)))
      have HLEN := Lib.hid hlen
      clear hlen
      generalize o.isSome = is at *
      go_simp
      go_upto_region 18 with (fail)
      generalize hZ : (List.replicate 32 (0 : UInt8)).map V8 = Z at *
      cases is with
      | false =>
        obtain rfl : n2 = 0 := by have := of_decide_eq_false HLEN.out.symm; omega
        refine wp_region_lit ?_
        refine wpList_load_mid rfl 29 (.tmp 6) rfl gx 0 rfl Z _ rx Tryd.underlying29 rfl hi0 ?_
        go_wp2_with fail
        refine (len_nil _).mono ?_
        rintro e w15 ⟨rfl, rfl⟩
        simp only []
        iterate 11 go_step
        refine wpList_load_w rfl 29 (.tmp 3) rfl gh 0 rfl (h.map V8) _ rh Tryd.underlying29 rfl hi ?_
        simp only [Act.put, List.setIfInBounds_toArray, List.set_cons_zero, List.set_cons_succ]
        refine wpList_build_sum_w rfl (.tmp 104) rfl (h.map V8).toArray (by simp [hl]) rfl ?_
        have hb15 : Below w14.heap.size w14 (w14.alloc (.cells (h.map V8).toArray 29)) := (Below.refl _ _).alloc (Nat.le_refl _) _
        generalize w14.alloc (.cells (h.map V8).toArray 29) = w15 at *
        have rz15 : w15.rangeAt gz 0 Z := range_keep rz hb15 (by omega)
        have HEND15 := Lib.hid (HEND.out.trans (hb15.mono HEND.out.size))
        clear hb15 rx rz rh
        go_wp2_with fail
        refine (keep_nil _ _ _ _).mono ?_
        rintro e w16 ⟨rfl, rfl⟩
        simp only []
        iterate 9 go_step
        refine wpList_load_w rfl 29 (.tmp 11) rfl gz 0 rfl Z _ rz15 Tryd.underlying29 rfl hi0 ?_
        go_wp2_with fail
        go_ret
        exact ⟨rfl, HEND15.out⟩
      | true =>
        have hc0 : code = 0 := hdec rfl
        subst hc0
        have hpos : 0 < n2 := of_decide_eq_true HLEN.out.symm
        have hq1 : decide (0 < (n2 : Int)) = true := decide_eq_true (by omega)
        have hq2 : decide ((n2 : Int) > 0) = true := decide_eq_true (by omega)
        refine wp_region_lit ?_
        refine wpList_load_mid rfl 29 (.tmp 6) rfl gx 0 rfl Z _ rx Tryd.underlying29 rfl hi0 ?_
        go_wp2_with fail
        refine (len_nil _).mono ?_
        rintro e w15 ⟨rfl, rfl⟩
        simp only []
        iterate 11 go_step
        refine wpList_load_w rfl 29 (.tmp 3) rfl gh 0 rfl (h.map V8) _ rh Tryd.underlying29 rfl hi ?_
        simp only [Act.put, List.setIfInBounds_toArray, List.set_cons_zero, List.set_cons_succ]
        refine wpList_build_sum_w rfl (.tmp 104) rfl (h.map V8).toArray (by simp [hl]) rfl ?_
        have hb15 : Below w14.heap.size w14 (w14.alloc (.cells (h.map V8).toArray 29)) := (Below.refl _ _).alloc (Nat.le_refl _) _
        generalize w14.alloc (.cells (h.map V8).toArray 29) = w15 at *
        have rz15 : w15.rangeAt gz 0 Z := range_keep rz hb15 (by omega)
        have HEND15 := Lib.hid (HEND.out.trans (hb15.mono HEND.out.size))
        clear hb15 rx rz rh
        go_wp2_with fail
        refine (keep_nil _ _ _ _).mono ?_
        rintro e w16 ⟨rfl, rfl⟩
        simp only []
        iterate 9 go_step
        refine wpList_load_w rfl 29 (.tmp 11) rfl gz 0 rfl Z _ rz15 Tryd.underlying29 rfl hi0 ?_
        go_wp2_with fail
        go_ret
        exact ⟨rfl, HEND15.out⟩
end Go.Proofs.YtolkpjbbfopmnaaDoor
