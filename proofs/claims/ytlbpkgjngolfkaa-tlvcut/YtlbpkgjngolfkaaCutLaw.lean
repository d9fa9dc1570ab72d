/-
  What the statement's function TlvCut returns: true, whatever fields and number come in; conditions: the fields are read. It only makes memory of its own.
-/
import Derived.Test.YtlbpkgjngolfkaaAwake
import Derived.Test.YtlbpkgjngolfkaaParse
import Derived.Test.YtlbpkgjngolfkaaEnds
namespace Go.Proofs.Ytlbpkgjngolfkaa
open Go.RowKit

/-- All tags so far are below T. -/
def under' (W : List (UInt8 × List UInt8)) (T : Nat) : Prop := ∀ f, W.getLast? = some f → f.1.toNat < T
theorem under'_rises {W : List (UInt8 × List UInt8)} {T : Nat} (h : under' W T) (t : UInt8) (ht : T ≤ t.toNat) : Tlv.rises W t = true := by
  unfold Tlv.rises
  cases hW : W.getLast? with
  | none => rfl
  | some f => have := h f hW; simp; omega
theorem under'_more {W : List (UInt8 × List UInt8)} {T T' : Nat} (h : under' W T) (hT : T ≤ T') : under' W T' := fun f hf => Nat.lt_of_lt_of_le (h f hf) hT
theorem under'_snoc (W : List (UInt8 × List UInt8)) (t : UInt8) (v : List UInt8) (T : Nat) (h : t.toNat < T) : under' (W ++ [(t, v)]) T := fun f hf => by
  simp at hf; subst hf; exact h

/-- E are just the places between fields. -/
def Between (W : List (UInt8 × List UInt8)) (E : List Int) : Prop := ∀ z : Int, z ∈ E ↔ ∃ j : Nat, z = (Tlv.body (W.take j)).length
theorem between_nil : Between [] [0] := fun z => by
  constructor
  · intro h; exact ⟨0, by simpa [Tlv.body_nil] using h⟩
  · rintro ⟨j, h⟩; simpa [Tlv.body_nil] using h
theorem between_same {W : List (UInt8 × List UInt8)} {E : List Int} (h : Between W E) (x : Int) (hx : x = (Tlv.body W).length) : Between W (x :: E) := fun z => by
  constructor
  · intro hz
    rcases List.mem_cons.1 hz with rfl | hz
    · exact ⟨W.length, by rw [List.take_length]; exact hx⟩
    · exact (h z).1 hz
  · intro hz
    exact List.mem_cons_of_mem _ ((h z).2 hz)
theorem between_snoc {W : List (UInt8 × List UInt8)} {E : List Int} (h : Between W E) (f : UInt8 × List UInt8) (x : Int) (hx : x = (Tlv.body (W ++ [f])).length) : Between (W ++ [f]) (x :: E) := fun z => by
  constructor
  · intro hz
    rcases List.mem_cons.1 hz with rfl | hz
    · exact ⟨(W ++ [f]).length, by rw [List.take_length]; exact hx⟩
    · obtain ⟨j, hj⟩ := (h z).1 hz
      by_cases hjl : j ≤ W.length
      · exact ⟨j, by rw [List.take_append_of_le_length hjl]; exact hj⟩
      · exact ⟨W.length, by rw [List.take_append_of_le_length (Nat.le_refl _), List.take_length]; rwa [List.take_of_length_le (by omega)] at hj⟩
  · rintro ⟨j, hj⟩
    by_cases hjl : j ≤ W.length
    · rw [List.take_append_of_le_length hjl] at hj
      exact List.mem_cons_of_mem _ ((h z).2 ⟨j, hj⟩)
    · rw [List.take_of_length_le (by simp; omega)] at hj
      rw [hj, ← hx]
      exact List.mem_cons_self

theorem cut_mod (cut nb : Nat) : ∃ q : Nat, (cut : Int) % ((nb : Int) + 1) = q ∧ q ≤ nb :=
  ⟨cut % (nb + 1), by rw [Int.natCast_emod]; rfl, by have := Nat.mod_lt cut (show 0 < nb + 1 by omega); omega⟩
theorem Rd.pre {w : World} {B n : Nat} {A : Option Addr} {bs : List UInt8} (h : Rd w B A n bs) (q : Nat) (hq : q ≤ n) : Rd w B A q (bs.take q) := by
  rcases Nat.eq_zero_or_pos q with h0 | h0
  · subst h0; rw [List.take_zero]; exact Rd.nil
  · obtain ⟨b, o, rfl, _⟩ := h.at_ (by omega)
    have := h.part 0 q (by omega)
    rwa [Nat.add_zero, List.drop_zero] at this

structure KRel (w : World) (mb : Nat) (W : List (UInt8 × List UInt8)) (E : List Int) (T : Nat) (b : Value) (nb ne : Nat) (wx : World) : Prop where
  rd : ∃ A c, b = .slice A nb c ∧ nb ≤ c ∧ RdX wx wx.heap.size (some mb) A nb (Tlv.body W)
  set : SetAt wx mb ne E
  btw : Between W E
  fine : Tlv.fine [] W
  last : under' W T
  low : w.heap.size ≤ mb
  bel : Below w.heap.size w wx

theorem KRel.rd_of {w wx : World} {mb : Nat} {W : List (UInt8 × List UInt8)} {E : List Int} {T nb ne : Nat} {b : Value} (h : KRel w mb W E T b nb ne wx) {A : Option Addr} {n c : Nat} (e : b = .slice A n c) : Rd wx wx.heap.size A n (Tlv.body W) := by
  obtain ⟨A', c', e', _, hr⟩ := h.rd
  rw [e'] at e
  injection e with e1 e2 _
  subst e1 e2
  exact hr.1
theorem krel_below {w wx w' : World} {mb : Nat} {W : List (UInt8 × List UInt8)} {E : List Int} {T nb ne : Nat} {b : Value} (h : KRel w mb W E T b nb ne wx) (hb : Below wx.heap.size wx w') : KRel w mb W E T b nb ne w' := by
  obtain ⟨A, c, e, hc, hr⟩ := h.rd
  exact ⟨⟨A, c, e, hc, (hr.below hb (Nat.le_refl _)).more hb.size⟩, h.set.below hb, h.btw, h.fine, h.last, h.low, h.bel.trans (hb.mono h.bel.size)⟩

def CutRel (w : World) (mb n : Nat) (i b : Value) (wx : World) : Prop :=
  ∃ (k : Nat) (W : List (UInt8 × List UInt8)) (E : List Int) (nb ne : Nat), k ≤ n ∧ k ≤ 20 ∧ ne ≤ k + 1 ∧ nb ≤ 203 * k ∧ i = .int .i64 k ∧ KRel w mb W E k b nb ne wx

/-- What the parse of a cut gives. -/
theorem cut_code {W : List (UInt8 × List UInt8)} {E : List Int} (hf : Tlv.fine [] W) (hb : Between W E) (k : Nat) (hk : k ≤ (Tlv.body W).length) :
    ((Tlv.parse ((Tlv.body W).take k)).1 = 0 ∧ (k : Int) ∈ E) ∨ ((Tlv.parse ((Tlv.body W).take k)).1 = 4 ∧ ¬ (k : Int) ∈ E) := by
  rcases Tlv.prs_cut W [] hf k hk with ⟨j, _, h1, h2⟩ | ⟨h1, h2⟩
  · refine .inl ⟨by unfold Tlv.parse; rw [h2], (hb k).2 ⟨j, by rw [h1]⟩⟩
  · refine .inr ⟨by unfold Tlv.parse; rw [h2], fun h => ?_⟩
    obtain ⟨j, hj⟩ := (hb k).1 h
    exact h1 j (by omega)

set_option maxRecDepth 100000 in
set_option maxHeartbeats 1000000 in
theorem cutlaw_any (A : Option Addr) (n c : Nat) (fs : List (UInt8 × List UInt8)) (cut : Nat) (w : World) (hr : FRd w w.heap.size A n fs) (_hnc : n ≤ c) (hn : n ≤ 9223372036854775807) (hcut : cut < 65536) :
    Calls Try.prog 10 #[.slice A n c, .int .u16 cut] w fun e w' => e = .returned (.bool true) ∧ Below w.heap.size w w' := by
  have HR := Lib.hid hr
  clear hr
  go_enter Try.func10, Try.ntmps10
  go_wp2_with fail
  refine (awake_any w).mono ?_
  rintro e w1 ⟨rfl, hb1⟩
  have hws1 : w.heap.size ≤ w1.heap.size := hb1.size
  have HB1 := Lib.hid hb1
  clear hb1
  have hmm := fun W => run_makeMap (P := Try.prog) 59 W
  go_upto_region 4 with (fail)
  refine wp_region_lit ?_
  iterate 3 go_step
  clear hmm
  refine wpList_set_put rfl (.tmp 14) (.const (.int .i64 0)) (.const (.bool true)) (.inl rfl) w1.heap.size 0 [] rfl (set_made w1) (by omega) 0 rfl rfl (by omega) (by omega) ?_
  intro w2 hset hg
  have hb2 : Below w.heap.size w w2 := (HB1.out.alloc hws1 _).grown hg (by rw [size_alloc]; omega) (fun i hi => by injection hi with hi; omega)
  have hs0 : CutRel w w1.heap.size n (.int .i64 0) (.slice none 0 0) w2 :=
    ⟨0, [], [0], 0, 1, by omega, by omega, by omega, by omega, rfl, ⟨none, 0, rfl, Nat.le_refl _, Rd.nil, fun _ _ h => by cases h⟩, hset, between_nil, trivial, fun f h => by simp at h, hws1, hb2⟩
  have HS0 := Lib.hid hs0
  clear hset hg hb2 hs0 HB1
  generalize w1.heap.size = mb at *
  go_simp
  go_wp2_with fail
  go_loopw [18, 5] (fun i b wx => CutRel w mb n i b wx) (fun i _ _ => n - (intOf i).toNat)
  case atStart => exact HS0.out
  case round =>
    clear HS0
    obtain ⟨k, W, E, nb, ne, hk, hk20, hne, hnb, rfl, hrel⟩ := hrel
    obtain ⟨Ab, cb, rfl, hcb, hrb⟩ := hrel.rd
    have HREL := Lib.hid hrel
    have HRB := Lib.hid hrb
    clear hrel hrb
    by_cases hlt : k < n
    · obtain ⟨f, hf⟩ : ∃ f, fs[k]? = some f := ⟨fs[k]'(by rw [HR.out.len]; exact hlt), List.getElem?_eq_getElem _⟩
      obtain ⟨b1, o1, Av, nv, cv, rfl, hb1, t1, s1, hnc1, hnv, r1⟩ := HR.out.at_ hf
      rw [Nat.mul_comm 2 k] at t1 s1
      rw [← Nat.add_assoc] at s1
      have t1' := (HREL.out.bel.cell (p := ⟨b1, o1 + k * 2, none⟩) hb1).trans t1
      have s1' := (HREL.out.bel.cell (p := ⟨b1, o1 + k * 2 + 1, none⟩) hb1).trans s1
      have R1 := Lib.hid (r1.below HREL.out.bel (Nat.le_refl _))
      clear t1 s1 r1 hf
      by_cases h20 : 20 ≤ k
      · have q1 : decide (20 ≤ (k : Int)) = true := by simp; omega
        obtain ⟨q, hq, hqn⟩ := cut_mod cut nb
        have hqc : (q : Int) ≤ (cb : Int) := by omega
        go_wp2_with fail
        have hx := krel_below HREL.out ((Below.refl _ _).alloc (Nat.le_refl _) (Obj.cells #[.int .u8 f.1.toNat, .slice Av nv cv] 39))
        have hrq := (hx.rd_of rfl).pre q (by omega)
        have hcc := cut_code hx.fine hx.btw q (by rw [(hx.rd_of rfl).len]; omega)
        have hp := parse_any Ab q cb _ (wr.alloc (Obj.cells #[.int .u8 f.1.toNat, .slice Av nv cv] 39)) hrq (by omega) (by omega)
        generalize Tlv.parse ((Tlv.body W).take q) = r at hp hcc
        obtain ⟨code, l⟩ := r
        have HXX := Lib.hid hx
        clear hx hrq
        refine hp.mono ?_
        rintro e w5 ⟨A5, n5, c5, rfl, hr5, _, hb5⟩
        have hlk := (HXX.out.set.below hb5).look (q : Int) (by omega) (by omega)
        have HBB := Lib.hid (HXX.out.bel.trans (hb5.mono HXX.out.bel.size))
        clear hp hr5 hb5 HXX
        rcases hcc with ⟨hc0, hin⟩ | ⟨hc0, hin⟩
        · obtain rfl : code = 0 := hc0
          rw [decide_eq_true hin] at hlk
          clear hin
          go_wp2_with fail
          go_ret
          exact ⟨rfl, HBB.out⟩
        · obtain rfl : code = 4 := hc0
          rw [decide_eq_false hin] at hlk
          clear hin
          go_wp2_with fail
          go_ret
          exact ⟨rfl, HBB.out⟩
      · have q1 : decide (20 ≤ (k : Int)) = false := by simp; omega
        by_cases h200 : 200 < nv
        · have q2 : decide (200 < (nv : Int)) = true := by simp; omega
          obtain ⟨q, hq, hqn⟩ := cut_mod cut nb
          have hqc : (q : Int) ≤ (cb : Int) := by omega
          go_wp2_with fail
          have hx := krel_below HREL.out ((Below.refl _ _).alloc (Nat.le_refl _) (Obj.cells #[.int .u8 f.1.toNat, .slice Av nv cv] 39))
          have hrq := (hx.rd_of rfl).pre q (by omega)
          have hcc := cut_code hx.fine hx.btw q (by rw [(hx.rd_of rfl).len]; omega)
          have hp := parse_any Ab q cb _ (wr.alloc (Obj.cells #[.int .u8 f.1.toNat, .slice Av nv cv] 39)) hrq (by omega) (by omega)
          generalize Tlv.parse ((Tlv.body W).take q) = r at hp hcc
          obtain ⟨code, l⟩ := r
          have HXX := Lib.hid hx
          clear hx hrq
          refine hp.mono ?_
          rintro e w5 ⟨A5, n5, c5, rfl, hr5, _, hb5⟩
          have hlk := (HXX.out.set.below hb5).look (q : Int) (by omega) (by omega)
          have HBB := Lib.hid (HXX.out.bel.trans (hb5.mono HXX.out.bel.size))
          clear hp hr5 hb5 HXX
          rcases hcc with ⟨hc0, hin⟩ | ⟨hc0, hin⟩
          · obtain rfl : code = 0 := hc0
            rw [decide_eq_true hin] at hlk
            clear hin
            go_wp2_with fail
            go_ret
            exact ⟨rfl, HBB.out⟩
          · obtain rfl : code = 4 := hc0
            rw [decide_eq_false hin] at hlk
            clear hin
            go_wp2_with fail
            go_ret
            exact ⟨rfl, HBB.out⟩
        · have q2 : decide (200 < (nv : Int)) = false := by simp; omega
          go_wp2_with fail
          have hx := krel_below HREL.out ((Below.refl _ _).alloc (Nat.le_refl _) (Obj.cells #[.int .u8 f.1.toNat, .slice Av nv cv] 39))
          have htag : (k : Int) = ((UInt8.ofNat k).toNat : Int) := by rw [UInt8.toNat_ofNat']; omega
          have hr1x : Rd (wr.alloc (Obj.cells #[.int .u8 f.1.toNat, .slice Av nv cv] 39)) (wr.alloc (Obj.cells #[.int .u8 f.1.toNat, .slice Av nv cv] 39)).heap.size Av nv f.2 :=
            (R1.out.below ((Below.refl _ _).alloc (Nat.le_refl _) _) (HREL.out.bel.size)).more (by have := HREL.out.bel.size; rw [size_alloc]; omega)
          have hp := put_int Ab nb cb (Tlv.body W) _ _ htag Av nv cv f.2 _ (hx.rd_of rfl) hr1x (by omega) (by omega)
          have HXX := Lib.hid hx
          have HTAG : Hid ((UInt8.ofNat k).toNat = k) := Lib.hid (by omega)
          have HP := Lib.hid hp
          clear hx htag hp hr1x
          refine HP.out.mono ?_
          rintro e w5 ⟨A5, n5, c5, rfl, hr5, hc5, hnew, hb5⟩
          have hx5 := krel_below HXX.out hb5
          have hrx : RdX w5 w5.heap.size (some mb) A5 n5 (Tlv.put (Tlv.body W) (UInt8.ofNat k) f.2) :=
            ⟨hr5, fun b o e _ h => by injection h with h; have := HXX.out.set.lt; have := hnew b o e; omega⟩
          have hl5 := hr5.len
          have hpl := Tlv.put_length (Tlv.body W) (UInt8.ofNat k) f.2
          have hbl : (Tlv.body W).length = nb := HRB.out.1.len
          have hfl := R1.out.len
          rw [hl5, hbl, hfl] at hpl
          have HX5 := Lib.hid hx5
          have HRX := Lib.hid hrx
          have HFL := Lib.hid hfl
          have HL5 := Lib.hid hl5
          clear hx5 hrx hr5 hb5 hnew hl5 hbl hfl HXX HRB HP R1
          go_upto_region 10 with (fail)
          refine wp_region_lit ?_
          iterate 9 go_step
          refine wpList_set_put rfl (.tmp 40) (.tmp 42) (.const (.bool true)) (.inr rfl) mb ne E rfl HX5.out.set (by omega) (n5 : Int) rfl rfl (by omega) (by omega) ?_
          intro w6 hset6 hg6
          have hb6 : Below w.heap.size w w6 := HX5.out.bel.grown hg6 HX5.out.bel.size (fun i hi => by injection hi with hi; have := HX5.out.low; omega)
          have hrx6 := (HRX.out.grown hg6 (Nat.le_refl _) (row' := some mb) (.inl rfl)).more hg6.size
          have HN := Lib.hid (And.intro hset6 (And.intro hb6 hrx6))
          clear hset6 hg6 hb6 hrx6 HRX
          go_simp
          go_wp2_with fail
          go_roundw
          case rel =>
            by_cases hv : f.2 = []
            · have hrx7 := HN.out.2.2
              have hl5 := HL5.out
              rw [hv, Tlv.put_nil] at hrx7 hl5
              exact ⟨k + 1, W, (n5 : Int) :: E, n5, ne + 1, by omega, by omega, by omega, by omega, by go_num, ⟨A5, c5, rfl, hc5, hrx7⟩, HN.out.1, between_same HX5.out.btw _ (by rw [hl5]), HX5.out.fine, under'_more HX5.out.last (by omega), HX5.out.low, HN.out.2.1⟩
            · have hrx7 := HN.out.2.2
              have hl5 := HL5.out
              rw [Tlv.put_body W _ _ hv] at hrx7 hl5
              refine ⟨k + 1, W ++ [(UInt8.ofNat k, f.2)], (n5 : Int) :: E, n5, ne + 1, by omega, by omega, by omega, by omega, by go_num, ⟨A5, c5, rfl, hc5, hrx7⟩, HN.out.1, between_snoc HX5.out.btw _ _ (by rw [hl5]), ?_, under'_snoc _ _ _ _ (by rw [HTAG.out]; omega), HX5.out.low, HN.out.2.1⟩
              rw [Tlv.fine_snoc]
              exact ⟨HX5.out.fine, hv, by rw [HFL.out]; omega, by rw [List.nil_append]; exact under'_rises HX5.out.last _ (by rw [HTAG.out]; exact Nat.le_refl _)⟩
          case measure => simp [intOf]; omega
    · obtain rfl : k = n := by omega
      obtain ⟨q, hq, hqn⟩ := cut_mod cut nb
      have hqc : (q : Int) ≤ (cb : Int) := by omega
      go_wp2_with fail
      have hx := HREL.out
      have hrq := (hx.rd_of rfl).pre q (by omega)
      have hcc := cut_code hx.fine hx.btw q (by rw [(hx.rd_of rfl).len]; omega)
      have hp := parse_any Ab q cb _ wr hrq (by omega) (by omega)
      generalize Tlv.parse ((Tlv.body W).take q) = r at hp hcc
      obtain ⟨code, l⟩ := r
      have HXX := Lib.hid hx
      clear hx hrq
      refine hp.mono ?_
      rintro e w5 ⟨A5, n5, c5, rfl, hr5, _, hb5⟩
      have hlk := (HXX.out.set.below hb5).look (q : Int) (by omega) (by omega)
      have HBB := Lib.hid (HXX.out.bel.trans (hb5.mono HXX.out.bel.size))
      clear hp hr5 hb5 HXX
      rcases hcc with ⟨hc0, hin⟩ | ⟨hc0, hin⟩
      · obtain rfl : code = 0 := hc0
        rw [decide_eq_true hin] at hlk
        clear hin
        go_wp2_with fail
        go_ret
        exact ⟨rfl, HBB.out⟩
      · obtain rfl : code = 4 := hc0
        rw [decide_eq_false hin] at hlk
        clear hin
        go_wp2_with fail
        go_ret
        exact ⟨rfl, HBB.out⟩
end Go.Proofs.Ytlbpkgjngolfkaa
