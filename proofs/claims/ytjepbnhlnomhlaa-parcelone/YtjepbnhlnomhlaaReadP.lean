/-
  What parcel's open, ReadPacket and ReadAck return: what is read of the bytes' fields, or the first fault; conditions: the bytes are read, no more than a million. They only make memory of their own.
-/
import Derived.Test.YtjepbnhlnomhlaaRdr
import Derived.Test.YtjepbnhlnomhlaaRound
namespace Go.Proofs.Ytjepbnhlnomhlaa
open Go.RowKit

theorem run_len : ∀ (k : Nat) (acc : Tlv.Fs) (b : List UInt8), (Tlv.run k acc b).2.length ≤ acc.length + b.length := by
  intro k
  induction k with
  | zero =>
    intro acc b
    cases b with
    | nil => simp [Tlv.run]
    | cons t b => simp [Tlv.run]
  | succ k ih =>
    intro acc b
    cases b with
    | nil => simp [Tlv.run]
    | cons t b =>
      simp only [Tlv.run]
      cases hp : Tlv.piece b with
      | none => simp
      | some p =>
        obtain ⟨v, r⟩ := p
        have := Tlv.piece_less hp
        simp only
        split
        · simp
        · split
          · have h2 := ih (acc ++ [(t, v)]) r
            rw [List.length_append, List.length_singleton] at h2
            simp only [List.length_cons]
            omega
          · simp
theorem parse_len (bs : List UInt8) : (Tlv.parse bs).2.length ≤ bs.length := by
  have := run_len bs.length [] bs
  simpa [Tlv.parse, Tlv.prs] using this

/-- Where reading begins. -/
def st0 (bs : List UInt8) : Tlv.St := ((Tlv.parse bs).2, (Tlv.parse bs).1)

set_option maxRecDepth 100000 in
theorem open_any (A : Option Addr) (n c : Nat) (bs : List UInt8) (w : World) (hr : Rd w w.heap.size A n bs) (hnc : n ≤ c) (hn : n ≤ 1000000) :
    Calls Try.prog 19 #[.slice A n c] w fun e w' => ∃ g, e = .returned (.pointer (some ⟨g, 0, none⟩)) ∧ RdrAt w' g (st0 bs) ∧ w.heap.size ≤ g ∧ w'.heap.size = g + 1 ∧ Below w.heap.size w w' := by
  have HP := Lib.hid (parse_any A n c bs w hr hnc hn)
  have hpl : (Tlv.parse bs).2.length ≤ 1000000 := by
    have := parse_len bs
    rw [hr.len] at this
    omega
  obtain ⟨s, hs⟩ : ∃ s, st0 bs = s := ⟨_, rfl⟩
  have e1 : (Tlv.parse bs).1 = s.2 := by rw [← hs]; rfl
  have e2 : (Tlv.parse bs).2 = s.1 := by rw [← hs]; rfl
  rw [hs]
  rw [e2] at hpl
  have HE := Lib.hid (And.intro e1 (And.intro e2 hpl))
  clear hr hs e1 e2 hpl
  go_enter Try.func19, Try.ntmps19
  go_wp2_with fail
  refine HP.out.mono ?_
  rintro e w1 ⟨A1, n1, c1, rfl, hf, hc1, hb⟩
  rw [HE.out.1]
  rw [HE.out.2.1] at hf
  have hn1 : n1 ≤ 9223372036854775807 := by
    have := HE.out.2.2
    rw [hf.len] at this
    omega
  have HH := Lib.hid (And.intro hf (And.intro hc1 (And.intro hb hn1)))
  clear HP hf hc1 hb hn1
  go_wp2_with fail
  go_ret
  obtain ⟨hf, hc1, hb, hn1⟩ := HH.out
  have ha : Below w1.heap.size w1 (w1.alloc (.cells #[.slice A1 n1 c1, .int .i64 s.2] 73)) := (Below.refl _ _).alloc (Nat.le_refl _) _
  exact ⟨w1.heap.size, rfl, ⟨A1, n1, c1, Whole.made w1 73 _, hf.below ha (Nat.le_refl _), hc1, hn1⟩, hb.size, size_alloc _ _, hb.trans (ha.mono hb.size)⟩

/-- How memory stands while a packet (or another struct, of type ty) is read: the result's block, the reader, the variable's block. -/
structure RP (ty : TypeId) (w wx : World) (g gp : Nat) (z : Array Value) (s : Tlv.St) (cs : Array Value) : Prop where
  res : Whole wx w.heap.size ty z
  rdr : RdrAt wx g s
  var : Whole wx gp ty cs
  bel : Below w.heap.size w wx
  lo : w.heap.size < g
  hi : g < gp
section
variable {ty : TypeId} {w wx wy : World} {g gp : Nat} {z cs : Array Value} {s s' : Tlv.St}
theorem RP.call (h : RP ty w wx g gp z s cs) (hon : On g wx wy) (hr : RdrAt wy g s') : RP ty w wy g gp z s' cs :=
  ⟨hon.whole h.res (by have := h.lo; omega), hr, hon.whole h.var (by have := h.hi; omega), h.bel.trans (hon.below (Nat.le_trans h.bel.size (Nat.le_refl _)) (Nat.le_of_lt h.lo)), h.lo, h.hi⟩
theorem RP.set (h : RP ty w wx g gp z s cs) (i : Nat) (u : Value) : RP ty w (wx.setCell ⟨gp, i, none⟩ u) g gp z s (cs.setIfInBounds i u) :=
  ⟨h.res.other (p := ⟨gp, i, none⟩) (show w.heap.size ≠ gp by have := h.lo; have := h.hi; omega) u,
    h.rdr.keep ((Below.refl (g + 1) wx).setCell (p := ⟨gp, i, none⟩) h.hi u), h.var.set i u, h.bel.setCell (p := ⟨gp, i, none⟩) (show w.heap.size ≤ gp by have := h.lo; have := h.hi; omega) u, h.lo, h.hi⟩
theorem RP.setCells (h : RP ty w wx g gp z s cs) (o : Nat) (vs : List Value) (cs' : Array Value) (hv : Whole (wx.setCells gp o vs) gp ty cs') : RP ty w (wx.setCells gp o vs) g gp z s cs' :=
  ⟨h.res.setOther (b := gp) (show w.heap.size ≠ gp by have := h.lo; have := h.hi; omega) vs o,
    h.rdr.keep (below_setCells wx gp vs o (Below.refl (g + 1) wx) h.hi), hv, below_setCells w gp vs o h.bel (show w.heap.size ≤ gp by have := h.lo; have := h.hi; omega), h.lo, h.hi⟩
end

def pzero : Array Value := pcells 0 0 0 [] 0 [] []
def Pk.cells (p : Tlv.Pk) (z : Int) : Array Value := pcells z p.seq p.tm p.den p.amt p.frm p.dst
theorem pcells_one (z : Int) (seq tm : Nat) (den : List UInt8) (amt : Nat) (frm dst : List UInt8) : (pcells z seq tm den amt frm dst).all (·.oneCell') = true := by
  simp [pcells, Value.oneCell']

def ReadPost (w : World) (r : Nat × Tlv.Pk) (e : Ending) (w' : World) : Prop :=
  ∃ z seq tm den amt frm dst, e = .returned (.tuple #[.agg (pcells z seq tm den amt frm dst), .int .i64 r.1]) ∧ (r.1 = 0 → r.2.ch < 4 → z = r.2.ch ∧ seq = r.2.seq ∧ tm = r.2.tm ∧ den = r.2.den ∧ amt = r.2.amt ∧ frm = r.2.frm ∧ dst = r.2.dst) ∧ Below w.heap.size w w'

theorem wrap_small (n : Nat) (h : n < 4) : wrap64 (n : Int) = n := by
  unfold wrap64
  omega

set_option maxRecDepth 100000 in
set_option maxHeartbeats 400000 in
theorem readPacket_any (A : Option Addr) (n c : Nat) (bs : List UInt8) (w : World) (hr : Rd w w.heap.size A n bs) (hnc : n ≤ c) (hn : n ≤ 1000000) :
    Calls Try.prog 10 #[.slice A n c] w (ReadPost w (Tlv.readP (st0 bs))) := by
  have HR := Lib.hid hr
  clear hr
  have hw0 : Whole (w.alloc (.cells pzero 24)) w.heap.size 24 pzero := Whole.made w 24 _
  have hb0 : Below w.heap.size w (w.alloc (.cells pzero 24)) := (Below.refl _ _).alloc (Nat.le_refl _) _
  have hs0 : (w.alloc (.cells pzero 24)).heap.size = w.heap.size + 1 := size_alloc _ _
  have HP := Lib.hid (open_any A n c bs (w.alloc (.cells pzero 24)) ((HR.out.below hb0 (Nat.le_refl _)).more hb0.size) hnc hn)
  have HH := Lib.hid (And.intro hw0 (And.intro hb0 hs0))
  clear hw0 hb0 hs0
  obtain ⟨s0, hs0⟩ : ∃ s, st0 bs = s := ⟨_, rfl⟩
  obtain ⟨⟨n1, s1⟩, h1⟩ : ∃ x, Tlv.rnum 1 s0 = x := ⟨_, rfl⟩
  obtain ⟨s1', h1'⟩ : ∃ x, Tlv.refuse (decide (4 ≤ n1)) 2 s1 = x := ⟨_, rfl⟩
  obtain ⟨⟨n2, s2⟩, h2⟩ : ∃ x, Tlv.rnum 2 s1' = x := ⟨_, rfl⟩
  obtain ⟨⟨n3, s3⟩, h3⟩ : ∃ x, Tlv.rnum 3 s2 = x := ⟨_, rfl⟩
  obtain ⟨⟨t4, s4⟩, h4⟩ : ∃ x, Tlv.rtext 4 s3 = x := ⟨_, rfl⟩
  obtain ⟨⟨n5, s5⟩, h5⟩ : ∃ x, Tlv.rnum 5 s4 = x := ⟨_, rfl⟩
  obtain ⟨⟨t6, s6⟩, h6⟩ : ∃ x, Tlv.rtext 6 s5 = x := ⟨_, rfl⟩
  obtain ⟨⟨t7, s7⟩, h7⟩ : ∃ x, Tlv.rtext 7 s6 = x := ⟨_, rfl⟩
  obtain ⟨k, hk⟩ : ∃ k, Tlv.rend s7 = k := ⟨_, rfl⟩
  have hRR : Tlv.readP (st0 bs) = (k, ⟨n1, n2, n3, t4, n5, t6, t7⟩) := by
    unfold Tlv.readP
    simp only [hs0, h1, h1', h2, h3, h4, h5, h6, h7, hk]
  rw [hRR]
  rw [hs0] at HP
  have HN1 : Hid (n1 < 18446744073709551616) := Lib.hid (by
    have e := congrArg Prod.fst h1
    simp only [Tlv.rnum] at e
    rw [← e]
    unfold Tlv.numv
    split
    · rename_i hok
      have := (Tlv.okv_back hok).2.2
      rwa [(Tlv.okv_back hok).1] at this
    · omega)
  have H1 := Lib.hid h1
  have H1' := Lib.hid h1'
  have H2 := Lib.hid h2
  have H3 := Lib.hid h3
  have H4 := Lib.hid h4
  have H5 := Lib.hid h5
  have H6 := Lib.hid h6
  have H7 := Lib.hid h7
  have HKK := Lib.hid hk
  clear hRR hs0 h1 h1' h2 h3 h4 h5 h6 h7 hk
  go_enter Try.func10, Try.ntmps10
  go_upto_region 1 with (fail)
  have hun : w.alloc (.cells #[.int .i64 0, .int .u64 0, .int .u64 0, .string ⟨#[]⟩, .int .u64 0, .string ⟨#[]⟩, .string ⟨#[]⟩] 24) = w.alloc (.cells pzero 24) := rfl
  rw [hun]
  clear hun
  generalize w.alloc (.cells pzero 24) = w0 at *
  go_wp2_with fail
  refine HP.out.mono ?_
  rintro e w1 ⟨g, rfl, hrd, hgl, hsz, hb⟩
  obtain ⟨hw0, hb0, hs0⟩ := HH.out
  have hw1 := hw0.below hb hw0.lt
  have hb1 := hb0.trans (hb.mono hb0.size)
  have hlo : w.heap.size < g := by omega
  have H0 := Lib.hid (And.intro hw1 (And.intro hb1 hrd))
  clear hw0 hb0 hs0 hb hw1 hb1 hrd HP HH hgl hsz
  have HP := Lib.hid (number_any g s0 1 1 (by decide) w1 H0.out.2.2)
  rw [H1.out] at HP
  go_wp2_with fail
  refine HP.out.mono ?_
  rintro e w2 ⟨rfl, hrd, hon, hsz⟩
  have H0' := Lib.hid (And.intro (hon.whole H0.out.1 (by omega)) (And.intro (H0.out.2.1.trans (hon.below H0.out.2.1.size (by omega))) hrd))
  clear HP hrd hon H0 hsz
  have HP : Hid (Calls Try.prog 21 #[.pointer (some ⟨g, 0, none⟩), .bool (decide (4 ≤ (n1 : Int))), .int .i64 2] w2 (RefusePost w2 g s1')) := Lib.hid (by
    have hbad : decide (4 ≤ (n1 : Int)) = decide (4 ≤ n1) := by
      congr 1
      apply propext
      omega
    rw [hbad, ← H1'.out]
    exact refuse_any g s1 _ 2 2 rfl w2 H0'.out.2.2)
  have hn1 := HN1.out
  go_wp2_with fail
  refine HP.out.mono ?_
  rintro e w3 ⟨rfl, hrd, hon, hsz⟩
  have H3' := Lib.hid (And.intro (hon.whole H0'.out.1 (by omega)) (And.intro (H0'.out.2.1.trans (hon.below H0'.out.2.1.size (by omega))) hrd))
  have hg3 : g < w3.heap.size := hrd.lt
  clear HP hrd hon H0' hsz
  obtain ⟨z, hz⟩ : ∃ z, wrap64 (n1 : Int) = z := ⟨_, rfl⟩
  have HZ : Hid (n1 < 4 → z = n1) := Lib.hid (fun h => by rw [← hz]; exact wrap_small n1 h)
  go_upto_region 5 with (fail)
  clear hz hn1
  have hun : w3.alloc (.cells #[.int .i64 z, .int .u64 0, .int .u64 0, .string ⟨#[]⟩, .int .u64 0, .string ⟨#[]⟩, .string ⟨#[]⟩] 24) = w3.alloc (.cells (pcells z 0 0 [] 0 [] []) 24) := rfl
  rw [hun]
  clear hun
  have hba : Below w3.heap.size w3 (w3.alloc (.cells (pcells z 0 0 [] 0 [] []) 24)) := (Below.refl _ _).alloc (Nat.le_refl _) _
  have hrp : RP 24 w (w3.alloc (.cells (pcells z 0 0 [] 0 [] []) 24)) g w3.heap.size pzero s1' (pcells z 0 0 [] 0 [] []) :=
    ⟨H3'.out.1.alloc _, H3'.out.2.2.keep (hba.mono hg3), Whole.made w3 24 _, H3'.out.2.1.alloc H3'.out.2.1.size _, hlo, hg3⟩
  have HRP := Lib.hid hrp
  clear hrp hba H3' hg3
  generalize w3.alloc (.cells (pcells z 0 0 [] 0 [] []) 24) = w4 at *
  generalize w3.heap.size = gp at *
  have HP := Lib.hid (number_any g s1' 2 2 (by decide) w4 HRP.out.rdr)
  rw [H2.out] at HP
  go_wp2_with fail
  refine HP.out.mono ?_
  rintro e u4 ⟨rfl, hrd, hon, hsz⟩
  have HQ := Lib.hid (HRP.out.call hon hrd)
  have cc := HQ.out.var.at_ (i := 1) rfl
  have ff := HQ.out.var.free 1
  clear HP hrd hon hsz HRP
  go_upto_region 6 with (fail)
  have hrp : RP 24 w (u4.setCell ⟨gp, 1, none⟩ (.int .u64 n2)) g gp pzero s2 (pcells z n2 0 [] 0 [] []) := HQ.out.set 1 (.int .u64 n2)
  have HRP := Lib.hid hrp
  clear hrp HQ cc ff
  generalize u4.setCell ⟨gp, 1, none⟩ (.int .u64 n2) = w5 at *
  have HP := Lib.hid (number_any g s2 3 3 (by decide) w5 HRP.out.rdr)
  rw [H3.out] at HP
  go_wp2_with fail
  refine HP.out.mono ?_
  rintro e u5 ⟨rfl, hrd, hon, hsz⟩
  have HQ := Lib.hid (HRP.out.call hon hrd)
  have cc := HQ.out.var.at_ (i := 2) rfl
  have ff := HQ.out.var.free 2
  clear HP hrd hon hsz HRP
  go_upto_region 7 with (fail)
  have hrp : RP 24 w (u5.setCell ⟨gp, 2, none⟩ (.int .u64 n3)) g gp pzero s3 (pcells z n2 n3 [] 0 [] []) := HQ.out.set 2 (.int .u64 n3)
  have HRP := Lib.hid hrp
  clear hrp HQ cc ff
  generalize u5.setCell ⟨gp, 2, none⟩ (.int .u64 n3) = w6 at *
  have HP := Lib.hid (text_any g s3 4 4 (by decide) w6 HRP.out.rdr)
  rw [H4.out] at HP
  go_wp2_with fail
  refine HP.out.mono ?_
  rintro e u6 ⟨rfl, hrd, hon, hsz⟩
  have HQ := Lib.hid (HRP.out.call hon hrd)
  have cc := HQ.out.var.at_ (i := 3) rfl
  have ff := HQ.out.var.free 3
  clear HP hrd hon hsz HRP
  go_upto_region 8 with (fail)
  have hrp : RP 24 w (u6.setCell ⟨gp, 3, none⟩ (.string ⟨t4.toArray⟩)) g gp pzero s4 (pcells z n2 n3 t4 0 [] []) := HQ.out.set 3 (.string ⟨t4.toArray⟩)
  have HRP := Lib.hid hrp
  clear hrp HQ cc ff
  generalize u6.setCell ⟨gp, 3, none⟩ (.string ⟨t4.toArray⟩) = w7 at *
  have HP := Lib.hid (number_any g s4 5 5 (by decide) w7 HRP.out.rdr)
  rw [H5.out] at HP
  go_wp2_with fail
  refine HP.out.mono ?_
  rintro e u7 ⟨rfl, hrd, hon, hsz⟩
  have HQ := Lib.hid (HRP.out.call hon hrd)
  have cc := HQ.out.var.at_ (i := 4) rfl
  have ff := HQ.out.var.free 4
  clear HP hrd hon hsz HRP
  go_upto_region 9 with (fail)
  have hrp : RP 24 w (u7.setCell ⟨gp, 4, none⟩ (.int .u64 n5)) g gp pzero s5 (pcells z n2 n3 t4 n5 [] []) := HQ.out.set 4 (.int .u64 n5)
  have HRP := Lib.hid hrp
  clear hrp HQ cc ff
  generalize u7.setCell ⟨gp, 4, none⟩ (.int .u64 n5) = w8 at *
  have HP := Lib.hid (text_any g s5 6 6 (by decide) w8 HRP.out.rdr)
  rw [H6.out] at HP
  go_wp2_with fail
  refine HP.out.mono ?_
  rintro e u8 ⟨rfl, hrd, hon, hsz⟩
  have HQ := Lib.hid (HRP.out.call hon hrd)
  have cc := HQ.out.var.at_ (i := 5) rfl
  have ff := HQ.out.var.free 5
  clear HP hrd hon hsz HRP
  go_upto_region 10 with (fail)
  have hrp : RP 24 w (u8.setCell ⟨gp, 5, none⟩ (.string ⟨t6.toArray⟩)) g gp pzero s6 (pcells z n2 n3 t4 n5 t6 []) := HQ.out.set 5 (.string ⟨t6.toArray⟩)
  have HRP := Lib.hid hrp
  clear hrp HQ cc ff
  generalize u8.setCell ⟨gp, 5, none⟩ (.string ⟨t6.toArray⟩) = w9 at *
  have HP := Lib.hid (text_any g s6 7 7 (by decide) w9 HRP.out.rdr)
  rw [H7.out] at HP
  go_wp2_with fail
  refine HP.out.mono ?_
  rintro e u9 ⟨rfl, hrd, hon, hsz⟩
  have HQ := Lib.hid (HRP.out.call hon hrd)
  have cc := HQ.out.var.at_ (i := 6) rfl
  have ff := HQ.out.var.free 6
  clear HP hrd hon hsz HRP
  go_upto_region 11 with (fail)
  have hrp : RP 24 w (u9.setCell ⟨gp, 6, none⟩ (.string ⟨t7.toArray⟩)) g gp pzero s7 (pcells z n2 n3 t4 n5 t6 t7) := HQ.out.set 6 (.string ⟨t7.toArray⟩)
  have HRP := Lib.hid hrp
  clear hrp HQ cc ff
  generalize u9.setCell ⟨gp, 6, none⟩ (.string ⟨t7.toArray⟩) = w10 at *
  have HP := Lib.hid (end_any g s7 w10 HRP.out.rdr)
  rw [HKK.out] at HP
  go_wp2_with fail
  refine HP.out.mono ?_
  rintro e w11 ⟨rfl, hon, hsz⟩
  have hres := hon.whole HRP.out.res (by omega)
  have hvar := hon.whole HRP.out.var (by have := HRP.out.hi; omega)
  have hbel := HRP.out.bel.trans (hon.below HRP.out.bel.size (by omega))
  have HE := Lib.hid (And.intro hres (And.intro hvar hbel))
  clear HP hon hsz HRP hres hvar hbel
  by_cases hk0 : k = 0
  · subst hk0
    go_upto_region 14 with (fail)
    refine wp_region_lit ?_
    refine wpList_load_g rfl 24 (.tmp 6) rfl gp rfl 24 (pcells z n2 n3 t4 n5 t6 t7) _ HE.out.2.1 Try.underlying24 rfl info24 ?_
    go_simp
    refine wpList_store_mid rfl 24 (.tmp 2) (.tmp 43) rfl w.heap.size 0 (pcells z n2 n3 t4 n5 t6 t7) rfl rfl HE.out.1.there_ info24 (pcells_one _ _ _ _ _ _ _) ?_
    have HW := Lib.hid (HE.out.1.setAll (vs := pcells z n2 n3 t4 n5 t6 t7) rfl)
    have HB := Lib.hid (below_setCells w w.heap.size (pcells z n2 n3 t4 n5 t6 t7).toList 0 HE.out.2.2 (Nat.le_refl _))
    generalize w11.setCells w.heap.size 0 (pcells z n2 n3 t4 n5 t6 t7).toList = w12 at *
    go_wp2_with fail
    refine bodyPost_ret (results_cell2 Try.results10 _ _ _ ⟨w.heap.size, 0, none⟩ _ rfl (load_whole HW.out 24 _ Try.underlying24 rfl info24)) rfl ⟨z, n2, n3, t4, n5, t6, t7, rfl, fun _ h4 => ⟨HZ.out h4, rfl, rfl, rfl, rfl, rfl, rfl⟩, HB.out⟩
  · have q : ((k : Int) == 0) = false := by simp; omega
    have HK0 := Lib.hid hk0
    clear hk0
    go_upto_region 13 with (fail)
    refine wp_region_lit ?_
    iterate 6 go_step
    refine wpList_store_mid rfl 24 (.tmp 2) (.tmp 41) rfl w.heap.size 0 pzero rfl rfl HE.out.1.there_ info24 (pcells_one _ _ _ _ _ _ _) ?_
    have HW := Lib.hid (HE.out.1.setAll (vs := pzero) rfl)
    have HB := Lib.hid (below_setCells w w.heap.size pzero.toList 0 HE.out.2.2 (Nat.le_refl _))
    generalize w11.setCells w.heap.size 0 pzero.toList = w12 at *
    go_wp2_with fail
    refine bodyPost_ret (results_cell2 Try.results10 _ _ _ ⟨w.heap.size, 0, none⟩ _ rfl (load_whole HW.out 24 _ Try.underlying24 rfl info24)) rfl ⟨0, 0, 0, [], 0, [], [], rfl, fun h0 => absurd h0 HK0.out, HB.out⟩
end Go.Proofs.Ytjepbnhlnomhlaa
