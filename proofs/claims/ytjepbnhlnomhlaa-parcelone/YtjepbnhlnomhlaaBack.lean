/-
  What the statement's function ParcelBack returns: true, whatever packet, answer and header come in; conditions: their numbers have 64 bits, their texts are no longer than memory can be, their sums have 32 bytes. It only makes memory of its own.
-/
import Derived.Test.YtjepbnhlnomhlaaAwake
import Derived.Test.YtjepbnhlnomhlaaReadA
import Derived.Test.YtjepbnhlnomhlaaReadH
import Derived.Test.YtjepbnhlnomhlaaEq
namespace Go.Proofs.Ytjepbnhlnomhlaa
open Go.RowKit

theorem chan_four (z : Int) : ∃ ch : Nat, ch < 4 ∧ wrap64 ((IntKind.u64.wrap z).tmod 4) = ch := by
  have h0 : 0 ≤ IntKind.u64.wrap z := by
    simp only [IntKind.wrap]
    simp [IntKind.bits, IntKind.signed]
    omega
  rw [Int.tmod_eq_emod_of_nonneg h0]
  refine ⟨(IntKind.u64.wrap z % 4).toNat, by omega, ?_⟩
  unfold wrap64
  omega
theorem code_small (c : Int) : ∃ k : Nat, k < 1073741824 ∧ max (c.tmod 1073741824) (wrap64 (-c.tmod 1073741824)) = k := by
  have h1 := Int.tmod_lt_of_pos c (show (0 : Int) < 1073741824 by omega)
  have h2 := Int.lt_tmod_of_pos c (show (0 : Int) < 1073741824 by omega)
  generalize c.tmod 1073741824 = t at *
  have hw : wrap64 (-t) = -t := by
    unfold wrap64
    omega
  rw [hw]
  refine ⟨(max t (-t)).toNat, by omega, by omega⟩

/-- How memory stands: the packet, the answer, the header. -/
structure BK (w wx : World) (P A H : Array Value) : Prop where
  p : Whole wx w.heap.size 24 P
  a : Whole wx (w.heap.size + 1) 27 A
  h : Whole wx (w.heap.size + 1 + 1) 31 H
  bel : Below w.heap.size w wx
theorem BK.step {w wx wy : World} {P A H : Array Value} (k : BK w wx P A H) (hb : Below wx.heap.size wx wy) : BK w wy P A H :=
  ⟨k.p.below hb k.p.lt, k.a.below hb k.a.lt, k.h.below hb k.h.lt, k.bel.trans (hb.mono k.bel.size)⟩
theorem BK.set1 {w wx : World} {P H : Array Value} {ok : Bool} {c : Int} (k : BK w wx P #[.bool ok, .int .i64 c] H) (u : Value) : BK w (wx.setCell ⟨w.heap.size + 1, 1, none⟩ u) P #[.bool ok, u] H :=
  ⟨k.p.other (p := ⟨w.heap.size + 1, 1, none⟩) (show w.heap.size ≠ w.heap.size + 1 by omega) u, k.a.set 1 u,
    k.h.other (p := ⟨w.heap.size + 1, 1, none⟩) (show w.heap.size + 1 + 1 ≠ w.heap.size + 1 by omega) u, k.bel.setCell (p := ⟨w.heap.size + 1, 1, none⟩) (show w.heap.size ≤ w.heap.size + 1 by omega) u⟩
theorem BK.set0 {w wx : World} {A H : Array Value} {z : Int} {seq tm amt : Nat} {den frm dst : List UInt8} (k : BK w wx (pcells z seq tm den amt frm dst) A H) (z' : Int) : BK w (wx.setCell ⟨w.heap.size, 0, none⟩ (.int .i64 z')) (pcells z' seq tm den amt frm dst) A H :=
  ⟨k.p.set 0 _, k.a.other (p := ⟨w.heap.size, 0, none⟩) (show w.heap.size + 1 ≠ w.heap.size by omega) _,
    k.h.other (p := ⟨w.heap.size, 0, none⟩) (show w.heap.size + 1 + 1 ≠ w.heap.size by omega) _, k.bel.setCell (p := ⟨w.heap.size, 0, none⟩) (Nat.le_refl _) _⟩
theorem ackb_len (ok : Bool) (k : Nat) (hk : k < 18446744073709551616) : (ackb ok k).length ≤ 1000 := by
  have h1 := Tlv.num_len8 k hk
  have h2 := Tlv.num_len8 1 (by omega)
  have h3 := Tlv.put_length [] 1 (Tlv.num 1)
  have h4 := Tlv.put_length (if ok = true then Tlv.put [] 1 (Tlv.num 1) else []) 2 (Tlv.num k)
  have h5 : (if ok = true then Tlv.put [] 1 (Tlv.num 1) else []).length ≤ 11 := by
    split
    · simp at h3; omega
    · simp
  unfold ackb
  omega
theorem hd_len (h : Tlv.Hd) (hh : h.ok) : h.bytes.length ≤ 900000 := by
  obtain ⟨h1, h2, h3, h4, h5, h6⟩ := hh
  unfold Tlv.Hd.bytes
  exact Nat.le_trans (putSum_length _ _ _ _ 393228 (putSum_length _ _ _ _ 327690 (putSum_length _ _ _ _ 262152 (putSum_length _ _ _ _ 196614 (put_len (n := 65538) (put_len (n := 0) (Nat.le_refl _) (num_len h1) rfl) (num_len h2) rfl) h3 rfl) h4 rfl) h5 rfl) h6 rfl) (by omega)
theorem Rd.step {wx wy : World} {A : Option Addr} {n : Nat} {bs : List UInt8} (h : Rd wx wx.heap.size A n bs) (hb : Below wx.heap.size wx wy) : Rd wy wy.heap.size A n bs := (h.below hb (Nat.le_refl _)).more hb.size
theorem Whole.step {wx wy : World} {g : Nat} {t : TypeId} {cs : Array Value} (h : Whole wx g t cs) (hb : Below wx.heap.size wx wy) : Whole wy g t cs := h.below hb h.lt
theorem put_len2 (b v : List UInt8) (t : UInt8) (n m k : Nat) (hb : b.length ≤ n) (hv : v.length ≤ m) (hk : n + m + 3 ≤ k) : (Tlv.put b t v).length ≤ k := by
  have := Tlv.put_length b t v
  omega
theorem pkt_len (ch seq tm : Nat) (den : List UInt8) (amt : Nat) (frm dst : List UInt8) (hch : ch < 4) (hseq : seq < 18446744073709551616) (htm : tm < 18446744073709551616) (hamt : amt < 18446744073709551616) :
    (pkt ch seq tm den amt frm dst).length ≤ den.length + frm.length + dst.length + 60 := by
  have h1 := Tlv.num_len8 ch (by omega)
  have h2 := Tlv.num_len8 seq hseq
  have h3 := Tlv.num_len8 tm htm
  have h5 := Tlv.num_len8 amt hamt
  unfold pkt
  refine put_len2 _ _ _ _ _ _ (put_len2 _ _ _ _ _ _ (put_len2 _ _ _ _ _ _ (put_len2 _ _ _ _ _ _ (put_len2 _ _ _ _ _ _ (put_len2 _ _ _ _ _ _ (put_len2 _ _ _ 0 8 11 (by simp) h1 (by omega)) h2 (Nat.le_refl _)) h3 (Nat.le_refl _)) (Nat.le_refl _) (Nat.le_refl _)) h5 (Nat.le_refl _)) (Nat.le_refl _) (Nat.le_refl _)) (Nat.le_refl _) ?_
  omega
theorem st0_of {bs : List UInt8} {fs : Tlv.Fs} (h : Tlv.parse bs = (0, fs)) : st0 bs = (fs, 0) := by
  unfold st0
  rw [h]
theorem above_nine {k : Nat} (hk : k < 9) : Tlv.above k [((9 : UInt8), [(1 : UInt8)])] := Tlv.above_one (by show k < 9; exact hk)
theorem fine_nine {k : Nat} (hk : k ≤ 9) : Tlv.fineFrom k [((9 : UInt8), [(1 : UInt8)])] := Tlv.fineFrom_cons (by show k ≤ 9; exact hk) (by simp) (by simp) (Tlv.fineFrom_nil _)
theorem packet_back (p : Tlv.Pk) (hp : p.ok) : Tlv.readP (st0 p.bytes) = (0, p) := by
  have hb := p.body_fields []
  rw [Tlv.body_nil, List.append_nil] at hb
  rw [st0_of (by rw [hb]; exact p.parse_fields hp [] (Tlv.fineFrom_nil _)), p.read_fields hp [] (Tlv.above_nil _)]
  rfl
theorem packet_more (p : Tlv.Pk) (hp : p.ok) : (Tlv.readP (st0 (Tlv.put p.bytes 9 [1]))).1 = 8 := by
  have hb := p.body_fields [(9, [1])]
  rw [show p.bytes ++ Tlv.body [((9 : UInt8), [(1 : UInt8)])] = Tlv.put p.bytes 9 [1] from rfl] at hb
  rw [st0_of (by rw [hb]; exact p.parse_fields hp _ (fine_nine (by omega))), p.read_fields hp _ (above_nine (by omega))]
  rfl
theorem header_back (h : Tlv.Hd) (hh : h.ok) : Tlv.readH (st0 h.bytes) = (0, h) := by
  have hb := h.body_fields hh []
  rw [Tlv.body_nil, List.append_nil] at hb
  rw [st0_of (by rw [hb]; exact h.parse_fields hh [] (Tlv.fineFrom_nil _)), h.read_fields hh [] (Tlv.above_nil _)]
  rfl
theorem header_more (h : Tlv.Hd) (hh : h.ok) : (Tlv.readH (st0 (Tlv.put h.bytes 9 [1]))).1 = 8 := by
  have hb := h.body_fields hh [(9, [1])]
  rw [show h.bytes ++ Tlv.body [((9 : UInt8), [(1 : UInt8)])] = Tlv.put h.bytes 9 [1] from rfl] at hb
  rw [st0_of (by rw [hb]; exact h.parse_fields hh _ (fine_nine (by omega))), h.read_fields hh _ (above_nine (by omega))]
  rfl
theorem ack_back (ok : Bool) (k : Nat) (hk : k ≤ 2147483648) (h : ok = decide (k = 0)) : Tlv.readA (st0 (ackb ok k)) = (0, (ok, k)) := by
  obtain ⟨fs, h1, h2⟩ := Tlv.ack_parse ok k hk h
  rw [st0_of h1, h2]
theorem below_made (w : World) (o : Obj) : Below w.heap.size w (w.alloc o) := (Below.refl _ _).alloc (Nat.le_refl _) _

def bcell (ok : Bool) (c : Int) : Array Value := #[.bool ok, .int .i64 c]

set_option maxRecDepth 100000 in
set_option maxHeartbeats 1000000 in
theorem back_any (z : Int) (seq tm : Nat) (den : List UInt8) (amt : Nat) (frm dst : List UInt8) (ok : Bool) (c : Int) (ht ti : Nat) (r v x y : List UInt8) (w : World)
    (hseq : seq < 18446744073709551616) (htm : tm < 18446744073709551616) (hamt : amt < 18446744073709551616) (hht : ht < 18446744073709551616) (hti : ti < 18446744073709551616)
    (h1 : r.length = 32) (h2 : v.length = 32) (h3 : x.length = 32) (h4 : y.length = 32)
    (ha : den.length ≤ 140737488355328) (hb : frm.length ≤ 140737488355328) (hc : dst.length ≤ 140737488355328) :
    Calls Try.prog 3 #[.agg (pcells z seq tm den amt frm dst), .agg (bcell ok c), .agg (hcells ht ti r v x y)] w fun e w' => e = .returned (.bool true) ∧ Below w.heap.size w w' := by
  have HL := Lib.hid (And.intro h1 (And.intro h2 (And.intro h3 h4)))
  have HHT := Lib.hid (And.intro hht hti)
  have HSZ := Lib.hid (hcells_size ht ti r v x y h1 h2 h3 h4)
  have HONE := Lib.hid (hcells_one ht ti r v x y)
  have HEQ := Lib.hid (fun w => eq31 ht ti r v x y h1 h2 h3 h4 w)
  have HSQ := Lib.hid (And.intro hseq (And.intro htm hamt))
  obtain ⟨la, hla⟩ : ∃ n, den.length = n := ⟨_, rfl⟩
  obtain ⟨lb, hlb⟩ : ∃ n, frm.length = n := ⟨_, rfl⟩
  obtain ⟨lc, hlc⟩ : ∃ n, dst.length = n := ⟨_, rfl⟩
  rw [hla] at ha
  rw [hlb] at hb
  rw [hlc] at hc
  have HLEN := Lib.hid (And.intro hla (And.intro hlb hlc))
  have hbel : Below w.heap.size w (((w.alloc (.cells (pcells z seq tm den amt frm dst) 24)).alloc (.cells (bcell ok c) 27)).alloc (.cells (hcells ht ti r v x y) 31)) := (((Below.refl _ _).alloc (Nat.le_refl _) _).alloc (by simp) _).alloc (by simp; omega) _
  have hwp := ((Whole.made w 24 (pcells z seq tm den amt frm dst)).alloc (.cells (bcell ok c) 27)).alloc (.cells (hcells ht ti r v x y) 31)
  have hwa := (Whole.made (w.alloc (.cells (pcells z seq tm den amt frm dst) 24)) 27 (bcell ok c)).alloc (.cells (hcells ht ti r v x y) 31)
  have hwh := Whole.made ((w.alloc (.cells (pcells z seq tm den amt frm dst) 24)).alloc (.cells (bcell ok c) 27)) 31 (hcells ht ti r v x y)
  rw [size_alloc] at hwa hwh
  rw [size_alloc] at hwh
  have H0 := Lib.hid (And.intro hwp (And.intro hwa (And.intro hwh hbel)))
  clear hla hlb hlc h1 h2 h3 h4 hht hti hseq htm hamt hbel hwp hwa hwh
  go_enter Try.func3, Try.ntmps3
  go_upto_region 1 with (fail)
  generalize ((w.alloc (.cells (pcells z seq tm den amt frm dst) 24)).alloc (.cells (bcell ok c) 27)).alloc (.cells (hcells ht ti r v x y) 31) = w0 at *
  obtain ⟨H, hH⟩ : ∃ X, hcells ht ti r v x y = X := ⟨_, rfl⟩
  rw [hH] at H0 HSZ HONE HEQ ⊢
  have HH := Lib.hid hH
  clear hH
  go_wp2_with fail
  refine (awake_any w0).mono ?_
  rintro e w1 ⟨rfl, hbb⟩
  have HP1 := Lib.hid (H0.out.1.below hbb H0.out.1.lt)
  have HA1 := Lib.hid (H0.out.2.1.below hbb H0.out.2.1.lt)
  have HH1 := Lib.hid (H0.out.2.2.1.below hbb H0.out.2.2.1.lt)
  have HB1 := Lib.hid (H0.out.2.2.2.trans (hbb.mono H0.out.2.2.2.size))
  clear hbb H0
  obtain ⟨c0, c1, c2, c3, c4, c5, c6⟩ := pbox HP1.out
  go_wp2_with fail
  refine (long_any z seq tm den amt frm dst w1 la lb lc HLEN.out.1 HLEN.out.2.1 HLEN.out.2.2 ha hb hc).mono ?_
  rintro e w2 ⟨rfl, hbb⟩
  have HP2 := Lib.hid (HP1.out.below hbb HP1.out.lt)
  have HA2 := Lib.hid (HA1.out.below hbb HA1.out.lt)
  have HH2 := Lib.hid (HH1.out.below hbb HH1.out.lt)
  have HB2 := Lib.hid (HB1.out.trans (hbb.mono HB1.out.size))
  clear hbb HP1 HA1 HH1 HB1 c0 c1 c2 c3 c4 c5 c6
  by_cases h3000 : 3000 < la + lb + lc
  · go_wp2_with fail
    go_ret
    exact ⟨rfl, HB2.out⟩
  have q0 : decide (3000 < la + lb + lc) = false := by simp; omega
  have HLE : Hid (den.length ≤ 65535 ∧ frm.length ≤ 65535 ∧ dst.length ≤ 65535 ∧ den.length + frm.length + dst.length ≤ 3000) := Lib.hid (by have := HLEN.out; omega)
  clear h3000 HLEN ha hb hc
  have c0 := (pbox HP2.out).1
  have f0 := HP2.out.free 0
  have d1 : w2.cell? ⟨w.heap.size + 1, 1, none⟩ = some (.int .i64 c) := HA2.out.at_ rfl
  have d0 : w2.cell? ⟨w.heap.size + 1, 0, none⟩ = some (.bool ok) := HA2.out.at_ rfl
  have e1 := HA2.out.free 1
  obtain ⟨ch, hch4, hch⟩ := chan_four z
  obtain ⟨k0, hk4, hk0⟩ := code_small c
  obtain ⟨t0, ht0⟩ : ∃ t, c.tmod 1073741824 = t := ⟨_, rfl⟩
  rw [ht0] at hk0
  have hbk : BK w (((w2.setCell ⟨w.heap.size, 0, none⟩ (.int .i64 ch)).setCell ⟨w.heap.size + 1, 1, none⟩ (.int .i64 t0)).setCell ⟨w.heap.size + 1, 1, none⟩ (.int .i64 k0)) (pcells ch seq tm den amt frm dst) #[.bool ok, .int .i64 k0] H :=
    ((BK.set0 (A := #[.bool ok, .int .i64 c]) ⟨HP2.out, HA2.out, HH2.out, HB2.out⟩ ch).set1 (.int .i64 t0)).set1 (.int .i64 k0)
  go_upto_region 8 with (fail)
  have K3 := Lib.hid hbk
  clear hch hk0 ht0 c0 f0 q0 d0 d1 e1 HP2 HA2 HH2 HB2 hbk
  generalize ((w2.setCell ⟨w.heap.size, 0, none⟩ (.int .i64 ch)).setCell ⟨w.heap.size + 1, 1, none⟩ (.int .i64 t0)).setCell ⟨w.heap.size + 1, 1, none⟩ (.int .i64 k0) = w3 at *
  have d1 : w3.cell? ⟨w.heap.size + 1, 1, none⟩ = some (.int .i64 k0) := K3.out.a.at_ rfl
  have d0 : w3.cell? ⟨w.heap.size + 1, 0, none⟩ = some (.bool ok) := K3.out.a.at_ rfl
  have e1 := K3.out.a.free 1
  have e0 := K3.out.a.free 0
  have POK : Hid ((⟨ch, seq, tm, den, amt, frm, dst⟩ : Tlv.Pk).ok) := Lib.hid ⟨hch4, HSQ.out.1, HSQ.out.2.1, HSQ.out.2.2, HLE.out.1, HLE.out.2.1, HLE.out.2.2.1⟩
  have HOK : Hid ((⟨ht, ti, r, v, x, y⟩ : Tlv.Hd).ok) := Lib.hid ⟨HHT.out.1, HHT.out.2, HL.out.1, HL.out.2.1, HL.out.2.2.1, HL.out.2.2.2⟩
  have RPK : Hid (∀ b, pkt ch seq tm den amt frm dst = b → Tlv.readP (st0 b) = (0, ⟨ch, seq, tm, den, amt, frm, dst⟩)) := Lib.hid (fun b e => by rw [← e]; exact packet_back ⟨ch, seq, tm, den, amt, frm, dst⟩ POK.out)
  have RAK : Hid (∀ (ok : Bool) (k : Nat), k ≤ 2147483648 → ok = decide (k = 0) → ∀ b, ackb ok k = b → Tlv.readA (st0 b) = (0, (ok, k))) := Lib.hid (fun ok k h1 h2 b e => by rw [← e]; exact ack_back ok k h1 h2)
  have RHD : Hid (∀ b, Tlv.Hd.bytes ⟨ht, ti, r, v, x, y⟩ = b → Tlv.readH (st0 b) = (0, ⟨ht, ti, r, v, x, y⟩)) := Lib.hid (fun b e => by rw [← e]; exact header_back ⟨ht, ti, r, v, x, y⟩ HOK.out)
  have RPM : Hid (∀ b, pkt ch seq tm den amt frm dst = b → (Tlv.readP (st0 (Tlv.put b 9 [1]))).1 = 8) := Lib.hid (fun b e => by rw [← e]; exact packet_more ⟨ch, seq, tm, den, amt, frm, dst⟩ POK.out)
  have RHM : Hid (∀ b, Tlv.Hd.bytes ⟨ht, ti, r, v, x, y⟩ = b → (Tlv.readH (st0 (Tlv.put b 9 [1]))).1 = 8) := Lib.hid (fun b e => by rw [← e]; exact header_more ⟨ht, ti, r, v, x, y⟩ HOK.out)
  cases ok with
  | false =>
    have hbk : BK w (w3.setCell ⟨w.heap.size + 1, 1, none⟩ (.int .i64 ((k0 : Int) + 1))) (pcells ch seq tm den amt frm dst) (acells false (k0 + 1)) H := K3.out.set1 (.int .i64 ((k0 : Int) + 1))
    have K4 := Lib.hid hbk
    clear hbk
    go_upto_region 11 with (fail)
    generalize w3.setCell ⟨w.heap.size + 1, 1, none⟩ (.int .i64 ((k0 : Int) + 1)) = w4 at *
    clear d0 d1 e0 e1 K3
    obtain ⟨c0, c1, c2, c3, c4, c5, c6⟩ := pbox K4.out.p
    have HP := Lib.hid (packet_good ch ch seq tm den amt frm dst w4 rfl hch4 HSQ.out.1 HSQ.out.2.1 HSQ.out.2.2 HLE.out.1 HLE.out.2.1 HLE.out.2.2.1)
    obtain ⟨PB, hPB⟩ : ∃ x, pkt ch seq tm den amt frm dst = x := ⟨_, rfl⟩
    rw [hPB] at HP
    have HPB := Lib.hid hPB
    clear hPB
    go_wp2_with fail
    refine HP.out.mono ?_
    rintro e w5 ⟨A1, n1, l1, rfl, hr, hl1, hbb⟩
    have K5 := Lib.hid (K4.out.step hbb)
    have X5 := Lib.hid hr
    clear hbb hr K4 HP c0 c1 c2 c3 c4 c5 c6
    obtain ⟨a0, a1⟩ := abox K5.out.a
    have HP : Hid (Calls Try.prog 8 #[.agg (acells false (k0 + 1))] w5 (CodePost w5 (ackb false (k0 + 1)))) := Lib.hid (ack_no (k0 + 1) (by omega) (by omega) w5)
    obtain ⟨AB, hAB⟩ : ∃ x, ackb false (k0 + 1) = x := ⟨_, rfl⟩
    rw [hAB] at HP
    have HAB := Lib.hid hAB
    clear hAB
    go_wp2_with fail
    refine HP.out.mono ?_
    rintro e w6 ⟨A2, n2, l2, rfl, hr, hl2, hbb⟩
    have K6 := Lib.hid (K5.out.step hbb)
    have X6 := Lib.hid (X5.out.step hbb)
    have Y6 := Lib.hid hr
    clear hbb hr K5 X5 HP a0 a1
    go_upto_region 13 with (fail)
    refine wp_region_lit ?_
    refine wpList_load_g rfl 31 (.tmp 5) rfl (w.heap.size + 1 + 1) rfl 31 H _ K6.out.h Try.underlying31 rfl (by rw [HSZ.out]; exact info31) ?_
    go_simp
    have HP := Lib.hid (header_any ht ti r v x y w6 HHT.out.1 HHT.out.2 HL.out.1 HL.out.2.1 HL.out.2.2.1 HL.out.2.2.2)
    rw [HH.out] at HP
    obtain ⟨HBY, hHBY⟩ : ∃ q, Tlv.Hd.bytes ⟨ht, ti, r, v, x, y⟩ = q := ⟨_, rfl⟩
    rw [hHBY] at HP
    have HHB := Lib.hid hHBY
    clear hHBY
    go_wp2_with fail
    refine HP.out.mono ?_
    rintro e w7 ⟨A3, n3, l3, rfl, hr, hl3, hbb⟩
    have K7 := Lib.hid (K6.out.step hbb)
    have X7 := Lib.hid (X6.out.step hbb)
    have Y7 := Lib.hid (Y6.out.step hbb)
    have Z7 := Lib.hid hr
    clear hbb hr K6 X6 Y6 HP
    have hn1 : n1 ≤ 1000000 := by
      have h := HLE.out
      have h2 := pkt_len ch seq tm den amt frm dst hch4 HSQ.out.1 HSQ.out.2.1 HSQ.out.2.2
      rw [HPB.out, X7.out.len] at h2
      omega
    have hn2 : n2 ≤ 1000000 := by
      have h2 := ackb_len false (k0 + 1) (by omega)
      rw [HAB.out, Y7.out.len] at h2
      omega
    have hn3 : n3 ≤ 900000 := by
      have h2 := hd_len ⟨ht, ti, r, v, x, y⟩ ⟨HHT.out.1, HHT.out.2, HL.out.1, HL.out.2.1, HL.out.2.2.1, HL.out.2.2.2⟩
      rw [HHB.out, Z7.out.len] at h2
      omega
    have hp := readPacket_any A1 n1 l1 PB w7 X7.out hl1 hn1
    rw [RPK.out PB HPB.out] at hp
    have HP := Lib.hid hp
    clear hp
    go_wp2_with fail
    refine HP.out.mono ?_
    rintro e w8 ⟨z', seq', tm', den', amt', frm', dst', rfl, hq, hbb⟩
    obtain ⟨e1, e2, e3, e4, e5, e6, e7⟩ := hq rfl hch4
    dsimp only at e1 e2 e3 e4 e5 e6 e7
    rw [e1, e2, e3, e4, e5, e6, e7]
    clear e1 e2 e3 e4 e5 e6 e7 hq
    have K8 := Lib.hid (K7.out.step hbb)
    have X8 := Lib.hid (X7.out.step hbb)
    have Y8 := Lib.hid (Y7.out.step hbb)
    have Z8 := Lib.hid (Z7.out.step hbb)
    clear hbb K7 X7 Y7 Z7 HP
    simp only []
    iterate 13 go_step
    refine wpList_store_made rfl 24 (.tmp 12) (.tmp 67) rfl _ (pcells ch seq tm den amt frm dst) rfl rfl info24 rfl (pcells_one _ _ _ _ _ _ _) ?_
    have hbb := below_made w8 (.cells (pcells ch seq tm den amt frm dst) 24)
    have K9 := Lib.hid (K8.out.step hbb)
    have X9 := Lib.hid (X8.out.step hbb)
    have Y9 := Lib.hid (Y8.out.step hbb)
    have Z9 := Lib.hid (Z8.out.step hbb)
    have Q9 := Lib.hid (Whole.made w8 24 (pcells ch seq tm den amt frm dst))
    clear hbb K8 X8 Y8 Z8
    generalize w8.alloc (.cells (pcells ch seq tm den amt frm dst) 24) = w9 at *
    generalize w8.heap.size = gq at *
    have hp := readAck_any A2 n2 l2 AB w9 Y9.out hl2 hn2
    rw [RAK.out false (k0 + 1) (by omega) (by simp) AB HAB.out] at hp
    have HP := Lib.hid hp
    clear hp
    go_wp2_with fail
    refine HP.out.mono ?_
    rintro e w10 ⟨ok', k', rfl, hq, hbb⟩
    obtain ⟨e1, e2⟩ := hq rfl
    dsimp only at e1 e2
    rw [e1, e2]
    clear e1 e2 hq
    have K10 := Lib.hid (K9.out.step hbb)
    have X10 := Lib.hid (X9.out.step hbb)
    have Z10 := Lib.hid (Z9.out.step hbb)
    have Q10 := Lib.hid (Q9.out.step hbb)
    clear hbb K9 X9 Y9 Z9 Q9 HP hl2 hn2
    simp only []
    iterate 13 go_step
    refine wpList_store_made rfl 27 (.tmp 14) (.tmp 72) rfl _ (acells false (k0 + 1)) rfl rfl info27 rfl (acells_one _ _) ?_
    have hbb := below_made w10 (.cells (acells false (k0 + 1)) 27)
    have K11 := Lib.hid (K10.out.step hbb)
    have X11 := Lib.hid (X10.out.step hbb)
    have Z11 := Lib.hid (Z10.out.step hbb)
    have Q11 := Lib.hid (Q10.out.step hbb)
    have B11 := Lib.hid (Whole.made w10 27 (acells false (k0 + 1)))
    clear hbb K10 X10 Z10 Q10
    generalize w10.alloc (.cells (acells false (k0 + 1)) 27) = w11 at *
    generalize w10.heap.size = gb at *
    have hp := readHeader_any A3 n3 l3 HBY w11 Z11.out hl3 (by omega)
    rw [RHD.out HBY HHB.out] at hp
    have HP := Lib.hid hp
    clear hp
    go_wp2_with fail
    refine HP.out.mono ?_
    rintro e w12 ⟨t1, t2, u1, u2, u3, u4, rfl, hq, _, hbb⟩
    obtain ⟨e1, e2, e3, e4, e5, e6⟩ := hq rfl
    dsimp only at e1 e2 e3 e4 e5 e6
    rw [e1, e2, e3, e4, e5, e6, HH.out]
    clear e1 e2 e3 e4 e5 e6 hq
    have K12 := Lib.hid (K11.out.step hbb)
    have X12 := Lib.hid (X11.out.step hbb)
    have Z12 := Lib.hid (Z11.out.step hbb)
    have Q12 := Lib.hid (Q11.out.step hbb)
    have B12 := Lib.hid (B11.out.step hbb)
    clear hbb K11 X11 Z11 Q11 B11 HP
    have hz31 := zero31
    simp only []
    iterate 13 go_step
    refine wpList_store_made rfl 31 (.tmp 16) (.tmp 77) rfl hzero H rfl rfl (by rw [HSZ.out]; exact info31) (by rw [HSZ.out]; rfl) HONE.out ?_
    have hbb := below_made w12 (.cells H 31)
    have K13 := Lib.hid (K12.out.step hbb)
    have X13 := Lib.hid (X12.out.step hbb)
    have Z13 := Lib.hid (Z12.out.step hbb)
    have Q13 := Lib.hid (Q12.out.step hbb)
    have B13 := Lib.hid (B12.out.step hbb)
    have H13 := Lib.hid (Whole.made w12 31 H)
    clear hbb K12 X12 Z12 Q12 B12 hz31
    generalize w12.alloc (.cells H 31) = w13 at *
    generalize w12.heap.size = gh at *
    go_upto_region 17 with (fail)
    refine wp_region_lit ?_
    iterate 49 go_step
    refine wpList_load_g rfl 24 (.tmp 3) rfl w.heap.size rfl 24 (pcells ch seq tm den amt frm dst) _ K13.out.p Try.underlying24 rfl info24 ?_
    go_simp
    refine wpList_load_g rfl 24 (.tmp 12) rfl gq rfl 24 (pcells ch seq tm den amt frm dst) _ Q13.out Try.underlying24 rfl info24 ?_
    go_simp
    have heq := fun w => eq24 ch seq tm den amt frm dst w
    iterate 8 go_step
    clear heq
    refine wpList_load_g rfl 27 (.tmp 4) rfl (w.heap.size + 1) rfl 27 (acells false (k0 + 1)) _ K13.out.a Try.underlying27 rfl info27 ?_
    go_simp
    refine wpList_load_g rfl 27 (.tmp 14) rfl gb rfl 27 (acells false (k0 + 1)) _ B13.out Try.underlying27 rfl info27 ?_
    go_simp
    have heq := fun w => eq27 false (k0 + 1) w
    iterate 8 go_step
    clear heq
    refine wpList_load_g rfl 31 (.tmp 5) rfl (w.heap.size + 1 + 1) rfl 31 H _ K13.out.h Try.underlying31 rfl (by rw [HSZ.out]; exact info31) ?_
    go_simp
    refine wpList_load_g rfl 31 (.tmp 16) rfl gh rfl 31 H _ H13.out Try.underlying31 rfl (by rw [HSZ.out]; exact info31) ?_
    go_simp
    have heq := HEQ.out
    go_upto_region 19 with (fail)
    clear heq Q13 B13 H13
    have hbb := below_made w13 (.cells #[.int .u8 1] 5)
    have X14 := Lib.hid (X13.out.step hbb)
    have HP := Lib.hid (put_int A1 n1 l1 PB 9 9 (by decide) (some ⟨w13.heap.size, 0, none⟩) 1 1 [1] _ X14.out ((rd_new w13 5 [1] 1 rfl #[.int .u8 1] rfl).more (by simp)) (by omega) (by omega))
    have K14 := Lib.hid (K13.out.step hbb)
    have Z14 := Lib.hid (Z13.out.step hbb)
    clear hbb K13 X13 Z13
    go_wp2_with fail
    generalize w13.alloc (.cells #[.int .u8 1] 5) = w14 at *
    refine HP.out.mono ?_
    rintro e w15 ⟨A4, n4, l4, rfl, hr, hl4, _, hbb⟩
    have hn4 : n4 ≤ 1000000 := by
      have h2 := Tlv.put_length PB 9 [1]
      rw [hr.len, X14.out.len] at h2
      simp at h2
      have h3 := pkt_len ch seq tm den amt frm dst hch4 HSQ.out.1 HSQ.out.2.1 HSQ.out.2.2
      rw [HPB.out, X14.out.len] at h3
      have := HLE.out
      omega
    have K15 := Lib.hid (K14.out.step hbb)
    have Z15 := Lib.hid (Z14.out.step hbb)
    have HP' := Lib.hid (readPacket_any A4 n4 l4 _ w15 hr hl4 hn4)
    clear hbb hr K14 X14 Z14 HP
    go_wp2_with fail
    refine HP'.out.mono ?_
    rintro e w16 ⟨z', seq', tm', den', amt', frm', dst', rfl, _, hbb⟩
    rw [RPM.out PB HPB.out]
    have K16 := Lib.hid (K15.out.step hbb)
    have Z16 := Lib.hid (Z15.out.step hbb)
    clear hbb K15 Z15 HP' hl4 hn4
    simp only []
    iterate 13 go_step
    refine wpList_store_made rfl 24 (.tmp 20) (.tmp 121) rfl _ (pcells z' seq' tm' den' amt' frm' dst') rfl rfl info24 rfl (pcells_one _ _ _ _ _ _ _) ?_
    have hbb := below_made w16 (.cells (pcells z' seq' tm' den' amt' frm' dst') 24)
    have K17 := Lib.hid (K16.out.step hbb)
    have Z17 := Lib.hid (Z16.out.step hbb)
    clear hbb K16 Z16
    generalize w16.alloc (.cells (pcells z' seq' tm' den' amt' frm' dst') 24) = w17 at *
    have hbb := below_made w17 (.cells #[.int .u8 1] 5)
    have Z18 := Lib.hid (Z17.out.step hbb)
    have HP := Lib.hid (put_int A3 n3 l3 HBY 9 9 (by decide) (some ⟨w17.heap.size, 0, none⟩) 1 1 [1] _ Z18.out ((rd_new w17 5 [1] 1 rfl #[.int .u8 1] rfl).more (by simp)) (by omega) (by omega))
    have K18 := Lib.hid (K17.out.step hbb)
    clear hbb K17 Z17
    go_wp2_with fail
    generalize w17.alloc (.cells #[.int .u8 1] 5) = w18 at *
    refine HP.out.mono ?_
    rintro e w19 ⟨A5, n5, l5, rfl, hr, hl5, _, hbb⟩
    have hn5 : n5 ≤ 1000000 := by
      have h2 := Tlv.put_length HBY 9 [1]
      rw [hr.len, Z18.out.len] at h2
      simp at h2
      omega
    have K19 := Lib.hid (K18.out.step hbb)
    have HP' := Lib.hid (readHeader_any A5 n5 l5 _ w19 hr hl5 hn5)
    clear hbb hr K18 Z18 HP
    go_wp2_with fail
    refine HP'.out.mono ?_
    rintro e w20 ⟨t1, t2, u1, u2, u3, u4, rfl, _, hlen, hbb⟩
    rw [RHM.out HBY HHB.out]
    have K20 := Lib.hid (K19.out.step hbb)
    have HS2 := Lib.hid (hcells_size t1 t2 u1 u2 u3 u4 hlen.1 hlen.2.1 hlen.2.2.1 hlen.2.2.2)
    have HO2 := Lib.hid (hcells_one t1 t2 u1 u2 u3 u4)
    clear hbb K19 HP' hl5 hn5 hlen
    generalize hcells t1 t2 u1 u2 u3 u4 = H2 at *
    have hz31 := zero31
    simp only []
    iterate 13 go_step
    refine wpList_store_made rfl 31 (.tmp 22) (.tmp 132) rfl hzero H2 rfl rfl (by rw [HS2.out]; exact info31) (by rw [HS2.out]; rfl) HO2.out ?_
    have HBF := Lib.hid (K20.out.bel.trans ((below_made w20 (.cells H2 31)).mono K20.out.bel.size))
    clear hz31 K20
    generalize w20.alloc (.cells H2 31) = w21 at *
    go_wp2_with fail
    go_ret
    exact ⟨rfl, HBF.out⟩
  | true =>
    have hbk : BK w (w3.setCell ⟨w.heap.size + 1, 1, none⟩ (.int .i64 0)) (pcells ch seq tm den amt frm dst) (acells true 0) H := K3.out.set1 (.int .i64 0)
    have K4 := Lib.hid hbk
    clear hbk
    go_upto_region 11 with (fail)
    generalize w3.setCell ⟨w.heap.size + 1, 1, none⟩ (.int .i64 0) = w4 at *
    clear d0 d1 e0 e1 K3
    obtain ⟨c0, c1, c2, c3, c4, c5, c6⟩ := pbox K4.out.p
    have HP := Lib.hid (packet_good ch ch seq tm den amt frm dst w4 rfl hch4 HSQ.out.1 HSQ.out.2.1 HSQ.out.2.2 HLE.out.1 HLE.out.2.1 HLE.out.2.2.1)
    obtain ⟨PB, hPB⟩ : ∃ x, pkt ch seq tm den amt frm dst = x := ⟨_, rfl⟩
    rw [hPB] at HP
    have HPB := Lib.hid hPB
    clear hPB
    go_wp2_with fail
    refine HP.out.mono ?_
    rintro e w5 ⟨A1, n1, l1, rfl, hr, hl1, hbb⟩
    have K5 := Lib.hid (K4.out.step hbb)
    have X5 := Lib.hid hr
    clear hbb hr K4 HP c0 c1 c2 c3 c4 c5 c6
    obtain ⟨a0, a1⟩ := abox K5.out.a
    have HP : Hid (Calls Try.prog 8 #[.agg (acells true 0)] w5 (CodePost w5 (ackb true 0))) := Lib.hid (ack_yes w5)
    obtain ⟨AB, hAB⟩ : ∃ x, ackb true 0 = x := ⟨_, rfl⟩
    rw [hAB] at HP
    have HAB := Lib.hid hAB
    clear hAB
    go_wp2_with fail
    refine HP.out.mono ?_
    rintro e w6 ⟨A2, n2, l2, rfl, hr, hl2, hbb⟩
    have K6 := Lib.hid (K5.out.step hbb)
    have X6 := Lib.hid (X5.out.step hbb)
    have Y6 := Lib.hid hr
    clear hbb hr K5 X5 HP a0 a1
    go_upto_region 13 with (fail)
    refine wp_region_lit ?_
    refine wpList_load_g rfl 31 (.tmp 5) rfl (w.heap.size + 1 + 1) rfl 31 H _ K6.out.h Try.underlying31 rfl (by rw [HSZ.out]; exact info31) ?_
    go_simp
    have HP := Lib.hid (header_any ht ti r v x y w6 HHT.out.1 HHT.out.2 HL.out.1 HL.out.2.1 HL.out.2.2.1 HL.out.2.2.2)
    rw [HH.out] at HP
    obtain ⟨HBY, hHBY⟩ : ∃ q, Tlv.Hd.bytes ⟨ht, ti, r, v, x, y⟩ = q := ⟨_, rfl⟩
    rw [hHBY] at HP
    have HHB := Lib.hid hHBY
    clear hHBY
    go_wp2_with fail
    refine HP.out.mono ?_
    rintro e w7 ⟨A3, n3, l3, rfl, hr, hl3, hbb⟩
    have K7 := Lib.hid (K6.out.step hbb)
    have X7 := Lib.hid (X6.out.step hbb)
    have Y7 := Lib.hid (Y6.out.step hbb)
    have Z7 := Lib.hid hr
    clear hbb hr K6 X6 Y6 HP
    have hn1 : n1 ≤ 1000000 := by
      have h := HLE.out
      have h2 := pkt_len ch seq tm den amt frm dst hch4 HSQ.out.1 HSQ.out.2.1 HSQ.out.2.2
      rw [HPB.out, X7.out.len] at h2
      omega
    have hn2 : n2 ≤ 1000000 := by
      have h2 := ackb_len true 0 (by omega)
      rw [HAB.out, Y7.out.len] at h2
      omega
    have hn3 : n3 ≤ 900000 := by
      have h2 := hd_len ⟨ht, ti, r, v, x, y⟩ ⟨HHT.out.1, HHT.out.2, HL.out.1, HL.out.2.1, HL.out.2.2.1, HL.out.2.2.2⟩
      rw [HHB.out, Z7.out.len] at h2
      omega
    have hp := readPacket_any A1 n1 l1 PB w7 X7.out hl1 hn1
    rw [RPK.out PB HPB.out] at hp
    have HP := Lib.hid hp
    clear hp
    go_wp2_with fail
    refine HP.out.mono ?_
    rintro e w8 ⟨z', seq', tm', den', amt', frm', dst', rfl, hq, hbb⟩
    obtain ⟨e1, e2, e3, e4, e5, e6, e7⟩ := hq rfl hch4
    dsimp only at e1 e2 e3 e4 e5 e6 e7
    rw [e1, e2, e3, e4, e5, e6, e7]
    clear e1 e2 e3 e4 e5 e6 e7 hq
    have K8 := Lib.hid (K7.out.step hbb)
    have X8 := Lib.hid (X7.out.step hbb)
    have Y8 := Lib.hid (Y7.out.step hbb)
    have Z8 := Lib.hid (Z7.out.step hbb)
    clear hbb K7 X7 Y7 Z7 HP
    simp only []
    iterate 13 go_step
    refine wpList_store_made rfl 24 (.tmp 12) (.tmp 67) rfl _ (pcells ch seq tm den amt frm dst) rfl rfl info24 rfl (pcells_one _ _ _ _ _ _ _) ?_
    have hbb := below_made w8 (.cells (pcells ch seq tm den amt frm dst) 24)
    have K9 := Lib.hid (K8.out.step hbb)
    have X9 := Lib.hid (X8.out.step hbb)
    have Y9 := Lib.hid (Y8.out.step hbb)
    have Z9 := Lib.hid (Z8.out.step hbb)
    have Q9 := Lib.hid (Whole.made w8 24 (pcells ch seq tm den amt frm dst))
    clear hbb K8 X8 Y8 Z8
    generalize w8.alloc (.cells (pcells ch seq tm den amt frm dst) 24) = w9 at *
    generalize w8.heap.size = gq at *
    have hp := readAck_any A2 n2 l2 AB w9 Y9.out hl2 hn2
    rw [RAK.out true 0 (by omega) (by simp) AB HAB.out] at hp
    have HP := Lib.hid hp
    clear hp
    go_wp2_with fail
    refine HP.out.mono ?_
    rintro e w10 ⟨ok', k', rfl, hq, hbb⟩
    obtain ⟨e1, e2⟩ := hq rfl
    dsimp only at e1 e2
    rw [e1, e2]
    clear e1 e2 hq
    have K10 := Lib.hid (K9.out.step hbb)
    have X10 := Lib.hid (X9.out.step hbb)
    have Z10 := Lib.hid (Z9.out.step hbb)
    have Q10 := Lib.hid (Q9.out.step hbb)
    clear hbb K9 X9 Y9 Z9 Q9 HP hl2 hn2
    simp only []
    iterate 13 go_step
    refine wpList_store_made rfl 27 (.tmp 14) (.tmp 72) rfl _ (acells true 0) rfl rfl info27 rfl (acells_one _ _) ?_
    have hbb := below_made w10 (.cells (acells true 0) 27)
    have K11 := Lib.hid (K10.out.step hbb)
    have X11 := Lib.hid (X10.out.step hbb)
    have Z11 := Lib.hid (Z10.out.step hbb)
    have Q11 := Lib.hid (Q10.out.step hbb)
    have B11 := Lib.hid (Whole.made w10 27 (acells true 0))
    clear hbb K10 X10 Z10 Q10
    generalize w10.alloc (.cells (acells true 0) 27) = w11 at *
    generalize w10.heap.size = gb at *
    have hp := readHeader_any A3 n3 l3 HBY w11 Z11.out hl3 (by omega)
    rw [RHD.out HBY HHB.out] at hp
    have HP := Lib.hid hp
    clear hp
    go_wp2_with fail
    refine HP.out.mono ?_
    rintro e w12 ⟨t1, t2, u1, u2, u3, u4, rfl, hq, _, hbb⟩
    obtain ⟨e1, e2, e3, e4, e5, e6⟩ := hq rfl
    dsimp only at e1 e2 e3 e4 e5 e6
    rw [e1, e2, e3, e4, e5, e6, HH.out]
    clear e1 e2 e3 e4 e5 e6 hq
    have K12 := Lib.hid (K11.out.step hbb)
    have X12 := Lib.hid (X11.out.step hbb)
    have Z12 := Lib.hid (Z11.out.step hbb)
    have Q12 := Lib.hid (Q11.out.step hbb)
    have B12 := Lib.hid (B11.out.step hbb)
    clear hbb K11 X11 Z11 Q11 B11 HP
    have hz31 := zero31
    simp only []
    iterate 13 go_step
    refine wpList_store_made rfl 31 (.tmp 16) (.tmp 77) rfl hzero H rfl rfl (by rw [HSZ.out]; exact info31) (by rw [HSZ.out]; rfl) HONE.out ?_
    have hbb := below_made w12 (.cells H 31)
    have K13 := Lib.hid (K12.out.step hbb)
    have X13 := Lib.hid (X12.out.step hbb)
    have Z13 := Lib.hid (Z12.out.step hbb)
    have Q13 := Lib.hid (Q12.out.step hbb)
    have B13 := Lib.hid (B12.out.step hbb)
    have H13 := Lib.hid (Whole.made w12 31 H)
    clear hbb K12 X12 Z12 Q12 B12 hz31
    generalize w12.alloc (.cells H 31) = w13 at *
    generalize w12.heap.size = gh at *
    go_upto_region 17 with (fail)
    refine wp_region_lit ?_
    iterate 49 go_step
    refine wpList_load_g rfl 24 (.tmp 3) rfl w.heap.size rfl 24 (pcells ch seq tm den amt frm dst) _ K13.out.p Try.underlying24 rfl info24 ?_
    go_simp
    refine wpList_load_g rfl 24 (.tmp 12) rfl gq rfl 24 (pcells ch seq tm den amt frm dst) _ Q13.out Try.underlying24 rfl info24 ?_
    go_simp
    have heq := fun w => eq24 ch seq tm den amt frm dst w
    iterate 8 go_step
    clear heq
    refine wpList_load_g rfl 27 (.tmp 4) rfl (w.heap.size + 1) rfl 27 (acells true 0) _ K13.out.a Try.underlying27 rfl info27 ?_
    go_simp
    refine wpList_load_g rfl 27 (.tmp 14) rfl gb rfl 27 (acells true 0) _ B13.out Try.underlying27 rfl info27 ?_
    go_simp
    have heq := fun w => eq27 true 0 w
    iterate 8 go_step
    clear heq
    refine wpList_load_g rfl 31 (.tmp 5) rfl (w.heap.size + 1 + 1) rfl 31 H _ K13.out.h Try.underlying31 rfl (by rw [HSZ.out]; exact info31) ?_
    go_simp
    refine wpList_load_g rfl 31 (.tmp 16) rfl gh rfl 31 H _ H13.out Try.underlying31 rfl (by rw [HSZ.out]; exact info31) ?_
    go_simp
    have heq := HEQ.out
    go_upto_region 19 with (fail)
    clear heq Q13 B13 H13
    have hbb := below_made w13 (.cells #[.int .u8 1] 5)
    have X14 := Lib.hid (X13.out.step hbb)
    have HP := Lib.hid (put_int A1 n1 l1 PB 9 9 (by decide) (some ⟨w13.heap.size, 0, none⟩) 1 1 [1] _ X14.out ((rd_new w13 5 [1] 1 rfl #[.int .u8 1] rfl).more (by simp)) (by omega) (by omega))
    have K14 := Lib.hid (K13.out.step hbb)
    have Z14 := Lib.hid (Z13.out.step hbb)
    clear hbb K13 X13 Z13
    go_wp2_with fail
    generalize w13.alloc (.cells #[.int .u8 1] 5) = w14 at *
    refine HP.out.mono ?_
    rintro e w15 ⟨A4, n4, l4, rfl, hr, hl4, _, hbb⟩
    have hn4 : n4 ≤ 1000000 := by
      have h2 := Tlv.put_length PB 9 [1]
      rw [hr.len, X14.out.len] at h2
      simp at h2
      have h3 := pkt_len ch seq tm den amt frm dst hch4 HSQ.out.1 HSQ.out.2.1 HSQ.out.2.2
      rw [HPB.out, X14.out.len] at h3
      have := HLE.out
      omega
    have K15 := Lib.hid (K14.out.step hbb)
    have Z15 := Lib.hid (Z14.out.step hbb)
    have HP' := Lib.hid (readPacket_any A4 n4 l4 _ w15 hr hl4 hn4)
    clear hbb hr K14 X14 Z14 HP
    go_wp2_with fail
    refine HP'.out.mono ?_
    rintro e w16 ⟨z', seq', tm', den', amt', frm', dst', rfl, _, hbb⟩
    rw [RPM.out PB HPB.out]
    have K16 := Lib.hid (K15.out.step hbb)
    have Z16 := Lib.hid (Z15.out.step hbb)
    clear hbb K15 Z15 HP' hl4 hn4
    simp only []
    iterate 13 go_step
    refine wpList_store_made rfl 24 (.tmp 20) (.tmp 121) rfl _ (pcells z' seq' tm' den' amt' frm' dst') rfl rfl info24 rfl (pcells_one _ _ _ _ _ _ _) ?_
    have hbb := below_made w16 (.cells (pcells z' seq' tm' den' amt' frm' dst') 24)
    have K17 := Lib.hid (K16.out.step hbb)
    have Z17 := Lib.hid (Z16.out.step hbb)
    clear hbb K16 Z16
    generalize w16.alloc (.cells (pcells z' seq' tm' den' amt' frm' dst') 24) = w17 at *
    have hbb := below_made w17 (.cells #[.int .u8 1] 5)
    have Z18 := Lib.hid (Z17.out.step hbb)
    have HP := Lib.hid (put_int A3 n3 l3 HBY 9 9 (by decide) (some ⟨w17.heap.size, 0, none⟩) 1 1 [1] _ Z18.out ((rd_new w17 5 [1] 1 rfl #[.int .u8 1] rfl).more (by simp)) (by omega) (by omega))
    have K18 := Lib.hid (K17.out.step hbb)
    clear hbb K17 Z17
    go_wp2_with fail
    generalize w17.alloc (.cells #[.int .u8 1] 5) = w18 at *
    refine HP.out.mono ?_
    rintro e w19 ⟨A5, n5, l5, rfl, hr, hl5, _, hbb⟩
    have hn5 : n5 ≤ 1000000 := by
      have h2 := Tlv.put_length HBY 9 [1]
      rw [hr.len, Z18.out.len] at h2
      simp at h2
      omega
    have K19 := Lib.hid (K18.out.step hbb)
    have HP' := Lib.hid (readHeader_any A5 n5 l5 _ w19 hr hl5 hn5)
    clear hbb hr K18 Z18 HP
    go_wp2_with fail
    refine HP'.out.mono ?_
    rintro e w20 ⟨t1, t2, u1, u2, u3, u4, rfl, _, hlen, hbb⟩
    rw [RHM.out HBY HHB.out]
    have K20 := Lib.hid (K19.out.step hbb)
    have HS2 := Lib.hid (hcells_size t1 t2 u1 u2 u3 u4 hlen.1 hlen.2.1 hlen.2.2.1 hlen.2.2.2)
    have HO2 := Lib.hid (hcells_one t1 t2 u1 u2 u3 u4)
    clear hbb K19 HP' hl5 hn5 hlen
    generalize hcells t1 t2 u1 u2 u3 u4 = H2 at *
    have hz31 := zero31
    simp only []
    iterate 13 go_step
    refine wpList_store_made rfl 31 (.tmp 22) (.tmp 132) rfl hzero H2 rfl rfl (by rw [HS2.out]; exact info31) (by rw [HS2.out]; rfl) HO2.out ?_
    have HBF := Lib.hid (K20.out.bel.trans ((below_made w20 (.cells H2 31)).mono K20.out.bel.size))
    clear hz31 K20
    generalize w20.alloc (.cells H2 31) = w21 at *
    go_wp2_with fail
    go_ret
    exact ⟨rfl, HBF.out⟩
end Go.Proofs.Ytjepbnhlnomhlaa
