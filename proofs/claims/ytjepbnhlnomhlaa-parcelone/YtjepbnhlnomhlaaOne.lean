/-
  What the statement's function ParcelOne returns: true, whatever bytes, packet and lists come in; conditions: they are read, numbers have 64 bits, texts are no longer than memory can be. It only makes memory of its own.
-/
import Derived.Test.YtjepbnhlnomhlaaBack
import Derived.Test.YtjepbnhlnomhlaaTurned
import Derived.Deep.RegionHeld3
namespace Go.Proofs.Ytjepbnhlnomhlaa
open Go.RowKit

/-- A stronger condition on the worlds serves, too. -/
theorem anyH_more {P : Program} {md : Region.Mode} {ops : Array Oper} {Q : Exit → Act → World → Prop} {S S' : World → Prop} (h : ∀ w, S' w → S w) :
    ∀ (fuel : Nat) (listed : Array Bool) (a : Act) (w : World), wpAnyH P md ops Q S' fuel listed a w → wpAnyH P md ops Q S fuel listed a w
  | 0, _, _, _, k => k
  | fuel + 1, _, _, _, k => ⟨k.1, fun i hi => wpOp_mono (fun a' w' k' => ⟨h _ k'.1, anyH_more h fuel _ a' w' k'.2⟩) (k.2 i hi)⟩

theorem full_run : ∀ (k : Nat) (acc : Tlv.Fs) (b : List UInt8), Tlv.full acc → Tlv.full (Tlv.run k acc b).2 := by
  have hnil : Tlv.full [] := fun f hf => by simp at hf
  intro k
  induction k with
  | zero =>
    intro acc b h
    cases b with
    | nil => simpa [Tlv.run] using h
    | cons t b => simpa [Tlv.run] using hnil
  | succ k ih =>
    intro acc b h
    cases b with
    | nil => simpa [Tlv.run] using h
    | cons t b =>
      simp only [Tlv.run]
      cases hp : Tlv.piece b with
      | none => exact hnil
      | some q =>
        obtain ⟨v, r⟩ := q
        simp only
        split
        · exact hnil
        · rename_i hv
          split
          · refine ih _ r fun f hf => ?_
            rcases List.mem_append.1 hf with hf | hf
            · exact h f hf
            · simp at hf
              subst hf
              exact ⟨hv, (Tlv.piece_some hp).2⟩
          · exact hnil
theorem full_st0 (bs : List UInt8) : Tlv.full (st0 bs).1 := full_run _ _ _ fun f hf => by simp at hf
theorem st0_body {bs : List UInt8} (h : (st0 bs).2 = 0) : Tlv.body (st0 bs).1 = bs := by
  have : Tlv.parse bs = (0, (st0 bs).1) := Prod.ext h rfl
  exact (Tlv.parse_back bs _ this).1
theorem packet_one {bs : List UInt8} {p : Tlv.Pk} (h : Tlv.readP (st0 bs) = (0, p)) : p.ok ∧ p.bytes = bs := by
  obtain ⟨h0, h1, h2⟩ := Tlv.readP_back h (full_st0 bs)
  exact ⟨h1, h2.trans (st0_body h0)⟩
theorem ack_one_way {bs : List UInt8} {ok : Bool} {k : Nat} (h : Tlv.readA (st0 bs) = (0, (ok, k))) : k ≤ 2147483648 ∧ ok = decide (k = 0) ∧ ackb ok k = bs := by
  obtain ⟨h0, h1, h2, h3⟩ := Tlv.readA_back h (full_st0 bs)
  exact ⟨h1, h2, h3.trans (st0_body h0)⟩
theorem header_one {bs : List UInt8} {h : Tlv.Hd} (hh : Tlv.readH (st0 bs) = (0, h)) : h.ht < 18446744073709551616 ∧ h.tm < 18446744073709551616 ∧ h.bytes = bs := by
  obtain ⟨h0, h1, h2, h3⟩ := Tlv.readH_back hh (full_st0 bs)
  exact ⟨h1, h2, h3.trans (st0_body h0)⟩

set_option maxRecDepth 100000 in
set_option maxHeartbeats 4000000 in
theorem one_any (A0 : Option Addr) (n0 c0 : Nat) (bs : List UInt8) (z : Int) (seq tm : Nat) (den : List UInt8) (amt : Nat) (frm dst : List UInt8) (A2 : Option Addr) (n2 c2 : Nat) (A3 : Option Addr) (n3 c3 : Nat) (ys : List UInt8) (w : World)
    (hr : Rd w w.heap.size A0 n0 bs) (hnc : n0 ≤ c0) (hn63 : n0 ≤ 9223372036854775807) (hi : RdI w w.heap.size A2 n2) (hy : Rd w w.heap.size A3 n3 ys) (h2 : n2 ≤ 9223372036854775807) (h3 : n3 ≤ 9223372036854775807)
    (hseq : seq < 18446744073709551616) (htm : tm < 18446744073709551616) (hamt : amt < 18446744073709551616)
    (ha : den.length ≤ 140737488355328) (hb : frm.length ≤ 140737488355328) (hc : dst.length ≤ 140737488355328) :
    Calls Try.prog 4 #[.slice A0 n0 c0, .agg (pcells z seq tm den amt frm dst), .slice A2 n2 c2, .slice A3 n3 c3] w fun e w' => e = .returned (.bool true) ∧ Below w.heap.size w w' := by
  have HR := Lib.hid hr
  have HI := Lib.hid hi
  have HY := Lib.hid hy
  have HSQ := Lib.hid (And.intro hseq (And.intro htm hamt))
  obtain ⟨la, hla⟩ : ∃ n, den.length = n := ⟨_, rfl⟩
  obtain ⟨lb, hlb⟩ : ∃ n, frm.length = n := ⟨_, rfl⟩
  obtain ⟨lc, hlc⟩ : ∃ n, dst.length = n := ⟨_, rfl⟩
  rw [hla] at ha
  rw [hlb] at hb
  rw [hlc] at hc
  have HLEN := Lib.hid (And.intro hla (And.intro hlb hlc))
  have HP0 := Lib.hid (Whole.made w 24 (pcells z seq tm den amt frm dst))
  have HB0 := Lib.hid (below_made w (.cells (pcells z seq tm den amt frm dst) 24))
  clear hr hi hy hseq htm hamt hla hlb hlc
  go_enter Try.func4, Try.ntmps4
  go_upto_region 1 with (fail)
  generalize w.alloc (.cells (pcells z seq tm den amt frm dst) 24) = w0 at *
  go_wp2_with fail
  refine (awake_any w0).mono ?_
  rintro e w1 ⟨rfl, hbb⟩
  have HP1 := Lib.hid (HP0.out.step hbb)
  have HB1 := Lib.hid (HB0.out.trans (hbb.mono HB0.out.size))
  clear hbb HP0 HB0
  by_cases h1000 : 1000 < n0
  · have q : decide (1000 < (n0 : Int)) = true := by simp; omega
    go_wp2_with fail
    go_ret
    exact ⟨rfl, HB1.out⟩
  have q : decide (1000 < (n0 : Int)) = false := by simp; omega
  obtain ⟨d0, d1, d2, d3, d4, d5, d6⟩ := pbox HP1.out
  go_wp2_with fail
  refine (long_any z seq tm den amt frm dst w1 la lb lc HLEN.out.1 HLEN.out.2.1 HLEN.out.2.2 ha hb hc).mono ?_
  rintro e w2 ⟨rfl, hbb⟩
  have HP2 := Lib.hid (HP1.out.step hbb)
  have HB2 := Lib.hid (HB1.out.trans (hbb.mono HB1.out.size))
  clear hbb HP1 HB1 d0 d1 d2 d3 d4 d5 d6
  by_cases h3000 : 3000 < la + lb + lc
  · go_wp2_with fail
    go_ret
    exact ⟨rfl, HB2.out⟩
  have q0 : decide (3000 < la + lb + lc) = false := by simp; omega
  have HLE : Hid (den.length ≤ 65535 ∧ frm.length ≤ 65535 ∧ dst.length ≤ 65535 ∧ den.length + frm.length + dst.length ≤ 3000) := Lib.hid (by have := HLEN.out; omega)
  clear h3000 HLEN ha hb hc
  have HPK : Hid (∃ PB e, PB.length ≤ 900000 ∧ Calls Try.prog 7 #[.agg (pcells z seq tm den amt frm dst)] w2 fun x w' => ∃ A n c, x = .returned (.tuple #[.slice A n c, .int .i64 e]) ∧ Rd w' w'.heap.size A n PB ∧ n ≤ c ∧ Below w2.heap.size w2 w') := Lib.hid (by
    by_cases hz : z < 0 ∨ 4 ≤ z
    · exact ⟨[], 2, by simp, (packet_bad z seq tm den amt frm dst w2 hz).mono fun e w' ⟨h1, h2⟩ => ⟨none, 0, 0, h1, Rd.nil, Nat.le_refl _, h2⟩⟩
    · refine ⟨_, 0, ?_, (packet_good z z.toNat seq tm den amt frm dst w2 (by omega) (by omega) HSQ.out.1 HSQ.out.2.1 HSQ.out.2.2 HLE.out.1 HLE.out.2.1 HLE.out.2.2.1).mono fun e w' h => h⟩
      have := pkt_len z.toNat seq tm den amt frm dst (by omega) HSQ.out.1 HSQ.out.2.1 HSQ.out.2.2
      have := HLE.out
      omega)
  obtain ⟨PB, ec, hPBl, hPK⟩ := HPK.out
  have HPB := Lib.hid (And.intro hPBl hPK)
  clear hPBl hPK HPK
  obtain ⟨d0, d1, d2, d3, d4, d5, d6⟩ := pbox HP2.out
  go_wp2_with fail
  refine HPB.out.2.mono ?_
  rintro e w3 ⟨Ax, nx, cx, rfl, hr, hxc, hbb⟩
  have HB3 := Lib.hid (HB2.out.trans (hbb.mono HB2.out.size))
  have hnx : nx ≤ 900000 := by rw [← hr.len]; exact HPB.out.1
  have HT := Lib.hid (turned_any Ax nx cx PB A2 n2 c2 A3 n3 c3 ys w3 hr (by omega) (fun h => by
      obtain ⟨b, o, e, hlt, hz⟩ := HI.out h
      exact ⟨b, o, e, Nat.lt_of_lt_of_le hlt HB3.out.size, fun j hj => by
        obtain ⟨q, hq⟩ := hz j hj
        exact ⟨q, (HB3.out.cell (p := ⟨b, o + j, none⟩) hlt).trans hq⟩⟩) (HY.out.step HB3.out) h2 h3)
  clear hr hbb HP2 HB2 d0 d1 d2 d3 d4 d5 d6 q q0 HPB
  go_wp2_with fail
  refine HT.out.mono ?_
  rintro e w4 ⟨At, nt, ct, ts, rfl, hrt, htc, htn, hbb⟩
  have HB4 := Lib.hid (HB3.out.trans (hbb.mono HB3.out.size))
  have hnt : nt ≤ 1000000 := by omega
  have hba := below_made w4 (.cells #[.slice A0 n0 c0, .slice At nt ct] 35)
  have HB5 := Lib.hid (HB4.out.trans (hba.mono HB4.out.size))
  have HW5 := Lib.hid (Whole.made w4 35 #[.slice A0 n0 c0, .slice At nt ct])
  have HR5 := Lib.hid (HR.out.step HB5.out)
  have HT5 := Lib.hid (hrt.step hba)
  clear hrt hbb hba HT HB3 HB4 hxc htn hnx
  go_wp2_with fail
  generalize w4.alloc (.cells #[.slice A0 n0 c0, .slice At nt ct] 35) = w5 at *
  generalize w4.heap.size = gl at *
  have HALL : Hid (∀ k, k < 2 → ∃ A n c zs, w5.cell? ⟨gl, k, none⟩ = some (.slice A n c) ∧ Rd w5 w5.heap.size A n zs ∧ n ≤ c ∧ n ≤ 1000000) := Lib.hid (fun k hk => by
    rcases (show k = 0 ∨ k = 1 by omega) with rfl | rfl
    · exact ⟨A0, n0, c0, bs, HW5.out.at_ rfl, HR5.out, hnc, by omega⟩
    · exact ⟨At, nt, ct, ts, HW5.out.at_ rfl, HT5.out, htc, hnt⟩)
  have hgl := HW5.out.lt
  clear HW5 HR5 HT5 hnc htc hnt
  go_loopw [44] (fun i wx => ∃ k : Nat, k ≤ 2 ∧ i = .int .i64 k ∧ Below w5.heap.size w5 wx) (fun i _ => 2 - (intOf i).toNat)
  case atStart => exact ⟨0, by omega, rfl, Below.refl _ _⟩
  case round =>
    obtain ⟨k, hk, rfl, hbl⟩ := hrel
    have KB0 := Lib.hid hbl
    clear hbl
    by_cases hlt : k < 2
    · obtain ⟨A, n, c, zs, hcell, hrd, hnc, hn⟩ := HALL.out k hlt
      have hcell' := (KB0.out.cell (p := ⟨gl, k, none⟩) hgl).trans hcell
      have RD0 := Lib.hid (hrd.step KB0.out)
      clear hcell hrd
      obtain ⟨⟨pc, pk⟩, hP⟩ : ∃ x, Tlv.readP (st0 zs) = x := ⟨_, rfl⟩
      have hp := readPacket_any A n c zs wr RD0.out hnc hn
      rw [hP] at hp
      have HP := Lib.hid hp
      have HPP := Lib.hid hP
      clear hp hP
      go_wp2_with fail
      clear hcell'
      refine HP.out.mono ?_
      rintro e a1 ⟨z', seq', tm', den', amt', frm', dst', rfl, hq, hbb⟩
      have KB1 := Lib.hid (KB0.out.trans (hbb.mono KB0.out.size))
      have RD1 := Lib.hid (RD0.out.step hbb)
      clear hbb HP KB0 RD0
      by_cases hpc : pc = 0
      · subst hpc
        obtain ⟨pok, pby⟩ := packet_one HPP.out
        obtain ⟨e1, e2, e3, e4, e5, e6, e7⟩ := hq rfl pok.1
        dsimp only at e1 e2 e3 e4 e5 e6 e7
        rw [e1, e2, e3, e4, e5, e6, e7]
        clear e1 e2 e3 e4 e5 e6 e7 hq
        obtain ⟨pch, pseq, ptm, pden, pamt, pfrm, pdst⟩ := pk
        have POK := Lib.hid (And.intro pok pby)
        clear pok pby HPP
        try dsimp only
        (try simp only [])
        iterate 13 go_step
        refine wpList_store_made rfl 24 (.tmp 13) (.tmp 51) rfl _ (pcells pch pseq ptm pden pamt pfrm pdst) rfl rfl info24 rfl (pcells_one _ _ _ _ _ _ _) ?_
        have hbb := below_made a1 (.cells (pcells pch pseq ptm pden pamt pfrm pdst) 24)
        have KB2 := Lib.hid (KB1.out.trans (hbb.mono KB1.out.size))
        have RD2 := Lib.hid (RD1.out.step hbb)
        have QQ := Lib.hid (Whole.made a1 24 (pcells pch pseq ptm pden pamt pfrm pdst))
        clear hbb KB1 RD1
        generalize a1.alloc (.cells (pcells pch pseq ptm pden pamt pfrm pdst) 24) = a2 at *
        generalize a1.heap.size = gq at *
        obtain ⟨d0, d1, d2, d3, d4, d5, d6⟩ := pbox QQ.out
        have hp := packet_good pch pch pseq ptm pden pamt pfrm pdst a2 rfl POK.out.1.1 POK.out.1.2.1 POK.out.1.2.2.1 POK.out.1.2.2.2.1 POK.out.1.2.2.2.2.1 POK.out.1.2.2.2.2.2.1 POK.out.1.2.2.2.2.2.2
        rw [show pkt pch pseq ptm pden pamt pfrm pdst = zs from POK.out.2] at hp
        have HP := Lib.hid hp
        clear hp
        go_wp2_with fail
        refine HP.out.mono ?_
        rintro e a3 ⟨Ay, ny, cy, rfl, hr, _, hbb⟩
        have KB3 := Lib.hid (KB2.out.trans (hbb.mono KB2.out.size))
        have RD3 := Lib.hid (RD2.out.step hbb)
        have cv1 := run_string a3 _ Ay ny cy _ hr
        have cv2 := run_string a3 _ A n c _ RD3.out
        clear hr hbb HP QQ KB2 RD2 d0 d1 d2 d3 d4 d5 d6 POK
        go_upto_region 14 with (fail)
        clear cv1 cv2
        obtain ⟨⟨ac, ok, kk⟩, hP⟩ : ∃ x, Tlv.readA (st0 zs) = x := ⟨_, rfl⟩
        have hp := readAck_any A n c zs a3 RD3.out hnc hn
        rw [hP] at hp
        have HP := Lib.hid hp
        have HPP := Lib.hid hP
        clear hp hP
        go_wp2_with fail
        refine HP.out.mono ?_
        rintro e a4 ⟨ok', k', rfl, hq, hbb⟩
        have KB4 := Lib.hid (KB3.out.trans (hbb.mono KB3.out.size))
        have RD4 := Lib.hid (RD3.out.step hbb)
        clear hbb HP KB3 RD3
        by_cases hac : ac = 0
        · subst hac
          obtain ⟨hk31, hok, hby⟩ := ack_one_way HPP.out
          obtain ⟨e1, e2⟩ := hq rfl
          dsimp only at e1 e2
          rw [e1, e2]
          clear e1 e2 hq HPP
          by_cases hk0 : kk = 0
          · obtain rfl : kk = 0 := hk0
            have hok' : ok = true := hok
            subst hok'
            have POK : Hid (ackb true 0 = zs) := Lib.hid hby
            clear hok hby
            (try simp only [])
            iterate 13 go_step
            refine wpList_store_made rfl 27 (.tmp 17) (.tmp 72) rfl _ (acells true 0) rfl rfl info27 rfl (acells_one _ _) ?_
            have hbb := below_made a4 (.cells (acells true 0) 27)
            have KB5 := Lib.hid (KB4.out.trans (hbb.mono KB4.out.size))
            have RD5 := Lib.hid (RD4.out.step hbb)
            have QQ := Lib.hid (Whole.made a4 27 (acells true 0))
            clear hbb KB4 RD4
            generalize a4.alloc (.cells (acells true 0) 27) = a5 at *
            generalize a4.heap.size = gb at *
            obtain ⟨d0, d1⟩ := abox QQ.out
            have hp : Calls Try.prog 8 #[.agg (acells true 0)] a5 (CodePost a5 (ackb true 0)) := ack_yes a5
            rw [POK.out] at hp
            have HP := Lib.hid hp
            clear hp
            go_wp2_with fail
            refine HP.out.mono ?_
            rintro e a6 ⟨Ay, ny, cy, rfl, hr, _, hbb⟩
            have KB6 := Lib.hid (KB5.out.trans (hbb.mono KB5.out.size))
            have RD6 := Lib.hid (RD5.out.step hbb)
            have cv1 := run_string a6 _ Ay ny cy _ hr
            have cv2 := run_string a6 _ A n c _ RD6.out
            clear hr hbb HP QQ KB5 RD5 d0 d1 POK
            go_upto_region 19 with (fail)
            clear cv1 cv2
            obtain ⟨⟨hc, hd⟩, hP⟩ : ∃ x, Tlv.readH (st0 zs) = x := ⟨_, rfl⟩
            have hp := readHeader_any A n c zs a6 RD6.out hnc hn
            rw [hP] at hp
            have HP := Lib.hid hp
            have HPP := Lib.hid hP
            have hz31 := zero31
            clear hp hP
            go_wp2_with fail
            refine HP.out.mono ?_
            rintro e a7 ⟨t1, t2, u1, u2, u3, u4, rfl, hq, hlen, hbb⟩
            have KB7 := Lib.hid (KB6.out.trans (hbb.mono KB6.out.size))
            have RD7 := Lib.hid (RD6.out.step hbb)
            have HSZ := Lib.hid (hcells_size t1 t2 u1 u2 u3 u4 hlen.1 hlen.2.1 hlen.2.2.1 hlen.2.2.2)
            have HONE := Lib.hid (hcells_one t1 t2 u1 u2 u3 u4)
            have HHC : Hid (hc = 0 → ∀ w, Calls Try.prog 9 #[.agg (hcells t1 t2 u1 u2 u3 u4)] w (BytesPost w zs)) := Lib.hid (fun h0 w => by
              obtain ⟨e1, e2, e3, e4, e5, e6⟩ := hq h0
              rw [h0] at HPP
              obtain ⟨g1, g2, g3⟩ := header_one HPP.out
              have := header_any t1 t2 u1 u2 u3 u4 w (by rw [e1]; exact g1) (by rw [e2]; exact g2) hlen.1 hlen.2.1 hlen.2.2.1 hlen.2.2.2
              rw [show Tlv.Hd.bytes ⟨t1, t2, u1, u2, u3, u4⟩ = zs by rw [e1, e2, e3, e4, e5, e6]; exact g3] at this
              exact this)
            clear hbb HP KB6 RD6 hq hlen HPP
            generalize hcells t1 t2 u1 u2 u3 u4 = X at *
            (try simp only [])
            iterate 13 go_step
            refine wpList_store_made rfl 31 (.tmp 21) (.tmp 93) rfl hzero X rfl rfl (by rw [HSZ.out]; exact info31) (by rw [HSZ.out]; rfl) HONE.out ?_
            have hbb := below_made a7 (.cells X 31)
            have KB8 := Lib.hid (KB7.out.trans (hbb.mono KB7.out.size))
            have RD8 := Lib.hid (RD7.out.step hbb)
            have QQ := Lib.hid (Whole.made a7 31 X)
            clear hbb KB7 RD7 hz31
            generalize a7.alloc (.cells X 31) = a8 at *
            generalize a7.heap.size = gh at *
            go_upto_region 20 with (fail)
            by_cases hhc : hc = 0
            · subst hhc
              have hH := HHC.out rfl
              have HH := Lib.hid hH
              clear HHC hH
              have hS : a8.drew.rangeAt gh 0 X.toList ∧ (convert 35 9 (.slice A n c)).run Try.prog a8.drew = .ok (.string ⟨zs.toArray⟩) a8.drew := ⟨QQ.out.range, run_string a8.drew _ A n c _ RD8.out⟩
              refine wp_region_held_drew (S := (fun w' => w'.rangeAt gh 0 X.toList ∧ (convert 35 9 (.slice A n c)).run Try.prog w' = .ok (.string ⟨zs.toArray⟩) w')) (by kernel_rfl) hS (fun hHeld => ?_)
              refine wpAnyH_take (i := 0) (oi := { dst := some 95, op := Op.move (Operand.tmp 22), type := 25, pos := "law.go:176", after := #[], guard := none }) (v := ?_) rfl (by kernel_rfl) (by kernel_rfl) (by kernel_rfl) (fun _ _ _ h => h) (Or.inl ⟨by rfl, ?_⟩) (by assumption) ?_
              rotate_left
              · first | (intro w hSw; (try dsimp only at hSw); go_simp; done) | (intro w hSw; (try dsimp only at hSw); go_simp; with_reducible rfl)
              simp only [Act.put, List.setIfInBounds_toArray, List.set_cons_zero, List.set_cons_succ]
              refine wpAnyH_take (i := 1) (oi := { dst := some 96, op := Op.binOp BinOp.eql 25 (Operand.tmp 95) (Operand.const (Value.int IntKind.i64 0)) 25, type := 4, pos := "law.go:176", after := #[{ on := 0, ground := Ground.data }], guard := none }) (v := ?_) rfl (by kernel_rfl) (by kernel_rfl) (by kernel_rfl) (fun _ _ _ h => h) (Or.inl ⟨by rfl, ?_⟩) (by assumption) ?_
              rotate_left
              · first | (intro w hSw; (try dsimp only at hSw); go_simp; done) | (intro w hSw; (try dsimp only at hSw); go_simp; with_reducible rfl)
              simp only [Act.put, List.setIfInBounds_toArray, List.set_cons_zero, List.set_cons_succ]
              refine wpAnyH_take (i := 2) (oi := { dst := some 97, op := Op.move (Operand.tmp 96), type := 4, pos := "law.go:176", after := #[{ on := 1, ground := Ground.data }], guard := none }) (v := ?_) rfl (by kernel_rfl) (by kernel_rfl) (by kernel_rfl) (fun _ _ _ h => h) (Or.inl ⟨by rfl, ?_⟩) (by assumption) ?_
              rotate_left
              · first | (intro w hSw; (try dsimp only at hSw); go_simp; done) | (intro w hSw; (try dsimp only at hSw); go_simp; with_reducible rfl)
              simp only [Act.put, List.setIfInBounds_toArray, List.set_cons_zero, List.set_cons_succ]
              refine wpAnyH_take (i := 3) (oi := { dst := some 98, op := Op.load 31 (Operand.tmp 21), type := 31, pos := "law.go:176", after := #[{ on := 2, ground := Ground.guard }], guard := some (2, true) }) (v := .agg X.toList.toArray) rfl (by kernel_rfl) (by kernel_rfl) (by kernel_rfl) (fun _ _ _ h => h) (yieldsIf_load_mid (by rfl) 31 (.tmp 21) rfl gh 0 rfl X.toList _ (fun _ h => h.1) Try.underlying31 rfl (by rw [Array.length_toList, HSZ.out]; exact info31)) (by assumption) ?_
              rw [Array.toArray_toList]
              simp only [Act.put, List.setIfInBounds_toArray, List.set_cons_zero, List.set_cons_succ]
              refine wpAnyH_take (i := 6) (oi := { dst := some 101, op := Op.move (Operand.tmp 12), type := 35, pos := "law.go:176", after := #[{ on := 2, ground := Ground.guard }], guard := some (2, true) }) (v := ?_) rfl (by kernel_rfl) (by kernel_rfl) (by kernel_rfl) (fun _ _ _ h => h) (Or.inl ⟨by rfl, ?_⟩) (by assumption) ?_
              rotate_left
              · first | (intro w hSw; (try dsimp only at hSw); go_simp; done) | (intro w hSw; (try dsimp only at hSw); go_simp; with_reducible rfl)
              simp only [Act.put, List.setIfInBounds_toArray, List.set_cons_zero, List.set_cons_succ]
              refine wpAnyH_take (i := 7) (oi := { dst := some 102, op := Op.convert 35 9 (Operand.tmp 101), type := 9, pos := "law.go:176", after := #[{ on := 6, ground := Ground.data }, { on := 2, ground := Ground.guard }], guard := some (2, true) }) (v := ?_) rfl (by kernel_rfl) (by kernel_rfl) (by kernel_rfl) (fun _ _ _ h => h) (Or.inl ⟨by rfl, ?_⟩) (by assumption) ?_
              rotate_left
              · first | (intro w hSw; (try dsimp only at hSw); go_simp; done) | (intro w hSw; (try dsimp only at hSw); go_simp; with_reducible rfl)
              simp only [Act.put, List.setIfInBounds_toArray, List.set_cons_zero, List.set_cons_succ]
              refine wpAnyH_ready (rs := [4]) (by kernel_rfl) (by simp) ?_
              refine AllReadyH.cons rfl (fun K hK => ?_) AllReadyH.nil
              go_simp
              refine (HH.out a8.drew).mono ?_
              rintro e a9 ⟨Ay, ny, cy, rfl, hr, _, hbb⟩
              have KB9 := Lib.hid (KB8.out.drew.trans (hbb.mono KB8.out.size))
              have hs1 := run_string a9 _ Ay ny cy _ hr
              have hs2 := run_string a9 _ A n c _ ((RD8.out.drewN 1).below hbb (Nat.le_refl _))
              have hq2 : Whole a9 gh 31 X := Whole.below (w := a8.drew) QQ.out hbb QQ.out.lt
              have hS9 : a9.rangeAt gh 0 X.toList ∧ (convert 35 9 (.slice A n c)).run Try.prog a9 = .ok (.string ⟨zs.toArray⟩) a9 := ⟨hq2.range, hs2⟩
              clear hr hbb hHeld hS
              refine hK.out _ _ hS9 (fun _ => ?_)
              clear hK K
              refine anyH_more (S' := fun w' => (w'.rangeAt gh 0 X.toList ∧ (convert 35 9 (.slice A n c)).run Try.prog w' = .ok (.string ⟨zs.toArray⟩) w') ∧ (convert 35 9 (.slice Ay ny cy)).run Try.prog w' = .ok (.string ⟨zs.toArray⟩) w') (fun _ h => h.1) _ _ _ _ ?_
              have hHeld : (a9.rangeAt gh 0 X.toList ∧ (convert 35 9 (.slice A n c)).run Try.prog a9 = .ok (.string ⟨zs.toArray⟩) a9) ∧ (convert 35 9 (.slice Ay ny cy)).run Try.prog a9 = .ok (.string ⟨zs.toArray⟩) a9 := ⟨hS9, hs1⟩
              clear hs1 hs2 hq2 hS9
              refine wpAnyH_take (i := 5) (oi := { dst := some 100, op := Op.convert 35 9 (Operand.tmp 99), type := 9, pos := "law.go:176", after := #[{ on := 4, ground := Ground.data }, { on := 2, ground := Ground.guard }], guard := some (2, true) }) (v := ?_) rfl (by kernel_rfl) (by kernel_rfl) (by kernel_rfl) (fun _ _ _ h => h) (Or.inl ⟨by rfl, ?_⟩) (by assumption) ?_
              rotate_left
              · first | (intro w hSw; (try dsimp only at hSw); go_simp; done) | (intro w hSw; (try dsimp only at hSw); go_simp; with_reducible rfl)
              simp only [Act.put, List.setIfInBounds_toArray, List.set_cons_zero, List.set_cons_succ]
              refine wpAnyH_take (i := 8) (oi := { dst := some 103, op := Op.binOp BinOp.neq 9 (Operand.tmp 100) (Operand.tmp 102) 9, type := 4, pos := "law.go:176", after := #[{ on := 5, ground := Ground.data }, { on := 7, ground := Ground.data }, { on := 2, ground := Ground.guard }], guard := some (2, true) }) (v := ?_) rfl (by kernel_rfl) (by kernel_rfl) (by kernel_rfl) (fun _ _ _ h => h) (Or.inl ⟨by rfl, ?_⟩) (by assumption) ?_
              rotate_left
              · first | (intro w hSw; (try dsimp only at hSw); go_simp; done) | (intro w hSw; (try dsimp only at hSw); go_simp; with_reducible rfl)
              simp only [Act.put, List.setIfInBounds_toArray, List.set_cons_zero, List.set_cons_succ]
              refine wpAnyH_take (i := 9) (oi := { dst := some 104, op := Op.pick (Operand.tmp 97) (Operand.tmp 103) (Operand.const (Value.bool false)), type := 4, pos := "law.go:176", after := #[{ on := 2, ground := Ground.data }, { on := 8, ground := Ground.data }], guard := none }) (v := ?_) rfl (by kernel_rfl) (by kernel_rfl) (by kernel_rfl) (fun _ _ _ h => h) (Or.inl ⟨by rfl, ?_⟩) (by assumption) ?_
              rotate_left
              · first | (intro w hSw; (try dsimp only at hSw); go_simp; done) | (intro w hSw; (try dsimp only at hSw); go_simp; with_reducible rfl)
              simp only [Act.put, List.setIfInBounds_toArray, List.set_cons_zero, List.set_cons_succ]
              refine wpAnyH_done (by kernel_rfl) ?_ _
              clear hHeld
              go_wp2_with fail
              go_roundw
              case rel => exact ⟨k + 1, by omega, by go_num, KB9.out⟩
              case measure => simp [intOf]; omega
            · have q : ((hc : Int) == 0) = false := by simp; omega
              clear hhc HHC
              go_quiet (fail)
              go_wp2_with fail
              go_roundw
              case rel => exact ⟨k + 1, by omega, by go_num, below_drewN KB8.out _⟩
              case measure => simp [intOf]; omega
          · obtain rfl : ok = false := by rw [hok]; simp [hk0]
            have hk1 : 0 < kk := by omega
            have POK : Hid (ackb false kk = zs) := Lib.hid hby
            clear hok hby
            (try simp only [])
            iterate 13 go_step
            refine wpList_store_made rfl 27 (.tmp 17) (.tmp 72) rfl _ (acells false kk) rfl rfl info27 rfl (acells_one _ _) ?_
            have hbb := below_made a4 (.cells (acells false kk) 27)
            have KB5 := Lib.hid (KB4.out.trans (hbb.mono KB4.out.size))
            have RD5 := Lib.hid (RD4.out.step hbb)
            have QQ := Lib.hid (Whole.made a4 27 (acells false kk))
            clear hbb KB4 RD4
            generalize a4.alloc (.cells (acells false kk) 27) = a5 at *
            generalize a4.heap.size = gb at *
            obtain ⟨d0, d1⟩ := abox QQ.out
            have hp : Calls Try.prog 8 #[.agg (acells false kk)] a5 (CodePost a5 (ackb false kk)) := ack_no kk hk1 (by omega) a5
            rw [POK.out] at hp
            have HP := Lib.hid hp
            clear hp
            go_wp2_with fail
            refine HP.out.mono ?_
            rintro e a6 ⟨Ay, ny, cy, rfl, hr, _, hbb⟩
            have KB6 := Lib.hid (KB5.out.trans (hbb.mono KB5.out.size))
            have RD6 := Lib.hid (RD5.out.step hbb)
            have cv1 := run_string a6 _ Ay ny cy _ hr
            have cv2 := run_string a6 _ A n c _ RD6.out
            clear hr hbb HP QQ KB5 RD5 d0 d1 POK
            go_upto_region 19 with (fail)
            clear cv1 cv2
            obtain ⟨⟨hc, hd⟩, hP⟩ : ∃ x, Tlv.readH (st0 zs) = x := ⟨_, rfl⟩
            have hp := readHeader_any A n c zs a6 RD6.out hnc hn
            rw [hP] at hp
            have HP := Lib.hid hp
            have HPP := Lib.hid hP
            have hz31 := zero31
            clear hp hP
            go_wp2_with fail
            refine HP.out.mono ?_
            rintro e a7 ⟨t1, t2, u1, u2, u3, u4, rfl, hq, hlen, hbb⟩
            have KB7 := Lib.hid (KB6.out.trans (hbb.mono KB6.out.size))
            have RD7 := Lib.hid (RD6.out.step hbb)
            have HSZ := Lib.hid (hcells_size t1 t2 u1 u2 u3 u4 hlen.1 hlen.2.1 hlen.2.2.1 hlen.2.2.2)
            have HONE := Lib.hid (hcells_one t1 t2 u1 u2 u3 u4)
            have HHC : Hid (hc = 0 → ∀ w, Calls Try.prog 9 #[.agg (hcells t1 t2 u1 u2 u3 u4)] w (BytesPost w zs)) := Lib.hid (fun h0 w => by
              obtain ⟨e1, e2, e3, e4, e5, e6⟩ := hq h0
              rw [h0] at HPP
              obtain ⟨g1, g2, g3⟩ := header_one HPP.out
              have := header_any t1 t2 u1 u2 u3 u4 w (by rw [e1]; exact g1) (by rw [e2]; exact g2) hlen.1 hlen.2.1 hlen.2.2.1 hlen.2.2.2
              rw [show Tlv.Hd.bytes ⟨t1, t2, u1, u2, u3, u4⟩ = zs by rw [e1, e2, e3, e4, e5, e6]; exact g3] at this
              exact this)
            clear hbb HP KB6 RD6 hq hlen HPP
            generalize hcells t1 t2 u1 u2 u3 u4 = X at *
            (try simp only [])
            iterate 13 go_step
            refine wpList_store_made rfl 31 (.tmp 21) (.tmp 93) rfl hzero X rfl rfl (by rw [HSZ.out]; exact info31) (by rw [HSZ.out]; rfl) HONE.out ?_
            have hbb := below_made a7 (.cells X 31)
            have KB8 := Lib.hid (KB7.out.trans (hbb.mono KB7.out.size))
            have RD8 := Lib.hid (RD7.out.step hbb)
            have QQ := Lib.hid (Whole.made a7 31 X)
            clear hbb KB7 RD7 hz31
            generalize a7.alloc (.cells X 31) = a8 at *
            generalize a7.heap.size = gh at *
            go_upto_region 20 with (fail)
            by_cases hhc : hc = 0
            · subst hhc
              have hH := HHC.out rfl
              have HH := Lib.hid hH
              clear HHC hH
              have hS : a8.drew.rangeAt gh 0 X.toList ∧ (convert 35 9 (.slice A n c)).run Try.prog a8.drew = .ok (.string ⟨zs.toArray⟩) a8.drew := ⟨QQ.out.range, run_string a8.drew _ A n c _ RD8.out⟩
              refine wp_region_held_drew (S := (fun w' => w'.rangeAt gh 0 X.toList ∧ (convert 35 9 (.slice A n c)).run Try.prog w' = .ok (.string ⟨zs.toArray⟩) w')) (by kernel_rfl) hS (fun hHeld => ?_)
              refine wpAnyH_take (i := 0) (oi := { dst := some 95, op := Op.move (Operand.tmp 22), type := 25, pos := "law.go:176", after := #[], guard := none }) (v := ?_) rfl (by kernel_rfl) (by kernel_rfl) (by kernel_rfl) (fun _ _ _ h => h) (Or.inl ⟨by rfl, ?_⟩) (by assumption) ?_
              rotate_left
              · first | (intro w hSw; (try dsimp only at hSw); go_simp; done) | (intro w hSw; (try dsimp only at hSw); go_simp; with_reducible rfl)
              simp only [Act.put, List.setIfInBounds_toArray, List.set_cons_zero, List.set_cons_succ]
              refine wpAnyH_take (i := 1) (oi := { dst := some 96, op := Op.binOp BinOp.eql 25 (Operand.tmp 95) (Operand.const (Value.int IntKind.i64 0)) 25, type := 4, pos := "law.go:176", after := #[{ on := 0, ground := Ground.data }], guard := none }) (v := ?_) rfl (by kernel_rfl) (by kernel_rfl) (by kernel_rfl) (fun _ _ _ h => h) (Or.inl ⟨by rfl, ?_⟩) (by assumption) ?_
              rotate_left
              · first | (intro w hSw; (try dsimp only at hSw); go_simp; done) | (intro w hSw; (try dsimp only at hSw); go_simp; with_reducible rfl)
              simp only [Act.put, List.setIfInBounds_toArray, List.set_cons_zero, List.set_cons_succ]
              refine wpAnyH_take (i := 2) (oi := { dst := some 97, op := Op.move (Operand.tmp 96), type := 4, pos := "law.go:176", after := #[{ on := 1, ground := Ground.data }], guard := none }) (v := ?_) rfl (by kernel_rfl) (by kernel_rfl) (by kernel_rfl) (fun _ _ _ h => h) (Or.inl ⟨by rfl, ?_⟩) (by assumption) ?_
              rotate_left
              · first | (intro w hSw; (try dsimp only at hSw); go_simp; done) | (intro w hSw; (try dsimp only at hSw); go_simp; with_reducible rfl)
              simp only [Act.put, List.setIfInBounds_toArray, List.set_cons_zero, List.set_cons_succ]
              refine wpAnyH_take (i := 3) (oi := { dst := some 98, op := Op.load 31 (Operand.tmp 21), type := 31, pos := "law.go:176", after := #[{ on := 2, ground := Ground.guard }], guard := some (2, true) }) (v := .agg X.toList.toArray) rfl (by kernel_rfl) (by kernel_rfl) (by kernel_rfl) (fun _ _ _ h => h) (yieldsIf_load_mid (by rfl) 31 (.tmp 21) rfl gh 0 rfl X.toList _ (fun _ h => h.1) Try.underlying31 rfl (by rw [Array.length_toList, HSZ.out]; exact info31)) (by assumption) ?_
              rw [Array.toArray_toList]
              simp only [Act.put, List.setIfInBounds_toArray, List.set_cons_zero, List.set_cons_succ]
              refine wpAnyH_take (i := 6) (oi := { dst := some 101, op := Op.move (Operand.tmp 12), type := 35, pos := "law.go:176", after := #[{ on := 2, ground := Ground.guard }], guard := some (2, true) }) (v := ?_) rfl (by kernel_rfl) (by kernel_rfl) (by kernel_rfl) (fun _ _ _ h => h) (Or.inl ⟨by rfl, ?_⟩) (by assumption) ?_
              rotate_left
              · first | (intro w hSw; (try dsimp only at hSw); go_simp; done) | (intro w hSw; (try dsimp only at hSw); go_simp; with_reducible rfl)
              simp only [Act.put, List.setIfInBounds_toArray, List.set_cons_zero, List.set_cons_succ]
              refine wpAnyH_take (i := 7) (oi := { dst := some 102, op := Op.convert 35 9 (Operand.tmp 101), type := 9, pos := "law.go:176", after := #[{ on := 6, ground := Ground.data }, { on := 2, ground := Ground.guard }], guard := some (2, true) }) (v := ?_) rfl (by kernel_rfl) (by kernel_rfl) (by kernel_rfl) (fun _ _ _ h => h) (Or.inl ⟨by rfl, ?_⟩) (by assumption) ?_
              rotate_left
              · first | (intro w hSw; (try dsimp only at hSw); go_simp; done) | (intro w hSw; (try dsimp only at hSw); go_simp; with_reducible rfl)
              simp only [Act.put, List.setIfInBounds_toArray, List.set_cons_zero, List.set_cons_succ]
              refine wpAnyH_ready (rs := [4]) (by kernel_rfl) (by simp) ?_
              refine AllReadyH.cons rfl (fun K hK => ?_) AllReadyH.nil
              go_simp
              refine (HH.out a8.drew).mono ?_
              rintro e a9 ⟨Ay, ny, cy, rfl, hr, _, hbb⟩
              have KB9 := Lib.hid (KB8.out.drew.trans (hbb.mono KB8.out.size))
              have hs1 := run_string a9 _ Ay ny cy _ hr
              have hs2 := run_string a9 _ A n c _ ((RD8.out.drewN 1).below hbb (Nat.le_refl _))
              have hq2 : Whole a9 gh 31 X := Whole.below (w := a8.drew) QQ.out hbb QQ.out.lt
              have hS9 : a9.rangeAt gh 0 X.toList ∧ (convert 35 9 (.slice A n c)).run Try.prog a9 = .ok (.string ⟨zs.toArray⟩) a9 := ⟨hq2.range, hs2⟩
              clear hr hbb hHeld hS
              refine hK.out _ _ hS9 (fun _ => ?_)
              clear hK K
              refine anyH_more (S' := fun w' => (w'.rangeAt gh 0 X.toList ∧ (convert 35 9 (.slice A n c)).run Try.prog w' = .ok (.string ⟨zs.toArray⟩) w') ∧ (convert 35 9 (.slice Ay ny cy)).run Try.prog w' = .ok (.string ⟨zs.toArray⟩) w') (fun _ h => h.1) _ _ _ _ ?_
              have hHeld : (a9.rangeAt gh 0 X.toList ∧ (convert 35 9 (.slice A n c)).run Try.prog a9 = .ok (.string ⟨zs.toArray⟩) a9) ∧ (convert 35 9 (.slice Ay ny cy)).run Try.prog a9 = .ok (.string ⟨zs.toArray⟩) a9 := ⟨hS9, hs1⟩
              clear hs1 hs2 hq2 hS9
              refine wpAnyH_take (i := 5) (oi := { dst := some 100, op := Op.convert 35 9 (Operand.tmp 99), type := 9, pos := "law.go:176", after := #[{ on := 4, ground := Ground.data }, { on := 2, ground := Ground.guard }], guard := some (2, true) }) (v := ?_) rfl (by kernel_rfl) (by kernel_rfl) (by kernel_rfl) (fun _ _ _ h => h) (Or.inl ⟨by rfl, ?_⟩) (by assumption) ?_
              rotate_left
              · first | (intro w hSw; (try dsimp only at hSw); go_simp; done) | (intro w hSw; (try dsimp only at hSw); go_simp; with_reducible rfl)
              simp only [Act.put, List.setIfInBounds_toArray, List.set_cons_zero, List.set_cons_succ]
              refine wpAnyH_take (i := 8) (oi := { dst := some 103, op := Op.binOp BinOp.neq 9 (Operand.tmp 100) (Operand.tmp 102) 9, type := 4, pos := "law.go:176", after := #[{ on := 5, ground := Ground.data }, { on := 7, ground := Ground.data }, { on := 2, ground := Ground.guard }], guard := some (2, true) }) (v := ?_) rfl (by kernel_rfl) (by kernel_rfl) (by kernel_rfl) (fun _ _ _ h => h) (Or.inl ⟨by rfl, ?_⟩) (by assumption) ?_
              rotate_left
              · first | (intro w hSw; (try dsimp only at hSw); go_simp; done) | (intro w hSw; (try dsimp only at hSw); go_simp; with_reducible rfl)
              simp only [Act.put, List.setIfInBounds_toArray, List.set_cons_zero, List.set_cons_succ]
              refine wpAnyH_take (i := 9) (oi := { dst := some 104, op := Op.pick (Operand.tmp 97) (Operand.tmp 103) (Operand.const (Value.bool false)), type := 4, pos := "law.go:176", after := #[{ on := 2, ground := Ground.data }, { on := 8, ground := Ground.data }], guard := none }) (v := ?_) rfl (by kernel_rfl) (by kernel_rfl) (by kernel_rfl) (fun _ _ _ h => h) (Or.inl ⟨by rfl, ?_⟩) (by assumption) ?_
              rotate_left
              · first | (intro w hSw; (try dsimp only at hSw); go_simp; done) | (intro w hSw; (try dsimp only at hSw); go_simp; with_reducible rfl)
              simp only [Act.put, List.setIfInBounds_toArray, List.set_cons_zero, List.set_cons_succ]
              refine wpAnyH_done (by kernel_rfl) ?_ _
              clear hHeld
              go_wp2_with fail
              go_roundw
              case rel => exact ⟨k + 1, by omega, by go_num, KB9.out⟩
              case measure => simp [intOf]; omega
            · have q : ((hc : Int) == 0) = false := by simp; omega
              clear hhc HHC
              go_quiet (fail)
              go_wp2_with fail
              go_roundw
              case rel => exact ⟨k + 1, by omega, by go_num, below_drewN KB8.out _⟩
              case measure => simp [intOf]; omega
        · have q : ((ac : Int) == 0) = false := by simp; omega
          clear hq hac HPP
          (try simp only [])
          iterate 13 go_step
          refine wpList_store_made rfl 27 (.tmp 17) (.tmp 72) rfl _ (acells ok' k') rfl rfl info27 rfl (acells_one _ _) ?_
          have hbb := below_made a4 (.cells (acells ok' k') 27)
          have KB6 := Lib.hid (KB4.out.trans (hbb.mono KB4.out.size))
          have RD6 := Lib.hid (RD4.out.step hbb)
          clear hbb KB4 RD4
          generalize a4.alloc (.cells (acells ok' k') 27) = a6 at *
          go_upto_region 19 with (fail)
          clear q
          obtain ⟨⟨hc, hd⟩, hP⟩ : ∃ x, Tlv.readH (st0 zs) = x := ⟨_, rfl⟩
          have hp := readHeader_any A n c zs a6 RD6.out hnc hn
          rw [hP] at hp
          have HP := Lib.hid hp
          have HPP := Lib.hid hP
          have hz31 := zero31
          clear hp hP
          go_wp2_with fail
          refine HP.out.mono ?_
          rintro e a7 ⟨t1, t2, u1, u2, u3, u4, rfl, hq, hlen, hbb⟩
          have KB7 := Lib.hid (KB6.out.trans (hbb.mono KB6.out.size))
          have RD7 := Lib.hid (RD6.out.step hbb)
          have HSZ := Lib.hid (hcells_size t1 t2 u1 u2 u3 u4 hlen.1 hlen.2.1 hlen.2.2.1 hlen.2.2.2)
          have HONE := Lib.hid (hcells_one t1 t2 u1 u2 u3 u4)
          have HHC : Hid (hc = 0 → ∀ w, Calls Try.prog 9 #[.agg (hcells t1 t2 u1 u2 u3 u4)] w (BytesPost w zs)) := Lib.hid (fun h0 w => by
            obtain ⟨e1, e2, e3, e4, e5, e6⟩ := hq h0
            rw [h0] at HPP
            obtain ⟨g1, g2, g3⟩ := header_one HPP.out
            have := header_any t1 t2 u1 u2 u3 u4 w (by rw [e1]; exact g1) (by rw [e2]; exact g2) hlen.1 hlen.2.1 hlen.2.2.1 hlen.2.2.2
            rw [show Tlv.Hd.bytes ⟨t1, t2, u1, u2, u3, u4⟩ = zs by rw [e1, e2, e3, e4, e5, e6]; exact g3] at this
            exact this)
          clear hbb HP KB6 RD6 hq hlen HPP
          generalize hcells t1 t2 u1 u2 u3 u4 = X at *
          (try simp only [])
          iterate 13 go_step
          refine wpList_store_made rfl 31 (.tmp 21) (.tmp 93) rfl hzero X rfl rfl (by rw [HSZ.out]; exact info31) (by rw [HSZ.out]; rfl) HONE.out ?_
          have hbb := below_made a7 (.cells X 31)
          have KB8 := Lib.hid (KB7.out.trans (hbb.mono KB7.out.size))
          have RD8 := Lib.hid (RD7.out.step hbb)
          have QQ := Lib.hid (Whole.made a7 31 X)
          clear hbb KB7 RD7 hz31
          generalize a7.alloc (.cells X 31) = a8 at *
          generalize a7.heap.size = gh at *
          go_upto_region 20 with (fail)
          by_cases hhc : hc = 0
          · subst hhc
            have hH := HHC.out rfl
            have HH := Lib.hid hH
            clear HHC hH
            have hS : a8.drew.rangeAt gh 0 X.toList ∧ (convert 35 9 (.slice A n c)).run Try.prog a8.drew = .ok (.string ⟨zs.toArray⟩) a8.drew := ⟨QQ.out.range, run_string a8.drew _ A n c _ RD8.out⟩
            refine wp_region_held_drew (S := (fun w' => w'.rangeAt gh 0 X.toList ∧ (convert 35 9 (.slice A n c)).run Try.prog w' = .ok (.string ⟨zs.toArray⟩) w')) (by kernel_rfl) hS (fun hHeld => ?_)
            refine wpAnyH_take (i := 0) (oi := { dst := some 95, op := Op.move (Operand.tmp 22), type := 25, pos := "law.go:176", after := #[], guard := none }) (v := ?_) rfl (by kernel_rfl) (by kernel_rfl) (by kernel_rfl) (fun _ _ _ h => h) (Or.inl ⟨by rfl, ?_⟩) (by assumption) ?_
            rotate_left
            · first | (intro w hSw; (try dsimp only at hSw); go_simp; done) | (intro w hSw; (try dsimp only at hSw); go_simp; with_reducible rfl)
            simp only [Act.put, List.setIfInBounds_toArray, List.set_cons_zero, List.set_cons_succ]
            refine wpAnyH_take (i := 1) (oi := { dst := some 96, op := Op.binOp BinOp.eql 25 (Operand.tmp 95) (Operand.const (Value.int IntKind.i64 0)) 25, type := 4, pos := "law.go:176", after := #[{ on := 0, ground := Ground.data }], guard := none }) (v := ?_) rfl (by kernel_rfl) (by kernel_rfl) (by kernel_rfl) (fun _ _ _ h => h) (Or.inl ⟨by rfl, ?_⟩) (by assumption) ?_
            rotate_left
            · first | (intro w hSw; (try dsimp only at hSw); go_simp; done) | (intro w hSw; (try dsimp only at hSw); go_simp; with_reducible rfl)
            simp only [Act.put, List.setIfInBounds_toArray, List.set_cons_zero, List.set_cons_succ]
            refine wpAnyH_take (i := 2) (oi := { dst := some 97, op := Op.move (Operand.tmp 96), type := 4, pos := "law.go:176", after := #[{ on := 1, ground := Ground.data }], guard := none }) (v := ?_) rfl (by kernel_rfl) (by kernel_rfl) (by kernel_rfl) (fun _ _ _ h => h) (Or.inl ⟨by rfl, ?_⟩) (by assumption) ?_
            rotate_left
            · first | (intro w hSw; (try dsimp only at hSw); go_simp; done) | (intro w hSw; (try dsimp only at hSw); go_simp; with_reducible rfl)
            simp only [Act.put, List.setIfInBounds_toArray, List.set_cons_zero, List.set_cons_succ]
            refine wpAnyH_take (i := 3) (oi := { dst := some 98, op := Op.load 31 (Operand.tmp 21), type := 31, pos := "law.go:176", after := #[{ on := 2, ground := Ground.guard }], guard := some (2, true) }) (v := .agg X.toList.toArray) rfl (by kernel_rfl) (by kernel_rfl) (by kernel_rfl) (fun _ _ _ h => h) (yieldsIf_load_mid (by rfl) 31 (.tmp 21) rfl gh 0 rfl X.toList _ (fun _ h => h.1) Try.underlying31 rfl (by rw [Array.length_toList, HSZ.out]; exact info31)) (by assumption) ?_
            rw [Array.toArray_toList]
            simp only [Act.put, List.setIfInBounds_toArray, List.set_cons_zero, List.set_cons_succ]
            refine wpAnyH_take (i := 6) (oi := { dst := some 101, op := Op.move (Operand.tmp 12), type := 35, pos := "law.go:176", after := #[{ on := 2, ground := Ground.guard }], guard := some (2, true) }) (v := ?_) rfl (by kernel_rfl) (by kernel_rfl) (by kernel_rfl) (fun _ _ _ h => h) (Or.inl ⟨by rfl, ?_⟩) (by assumption) ?_
            rotate_left
            · first | (intro w hSw; (try dsimp only at hSw); go_simp; done) | (intro w hSw; (try dsimp only at hSw); go_simp; with_reducible rfl)
            simp only [Act.put, List.setIfInBounds_toArray, List.set_cons_zero, List.set_cons_succ]
            refine wpAnyH_take (i := 7) (oi := { dst := some 102, op := Op.convert 35 9 (Operand.tmp 101), type := 9, pos := "law.go:176", after := #[{ on := 6, ground := Ground.data }, { on := 2, ground := Ground.guard }], guard := some (2, true) }) (v := ?_) rfl (by kernel_rfl) (by kernel_rfl) (by kernel_rfl) (fun _ _ _ h => h) (Or.inl ⟨by rfl, ?_⟩) (by assumption) ?_
            rotate_left
            · first | (intro w hSw; (try dsimp only at hSw); go_simp; done) | (intro w hSw; (try dsimp only at hSw); go_simp; with_reducible rfl)
            simp only [Act.put, List.setIfInBounds_toArray, List.set_cons_zero, List.set_cons_succ]
            refine wpAnyH_ready (rs := [4]) (by kernel_rfl) (by simp) ?_
            refine AllReadyH.cons rfl (fun K hK => ?_) AllReadyH.nil
            go_simp
            refine (HH.out a8.drew).mono ?_
            rintro e a9 ⟨Ay, ny, cy, rfl, hr, _, hbb⟩
            have KB9 := Lib.hid (KB8.out.drew.trans (hbb.mono KB8.out.size))
            have hs1 := run_string a9 _ Ay ny cy _ hr
            have hs2 := run_string a9 _ A n c _ ((RD8.out.drewN 1).below hbb (Nat.le_refl _))
            have hq2 : Whole a9 gh 31 X := Whole.below (w := a8.drew) QQ.out hbb QQ.out.lt
            have hS9 : a9.rangeAt gh 0 X.toList ∧ (convert 35 9 (.slice A n c)).run Try.prog a9 = .ok (.string ⟨zs.toArray⟩) a9 := ⟨hq2.range, hs2⟩
            clear hr hbb hHeld hS
            refine hK.out _ _ hS9 (fun _ => ?_)
            clear hK K
            refine anyH_more (S' := fun w' => (w'.rangeAt gh 0 X.toList ∧ (convert 35 9 (.slice A n c)).run Try.prog w' = .ok (.string ⟨zs.toArray⟩) w') ∧ (convert 35 9 (.slice Ay ny cy)).run Try.prog w' = .ok (.string ⟨zs.toArray⟩) w') (fun _ h => h.1) _ _ _ _ ?_
            have hHeld : (a9.rangeAt gh 0 X.toList ∧ (convert 35 9 (.slice A n c)).run Try.prog a9 = .ok (.string ⟨zs.toArray⟩) a9) ∧ (convert 35 9 (.slice Ay ny cy)).run Try.prog a9 = .ok (.string ⟨zs.toArray⟩) a9 := ⟨hS9, hs1⟩
            clear hs1 hs2 hq2 hS9
            refine wpAnyH_take (i := 5) (oi := { dst := some 100, op := Op.convert 35 9 (Operand.tmp 99), type := 9, pos := "law.go:176", after := #[{ on := 4, ground := Ground.data }, { on := 2, ground := Ground.guard }], guard := some (2, true) }) (v := ?_) rfl (by kernel_rfl) (by kernel_rfl) (by kernel_rfl) (fun _ _ _ h => h) (Or.inl ⟨by rfl, ?_⟩) (by assumption) ?_
            rotate_left
            · first | (intro w hSw; (try dsimp only at hSw); go_simp; done) | (intro w hSw; (try dsimp only at hSw); go_simp; with_reducible rfl)
            simp only [Act.put, List.setIfInBounds_toArray, List.set_cons_zero, List.set_cons_succ]
            refine wpAnyH_take (i := 8) (oi := { dst := some 103, op := Op.binOp BinOp.neq 9 (Operand.tmp 100) (Operand.tmp 102) 9, type := 4, pos := "law.go:176", after := #[{ on := 5, ground := Ground.data }, { on := 7, ground := Ground.data }, { on := 2, ground := Ground.guard }], guard := some (2, true) }) (v := ?_) rfl (by kernel_rfl) (by kernel_rfl) (by kernel_rfl) (fun _ _ _ h => h) (Or.inl ⟨by rfl, ?_⟩) (by assumption) ?_
            rotate_left
            · first | (intro w hSw; (try dsimp only at hSw); go_simp; done) | (intro w hSw; (try dsimp only at hSw); go_simp; with_reducible rfl)
            simp only [Act.put, List.setIfInBounds_toArray, List.set_cons_zero, List.set_cons_succ]
            refine wpAnyH_take (i := 9) (oi := { dst := some 104, op := Op.pick (Operand.tmp 97) (Operand.tmp 103) (Operand.const (Value.bool false)), type := 4, pos := "law.go:176", after := #[{ on := 2, ground := Ground.data }, { on := 8, ground := Ground.data }], guard := none }) (v := ?_) rfl (by kernel_rfl) (by kernel_rfl) (by kernel_rfl) (fun _ _ _ h => h) (Or.inl ⟨by rfl, ?_⟩) (by assumption) ?_
            rotate_left
            · first | (intro w hSw; (try dsimp only at hSw); go_simp; done) | (intro w hSw; (try dsimp only at hSw); go_simp; with_reducible rfl)
            simp only [Act.put, List.setIfInBounds_toArray, List.set_cons_zero, List.set_cons_succ]
            refine wpAnyH_done (by kernel_rfl) ?_ _
            clear hHeld
            go_wp2_with fail
            go_roundw
            case rel => exact ⟨k + 1, by omega, by go_num, KB9.out⟩
            case measure => simp [intOf]; omega
          · have q : ((hc : Int) == 0) = false := by simp; omega
            clear hhc HHC
            go_quiet (fail)
            go_wp2_with fail
            go_roundw
            case rel => exact ⟨k + 1, by omega, by go_num, below_drewN KB8.out _⟩
            case measure => simp [intOf]; omega
      · have q : ((pc : Int) == 0) = false := by simp; omega
        clear hq hpc HPP
        (try simp only [])
        iterate 13 go_step
        refine wpList_store_made rfl 24 (.tmp 13) (.tmp 51) rfl _ (pcells z' seq' tm' den' amt' frm' dst') rfl rfl info24 rfl (pcells_one _ _ _ _ _ _ _) ?_
        have hbb := below_made a1 (.cells (pcells z' seq' tm' den' amt' frm' dst') 24)
        have KB3 := Lib.hid (KB1.out.trans (hbb.mono KB1.out.size))
        have RD3 := Lib.hid (RD1.out.step hbb)
        clear hbb KB1 RD1
        generalize a1.alloc (.cells (pcells z' seq' tm' den' amt' frm' dst') 24) = a3 at *
        go_upto_region 14 with (fail)
        clear q
        obtain ⟨⟨ac, ok, kk⟩, hP⟩ : ∃ x, Tlv.readA (st0 zs) = x := ⟨_, rfl⟩
        have hp := readAck_any A n c zs a3 RD3.out hnc hn
        rw [hP] at hp
        have HP := Lib.hid hp
        have HPP := Lib.hid hP
        clear hp hP
        go_wp2_with fail
        refine HP.out.mono ?_
        rintro e a4 ⟨ok', k', rfl, hq, hbb⟩
        have KB4 := Lib.hid (KB3.out.trans (hbb.mono KB3.out.size))
        have RD4 := Lib.hid (RD3.out.step hbb)
        clear hbb HP KB3 RD3
        by_cases hac : ac = 0
        · subst hac
          obtain ⟨hk31, hok, hby⟩ := ack_one_way HPP.out
          obtain ⟨e1, e2⟩ := hq rfl
          dsimp only at e1 e2
          rw [e1, e2]
          clear e1 e2 hq HPP
          by_cases hk0 : kk = 0
          · obtain rfl : kk = 0 := hk0
            have hok' : ok = true := hok
            subst hok'
            have POK : Hid (ackb true 0 = zs) := Lib.hid hby
            clear hok hby
            (try simp only [])
            iterate 13 go_step
            refine wpList_store_made rfl 27 (.tmp 17) (.tmp 72) rfl _ (acells true 0) rfl rfl info27 rfl (acells_one _ _) ?_
            have hbb := below_made a4 (.cells (acells true 0) 27)
            have KB5 := Lib.hid (KB4.out.trans (hbb.mono KB4.out.size))
            have RD5 := Lib.hid (RD4.out.step hbb)
            have QQ := Lib.hid (Whole.made a4 27 (acells true 0))
            clear hbb KB4 RD4
            generalize a4.alloc (.cells (acells true 0) 27) = a5 at *
            generalize a4.heap.size = gb at *
            obtain ⟨d0, d1⟩ := abox QQ.out
            have hp : Calls Try.prog 8 #[.agg (acells true 0)] a5 (CodePost a5 (ackb true 0)) := ack_yes a5
            rw [POK.out] at hp
            have HP := Lib.hid hp
            clear hp
            go_wp2_with fail
            refine HP.out.mono ?_
            rintro e a6 ⟨Ay, ny, cy, rfl, hr, _, hbb⟩
            have KB6 := Lib.hid (KB5.out.trans (hbb.mono KB5.out.size))
            have RD6 := Lib.hid (RD5.out.step hbb)
            have cv1 := run_string a6 _ Ay ny cy _ hr
            have cv2 := run_string a6 _ A n c _ RD6.out
            clear hr hbb HP QQ KB5 RD5 d0 d1 POK
            go_upto_region 19 with (fail)
            clear cv1 cv2
            obtain ⟨⟨hc, hd⟩, hP⟩ : ∃ x, Tlv.readH (st0 zs) = x := ⟨_, rfl⟩
            have hp := readHeader_any A n c zs a6 RD6.out hnc hn
            rw [hP] at hp
            have HP := Lib.hid hp
            have HPP := Lib.hid hP
            have hz31 := zero31
            clear hp hP
            go_wp2_with fail
            refine HP.out.mono ?_
            rintro e a7 ⟨t1, t2, u1, u2, u3, u4, rfl, hq, hlen, hbb⟩
            have KB7 := Lib.hid (KB6.out.trans (hbb.mono KB6.out.size))
            have RD7 := Lib.hid (RD6.out.step hbb)
            have HSZ := Lib.hid (hcells_size t1 t2 u1 u2 u3 u4 hlen.1 hlen.2.1 hlen.2.2.1 hlen.2.2.2)
            have HONE := Lib.hid (hcells_one t1 t2 u1 u2 u3 u4)
            have HHC : Hid (hc = 0 → ∀ w, Calls Try.prog 9 #[.agg (hcells t1 t2 u1 u2 u3 u4)] w (BytesPost w zs)) := Lib.hid (fun h0 w => by
              obtain ⟨e1, e2, e3, e4, e5, e6⟩ := hq h0
              rw [h0] at HPP
              obtain ⟨g1, g2, g3⟩ := header_one HPP.out
              have := header_any t1 t2 u1 u2 u3 u4 w (by rw [e1]; exact g1) (by rw [e2]; exact g2) hlen.1 hlen.2.1 hlen.2.2.1 hlen.2.2.2
              rw [show Tlv.Hd.bytes ⟨t1, t2, u1, u2, u3, u4⟩ = zs by rw [e1, e2, e3, e4, e5, e6]; exact g3] at this
              exact this)
            clear hbb HP KB6 RD6 hq hlen HPP
            generalize hcells t1 t2 u1 u2 u3 u4 = X at *
            (try simp only [])
            iterate 13 go_step
            refine wpList_store_made rfl 31 (.tmp 21) (.tmp 93) rfl hzero X rfl rfl (by rw [HSZ.out]; exact info31) (by rw [HSZ.out]; rfl) HONE.out ?_
            have hbb := below_made a7 (.cells X 31)
            have KB8 := Lib.hid (KB7.out.trans (hbb.mono KB7.out.size))
            have RD8 := Lib.hid (RD7.out.step hbb)
            have QQ := Lib.hid (Whole.made a7 31 X)
            clear hbb KB7 RD7 hz31
            generalize a7.alloc (.cells X 31) = a8 at *
            generalize a7.heap.size = gh at *
            go_upto_region 20 with (fail)
            by_cases hhc : hc = 0
            · subst hhc
              have hH := HHC.out rfl
              have HH := Lib.hid hH
              clear HHC hH
              have hS : a8.drew.rangeAt gh 0 X.toList ∧ (convert 35 9 (.slice A n c)).run Try.prog a8.drew = .ok (.string ⟨zs.toArray⟩) a8.drew := ⟨QQ.out.range, run_string a8.drew _ A n c _ RD8.out⟩
              refine wp_region_held_drew (S := (fun w' => w'.rangeAt gh 0 X.toList ∧ (convert 35 9 (.slice A n c)).run Try.prog w' = .ok (.string ⟨zs.toArray⟩) w')) (by kernel_rfl) hS (fun hHeld => ?_)
              refine wpAnyH_take (i := 0) (oi := { dst := some 95, op := Op.move (Operand.tmp 22), type := 25, pos := "law.go:176", after := #[], guard := none }) (v := ?_) rfl (by kernel_rfl) (by kernel_rfl) (by kernel_rfl) (fun _ _ _ h => h) (Or.inl ⟨by rfl, ?_⟩) (by assumption) ?_
              rotate_left
              · first | (intro w hSw; (try dsimp only at hSw); go_simp; done) | (intro w hSw; (try dsimp only at hSw); go_simp; with_reducible rfl)
              simp only [Act.put, List.setIfInBounds_toArray, List.set_cons_zero, List.set_cons_succ]
              refine wpAnyH_take (i := 1) (oi := { dst := some 96, op := Op.binOp BinOp.eql 25 (Operand.tmp 95) (Operand.const (Value.int IntKind.i64 0)) 25, type := 4, pos := "law.go:176", after := #[{ on := 0, ground := Ground.data }], guard := none }) (v := ?_) rfl (by kernel_rfl) (by kernel_rfl) (by kernel_rfl) (fun _ _ _ h => h) (Or.inl ⟨by rfl, ?_⟩) (by assumption) ?_
              rotate_left
              · first | (intro w hSw; (try dsimp only at hSw); go_simp; done) | (intro w hSw; (try dsimp only at hSw); go_simp; with_reducible rfl)
              simp only [Act.put, List.setIfInBounds_toArray, List.set_cons_zero, List.set_cons_succ]
              refine wpAnyH_take (i := 2) (oi := { dst := some 97, op := Op.move (Operand.tmp 96), type := 4, pos := "law.go:176", after := #[{ on := 1, ground := Ground.data }], guard := none }) (v := ?_) rfl (by kernel_rfl) (by kernel_rfl) (by kernel_rfl) (fun _ _ _ h => h) (Or.inl ⟨by rfl, ?_⟩) (by assumption) ?_
              rotate_left
              · first | (intro w hSw; (try dsimp only at hSw); go_simp; done) | (intro w hSw; (try dsimp only at hSw); go_simp; with_reducible rfl)
              simp only [Act.put, List.setIfInBounds_toArray, List.set_cons_zero, List.set_cons_succ]
              refine wpAnyH_take (i := 3) (oi := { dst := some 98, op := Op.load 31 (Operand.tmp 21), type := 31, pos := "law.go:176", after := #[{ on := 2, ground := Ground.guard }], guard := some (2, true) }) (v := .agg X.toList.toArray) rfl (by kernel_rfl) (by kernel_rfl) (by kernel_rfl) (fun _ _ _ h => h) (yieldsIf_load_mid (by rfl) 31 (.tmp 21) rfl gh 0 rfl X.toList _ (fun _ h => h.1) Try.underlying31 rfl (by rw [Array.length_toList, HSZ.out]; exact info31)) (by assumption) ?_
              rw [Array.toArray_toList]
              simp only [Act.put, List.setIfInBounds_toArray, List.set_cons_zero, List.set_cons_succ]
              refine wpAnyH_take (i := 6) (oi := { dst := some 101, op := Op.move (Operand.tmp 12), type := 35, pos := "law.go:176", after := #[{ on := 2, ground := Ground.guard }], guard := some (2, true) }) (v := ?_) rfl (by kernel_rfl) (by kernel_rfl) (by kernel_rfl) (fun _ _ _ h => h) (Or.inl ⟨by rfl, ?_⟩) (by assumption) ?_
              rotate_left
              · first | (intro w hSw; (try dsimp only at hSw); go_simp; done) | (intro w hSw; (try dsimp only at hSw); go_simp; with_reducible rfl)
              simp only [Act.put, List.setIfInBounds_toArray, List.set_cons_zero, List.set_cons_succ]
              refine wpAnyH_take (i := 7) (oi := { dst := some 102, op := Op.convert 35 9 (Operand.tmp 101), type := 9, pos := "law.go:176", after := #[{ on := 6, ground := Ground.data }, { on := 2, ground := Ground.guard }], guard := some (2, true) }) (v := ?_) rfl (by kernel_rfl) (by kernel_rfl) (by kernel_rfl) (fun _ _ _ h => h) (Or.inl ⟨by rfl, ?_⟩) (by assumption) ?_
              rotate_left
              · first | (intro w hSw; (try dsimp only at hSw); go_simp; done) | (intro w hSw; (try dsimp only at hSw); go_simp; with_reducible rfl)
              simp only [Act.put, List.setIfInBounds_toArray, List.set_cons_zero, List.set_cons_succ]
              refine wpAnyH_ready (rs := [4]) (by kernel_rfl) (by simp) ?_
              refine AllReadyH.cons rfl (fun K hK => ?_) AllReadyH.nil
              go_simp
              refine (HH.out a8.drew).mono ?_
              rintro e a9 ⟨Ay, ny, cy, rfl, hr, _, hbb⟩
              have KB9 := Lib.hid (KB8.out.drew.trans (hbb.mono KB8.out.size))
              have hs1 := run_string a9 _ Ay ny cy _ hr
              have hs2 := run_string a9 _ A n c _ ((RD8.out.drewN 1).below hbb (Nat.le_refl _))
              have hq2 : Whole a9 gh 31 X := Whole.below (w := a8.drew) QQ.out hbb QQ.out.lt
              have hS9 : a9.rangeAt gh 0 X.toList ∧ (convert 35 9 (.slice A n c)).run Try.prog a9 = .ok (.string ⟨zs.toArray⟩) a9 := ⟨hq2.range, hs2⟩
              clear hr hbb hHeld hS
              refine hK.out _ _ hS9 (fun _ => ?_)
              clear hK K
              refine anyH_more (S' := fun w' => (w'.rangeAt gh 0 X.toList ∧ (convert 35 9 (.slice A n c)).run Try.prog w' = .ok (.string ⟨zs.toArray⟩) w') ∧ (convert 35 9 (.slice Ay ny cy)).run Try.prog w' = .ok (.string ⟨zs.toArray⟩) w') (fun _ h => h.1) _ _ _ _ ?_
              have hHeld : (a9.rangeAt gh 0 X.toList ∧ (convert 35 9 (.slice A n c)).run Try.prog a9 = .ok (.string ⟨zs.toArray⟩) a9) ∧ (convert 35 9 (.slice Ay ny cy)).run Try.prog a9 = .ok (.string ⟨zs.toArray⟩) a9 := ⟨hS9, hs1⟩
              clear hs1 hs2 hq2 hS9
              refine wpAnyH_take (i := 5) (oi := { dst := some 100, op := Op.convert 35 9 (Operand.tmp 99), type := 9, pos := "law.go:176", after := #[{ on := 4, ground := Ground.data }, { on := 2, ground := Ground.guard }], guard := some (2, true) }) (v := ?_) rfl (by kernel_rfl) (by kernel_rfl) (by kernel_rfl) (fun _ _ _ h => h) (Or.inl ⟨by rfl, ?_⟩) (by assumption) ?_
              rotate_left
              · first | (intro w hSw; (try dsimp only at hSw); go_simp; done) | (intro w hSw; (try dsimp only at hSw); go_simp; with_reducible rfl)
              simp only [Act.put, List.setIfInBounds_toArray, List.set_cons_zero, List.set_cons_succ]
              refine wpAnyH_take (i := 8) (oi := { dst := some 103, op := Op.binOp BinOp.neq 9 (Operand.tmp 100) (Operand.tmp 102) 9, type := 4, pos := "law.go:176", after := #[{ on := 5, ground := Ground.data }, { on := 7, ground := Ground.data }, { on := 2, ground := Ground.guard }], guard := some (2, true) }) (v := ?_) rfl (by kernel_rfl) (by kernel_rfl) (by kernel_rfl) (fun _ _ _ h => h) (Or.inl ⟨by rfl, ?_⟩) (by assumption) ?_
              rotate_left
              · first | (intro w hSw; (try dsimp only at hSw); go_simp; done) | (intro w hSw; (try dsimp only at hSw); go_simp; with_reducible rfl)
              simp only [Act.put, List.setIfInBounds_toArray, List.set_cons_zero, List.set_cons_succ]
              refine wpAnyH_take (i := 9) (oi := { dst := some 104, op := Op.pick (Operand.tmp 97) (Operand.tmp 103) (Operand.const (Value.bool false)), type := 4, pos := "law.go:176", after := #[{ on := 2, ground := Ground.data }, { on := 8, ground := Ground.data }], guard := none }) (v := ?_) rfl (by kernel_rfl) (by kernel_rfl) (by kernel_rfl) (fun _ _ _ h => h) (Or.inl ⟨by rfl, ?_⟩) (by assumption) ?_
              rotate_left
              · first | (intro w hSw; (try dsimp only at hSw); go_simp; done) | (intro w hSw; (try dsimp only at hSw); go_simp; with_reducible rfl)
              simp only [Act.put, List.setIfInBounds_toArray, List.set_cons_zero, List.set_cons_succ]
              refine wpAnyH_done (by kernel_rfl) ?_ _
              clear hHeld
              go_wp2_with fail
              go_roundw
              case rel => exact ⟨k + 1, by omega, by go_num, KB9.out⟩
              case measure => simp [intOf]; omega
            · have q : ((hc : Int) == 0) = false := by simp; omega
              clear hhc HHC
              go_quiet (fail)
              go_wp2_with fail
              go_roundw
              case rel => exact ⟨k + 1, by omega, by go_num, below_drewN KB8.out _⟩
              case measure => simp [intOf]; omega
          · obtain rfl : ok = false := by rw [hok]; simp [hk0]
            have hk1 : 0 < kk := by omega
            have POK : Hid (ackb false kk = zs) := Lib.hid hby
            clear hok hby
            (try simp only [])
            iterate 13 go_step
            refine wpList_store_made rfl 27 (.tmp 17) (.tmp 72) rfl _ (acells false kk) rfl rfl info27 rfl (acells_one _ _) ?_
            have hbb := below_made a4 (.cells (acells false kk) 27)
            have KB5 := Lib.hid (KB4.out.trans (hbb.mono KB4.out.size))
            have RD5 := Lib.hid (RD4.out.step hbb)
            have QQ := Lib.hid (Whole.made a4 27 (acells false kk))
            clear hbb KB4 RD4
            generalize a4.alloc (.cells (acells false kk) 27) = a5 at *
            generalize a4.heap.size = gb at *
            obtain ⟨d0, d1⟩ := abox QQ.out
            have hp : Calls Try.prog 8 #[.agg (acells false kk)] a5 (CodePost a5 (ackb false kk)) := ack_no kk hk1 (by omega) a5
            rw [POK.out] at hp
            have HP := Lib.hid hp
            clear hp
            go_wp2_with fail
            refine HP.out.mono ?_
            rintro e a6 ⟨Ay, ny, cy, rfl, hr, _, hbb⟩
            have KB6 := Lib.hid (KB5.out.trans (hbb.mono KB5.out.size))
            have RD6 := Lib.hid (RD5.out.step hbb)
            have cv1 := run_string a6 _ Ay ny cy _ hr
            have cv2 := run_string a6 _ A n c _ RD6.out
            clear hr hbb HP QQ KB5 RD5 d0 d1 POK
            go_upto_region 19 with (fail)
            clear cv1 cv2
            obtain ⟨⟨hc, hd⟩, hP⟩ : ∃ x, Tlv.readH (st0 zs) = x := ⟨_, rfl⟩
            have hp := readHeader_any A n c zs a6 RD6.out hnc hn
            rw [hP] at hp
            have HP := Lib.hid hp
            have HPP := Lib.hid hP
            have hz31 := zero31
            clear hp hP
            go_wp2_with fail
            refine HP.out.mono ?_
            rintro e a7 ⟨t1, t2, u1, u2, u3, u4, rfl, hq, hlen, hbb⟩
            have KB7 := Lib.hid (KB6.out.trans (hbb.mono KB6.out.size))
            have RD7 := Lib.hid (RD6.out.step hbb)
            have HSZ := Lib.hid (hcells_size t1 t2 u1 u2 u3 u4 hlen.1 hlen.2.1 hlen.2.2.1 hlen.2.2.2)
            have HONE := Lib.hid (hcells_one t1 t2 u1 u2 u3 u4)
            have HHC : Hid (hc = 0 → ∀ w, Calls Try.prog 9 #[.agg (hcells t1 t2 u1 u2 u3 u4)] w (BytesPost w zs)) := Lib.hid (fun h0 w => by
              obtain ⟨e1, e2, e3, e4, e5, e6⟩ := hq h0
              rw [h0] at HPP
              obtain ⟨g1, g2, g3⟩ := header_one HPP.out
              have := header_any t1 t2 u1 u2 u3 u4 w (by rw [e1]; exact g1) (by rw [e2]; exact g2) hlen.1 hlen.2.1 hlen.2.2.1 hlen.2.2.2
              rw [show Tlv.Hd.bytes ⟨t1, t2, u1, u2, u3, u4⟩ = zs by rw [e1, e2, e3, e4, e5, e6]; exact g3] at this
              exact this)
            clear hbb HP KB6 RD6 hq hlen HPP
            generalize hcells t1 t2 u1 u2 u3 u4 = X at *
            (try simp only [])
            iterate 13 go_step
            refine wpList_store_made rfl 31 (.tmp 21) (.tmp 93) rfl hzero X rfl rfl (by rw [HSZ.out]; exact info31) (by rw [HSZ.out]; rfl) HONE.out ?_
            have hbb := below_made a7 (.cells X 31)
            have KB8 := Lib.hid (KB7.out.trans (hbb.mono KB7.out.size))
            have RD8 := Lib.hid (RD7.out.step hbb)
            have QQ := Lib.hid (Whole.made a7 31 X)
            clear hbb KB7 RD7 hz31
            generalize a7.alloc (.cells X 31) = a8 at *
            generalize a7.heap.size = gh at *
            go_upto_region 20 with (fail)
            by_cases hhc : hc = 0
            · subst hhc
              have hH := HHC.out rfl
              have HH := Lib.hid hH
              clear HHC hH
              have hS : a8.drew.rangeAt gh 0 X.toList ∧ (convert 35 9 (.slice A n c)).run Try.prog a8.drew = .ok (.string ⟨zs.toArray⟩) a8.drew := ⟨QQ.out.range, run_string a8.drew _ A n c _ RD8.out⟩
              refine wp_region_held_drew (S := (fun w' => w'.rangeAt gh 0 X.toList ∧ (convert 35 9 (.slice A n c)).run Try.prog w' = .ok (.string ⟨zs.toArray⟩) w')) (by kernel_rfl) hS (fun hHeld => ?_)
              refine wpAnyH_take (i := 0) (oi := { dst := some 95, op := Op.move (Operand.tmp 22), type := 25, pos := "law.go:176", after := #[], guard := none }) (v := ?_) rfl (by kernel_rfl) (by kernel_rfl) (by kernel_rfl) (fun _ _ _ h => h) (Or.inl ⟨by rfl, ?_⟩) (by assumption) ?_
              rotate_left
              · first | (intro w hSw; (try dsimp only at hSw); go_simp; done) | (intro w hSw; (try dsimp only at hSw); go_simp; with_reducible rfl)
              simp only [Act.put, List.setIfInBounds_toArray, List.set_cons_zero, List.set_cons_succ]
              refine wpAnyH_take (i := 1) (oi := { dst := some 96, op := Op.binOp BinOp.eql 25 (Operand.tmp 95) (Operand.const (Value.int IntKind.i64 0)) 25, type := 4, pos := "law.go:176", after := #[{ on := 0, ground := Ground.data }], guard := none }) (v := ?_) rfl (by kernel_rfl) (by kernel_rfl) (by kernel_rfl) (fun _ _ _ h => h) (Or.inl ⟨by rfl, ?_⟩) (by assumption) ?_
              rotate_left
              · first | (intro w hSw; (try dsimp only at hSw); go_simp; done) | (intro w hSw; (try dsimp only at hSw); go_simp; with_reducible rfl)
              simp only [Act.put, List.setIfInBounds_toArray, List.set_cons_zero, List.set_cons_succ]
              refine wpAnyH_take (i := 2) (oi := { dst := some 97, op := Op.move (Operand.tmp 96), type := 4, pos := "law.go:176", after := #[{ on := 1, ground := Ground.data }], guard := none }) (v := ?_) rfl (by kernel_rfl) (by kernel_rfl) (by kernel_rfl) (fun _ _ _ h => h) (Or.inl ⟨by rfl, ?_⟩) (by assumption) ?_
              rotate_left
              · first | (intro w hSw; (try dsimp only at hSw); go_simp; done) | (intro w hSw; (try dsimp only at hSw); go_simp; with_reducible rfl)
              simp only [Act.put, List.setIfInBounds_toArray, List.set_cons_zero, List.set_cons_succ]
              refine wpAnyH_take (i := 3) (oi := { dst := some 98, op := Op.load 31 (Operand.tmp 21), type := 31, pos := "law.go:176", after := #[{ on := 2, ground := Ground.guard }], guard := some (2, true) }) (v := .agg X.toList.toArray) rfl (by kernel_rfl) (by kernel_rfl) (by kernel_rfl) (fun _ _ _ h => h) (yieldsIf_load_mid (by rfl) 31 (.tmp 21) rfl gh 0 rfl X.toList _ (fun _ h => h.1) Try.underlying31 rfl (by rw [Array.length_toList, HSZ.out]; exact info31)) (by assumption) ?_
              rw [Array.toArray_toList]
              simp only [Act.put, List.setIfInBounds_toArray, List.set_cons_zero, List.set_cons_succ]
              refine wpAnyH_take (i := 6) (oi := { dst := some 101, op := Op.move (Operand.tmp 12), type := 35, pos := "law.go:176", after := #[{ on := 2, ground := Ground.guard }], guard := some (2, true) }) (v := ?_) rfl (by kernel_rfl) (by kernel_rfl) (by kernel_rfl) (fun _ _ _ h => h) (Or.inl ⟨by rfl, ?_⟩) (by assumption) ?_
              rotate_left
              · first | (intro w hSw; (try dsimp only at hSw); go_simp; done) | (intro w hSw; (try dsimp only at hSw); go_simp; with_reducible rfl)
              simp only [Act.put, List.setIfInBounds_toArray, List.set_cons_zero, List.set_cons_succ]
              refine wpAnyH_take (i := 7) (oi := { dst := some 102, op := Op.convert 35 9 (Operand.tmp 101), type := 9, pos := "law.go:176", after := #[{ on := 6, ground := Ground.data }, { on := 2, ground := Ground.guard }], guard := some (2, true) }) (v := ?_) rfl (by kernel_rfl) (by kernel_rfl) (by kernel_rfl) (fun _ _ _ h => h) (Or.inl ⟨by rfl, ?_⟩) (by assumption) ?_
              rotate_left
              · first | (intro w hSw; (try dsimp only at hSw); go_simp; done) | (intro w hSw; (try dsimp only at hSw); go_simp; with_reducible rfl)
              simp only [Act.put, List.setIfInBounds_toArray, List.set_cons_zero, List.set_cons_succ]
              refine wpAnyH_ready (rs := [4]) (by kernel_rfl) (by simp) ?_
              refine AllReadyH.cons rfl (fun K hK => ?_) AllReadyH.nil
              go_simp
              refine (HH.out a8.drew).mono ?_
              rintro e a9 ⟨Ay, ny, cy, rfl, hr, _, hbb⟩
              have KB9 := Lib.hid (KB8.out.drew.trans (hbb.mono KB8.out.size))
              have hs1 := run_string a9 _ Ay ny cy _ hr
              have hs2 := run_string a9 _ A n c _ ((RD8.out.drewN 1).below hbb (Nat.le_refl _))
              have hq2 : Whole a9 gh 31 X := Whole.below (w := a8.drew) QQ.out hbb QQ.out.lt
              have hS9 : a9.rangeAt gh 0 X.toList ∧ (convert 35 9 (.slice A n c)).run Try.prog a9 = .ok (.string ⟨zs.toArray⟩) a9 := ⟨hq2.range, hs2⟩
              clear hr hbb hHeld hS
              refine hK.out _ _ hS9 (fun _ => ?_)
              clear hK K
              refine anyH_more (S' := fun w' => (w'.rangeAt gh 0 X.toList ∧ (convert 35 9 (.slice A n c)).run Try.prog w' = .ok (.string ⟨zs.toArray⟩) w') ∧ (convert 35 9 (.slice Ay ny cy)).run Try.prog w' = .ok (.string ⟨zs.toArray⟩) w') (fun _ h => h.1) _ _ _ _ ?_
              have hHeld : (a9.rangeAt gh 0 X.toList ∧ (convert 35 9 (.slice A n c)).run Try.prog a9 = .ok (.string ⟨zs.toArray⟩) a9) ∧ (convert 35 9 (.slice Ay ny cy)).run Try.prog a9 = .ok (.string ⟨zs.toArray⟩) a9 := ⟨hS9, hs1⟩
              clear hs1 hs2 hq2 hS9
              refine wpAnyH_take (i := 5) (oi := { dst := some 100, op := Op.convert 35 9 (Operand.tmp 99), type := 9, pos := "law.go:176", after := #[{ on := 4, ground := Ground.data }, { on := 2, ground := Ground.guard }], guard := some (2, true) }) (v := ?_) rfl (by kernel_rfl) (by kernel_rfl) (by kernel_rfl) (fun _ _ _ h => h) (Or.inl ⟨by rfl, ?_⟩) (by assumption) ?_
              rotate_left
              · first | (intro w hSw; (try dsimp only at hSw); go_simp; done) | (intro w hSw; (try dsimp only at hSw); go_simp; with_reducible rfl)
              simp only [Act.put, List.setIfInBounds_toArray, List.set_cons_zero, List.set_cons_succ]
              refine wpAnyH_take (i := 8) (oi := { dst := some 103, op := Op.binOp BinOp.neq 9 (Operand.tmp 100) (Operand.tmp 102) 9, type := 4, pos := "law.go:176", after := #[{ on := 5, ground := Ground.data }, { on := 7, ground := Ground.data }, { on := 2, ground := Ground.guard }], guard := some (2, true) }) (v := ?_) rfl (by kernel_rfl) (by kernel_rfl) (by kernel_rfl) (fun _ _ _ h => h) (Or.inl ⟨by rfl, ?_⟩) (by assumption) ?_
              rotate_left
              · first | (intro w hSw; (try dsimp only at hSw); go_simp; done) | (intro w hSw; (try dsimp only at hSw); go_simp; with_reducible rfl)
              simp only [Act.put, List.setIfInBounds_toArray, List.set_cons_zero, List.set_cons_succ]
              refine wpAnyH_take (i := 9) (oi := { dst := some 104, op := Op.pick (Operand.tmp 97) (Operand.tmp 103) (Operand.const (Value.bool false)), type := 4, pos := "law.go:176", after := #[{ on := 2, ground := Ground.data }, { on := 8, ground := Ground.data }], guard := none }) (v := ?_) rfl (by kernel_rfl) (by kernel_rfl) (by kernel_rfl) (fun _ _ _ h => h) (Or.inl ⟨by rfl, ?_⟩) (by assumption) ?_
              rotate_left
              · first | (intro w hSw; (try dsimp only at hSw); go_simp; done) | (intro w hSw; (try dsimp only at hSw); go_simp; with_reducible rfl)
              simp only [Act.put, List.setIfInBounds_toArray, List.set_cons_zero, List.set_cons_succ]
              refine wpAnyH_done (by kernel_rfl) ?_ _
              clear hHeld
              go_wp2_with fail
              go_roundw
              case rel => exact ⟨k + 1, by omega, by go_num, KB9.out⟩
              case measure => simp [intOf]; omega
            · have q : ((hc : Int) == 0) = false := by simp; omega
              clear hhc HHC
              go_quiet (fail)
              go_wp2_with fail
              go_roundw
              case rel => exact ⟨k + 1, by omega, by go_num, below_drewN KB8.out _⟩
              case measure => simp [intOf]; omega
        · have q : ((ac : Int) == 0) = false := by simp; omega
          clear hq hac HPP
          (try simp only [])
          iterate 13 go_step
          refine wpList_store_made rfl 27 (.tmp 17) (.tmp 72) rfl _ (acells ok' k') rfl rfl info27 rfl (acells_one _ _) ?_
          have hbb := below_made a4 (.cells (acells ok' k') 27)
          have KB6 := Lib.hid (KB4.out.trans (hbb.mono KB4.out.size))
          have RD6 := Lib.hid (RD4.out.step hbb)
          clear hbb KB4 RD4
          generalize a4.alloc (.cells (acells ok' k') 27) = a6 at *
          go_upto_region 19 with (fail)
          clear q
          obtain ⟨⟨hc, hd⟩, hP⟩ : ∃ x, Tlv.readH (st0 zs) = x := ⟨_, rfl⟩
          have hp := readHeader_any A n c zs a6 RD6.out hnc hn
          rw [hP] at hp
          have HP := Lib.hid hp
          have HPP := Lib.hid hP
          have hz31 := zero31
          clear hp hP
          go_wp2_with fail
          refine HP.out.mono ?_
          rintro e a7 ⟨t1, t2, u1, u2, u3, u4, rfl, hq, hlen, hbb⟩
          have KB7 := Lib.hid (KB6.out.trans (hbb.mono KB6.out.size))
          have RD7 := Lib.hid (RD6.out.step hbb)
          have HSZ := Lib.hid (hcells_size t1 t2 u1 u2 u3 u4 hlen.1 hlen.2.1 hlen.2.2.1 hlen.2.2.2)
          have HONE := Lib.hid (hcells_one t1 t2 u1 u2 u3 u4)
          have HHC : Hid (hc = 0 → ∀ w, Calls Try.prog 9 #[.agg (hcells t1 t2 u1 u2 u3 u4)] w (BytesPost w zs)) := Lib.hid (fun h0 w => by
            obtain ⟨e1, e2, e3, e4, e5, e6⟩ := hq h0
            rw [h0] at HPP
            obtain ⟨g1, g2, g3⟩ := header_one HPP.out
            have := header_any t1 t2 u1 u2 u3 u4 w (by rw [e1]; exact g1) (by rw [e2]; exact g2) hlen.1 hlen.2.1 hlen.2.2.1 hlen.2.2.2
            rw [show Tlv.Hd.bytes ⟨t1, t2, u1, u2, u3, u4⟩ = zs by rw [e1, e2, e3, e4, e5, e6]; exact g3] at this
            exact this)
          clear hbb HP KB6 RD6 hq hlen HPP
          generalize hcells t1 t2 u1 u2 u3 u4 = X at *
          (try simp only [])
          iterate 13 go_step
          refine wpList_store_made rfl 31 (.tmp 21) (.tmp 93) rfl hzero X rfl rfl (by rw [HSZ.out]; exact info31) (by rw [HSZ.out]; rfl) HONE.out ?_
          have hbb := below_made a7 (.cells X 31)
          have KB8 := Lib.hid (KB7.out.trans (hbb.mono KB7.out.size))
          have RD8 := Lib.hid (RD7.out.step hbb)
          have QQ := Lib.hid (Whole.made a7 31 X)
          clear hbb KB7 RD7 hz31
          generalize a7.alloc (.cells X 31) = a8 at *
          generalize a7.heap.size = gh at *
          go_upto_region 20 with (fail)
          by_cases hhc : hc = 0
          · subst hhc
            have hH := HHC.out rfl
            have HH := Lib.hid hH
            clear HHC hH
            have hS : a8.drew.rangeAt gh 0 X.toList ∧ (convert 35 9 (.slice A n c)).run Try.prog a8.drew = .ok (.string ⟨zs.toArray⟩) a8.drew := ⟨QQ.out.range, run_string a8.drew _ A n c _ RD8.out⟩
            refine wp_region_held_drew (S := (fun w' => w'.rangeAt gh 0 X.toList ∧ (convert 35 9 (.slice A n c)).run Try.prog w' = .ok (.string ⟨zs.toArray⟩) w')) (by kernel_rfl) hS (fun hHeld => ?_)
            refine wpAnyH_take (i := 0) (oi := { dst := some 95, op := Op.move (Operand.tmp 22), type := 25, pos := "law.go:176", after := #[], guard := none }) (v := ?_) rfl (by kernel_rfl) (by kernel_rfl) (by kernel_rfl) (fun _ _ _ h => h) (Or.inl ⟨by rfl, ?_⟩) (by assumption) ?_
            rotate_left
            · first | (intro w hSw; (try dsimp only at hSw); go_simp; done) | (intro w hSw; (try dsimp only at hSw); go_simp; with_reducible rfl)
            simp only [Act.put, List.setIfInBounds_toArray, List.set_cons_zero, List.set_cons_succ]
            refine wpAnyH_take (i := 1) (oi := { dst := some 96, op := Op.binOp BinOp.eql 25 (Operand.tmp 95) (Operand.const (Value.int IntKind.i64 0)) 25, type := 4, pos := "law.go:176", after := #[{ on := 0, ground := Ground.data }], guard := none }) (v := ?_) rfl (by kernel_rfl) (by kernel_rfl) (by kernel_rfl) (fun _ _ _ h => h) (Or.inl ⟨by rfl, ?_⟩) (by assumption) ?_
            rotate_left
            · first | (intro w hSw; (try dsimp only at hSw); go_simp; done) | (intro w hSw; (try dsimp only at hSw); go_simp; with_reducible rfl)
            simp only [Act.put, List.setIfInBounds_toArray, List.set_cons_zero, List.set_cons_succ]
            refine wpAnyH_take (i := 2) (oi := { dst := some 97, op := Op.move (Operand.tmp 96), type := 4, pos := "law.go:176", after := #[{ on := 1, ground := Ground.data }], guard := none }) (v := ?_) rfl (by kernel_rfl) (by kernel_rfl) (by kernel_rfl) (fun _ _ _ h => h) (Or.inl ⟨by rfl, ?_⟩) (by assumption) ?_
            rotate_left
            · first | (intro w hSw; (try dsimp only at hSw); go_simp; done) | (intro w hSw; (try dsimp only at hSw); go_simp; with_reducible rfl)
            simp only [Act.put, List.setIfInBounds_toArray, List.set_cons_zero, List.set_cons_succ]
            refine wpAnyH_take (i := 3) (oi := { dst := some 98, op := Op.load 31 (Operand.tmp 21), type := 31, pos := "law.go:176", after := #[{ on := 2, ground := Ground.guard }], guard := some (2, true) }) (v := .agg X.toList.toArray) rfl (by kernel_rfl) (by kernel_rfl) (by kernel_rfl) (fun _ _ _ h => h) (yieldsIf_load_mid (by rfl) 31 (.tmp 21) rfl gh 0 rfl X.toList _ (fun _ h => h.1) Try.underlying31 rfl (by rw [Array.length_toList, HSZ.out]; exact info31)) (by assumption) ?_
            rw [Array.toArray_toList]
            simp only [Act.put, List.setIfInBounds_toArray, List.set_cons_zero, List.set_cons_succ]
            refine wpAnyH_take (i := 6) (oi := { dst := some 101, op := Op.move (Operand.tmp 12), type := 35, pos := "law.go:176", after := #[{ on := 2, ground := Ground.guard }], guard := some (2, true) }) (v := ?_) rfl (by kernel_rfl) (by kernel_rfl) (by kernel_rfl) (fun _ _ _ h => h) (Or.inl ⟨by rfl, ?_⟩) (by assumption) ?_
            rotate_left
            · first | (intro w hSw; (try dsimp only at hSw); go_simp; done) | (intro w hSw; (try dsimp only at hSw); go_simp; with_reducible rfl)
            simp only [Act.put, List.setIfInBounds_toArray, List.set_cons_zero, List.set_cons_succ]
            refine wpAnyH_take (i := 7) (oi := { dst := some 102, op := Op.convert 35 9 (Operand.tmp 101), type := 9, pos := "law.go:176", after := #[{ on := 6, ground := Ground.data }, { on := 2, ground := Ground.guard }], guard := some (2, true) }) (v := ?_) rfl (by kernel_rfl) (by kernel_rfl) (by kernel_rfl) (fun _ _ _ h => h) (Or.inl ⟨by rfl, ?_⟩) (by assumption) ?_
            rotate_left
            · first | (intro w hSw; (try dsimp only at hSw); go_simp; done) | (intro w hSw; (try dsimp only at hSw); go_simp; with_reducible rfl)
            simp only [Act.put, List.setIfInBounds_toArray, List.set_cons_zero, List.set_cons_succ]
            refine wpAnyH_ready (rs := [4]) (by kernel_rfl) (by simp) ?_
            refine AllReadyH.cons rfl (fun K hK => ?_) AllReadyH.nil
            go_simp
            refine (HH.out a8.drew).mono ?_
            rintro e a9 ⟨Ay, ny, cy, rfl, hr, _, hbb⟩
            have KB9 := Lib.hid (KB8.out.drew.trans (hbb.mono KB8.out.size))
            have hs1 := run_string a9 _ Ay ny cy _ hr
            have hs2 := run_string a9 _ A n c _ ((RD8.out.drewN 1).below hbb (Nat.le_refl _))
            have hq2 : Whole a9 gh 31 X := Whole.below (w := a8.drew) QQ.out hbb QQ.out.lt
            have hS9 : a9.rangeAt gh 0 X.toList ∧ (convert 35 9 (.slice A n c)).run Try.prog a9 = .ok (.string ⟨zs.toArray⟩) a9 := ⟨hq2.range, hs2⟩
            clear hr hbb hHeld hS
            refine hK.out _ _ hS9 (fun _ => ?_)
            clear hK K
            refine anyH_more (S' := fun w' => (w'.rangeAt gh 0 X.toList ∧ (convert 35 9 (.slice A n c)).run Try.prog w' = .ok (.string ⟨zs.toArray⟩) w') ∧ (convert 35 9 (.slice Ay ny cy)).run Try.prog w' = .ok (.string ⟨zs.toArray⟩) w') (fun _ h => h.1) _ _ _ _ ?_
            have hHeld : (a9.rangeAt gh 0 X.toList ∧ (convert 35 9 (.slice A n c)).run Try.prog a9 = .ok (.string ⟨zs.toArray⟩) a9) ∧ (convert 35 9 (.slice Ay ny cy)).run Try.prog a9 = .ok (.string ⟨zs.toArray⟩) a9 := ⟨hS9, hs1⟩
            clear hs1 hs2 hq2 hS9
            refine wpAnyH_take (i := 5) (oi := { dst := some 100, op := Op.convert 35 9 (Operand.tmp 99), type := 9, pos := "law.go:176", after := #[{ on := 4, ground := Ground.data }, { on := 2, ground := Ground.guard }], guard := some (2, true) }) (v := ?_) rfl (by kernel_rfl) (by kernel_rfl) (by kernel_rfl) (fun _ _ _ h => h) (Or.inl ⟨by rfl, ?_⟩) (by assumption) ?_
            rotate_left
            · first | (intro w hSw; (try dsimp only at hSw); go_simp; done) | (intro w hSw; (try dsimp only at hSw); go_simp; with_reducible rfl)
            simp only [Act.put, List.setIfInBounds_toArray, List.set_cons_zero, List.set_cons_succ]
            refine wpAnyH_take (i := 8) (oi := { dst := some 103, op := Op.binOp BinOp.neq 9 (Operand.tmp 100) (Operand.tmp 102) 9, type := 4, pos := "law.go:176", after := #[{ on := 5, ground := Ground.data }, { on := 7, ground := Ground.data }, { on := 2, ground := Ground.guard }], guard := some (2, true) }) (v := ?_) rfl (by kernel_rfl) (by kernel_rfl) (by kernel_rfl) (fun _ _ _ h => h) (Or.inl ⟨by rfl, ?_⟩) (by assumption) ?_
            rotate_left
            · first | (intro w hSw; (try dsimp only at hSw); go_simp; done) | (intro w hSw; (try dsimp only at hSw); go_simp; with_reducible rfl)
            simp only [Act.put, List.setIfInBounds_toArray, List.set_cons_zero, List.set_cons_succ]
            refine wpAnyH_take (i := 9) (oi := { dst := some 104, op := Op.pick (Operand.tmp 97) (Operand.tmp 103) (Operand.const (Value.bool false)), type := 4, pos := "law.go:176", after := #[{ on := 2, ground := Ground.data }, { on := 8, ground := Ground.data }], guard := none }) (v := ?_) rfl (by kernel_rfl) (by kernel_rfl) (by kernel_rfl) (fun _ _ _ h => h) (Or.inl ⟨by rfl, ?_⟩) (by assumption) ?_
            rotate_left
            · first | (intro w hSw; (try dsimp only at hSw); go_simp; done) | (intro w hSw; (try dsimp only at hSw); go_simp; with_reducible rfl)
            simp only [Act.put, List.setIfInBounds_toArray, List.set_cons_zero, List.set_cons_succ]
            refine wpAnyH_done (by kernel_rfl) ?_ _
            clear hHeld
            go_wp2_with fail
            go_roundw
            case rel => exact ⟨k + 1, by omega, by go_num, KB9.out⟩
            case measure => simp [intOf]; omega
          · have q : ((hc : Int) == 0) = false := by simp; omega
            clear hhc HHC
            go_quiet (fail)
            go_wp2_with fail
            go_roundw
            case rel => exact ⟨k + 1, by omega, by go_num, below_drewN KB8.out _⟩
            case measure => simp [intOf]; omega
    · obtain rfl : k = 2 := by omega
      go_wp2_with fail
      go_ret
      exact ⟨rfl, HB5.out.trans (KB0.out.mono HB5.out.size)⟩
end Go.Proofs.Ytjepbnhlnomhlaa
