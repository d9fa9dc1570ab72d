/-
  What the statement's function TlvOne returns: true, whatever bytes come in; conditions: they are read. It only makes memory of its own.
-/
import Derived.Test.YtlbpkgjngolfkaaAwake
import Derived.Test.YtlbpkgjngolfkaaParse
import Derived.Test.YtlbpkgjngolfkaaUnpack
import Derived.Test.YtlbpkgjngolfkaaPack
namespace Go.Proofs.Ytlbpkgjngolfkaa
open Go.RowKit

theorem body_split (fs : List (UInt8 × List UInt8)) (k : Nat) : Tlv.body fs = Tlv.body (fs.take k) ++ Tlv.body (fs.drop k) := by
  unfold Tlv.body
  rw [← List.flatten_append, ← List.map_append, List.take_append_drop]
theorem body_take_le (fs : List (UInt8 × List UInt8)) (k : Nat) : (Tlv.body (fs.take k)).length ≤ (Tlv.body fs).length := by
  rw [body_split fs k, List.length_append]; omega
theorem body_take (fs : List (UInt8 × List UInt8)) (k : Nat) (f : UInt8 × List UInt8) (h : fs[k]? = some f) (hv : f.2 ≠ []) : Tlv.put (Tlv.body (fs.take k)) f.1 f.2 = Tlv.body (fs.take (k + 1)) := by
  rw [List.take_add_one, h]
  exact Tlv.put_body _ _ _ hv

theorem pack_len (ls : List (List UInt8)) : 2 * ls.length ≤ (Tlv.pack ls).length := by
  induction ls with
  | nil => simp
  | cons l ls ih => rw [Tlv.pack_cons, List.length_append, Tlv.pieceb_length, List.length_cons]; omega
theorem body_len (fs : List (UInt8 × List UInt8)) : 3 * fs.length ≤ (Tlv.body fs).length := by
  induction fs with
  | nil => simp
  | cons l ls ih => rw [Tlv.body_cons]; simp only [List.length_cons, List.length_append, Tlv.pieceb_length]; omega

def OneRel (w2 : World) (fs : List (UInt8 × List UInt8)) (n2 : Nat) (i x : Value) (wx : World) : Prop :=
  ∃ (k : Nat) (A : Option Addr) (n c : Nat), k ≤ n2 ∧ i = .int .i64 k ∧ x = .slice A n c ∧ Rd wx wx.heap.size A n (Tlv.body (fs.take k)) ∧ Below w2.heap.size w2 wx

set_option maxRecDepth 100000 in
set_option maxHeartbeats 1000000 in
theorem one_any (A : Option Addr) (n c : Nat) (bs : List UInt8) (w : World) (hr : Rd w w.heap.size A n bs) (hnc : n ≤ c) (hn : n ≤ 9223372036854775807) :
    Calls Try.prog 8 #[.slice A n c] w fun e w' => e = .returned (.bool true) ∧ Below w.heap.size w w' := by
  have HR := Lib.hid hr
  clear hr
  obtain ⟨⟨pc, fs⟩, hP⟩ : ∃ r, Tlv.parse bs = r := ⟨_, rfl⟩
  obtain ⟨⟨uc, ls⟩, hU⟩ : ∃ r, Tlv.unpack bs = r := ⟨_, rfl⟩
  have HPB : Hid (pc = 0 → Tlv.body fs = bs ∧ ∀ f ∈ fs, f.2 ≠ [] ∧ f.2.length ≤ 65535) := Lib.hid (fun e => Tlv.parse_back bs fs (by rw [hP, e]))
  have HUB : Hid (uc = 0 → Tlv.pack ls = bs ∧ ∀ v ∈ ls, v.length ≤ 65535) := Lib.hid (fun e => Tlv.unpack_back bs ls (by rw [hU, e]))
  have HP := Lib.hid hP
  have HU := Lib.hid hU
  clear hP hU
  go_enter Try.func8, Try.ntmps8
  go_wp2_with fail
  refine (awake_any w).mono ?_
  rintro e w1 ⟨rfl, hb1⟩
  by_cases h2000 : 2000 < n
  · go_wp2_with fail
    go_ret
    exact ⟨rfl, hb1⟩
  have q1 : decide (2000 < (n : Int)) = false := by simp; omega
  have HB1 := Lib.hid hb1
  have HR1 := Lib.hid ((HR.out.below hb1 (Nat.le_refl _)).more hb1.size)
  clear hb1
  go_wp2_with fail
  have hp := parse_any A n c bs w1 HR1.out hnc (by omega)
  rw [HP.out] at hp
  have HPX := Lib.hid hp
  clear hp
  refine HPX.out.mono ?_
  rintro e w2 ⟨A2, n2, c2, rfl, hr2, hnc2, hb2⟩
  have HB2 := Lib.hid (HB1.out.trans (hb2.mono HB1.out.size))
  have HF2 := Lib.hid hr2
  clear hr2 hb2 HPX HB1 HR1
  by_cases hpc : pc = 0
  · obtain ⟨hbody, hfall⟩ := HPB.out hpc
    subst hpc
    have HBODY := Lib.hid hbody
    have HFALL := Lib.hid hfall
    clear hbody hfall
    have hn2 : n2 ≤ 100000 := by
      have h1 := body_len fs
      rw [HBODY.out, HR.out.len, HF2.out.len] at h1
      omega
    go_wp2_with fail
    go_loopw [26, 5] (fun i x wx => OneRel w2 fs n2 i x wx) (fun i _ _ => n2 - (intOf i).toNat)
    case atStart => exact ⟨0, none, 0, 0, by omega, rfl, rfl, Rd.nil, Below.refl _ _⟩
    case round =>
      obtain ⟨k, Ax, nx, cx, hk, rfl, rfl, hrx, hbx⟩ := hrel
      have hlx := hrx.len
      have hle := body_take_le fs k
      rw [hlx, HBODY.out, HR.out.len] at hle
      have HRX := Lib.hid hrx
      have HBX := Lib.hid hbx
      clear hrx hbx hlx
      by_cases hlt : k < n2
      · obtain ⟨f, hf⟩ : ∃ f, fs[k]? = some f := ⟨fs[k]'(by rw [HF2.out.len]; exact hlt), List.getElem?_eq_getElem _⟩
        obtain ⟨b1, o1, Av, nv, cv, rfl, hb1, t1, s1, hnc1, hnv, r1⟩ := HF2.out.at_ hf
        rw [Nat.mul_comm 2 k] at t1 s1
        rw [← Nat.add_assoc] at s1
        have t1' := (HBX.out.cell (p := ⟨b1, o1 + k * 2, none⟩) hb1).trans t1
        have s1' := (HBX.out.cell (p := ⟨b1, o1 + k * 2 + 1, none⟩) hb1).trans s1
        have hv := HFALL.out f (List.mem_of_getElem? hf)
        have hnv2 : nv ≤ 65535 := by rw [← r1.len]; exact hv.2
        have HT := Lib.hid (body_take fs k f hf hv.1)
        have R1 := Lib.hid ((r1.below HBX.out (Nat.le_refl _)).more HBX.out.size)
        clear t1 s1 r1 hf hv
        go_wp2_with fail
        have hba : Below wr.heap.size wr (wr.alloc (Obj.cells #[.int .u8 f.1.toNat, .slice Av nv cv] 39)) := (Below.refl _ _).alloc (Nat.le_refl _) _
        have hp := put_any Ax nx cx _ f.1 Av nv cv f.2 _ ((HRX.out.below hba (Nat.le_refl _)).more hba.size) ((R1.out.below hba (Nat.le_refl _)).more hba.size) (by omega) hnv2
        rw [HT.out] at hp
        have HPX := Lib.hid hp
        have HBA := Lib.hid hba
        clear hp hba
        refine HPX.out.mono ?_
        rintro e w5 ⟨A5, n5, c5, rfl, hr5, hnc5, _, hb5⟩
        have HH := Lib.hid (And.intro hr5 ((HBX.out.trans (HBA.out.mono HBX.out.size)).trans (hb5.mono (Nat.le_trans HBX.out.size HBA.out.size))))
        clear hr5 hb5 HPX
        go_wp2_with fail
        go_roundw
        case rel => exact ⟨k + 1, A5, n5, c5, by omega, by go_num, rfl, HH.out.1, HH.out.2⟩
        case measure => simp [intOf]; omega
      · obtain rfl : k = n2 := by omega
        have hrx := HRX.out
        rw [List.take_of_length_le (by rw [HF2.out.len]; exact Nat.le_refl _), HBODY.out] at hrx
        have cv1 := run_string wr _ Ax nx cx _ hrx
        have hbw := HB2.out.trans (HBX.out.mono HB2.out.size)
        have HBW := Lib.hid hbw
        have cv2 := run_string wr _ A n c _ (HR.out.below hbw (Nat.le_refl _))
        clear hrx hbw
        go_wp2_with fail
        clear cv1 cv2
        have hbx := HBW.out
        have hrx := (HR.out.below hbx (Nat.le_refl _)).more hbx.size
        have HBX := Lib.hid hbx
        have HRX := Lib.hid hrx
        clear hbx hrx
        have hp := unpack_any A n c bs wr HRX.out hnc (by omega)
        rw [HU.out] at hp
        have HPX := Lib.hid hp
        clear hp
        refine HPX.out.mono ?_
        rintro e w7 ⟨A7, n7, c7, rfl, hr7, hnc7, hb7⟩
        have hn7 := hr7.len
        have HR7 := Lib.hid hr7
        have HX7 := Lib.hid hb7
        have HB7 := Lib.hid (HBX.out.trans (hb7.mono HBX.out.size))
        have HN7 := Lib.hid hn7
        clear hr7 hb7 hn7 HPX
        by_cases huc : uc = 0
        · obtain ⟨hpk, h16⟩ := HUB.out huc
          subst huc
          have hlen7 : n7 ≤ 100000 := by
            have h1 := pack_len ls
            rw [hpk, HR.out.len] at h1
            have h2 : ls.length = n7 := HN7.out
            omega
          go_wp2_with fail
          have hp := pack_any A7 n7 c7 ls w7 HR7.out hlen7 h16
          rw [hpk] at hp
          refine hp.mono ?_
          rintro e w8 ⟨A8, n8, c8, rfl, hr8, _, _, hb8⟩
          have hrb := (HRX.out.below (show Below wr.heap.size wr w7 from HX7.out) (Nat.le_refl _)).below hb8 (HX7.out.size)
          have cv1 := run_string w8 _ A8 n8 c8 _ hr8
          have cv2 := run_string w8 _ A n c _ hrb
          have HB8 := Lib.hid (HB7.out.trans (hb8.mono HB7.out.size))
          clear hp hr8 hrb hb8 hpk h16
          go_wp2_with fail
          go_ret
          exact ⟨rfl, HB8.out⟩
        · have q9 : ((uc : Int) == 0) = false := by simp; omega
          go_wp2_with fail
          go_ret
          exact ⟨rfl, HB7.out⟩
  · have q9 : ((pc : Int) == 0) = false := by simp; omega
    go_wp2_with fail
    clear q9
    have hbx := HB2.out
    have hrx := (HR.out.below hbx (Nat.le_refl _)).more hbx.size
    have HBX := Lib.hid hbx
    have HRX := Lib.hid hrx
    clear hbx hrx
    have hp := unpack_any A n c bs w2 HRX.out hnc (by omega)
    rw [HU.out] at hp
    have HPX := Lib.hid hp
    clear hp
    refine HPX.out.mono ?_
    rintro e w7 ⟨A7, n7, c7, rfl, hr7, hnc7, hb7⟩
    have hn7 := hr7.len
    have HR7 := Lib.hid hr7
    have HX7 := Lib.hid hb7
    have HB7 := Lib.hid (HBX.out.trans (hb7.mono HBX.out.size))
    have HN7 := Lib.hid hn7
    clear hr7 hb7 hn7 HPX
    by_cases huc : uc = 0
    · obtain ⟨hpk, h16⟩ := HUB.out huc
      subst huc
      have hlen7 : n7 ≤ 100000 := by
        have h1 := pack_len ls
        rw [hpk, HR.out.len] at h1
        have h2 : ls.length = n7 := HN7.out
        omega
      go_wp2_with fail
      have hp := pack_any A7 n7 c7 ls w7 HR7.out hlen7 h16
      rw [hpk] at hp
      refine hp.mono ?_
      rintro e w8 ⟨A8, n8, c8, rfl, hr8, _, _, hb8⟩
      have hrb := (HRX.out.below (show Below w2.heap.size w2 w7 from HX7.out) (Nat.le_refl _)).below hb8 (HX7.out.size)
      have cv1 := run_string w8 _ A8 n8 c8 _ hr8
      have cv2 := run_string w8 _ A n c _ hrb
      have HB8 := Lib.hid (HB7.out.trans (hb8.mono HB7.out.size))
      clear hp hr8 hrb hb8 hpk h16
      go_wp2_with fail
      go_ret
      exact ⟨rfl, HB8.out⟩
    · have q9 : ((uc : Int) == 0) = false := by simp; omega
      go_wp2_with fail
      go_ret
      exact ⟨rfl, HB7.out⟩
end Go.Proofs.Ytlbpkgjngolfkaa
