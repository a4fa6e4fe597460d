/- LexKnown answers true, at whatever memory in which ErrRange holds an error. -/
import Derived.Test.YtfjeijjllgocdaaDoorLk
namespace Go.Proofs.YtfjeijjllgocdaaDoor
open Go.RowKit

theorem byte_info : ∃ i, Tryd.prog.info? 5 = some i ∧ i.zero = some (.int .u8 0) ∧ i.size = 1 ∧ i.bytes = 1 := by
  have h : (Tryd.prog.info? 5).map (fun i => (i.zero, i.size, i.bytes)) = some (some (.int .u8 0), 1, 1) := by kernel_rfl
  cases hi : Tryd.prog.info? 5 with
  | none => rw [hi] at h; cases h
  | some i =>
    rw [hi] at h
    simp only [Option.map_some, Option.some.injEq, Prod.mk.injEq] at h
    exact ⟨i, rfl, h.1, h.2.1, h.2.2⟩

/-- Bytes of the call's own, the first k of them blanks. -/
structure Blk (w : World) (G k : Nat) : Prop where
  some' : ∀ j, j < 6001 → (w.cell? ⟨G, j, none⟩).isSome = true
  free : ∀ j, w.frozen? ⟨G, j, none⟩ = false
  done : ∀ j, j < k → w.cell? ⟨G, j, none⟩ = some (.int .u8 32)

theorem Blk.step {w : World} {G k : Nat} (h : Blk w G k) (hk : k < 6001) : Blk (w.setCell ⟨G, k, none⟩ (.int .u8 32)) G (k + 1) := by
  obtain ⟨u, hu⟩ := Option.isSome_iff_exists.1 (h.some' k hk)
  refine ⟨fun j hj => ?_, fun j => by simp [h.free j], fun j hj => ?_⟩
  · by_cases e : j = k
    · subst e; rw [World.cell?_setCell_same w _ _ hu]; rfl
    · rw [World.cell?_setCell_other w _ _ _ (addr_ne (fun e' => e e'.symm))]; exact h.some' j hj
  · by_cases e : j = k
    · subst e; exact World.cell?_setCell_same w _ _ hu
    · rw [World.cell?_setCell_other w _ _ _ (addr_ne (fun e' => e e'.symm))]; exact h.done j (by omega)

theorem blk_of {w : World} {b G : Nat} {xs : List Value} (h : w.ownsRow b 5 1 (.slice (some ⟨G, 0, none⟩) 6001 6001) 6001 xs) : Blk w G 0 := by
  have hl : xs.length = 6001 := by have := h.1; omega
  refine ⟨fun j hj => ?_, fun j => h.frozenAt j, fun j hj => absurd hj (Nat.not_lt_zero _)⟩
  rw [h.cellAt j (by omega), List.getElem?_eq_getElem (by omega)]
  rfl

theorem long_convert (w : World) (G : Nat) (h : Blk w G 6001) : (convert 27 9 (.slice (some ⟨G, 0, none⟩) 6001 6001)).run Tryd.prog w = .ok (.string longText) w := by
  have := run_convert_bytes_back (P := Tryd.prog) w 27 9 5 ⟨G, 0, none⟩ 6001 (List.replicate 6001 32) Tryd.underlying27 Tryd.underlying5 Tryd.underlying9 (fun j hj => by
    rw [List.length_replicate] at hj
    rw [List.getElem_replicate]
    have e : (⟨G, 0, none⟩ : Addr).add j = ⟨G, j, none⟩ := by simp [Addr.add]; intro h; exact h.symm
    rw [e]
    exact h.done j hj)
  rw [List.length_replicate] at this
  exact this

theorem same_self {P : Program} (a b : Nat) (h : ((Ieee.double.order a a == some .eq) && (Ieee.double.order b b == some .eq)) = true) (w : World) : (binOp .eql 23 (.complex .f64 a b) (.complex .f64 a b)).run P w = .ok (.bool true) w := by
  have := run_eql_complex (P := P) w 23 .f64 a b a b
  rw [this]
  exact congrArg (fun x => Result.ok (Value.bool x) w) h

theorem cell_at {s : ByteArray} {ts : List Lx.Tk} {g : Nat} {w : World} (h : Row s ts g w) (i j : Nat) (hi : i < ts.length) (hj : j < 4) : w.cell? ⟨g, i * 4 + j, none⟩ = (tkCells s ts[i])[j]? := by
  rw [h.cells (i * 4 + j) (by omega), tk_at s ts i j hi hj]

set_option maxRecDepth 100000 in
set_option maxHeartbeats 8000000 in
theorem lexKnown_any (w : World) (hE : Er w) : Calls Tryd.prog 3 #[] w fun e w' => e = .returned (.bool true) ∧ Kept w w' := by
  have HE : Hid (Er w) := hE
  clear hE
  have GA : Hid (∀ W, Er W → _) := fun W hW => toks_good_at sA tA 13 tA_toks tA_len (by decide) (by decide) W hW
  have GB : Hid (∀ W, Er W → _) := fun W hW => toks_good_at sB tB 4 tB_toks tB_len (by decide) (by decide) W hW
  have GC : Hid (∀ W, Er W → _) := fun W hW => toks_good_at sC tC 2 tC_toks tC_len (by decide) (by decide) W hW
  have GD : Hid (∀ W, Er W → _) := fun W hW => toks_good_at sD tD 1 tD_toks tD_len (by decide) (by decide) W hW
  have GE : Hid (∀ W, Er W → _) := fun W hW => toks_bad_at sE 3 _ _ sE_bad.1 sE_bad.2.1 sE_bad.2.2 (by decide) W hW
  have GF : Hid (∀ W, Er W → _) := fun W hW => toks_bad_at sF 2 _ _ sF_bad.1 sF_bad.2.1 sF_bad.2.2 (by decide) W hW
  have GG : Hid (∀ W, Er W → _) := fun W hW => toks_bad_at sG 2 _ _ sG_bad.1 sG_bad.2.1 sG_bad.2.2 (by decide) W hW
  have GH : Hid (∀ W, Er W → _) := fun W hW => toks_bad_at sH 0 _ _ sH_bad.1 sH_bad.2.1 sH_bad.2.2 (by decide) W hW
  have GI : Hid (∀ W, Er W → _) := fun W hW => toks_bad_at sI 1 _ _ sI_bad.1 sI_bad.2.1 sI_bad.2.2 (by decide) W hW
  have GL : Hid (∀ W, Er W → _) := fun W hW => toks_bad_at longText 6000 _ _ long_toks long_place.1 long_place.2 (by rw [long_size]; omega) W hW
  have K0 : Hid (Kept w w) := Kept.refl w
  obtain ⟨i0, hi, hz0, hz1, hz2⟩ := byte_info
  have Hi : Hid (_ = _) := hi
  have Hz0 : Hid (_ = _) := hz0
  have Hz1 : Hid (_ = _) := hz1
  have Hz2 : Hid (_ = _) := hz2
  clear hi hz0 hz1 hz2
  go_enter Tryd.func3, Tryd.ntmps3
  go_wp2_with fail
  refine (GA.out _ (HE.out.kept K0.out)).mono ?_
  rintro e w1 ⟨gA, capA, rfl, xA, rA, k⟩
  have K1 : Hid (Kept w w1) := K0.out.then k
  have D1 : Hid (Kept w w1) := k
  have RA : Hid (Row sA tA gA w1 ∧ gA < w1.heap.size) := ⟨rA, xA⟩
  clear k xA rA
  go_wp2_with (refine wpList_make_full _ (by rfl) _ _ _ (by rfl) w1.heap.size 5 i0 _ 1 Tryd.underlying27 Hi.out Hz0.out Hz1.out _ _ _ _ 6001 (by rfl) (by rfl) (by rfl) (by rfl) ?b2 ?b3 (Nat.le_refl _) ?_)
  case b2 => rw [Hz2.out]; omega
  case b3 => unfold maxLen; omega
  intro w2 hown hgrow
  have B0 : Hid (Blk w2 w1.heap.size 0) := blk_of hown
  have D2 : Hid (Kept w1 w2) := ⟨hgrow.os, hgrow.tape, hgrow.output, hgrow.size, fun k hk => hgrow.block k hk (by simp)⟩
  clear hown hgrow
  go_wp2_with fail
  go_loopw [41] (fun i wr => ∃ k : Nat, k ≤ 6001 ∧ i = .int .i64 (k : Int) ∧ Blk wr w1.heap.size k ∧ Kept w1 wr) (fun i _ => 6001 - (intOf i).toNat)
  case atStart => exact ⟨0, Nat.zero_le _, rfl, B0.out, D2.out⟩
  case round =>
    obtain ⟨k, hk, rfl, hb, hkr⟩ := hrel
    have HB : Hid (Blk wr w1.heap.size k) := hb
    have KR : Hid (Kept w1 wr) := hkr
    clear hb hkr
    by_cases hlt : k < 6001
    · obtain ⟨u, hu⟩ := Option.isSome_iff_exists.1 (HB.out.some' k hlt)
      have hf := HB.out.free k
      have hki : (k : Int) < 6001 := by omega
      go_wp2
      go_roundw
      case rel => exact ⟨k + 1, by omega, by go_num, HB.out.step hlt, KR.out.setCell (Nat.le_refl _) _⟩
      case measure => simp [intOf]; omega
    · obtain rfl : k = 6001 := by omega
      have hv := long_convert wr w1.heap.size HB.out
      have K2 : Hid (Kept w wr) := K1.out.then KR.out
      obtain ⟨w2', hw2⟩ : ∃ w2', w2' = wr := ⟨_, rfl⟩
      subst hw2
      go_wp2_with fail
      refine (GL.out _ (HE.out.kept K2.out)).mono ?_
      rintro e w3 ⟨rfl, k⟩
      have K3 : Hid (Kept w w3) := K2.out.then k
      have D3 : Hid (Kept w2' w3) := k
      clear k
      go_wp2_with fail
      refine (GE.out _ (HE.out.kept K3.out)).mono ?_
      rintro e w4 ⟨rfl, k⟩
      have K4 : Hid (Kept w w4) := K3.out.then k
      have D4 : Hid (Kept w3 w4) := k
      clear k
      go_wp2_with fail
      refine (GF.out _ (HE.out.kept K4.out)).mono ?_
      rintro e w5 ⟨rfl, k⟩
      have K5 : Hid (Kept w w5) := K4.out.then k
      have D5 : Hid (Kept w4 w5) := k
      clear k
      go_wp2_with fail
      refine (GB.out _ (HE.out.kept K5.out)).mono ?_
      rintro e w6 ⟨gB, capB, rfl, xB, rB, k⟩
      have K6 : Hid (Kept w w6) := K5.out.then k
      have D6 : Hid (Kept w5 w6) := k
      have RB : Hid (Row sB tB gB w6 ∧ gB < w6.heap.size) := ⟨rB, xB⟩
      clear k xB rB
      go_wp2_with fail
      refine (GG.out _ (HE.out.kept K6.out)).mono ?_
      rintro e w7 ⟨rfl, k⟩
      have K7 : Hid (Kept w w7) := K6.out.then k
      have D7 : Hid (Kept w6 w7) := k
      clear k
      go_wp2_with fail
      refine (GH.out _ (HE.out.kept K7.out)).mono ?_
      rintro e w8 ⟨rfl, k⟩
      have K8 : Hid (Kept w w8) := K7.out.then k
      have D8 : Hid (Kept w7 w8) := k
      clear k
      go_wp2_with fail
      refine (GC.out _ (HE.out.kept K8.out)).mono ?_
      rintro e w9 ⟨gC, capC, rfl, xC, rC, k⟩
      have K9 : Hid (Kept w w9) := K8.out.then k
      have D9 : Hid (Kept w8 w9) := k
      have RC : Hid (Row sC tC gC w9 ∧ gC < w9.heap.size) := ⟨rC, xC⟩
      clear k xC rC
      go_wp2_with fail
      refine (GD.out _ (HE.out.kept K9.out)).mono ?_
      rintro e w10 ⟨gD, capD, rfl, xD, rD, k⟩
      have K10 : Hid (Kept w w10) := K9.out.then k
      have D10 : Hid (Kept w9 w10) := k
      have RD : Hid (Row sD tD gD w10 ∧ gD < w10.heap.size) := ⟨rD, xD⟩
      clear k xD rD
      go_wp2_with fail
      refine (GI.out _ (HE.out.kept K10.out)).mono ?_
      rintro e w11 ⟨rfl, k⟩
      have K11 : Hid (Kept w w11) := K10.out.then k
      have D11 : Hid (Kept w10 w11) := k
      clear k
      go_wp2_with fail
      refine (known_any _ (HE.out.kept K11.out)).mono ?_
      rintro e w12 ⟨rfl, k⟩
      have K12 : Hid (Kept w w12) := K11.out.then k
      have D12 : Hid (Kept w11 w12) := k
      clear k
      have KA : Hid (Kept w1 w12) := KR.out.then (D3.out.then (D4.out.then (D5.out.then (D6.out.then (D7.out.then (D8.out.then (D9.out.then (D10.out.then (D11.out.then D12.out)))))))))
      have KB : Hid (Kept w6 w12) := D7.out.then (D8.out.then (D9.out.then (D10.out.then (D11.out.then D12.out))))
      have ra := RA.out.1.kept RA.out.2 KA.out
      have rb := RB.out.1.kept RB.out.2 KB.out
      have a41 : w12.cell? ⟨gA, 41, none⟩ = some (.string ⟨#[61, 61]⟩) := (cell_at ra 10 1 (by rw [tA_len]; decide) (by decide)).trans (by kernel_rfl)
      have a45 : w12.cell? ⟨gA, 45, none⟩ = some (.string ⟨#[61]⟩) := (cell_at ra 11 1 (by rw [tA_len]; decide) (by decide)).trans (by kernel_rfl)
      have a11 : w12.cell? ⟨gA, 11, none⟩ = some (.complex .f64 4611686018427387904 4611686018427387904) := (cell_at ra 2 3 (by rw [tA_len]; decide) (by decide)).trans (by kernel_rfl)
      have b2 : w12.cell? ⟨gB, 2, none⟩ = some (.int .i64 9223372036854775807) := (cell_at rb 0 2 (by rw [tB_len]; decide) (by decide)).trans (by kernel_rfl)
      have b5 : w12.cell? ⟨gB, 5, none⟩ = some (.string ⟨#[120]⟩) := (cell_at rb 1 1 (by rw [tB_len]; decide) (by decide)).trans (by kernel_rfl)
      have q1 : ∀ w, _ := same_self (P := Tryd.prog) 4611686018427387904 4611686018427387904 (by decide +kernel)
      have q2 : ∀ w, _ := same_self (P := Tryd.prog) 4607182418800017408 4663320183979376640 (by decide +kernel)
      have q3 : ∀ w, _ := same_self (P := Tryd.prog) 4607182418800017408 4613937818241073152 (by decide +kernel)
      have q4 : ∀ w, _ := same_self (P := Tryd.prog) 4607182418800017408 4607182418800017408 (by decide +kernel)
      have q5 : ∀ w, _ := same_self (P := Tryd.prog) 4607182418800017408 4611686018427387904 (by decide +kernel)
      clear ra rb hv
      go_wp2_with fail
      refine (keyword_any ⟨#[114, 101, 112, 101, 97, 116]⟩ true (by decide +kernel) _).mono ?_
      rintro e vk1 ⟨rfl, rfl⟩
      go_wp2_with fail
      refine (keyword_any ⟨#[120]⟩ false (by decide +kernel) _).mono ?_
      rintro e vk2 ⟨rfl, rfl⟩
      go_wp2_with fail
      refine (isName_any ⟨#[102, 105, 120, 48]⟩ true (by decide +kernel) _).mono ?_
      rintro e vn1 ⟨rfl, rfl⟩
      go_wp2_with fail
      refine (isName_any ⟨#[103, 111]⟩ false (by decide +kernel) _).mono ?_
      rintro e vn2 ⟨rfl, rfl⟩
      go_wp2_with fail
      refine (isName_any ⟨#[]⟩ false (by decide +kernel) _).mono ?_
      rintro e vn3 ⟨rfl, rfl⟩
      go_wp2_with fail
      refine (isName_any ⟨#[48, 97]⟩ false (by decide +kernel) _).mono ?_
      rintro e vn4 ⟨rfl, rfl⟩
      go_wp2_with fail
      refine (isName_any ⟨#[97, 98, 99, 100, 101, 102, 103, 104, 105, 106, 107, 108, 109]⟩ false (by decide +kernel) _).mono ?_
      rintro e vn5 ⟨rfl, rfl⟩
      go_wp2_with fail
      refine (isName_any ⟨#[97, 32, 98]⟩ false (by decide +kernel) _).mono ?_
      rintro e vn6 ⟨rfl, rfl⟩
      go_wp2
      go_ret
      exact ⟨rfl, K12.out⟩

end Go.Proofs.YtfjeijjllgocdaaDoor
