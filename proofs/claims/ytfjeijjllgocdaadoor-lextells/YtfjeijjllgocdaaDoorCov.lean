/- LexCovers, first part: where there are no tokens; what is asked of the last token. -/
import Derived.Test.YtfjeijjllgocdaaDoorTextW
import Derived.Test.YtfjeijjllgocdaaDoorPrefix
import Derived.Test.YtfjeijjllgocdaaDoorCovFacts
import Derived.Deep.RegionHeld3
import Derived.Deep.DrawnRows
import Derived.Deep.QuietTactic
import Derived.BigQuiet
namespace Go.Proofs.YtfjeijjllgocdaaDoor
open Go.RowKit
attribute [local go_sem] run_store_complex
attribute [local go_sem ↓] Go.wp_at_zero Go.wp_at_succ

theorem kept_drew_iff (B : Nat) (a b : World) : Below B a b.drew ↔ Below B a b := ⟨fun h => ⟨h.os, h.tape, h.output, h.size, h.block⟩, fun h => h.drew⟩
attribute [local simp] kept_drew_iff
theorem keep_cell {W w : World} {a : Addr} {v : Value} (k : Kept W w) (h : W.cell? a = some v) : w.cell? a = some v := (k.cell (World.block_lt_of_cell? W _ h)).trans h

theorem bcell {W w1 : World} (hb : Below W.heap.size W w1) : (∀ b o, b < W.heap.size → w1.cell? ⟨b, o, none⟩ = W.cell? ⟨b, o, none⟩) ∧ (∀ b o, b < W.heap.size → w1.frozen? ⟨b, o, none⟩ = W.frozen? ⟨b, o, none⟩) :=
  ⟨fun b o h => hb.cell (p := ⟨b, o, none⟩) h, fun b o h => hb.frozen (p := ⟨b, o, none⟩) h⟩

/-- What is known of a token where it stands. -/
structure TokFacts (S : ByteArray) (pos : Nat) (t : Lx.Tk) (gp rst : List UInt8) (b : Bool) (more : List Lx.Tk) : Prop where
  q1 : pos ≤ t.at'
  q2 : t.at' ≤ S.size
  q3 : t.at' - pos = gp.length
  gap : Lx.gap false gp = some b
  byte : ∀ x (h : x < S.size) (_h1 : pos ≤ x) (h2 : x - pos < gp.length), S[x] = gp[x - pos]
  endq : t.at' + t.text.length ≤ S.size
  text : S.extract t.at' (t.at' + t.text.length) = ⟨t.text.toArray⟩
  kt : t.kind = 4 ↔ t.text = []
  rest : (t.kind = 4 ∧ more = [] ∧ t.at' + t.text.length = S.size) ∨ (t.kind ≠ 4 ∧ b = false ∧ Lx.Cov (t.at' + t.text.length) (S.data.toList.drop (t.at' + t.text.length)) more)

theorem tok_facts (S : ByteArray) (pos : Nat) (t : Lx.Tk) (gp rst : List UInt8) (b : Bool) (more : List Lx.Tk) (hpos : pos ≤ S.size) (hl : S.data.toList.drop pos = gp ++ t.text ++ rst) (hat : t.at' = pos + gp.length) (hgap : Lx.gap false gp = some b)
    (hkt : t.kind = 4 ↔ t.text = []) (hrest : (t.kind = 4 ∧ more = [] ∧ rst = []) ∨ (t.kind ≠ 4 ∧ b = false ∧ Lx.Cov (pos + gp.length + t.text.length) rst more)) : TokFacts S pos t gp rst b more := by
  have hll : S.data.toList.length = S.size := by simp
  have hlen := congrArg List.length hl
  rw [List.length_drop, List.length_append, List.length_append, hll] at hlen
  refine ⟨by omega, by omega, by omega, hgap, ?_, by omega, ?_, hkt, ?_⟩
  · intro x h h1 h2
    rw [← byte_at S x h]
    have e : S.data.toList[x]'(by omega) = (S.data.toList.drop pos)[x - pos]'(by rw [List.length_drop]; omega) := by
      rw [List.getElem_drop]; congr 1; omega
    rw [e]
    simp only [hl]
    rw [List.getElem_append_left (by rw [List.length_append]; omega), List.getElem_append_left h2]
  · rw [text_of S _ _ (by omega) (by omega)]
    have e : S.data.toList.drop t.at' = t.text ++ rst := by
      rw [hat, ← List.drop_drop, hl, List.append_assoc, List.drop_left]
    rw [e, show t.at' + t.text.length - t.at' = t.text.length by omega, List.take_left]
  · rcases hrest with ⟨h1, h2, h3⟩ | ⟨h1, h2, h3⟩
    · refine .inl ⟨h1, h2, ?_⟩
      rw [h3] at hlen
      simp at hlen
      omega
    · refine .inr ⟨h1, h2, ?_⟩
      have e : S.data.toList.drop (t.at' + t.text.length) = rst := by
        rw [hat, show pos + gp.length + t.text.length = pos + (gp ++ t.text).length by simp; omega, ← List.drop_drop, hl, List.drop_left]
      rw [e, hat]
      exact h3

theorem cov_run_count (f : Nat) : ∀ (p : Nat) (l : List UInt8) (ts : List Lx.Tk), Lx.run f p l = .good ts → ts.length ≤ l.length + 1 := by
  induction f with
  | zero => intro p l ts h; cases h
  | succ f ih =>
    intro p l ts h
    cases l with
    | nil => simp [Lx.run] at h; subst h; simp
    | cons c r =>
      rw [Lx.run_cons] at h
      split at h
      · have := ih _ _ _ h; simp; omega
      · split at h
        · have := ih _ _ _ h
          rw [List.length_drop] at this
          simp; omega
        · cases ho : Lx.one (c :: r) with
          | none => rw [ho] at h; cases h
          | some x =>
            obtain ⟨k, len, n⟩ := x
            have hl := Lx.one_len ho
            rw [ho] at h
            simp only [] at h
            cases hr : Lx.run f (p + len) ((c :: r).drop len) with
            | bad q => rw [hr] at h; cases h
            | good us =>
              rw [hr] at h
              simp only [Lx.Out.pre, Lx.Out.good.injEq] at h
              subst h
              have := ih _ _ _ hr
              rw [List.length_drop] at this
              simp only [List.length_append, List.length_singleton]
              omega

theorem cov_count (l : List UInt8) (ts : List Lx.Tk) (h : Lx.toks l = .good ts) : ts.length ≤ 6001 := by
  unfold Lx.toks at h
  split at h
  · cases h
  · have := cov_run_count _ _ _ _ h; omega

theorem cov_last {p : Nat} {l : List UInt8} {ts : List Lx.Tk} (h : Lx.Cov p l ts) : ∃ m, ∃ hm : m < ts.length, ts.length = m + 1 ∧ ts[m].kind = 4 ∧ ts[m].at' = p + l.length := by
  obtain ⟨hn, h1, h2⟩ := h.last
  exact ⟨ts.length - 1, by omega, by omega, h1, h2⟩

set_option maxRecDepth 100000 in
set_option maxHeartbeats 1000000 in
theorem covers_bad (v : Value) (raw S : ByteArray) (q : Nat) (w : World) (hT : ∀ W, Kept w W → Calls Tryd.prog 13 #[v, .string raw] W fun e w' => e = .returned (.string S) ∧ Kept W w') (hE : Er w) (hS : S.size ≤ 1125899906842624) (hR : Lx.toks S.data.toList = .bad q) :
    Calls Tryd.prog 6 #[v, .string raw] w fun e w' => e = .returned (.bool true) ∧ Kept w w' := by
  have C1 : Hid (∀ W, Kept w W → _) := hT
  have D1 : Hid (∀ W, Er W → _) := fun W hW => tokens_any S W hS hW _ hR
  have HE : Hid (Er w) := hE
  clear hT hE hR
  go_enter Tryd.func6, Tryd.ntmps6
  go_wp2_with fail
  refine (C1.out _ (Kept.refl _)).mono ?_
  rintro e w1 ⟨rfl, k1⟩
  have K1 : Hid (Kept w w1) := k1
  clear k1
  go_wp2_with fail
  refine (D1.out _ (HE.out.kept K1.out)).mono ?_
  rintro e w2 ⟨q1, q2, q3, rfl, ht⟩
  have K2 : Hid (Kept w w2) := K1.out.then (told_kept ht)
  obtain ⟨rfl, rfl, rfl, _⟩ := told_none ht
  clear ht
  go_wp2_with fail
  refine (known_any _ (HE.out.kept K2.out)).mono ?_
  rintro e w3 ⟨rfl, k3⟩
  have K3 : Hid (Kept w w3) := K2.out.then k3
  clear k3
  go_wp2
  go_ret
  exact ⟨rfl, K3.out⟩

set_option maxRecDepth 100000 in
set_option maxHeartbeats 8000000 in
theorem covers_good (v : Value) (raw S : ByteArray) (ts : List Lx.Tk) (w : World) (hT : ∀ W, Kept w W → Calls Tryd.prog 13 #[v, .string raw] W fun e w' => e = .returned (.string S) ∧ Kept W w') (hE : Er w) (hS : S.size ≤ 6000) (hR : Lx.toks S.data.toList = .good ts) (hts : ts.length ≤ 6001) :
    Calls Tryd.prog 6 #[v, .string raw] w fun e w' => e = .returned (.bool true) ∧ Kept w w' := by
  have C1 : Hid (∀ W, Kept w W → _) := hT
  have D1 : Hid (∀ W, Er W → _) := fun W hW => tokens_any S W (by omega) hW _ hR
  have HE : Hid (Er w) := hE
  have hcov := Lx.toks_cov _ _ hR
  have HN : Hid (ts ≠ []) := hcov.ne
  obtain ⟨m, hmt, hm, l1, l2⟩ := cov_last hcov
  have hll : S.data.toList.length = S.size := by simp
  rw [Nat.zero_add, hll] at l2
  have HC : Hid (Lx.Cov 0 S.data.toList ts) := hcov
  have L1 : Hid (ts[m].kind = 4) := l1
  have L2 : Hid (ts[m].at' = S.size) := l2
  have P1 : Hid (∀ w, _) := place_in S S.size (by omega) (Nat.le_refl _)
  have hne : ∀ w, _ := fun w => run_place_ne (P := Tryd.prog) S S.size S.size (by omega) (Nat.le_refl _) (Nat.le_refl _) w
  rw [decide_eq_true rfl] at hne
  have hidx : IntKind.i64.wrap ((ts.length : Int) - 1) = (m : Int) := by rw [IntKind.wrap_i64]; omega
  have hl0 : ((ts.length : Int) == 0) = false := by rw [beq_eq_false_iff_ne]; omega
  have hb1 : (m : Int) < (ts.length : Int) := by omega
  have hb0 : (0 : Int) ≤ (m : Int) := by omega
  clear hm
  clear hT hE hR hcov l1 l2 hll
  go_enter Tryd.func6, Tryd.ntmps6
  go_wp2_with fail
  refine (C1.out _ (Kept.refl _)).mono ?_
  rintro e w1 ⟨rfl, k1⟩
  have K1 : Hid (Kept w w1) := k1
  clear k1
  go_wp2_with fail
  refine (D1.out _ (HE.out.kept K1.out)).mono ?_
  rintro e w2 ⟨q1, q2, q3, rfl, ht⟩
  have K2 : Hid (Kept w w2) := K1.out.then (told_kept ht)
  obtain ⟨g, cap, rfl, rfl, rfl, _, x1, r1, _⟩ := told_good ht HN.out
  have R1 : Hid (Row S ts g w2 ∧ g < w2.heap.size) := ⟨r1, x1⟩
  obtain ⟨a0, _, _, a3⟩ := r1.at m hmt
  rw [L1.out] at a0
  rw [L2.out] at a3
  replace a0 : w2.cell? ⟨g, m * 4, none⟩ = some (.int .i64 4) := a0
  have K2' : Kept w w2 := K2.out
  clear ht r1
  go_wp2_with fail
  go_region_held3 (fun w' => w'.cell? ⟨g, m * 4, none⟩ = some (.int .i64 4) ∧ w'.cell? ⟨g, m * 4 + 3, none⟩ = some (.complex .f64 (lineW S S.size) (colW S S.size)) ∧ Kept w w')
    (first | go_keep | (go_split_ands; refine ⟨keep_cell (by assumption) (by assumption), keep_cell (by assumption) (by assumption), Kept.then (by assumption) (by assumption)⟩))
    (first | (go_at_call 10; refine (known_any _ ?_).mono ?_; (go_split_ands; exact HE.out.kept (by assumption)); rintro e w3 ⟨rfl, k3⟩) | (go_at_call 15; refine (P1.out _).mono ?_; rintro e w4 ⟨rfl, rfl⟩))
  have K24 : Hid (Kept w2 w4) := ⟨k3.os, k3.tape, k3.output, k3.size, k3.block⟩
  have K4 : Hid (Kept w w4) := K2.out.then K24.out
  clear k3 K2' a0 a3 hidx hl0 hb1 hb0 hne
  go_wp2_with fail
  go_loopw [9, 10, 64] (fun at' note idx wr => ∃ i pos : Nat, i ≤ ts.length ∧ idx = .int .i64 (i : Int) ∧ at' = .int .i64 (pos : Int) ∧ pos ≤ S.size ∧ Kept w4 wr ∧ ((∃ _ : i < ts.length, note = .bool false ∧ Lx.Cov pos (S.data.toList.drop pos) (ts.drop i)) ∨ (i = ts.length ∧ pos = S.size))) (fun _ _ idx _ => ts.length - (intOf idx).toNat)
  case atStart => exact ⟨0, 0, Nat.zero_le _, rfl, rfl, Nat.zero_le _, Kept.refl _, .inl ⟨List.length_pos_iff.2 HN.out, rfl, HC.out⟩⟩
  case round =>
    obtain ⟨i, pos, hi, rfl, rfl, hpos, hkr, hcase⟩ := hrel
    obtain ⟨wo, hwo⟩ : ∃ wo, wo = wr := ⟨_, rfl⟩
    subst hwo
    have KR : Hid (Kept w4 wo) := hkr
    rcases hcase with ⟨hlt, rfl, hcv⟩ | ⟨rfl, rfl⟩
    · have hii : (i : Int) < (ts.length : Int) := by omega
      rw [List.drop_eq_getElem_cons hlt] at hcv
      have HCV : Hid (Lx.Cov pos (S.data.toList.drop pos) (ts[i] :: ts.drop (i + 1))) := hcv
      have rr := R1.out.1.kept R1.out.2 (K24.out.then KR.out)
      have y1 : g < wo.heap.size := Nat.lt_of_lt_of_le R1.out.2 (K24.out.then KR.out).size
      obtain ⟨c0, c1, c2, c3⟩ := rr.at i hlt
      obtain ⟨gp, rst, b, hl, hat, hgap, hkt, hrest⟩ := hcv.head
      have F : Hid (TokFacts S pos ts[i] gp rst b (ts.drop (i + 1))) := tok_facts S pos ts[i] gp rst b _ hpos hl hat hgap hkt hrest
      have hq := F.out.q1
      have hq2 := F.out.q2
      clear hcv rr hl hat hgap hkt hrest hkr
      obtain ⟨q, hqe⟩ : ∃ q, ts[i].at' = q := ⟨_, rfl⟩
      rw [hqe] at hq hq2 c3
      have HQ : Hid (ts[i].at' = q) := hqe
      clear hqe
      generalize hkd : (ts[i].kind : Int) = kd at *
      generalize htx : (⟨ts[i].text.toArray⟩ : ByteArray) = tx at *
      generalize (ts[i].n : Int) = nn at *
      have HKD : Hid ((ts[i].kind : Int) = kd) := hkd
      have HTX : Hid ((⟨ts[i].text.toArray⟩ : ByteArray) = tx) := htx
      clear hkd htx
      go_wp2_with fail
      go_loopw [9, 10] (fun at' note wi => ∃ (x : Nat) (nb : Bool), pos ≤ x ∧ x ≤ q ∧ at' = .int .i64 (x : Int) ∧ note = .bool nb ∧ Lx.gap false (gp.take (x - pos)) = some nb ∧ Kept w4 wi ∧
          wi.cell? ⟨wo.heap.size, 0, none⟩ = some (.int .i64 kd) ∧ wi.cell? ⟨wo.heap.size, 1, none⟩ = some (.string tx) ∧ wi.cell? ⟨wo.heap.size, 3, none⟩ = some (.complex .f64 (lineW S q) (colW S q))) (fun at' _ _ => q - (intOf at').toNat)
      case atStart => exact ⟨pos, false, Nat.le_refl _, hq, rfl, rfl, by rw [Nat.sub_self]; rfl, KR.out.alloc (by have := KR.out.size; omega) _, by simp, by simp, by simp⟩
      case round =>
        obtain ⟨x, nb, hx1, hx2, rfl, rfl, hgp, hki, d0, d1, d3⟩ := hrel
        have KI : Hid (Kept w4 wr) := hki
        have q3 := F.out.q3
        rw [HQ.out] at q3
        by_cases hxq : x < q
        · have hxs : x < S.size := by omega
          have hxi : (x : Int) < (S.size : Int) := by omega
          have PL : Hid (∀ w, _) := place_in S x (by omega) (by omega)
          have hne : ∀ w, _ := fun w => run_place_ne (P := Tryd.prog) S x q (by omega) (by omega) (by omega) w
          rw [decide_eq_false (by omega : ¬ x = q)] at hne
          obtain ⟨hcok, hgn⟩ := Lx.gap_step gp (x - pos) (by omega) false b F.out.gap nb hgp
          rw [← F.out.byte x hxs hx1 (by omega)] at hcok hgn
          rw [show x - pos + 1 = x + 1 - pos by omega] at hgn
          clear hgp hki
          by_cases c10 : S[x] = 10
          · have e10 : ((S[x].toNat : Int) == 10) = true := by rw [c10]; rfl
            have e10n : ((S[x].toNat : Int) != 10) = false := by rw [bne, e10]; rfl
            have e32 : ((S[x].toNat : Int) == 32) = false := by rw [c10]; rfl
            have e32n : ((S[x].toNat : Int) != 32) = true := by rw [bne, e32]; rfl
            have e9 : ((S[x].toNat : Int) == 9) = false := by rw [c10]; rfl
            have e9n : ((S[x].toNat : Int) != 9) = true := by rw [bne, e9]; rfl
            have HGN : Hid (Lx.gap false (gp.take (x + 1 - pos)) = some false) := by
              show _ = _
              rw [hgn, c10]; rfl
            clear hcok hgn c10
            go_wp2_with fail
            go_quiet ((go_at_call 15; exact Calls.quiet_of_same (PL.out _)))
            go_wp2
            go_roundw
            case rel => exact ⟨x + 1, false, by omega, by omega, by go_num, rfl, HGN.out, KI.out.trans ⟨rfl, rfl, rfl, Nat.le_refl _, fun _ _ => rfl⟩, d0, d1, d3⟩
            case measure => simp [intOf]; omega
          have e10 : ((S[x].toNat : Int) == 10) = false := ne_byte (n := 10) (by decide) c10
          have e10n : ((S[x].toNat : Int) != 10) = true := by rw [bne, e10]; rfl
          have hnf : Lx.noFeed S[x] = true := by simpa [Lx.noFeed] using c10
          cases nb with
          | true =>
            have HGN : Hid (Lx.gap false (gp.take (x + 1 - pos)) = some true) := by
              show _ = _
              rw [hgn, Lx.noted, hnf]; rfl
            clear hcok hgn c10 hnf
            go_wp2_with fail
            go_quiet ((go_at_call 15; exact Calls.quiet_of_same (PL.out _)))
            go_wp2
            go_roundw
            case rel => exact ⟨x + 1, true, by omega, by omega, by go_num, rfl, HGN.out, KI.out.trans ⟨rfl, rfl, rfl, Nat.le_refl _, fun _ _ => rfl⟩, d0, d1, d3⟩
            case measure => simp [intOf]; omega
          | false =>
            by_cases c35 : S[x] = 35
            · have e35 : ((S[x].toNat : Int) == 35) = true := by rw [c35]; rfl
              have e35n : ((S[x].toNat : Int) != 35) = false := by rw [bne, e35]; rfl
              have HGN : Hid (Lx.gap false (gp.take (x + 1 - pos)) = some true) := by
                show _ = _
                rw [hgn, c35]; rfl
              clear hcok hgn c10 hnf c35
              go_wp2_with fail
              go_quiet ((go_at_call 15; exact Calls.quiet_of_same (PL.out _)))
              go_wp2
              go_roundw
              case rel => exact ⟨x + 1, true, by omega, by omega, by go_num, rfl, HGN.out, KI.out.trans ⟨rfl, rfl, rfl, Nat.le_refl _, fun _ _ => rfl⟩, d0, d1, d3⟩
              case measure => simp [intOf]; omega
            · have e35 : ((S[x].toNat : Int) == 35) = false := ne_byte (n := 35) (by decide) c35
              have e35n : ((S[x].toNat : Int) != 35) = true := by rw [bne, e35]; rfl
              have hnt : Lx.noted false S[x] = false := by simp [Lx.noted, c35]
              have HGN : Hid (Lx.gap false (gp.take (x + 1 - pos)) = some false) := by
                show _ = _
                rw [hgn, hnt]
              rw [hnt, Bool.false_or] at hcok
              by_cases c32 : S[x] = 32
              · have e32 : ((S[x].toNat : Int) == 32) = true := by rw [c32]; rfl
                have e32n : ((S[x].toNat : Int) != 32) = false := by rw [bne, e32]; rfl
                clear hcok hgn c10 hnf c35 c32 hnt
                go_wp2_with fail
                go_quiet ((go_at_call 15; exact Calls.quiet_of_same (PL.out _)))
                go_wp2
                go_roundw
                case rel => exact ⟨x + 1, false, by omega, by omega, by go_num, rfl, HGN.out, KI.out.trans ⟨rfl, rfl, rfl, Nat.le_refl _, fun _ _ => rfl⟩, d0, d1, d3⟩
                case measure => simp [intOf]; omega
              · have e32 : ((S[x].toNat : Int) == 32) = false := ne_byte (n := 32) (by decide) c32
                have e32n : ((S[x].toNat : Int) != 32) = true := by rw [bne, e32]; rfl
                have c9 : S[x] = 9 := by simpa [Lx.blank, c10, c32] using hcok
                have e9 : ((S[x].toNat : Int) == 9) = true := by rw [c9]; rfl
                have e9n : ((S[x].toNat : Int) != 9) = false := by rw [bne, e9]; rfl
                clear hcok hgn c10 hnf c35 c32 hnt c9
                go_wp2_with fail
                go_quiet ((go_at_call 15; exact Calls.quiet_of_same (PL.out _)))
                go_wp2
                go_roundw
                case rel => exact ⟨x + 1, false, by omega, by omega, by go_num, rfl, HGN.out, KI.out.trans ⟨rfl, rfl, rfl, Nat.le_refl _, fun _ _ => rfl⟩, d0, d1, d3⟩
                case measure => simp [intOf]; omega
        · have hxe : x = q := by omega
          subst hxe
          have hnb : nb = b := by
            have h := hgp
            rw [show x - pos = gp.length by omega, List.take_length, F.out.gap] at h
            exact (Option.some.inj h).symm
          have hts : tx.size = ts[i].text.length := by rw [← HTX.out]; rfl
          have e1 := F.out.endq
          rw [HQ.out, ← hts] at e1
          have hext : S.extract x (x + tx.size) = tx := by
            have h := F.out.text
            rw [HQ.out, HTX.out, ← hts] at h
            exact h
          have hsub : IntKind.i64.wrap ((S.size : Int) - (x : Int)) = (S.size : Int) - (x : Int) := by rw [IntKind.wrap_i64]; omega
          have hdec : decide ((S.size : Int) - (x : Int) < (tx.size : Int)) = false := decide_eq_false (by omega)
          have hadd : IntKind.i64.wrap ((x : Int) + (tx.size : Int)) = (x : Int) + (tx.size : Int) := by rw [IntKind.wrap_i64]; omega
          have htn : ((x : Int) + (tx.size : Int)).toNat = x + tx.size := by omega
          have hb1 : (x : Int) ≤ (x : Int) + (tx.size : Int) := by omega
          have hb2 : (x : Int) + (tx.size : Int) ≤ (S.size : Int) := by omega
          have HTS : Hid (tx.size = ts[i].text.length) := hts
          have txl : tx.toList = ts[i].text := by rw [ByteArray.toList_eq, ← HTX.out]
          rcases F.out.rest with ⟨hk4, hmore, hend⟩ | ⟨hk4, hbf, hcv⟩
          · have hte := F.out.kt.1 hk4
            have hkd4 : (kd == 4) = true := by rw [← HKD.out, hk4]; rfl
            have hkd4n : (kd != 4) = false := by rw [bne, hkd4]; rfl
            have htxe : (tx.toList == []) = true := by rw [txl, hte]; rfl
            have htxn : (tx.toList != []) = false := by rw [bne, htxe]; rfl
            rw [HQ.out, ← hts] at hend
            have hx0 : tx.size = 0 := by rw [hts, hte]; rfl
            have hxs : decide ((x : Int) < (S.size : Int)) = false := decide_eq_false (by omega)
            have hxs2 : decide (x < S.size) = false := decide_eq_false (by omega)
            have hxs3 : ¬ (x : Int) < (S.size : Int) := by omega
            have hxs4 : ¬ x < S.size := by omega
            have hxs5 : S.size ≤ x := by omega
            have hil : i + 1 = ts.length := by
              have h := congrArg List.length hmore
              rw [List.length_drop] at h
              simp at h
              omega
            have HEnd : Hid (x + tx.size = S.size) := hend
            clear hgp hki hnb hts hte hend hx0 txl hk4 hmore
            cases nb
            all_goals
              go_wp2_with fail
              go_quiet (fail)
              go_wp2_with fail
              go_quiet (fail)
              go_wp2
              go_roundw
              case rel => exact ⟨i + 1, x + tx.size, by omega, by go_num, by go_num, by omega, KI.out.trans ⟨rfl, rfl, rfl, Nat.le_refl _, fun _ _ => rfl⟩, .inr ⟨hil, HEnd.out⟩⟩
              case measure => simp [intOf]; omega
          · have hte : ts[i].text ≠ [] := fun e => hk4 (F.out.kt.2 e)
            have hkd4 : (kd == 4) = false := by rw [beq_eq_false_iff_ne, ← HKD.out]; omega
            have hkd4n : (kd != 4) = true := by rw [bne, hkd4]; rfl
            have htxe : (tx.toList == []) = false := by
              rw [txl, beq_eq_false_iff_ne]; exact hte
            have htxn : (tx.toList != []) = true := by rw [bne, htxe]; rfl
            have hx0 : 0 < tx.size := by rw [hts]; exact List.length_pos_iff.2 hte
            have hxs : (x : Int) < (S.size : Int) := by omega
            rw [HQ.out, ← hts] at hcv
            have HCN : Hid (Lx.Cov (x + tx.size) (S.data.toList.drop (x + tx.size)) (ts.drop (i + 1))) := hcv
            have hil : i + 1 < ts.length := by
              have h := List.length_pos_iff.2 hcv.ne
              rw [List.length_drop] at h
              omega
            have PL : Hid (∀ w, _) := place_in S x (by omega) (by omega)
            have hne : ∀ w, _ := fun w => run_place_ne (P := Tryd.prog) S x x (by omega) (by omega) (by omega) w
            rw [decide_eq_true rfl] at hne
            obtain rfl : nb = false := hnb.trans hbf
            clear hgp hki hts hte hcv txl hk4 hnb
            go_wp2_with fail
            go_quiet ((go_at_call 15; exact Calls.quiet_of_same (PL.out _)))
            go_wp2_with fail
            go_quiet (fail)
            go_wp2
            go_roundw
            case rel => exact ⟨i + 1, x + tx.size, by omega, by go_num, by go_num, by omega, KI.out.trans ⟨rfl, rfl, rfl, Nat.le_refl _, fun _ _ => rfl⟩, .inl ⟨hil, rfl, HCN.out⟩⟩
            case measure => simp [intOf]; omega
    · have hie : decide ((ts.length : Int) < (ts.length : Int)) = false := decide_eq_false (by omega)
      go_wp2
      go_ret
      exact ⟨rfl, K4.out.then KR.out⟩

theorem lexCovers_row (v : Value) (raw : ByteArray) (l : List Int) (w : World) (hl : l.length ≤ 17592186044416) (hraw : raw.size ≤ 140737488355328) (h : IntsAt w v l) (hE : Er w) :
    Calls Tryd.prog 6 #[v, .string raw] w fun e w' => e = .returned (.bool true) ∧ Kept w w' := by
  have z1 := txt_size raw l
  have hT : ∀ W, Kept w W → Calls Tryd.prog 13 #[v, .string raw] W fun e w' => e = .returned (.string (txt raw l)) ∧ Kept W w' := fun W hW => text_any raw v l hl (by omega) W (h.kept hW)
  have hll : (txt raw l).data.toList.length = (txt raw l).size := by simp
  cases hR : Lx.toks (txt raw l).data.toList with
  | bad q => exact covers_bad v raw (txt raw l) q w hT hE (by omega) hR
  | good ts => exact covers_good v raw (txt raw l) ts w hT hE (by have := toks_len _ _ hR; omega) hR (cov_count _ _ hR)

end Go.Proofs.YtfjeijjllgocdaaDoor
