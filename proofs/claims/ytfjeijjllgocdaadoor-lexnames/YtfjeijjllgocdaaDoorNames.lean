/- LexNames answers true at whatever numbers and text, at whatever memory in which ErrRange holds an error. -/
import Derived.Test.YtfjeijjllgocdaaDoorTextW
import Derived.Test.YtfjeijjllgocdaaDoorIsName
import Derived.Test.YtfjeijjllgocdaaDoorKnown
import Derived.Deep.RegionWith
namespace Go.Proofs.YtfjeijjllgocdaaDoor
open Go.RowKit

theorem bcell {W w1 : World} (hb : Below W.heap.size W w1) : (∀ b o, b < W.heap.size → w1.cell? ⟨b, o, none⟩ = W.cell? ⟨b, o, none⟩) ∧ (∀ b o, b < W.heap.size → w1.frozen? ⟨b, o, none⟩ = W.frozen? ⟨b, o, none⟩) :=
  ⟨fun b o h => hb.cell (p := ⟨b, o, none⟩) h, fun b o h => hb.frozen (p := ⟨b, o, none⟩) h⟩

theorem ints_first {w : World} {a : Addr} {n cap : Nat} {l : List Int} (h : IntsAt w (.slice (some a) n cap) l) : IntsAt w (.slice (some a) (min n 1) cap) (l.take 1) := by
  cases h with
  | some hn hc hr h1 h2 =>
    refine .some (by rw [List.length_take]; omega) (fun j hj => ?_) (fun x hx => hr x (List.mem_of_mem_take hx)) (by omega) h2
    rw [List.length_take] at hj
    rw [hc j (by omega), List.getElem_take]

/-- What can be said of a text's tokens, and whether it is a name. -/
theorem names_cases (X : ByteArray) : (∃ q, Lx.toks X.data.toList = .bad q ∧ nm X = false) ∨ (∃ ts, Lx.toks X.data.toList = .good ts ∧ ts ≠ [] ∧ ts.length ≠ 2 ∧ nm X = false) ∨
    (∃ t0 t1, Lx.toks X.data.toList = .good [t0, t1] ∧ t0.kind ≠ 1 ∧ nm X = false) ∨ (∃ t0 t1, Lx.toks X.data.toList = .good [t0, t1] ∧ t0.kind = 1 ∧ t0.text ≠ X.data.toList ∧ nm X = false) ∨
    (∃ t0 t1, Lx.toks X.data.toList = .good [t0, t1] ∧ t0.kind = 1 ∧ t0.text = X.data.toList ∧ nm X = !kw X) := by
  cases hw : Lx.isWord X.data.toList with
  | true =>
    have h := Lx.word_toks _ hw
    exact .inr (.inr (.inr (.inr ⟨_, _, h, rfl, rfl, by rw [nm, hw]; rfl⟩)))
  | false =>
    have hn : nm X = false := by rw [nm, hw]; rfl
    cases hR : Lx.toks X.data.toList with
    | bad q => exact .inl ⟨q, rfl, hn⟩
    | good ts =>
      have hne : ts ≠ [] := by
        unfold Lx.toks at hR
        split at hR
        · cases hR
        · exact Lx.run_ne _ _ _ _ hR
      have hfit := Lx.toks_fit _ _ hR
      by_cases h2 : ts.length = 2
      · match ts, h2 with
        | [t0, t1], _ =>
          by_cases hk : t0.kind = 1
          · refine .inr (.inr (.inr (.inl ⟨t0, t1, rfl, hk, fun e => ?_, hn⟩)))
            have := (hfit t0 (by simp)).1 hk
            rw [e, hw] at this
            cases this
          · exact .inr (.inr (.inl ⟨t0, t1, rfl, hk, hn⟩))
      · exact .inr (.inl ⟨ts, rfl, hne, h2, hn⟩)

theorem index_three (A B C : ByteArray) (k : Nat) (hk : k < 3) : ∃ X, (X = A ∨ X = B ∨ X = C) ∧ ∀ w, (Instr.index 47 (.agg #[.string A, .string B, .string C]) (.int .i64 (k : Int))).run Tryd.prog w = .ok (.string X) w := by
  have h9 := Tryd.sizeOf9
  have ha := Tryd.isAgg9
  match k, hk with
  | 0, _ => exact ⟨A, .inl rfl, fun w => by simp [Instr.index, go_sem, h9, ha]⟩
  | 1, _ => exact ⟨B, .inr (.inl rfl), fun w => by simp [Instr.index, go_sem, h9, ha]⟩
  | 2, _ => exact ⟨C, .inr (.inr rfl), fun w => by simp [Instr.index, go_sem, h9, ha]⟩

theorem bytes_beq (x : List UInt8) (X : ByteArray) (b : Bool) (h : decide (x = X.data.toList) = b) : ((⟨x.toArray⟩ : ByteArray).toList == X.toList) = b := by
  rw [ByteArray.toList_eq, ByteArray.toList_eq, ← h]
  show (x == X.data.toList) = _
  rw [Bool.eq_iff_iff]; simp

set_option maxRecDepth 100000 in
set_option maxHeartbeats 8000000 in
theorem lexNames_some (a : Addr) (n cap : Nat) (l : List Int) (raw : ByteArray) (w : World) (hl : l.length ≤ 17592186044416) (hraw : raw.size ≤ 140737488355328) (hz1 : (txt raw l).size ≤ 1125899906842624) (hz3 : (txt ⟨#[]⟩ (l.take 1)).size ≤ 1125899906842624) (hE : Er w) (hv : IntsAt w (.slice (some a) n cap) l) (hn : n = l.length) (hcap : n ≤ cap) (hcm : cap ≤ maxLen) :
    Calls Tryd.prog 8 #[.slice (some a) n cap, .string raw] w fun e w' => e = .returned (.bool true) ∧ Kept w w' := by
  unfold maxLen at hcm
  have T1 : Hid (∀ W, Kept w W → Calls Tryd.prog 13 #[.slice (some a) n cap, .string raw] W fun e w' => e = .returned (.string (txt raw l)) ∧ Kept W w') := fun W hW => text_any raw _ l hl (by omega) W (hv.kept hW)
  have T2 : Hid (∀ W, Kept w W → Calls Tryd.prog 13 #[.slice (some a) (min n 1) cap, .string ⟨#[]⟩] W fun e w' => e = .returned (.string (txt ⟨#[]⟩ (l.take 1))) ∧ Kept W w') := fun W hW => text_any ⟨#[]⟩ _ (l.take 1) (by rw [List.length_take]; omega) (by decide) W ((ints_first hv).kept hW)
  have HE : Hid (Er w) := hE
  have hmi : min (n : Int) 1 = ((min n 1 : Nat) : Int) := by omega
  have hmc : ((min n 1 : Nat) : Int) ≤ (cap : Int) := by omega
  have hm1 : min n 1 ≤ 1 := by omega
  generalize txt raw l = S1 at *
  generalize txt ⟨#[]⟩ (l.take 1) = S3 at *
  generalize min n 1 = n1 at *
  clear hv hE hn
  go_enter Tryd.func8, Tryd.ntmps8
  go_wp2_with fail
  go_region_with (first | (go_at_call_of 13 (Value.string raw); refine (T1.out _ ?_).mono ?_; (first | exact Kept.refl _ | exact (Kept.refl _).drew | exact ((Kept.refl _).drew).then ‹_› | exact Kept.then ‹_› (Kept.refl _)); rintro e w1 ⟨rfl, hb1⟩) | (go_at_call_of 13 (Value.string ⟨#[]⟩); refine (T2.out _ ?_).mono ?_; exact ((Kept.refl _).drew).then hb1; rintro e w2 ⟨rfl, hb2⟩))
  all_goals
    have K0 : Hid (Kept w w2) := (((Kept.refl w).drew).then hb1).then hb2
    clear hb1 hb2
    go_wp2_with fail
    refine wp_of_full (b := { tmps := ((.slice (some a) n cap) :: (.string raw) :: (undef) :: (undef) :: (.bool false) :: (undef) :: (undef) :: (undef) :: (undef) :: (undef) :: (undef) :: (.slice (some a) n cap) :: (.string raw) :: (.string S1) :: (.string raw) :: (.slice (some a) n cap) :: (.slice (some a) n cap) :: (.int .i64 (n : Int)) :: (.int .i64 (n1 : Int)) :: (.slice (some a) n1 cap) :: (.string S3) :: (.agg #[.string S1, .string raw, .string S3]) :: (.int .i64 0) :: (undef) :: (undef) :: (undef) :: (undef) :: (undef) :: (undef) :: (undef) :: (undef) :: (undef) :: (undef) :: (undef) :: (undef) :: (undef) :: (undef) :: (undef) :: (undef) :: (undef) :: (undef) :: (undef) :: (undef) :: (undef) :: (undef) :: (undef) :: (undef) :: (undef) :: (undef) :: (undef) :: (undef) :: (undef) :: (undef) :: (undef) :: (undef) :: (undef) :: (undef) :: (undef) :: (undef) :: (undef) :: (undef) :: (undef) :: (undef) :: (undef) :: (undef) :: (undef) :: (undef) :: (undef) :: (undef) :: (undef) :: []).toArray, defers := [] }) rfl ?_
    go_loopw [22] (fun i wr => ∃ k : Nat, k ≤ 3 ∧ i = .int .i64 k ∧ Kept w wr) (fun i _ => 3 - (intOf i).toNat)
    case atStart => exact ⟨0, Nat.zero_le _, rfl, K0.out⟩
    case round =>
      obtain ⟨k, hk, rfl, hkr⟩ := hrel
      have KR : Hid (Kept w wr) := hkr
      clear hkr
      by_cases hlt : k < 3
      · obtain ⟨X, hX, hI⟩ := index_three S1 raw S3 k hlt
        have hXs : X.size ≤ 1125899906842624 := by rcases hX with rfl | rfl | rfl <;> omega
        have hki : (k : Int) < 3 := by omega
        clear hX
        rcases names_cases X with ⟨q, hR, hn⟩ | ⟨ts, hR, hne, h2, hn⟩ | ⟨t0, t1, hR, h1, hn⟩ | ⟨t0, t1, hR, h1, h2, hn⟩ | ⟨t0, t1, hR, h1, h2, hn⟩
        · have N : Hid (∀ w, _) := isName_any X false hn
          have T : Hid (∀ W, Er W → _) := fun W hW => tokens_any X W hXs hW _ hR
          clear hR hn
          go_wp2_with fail
          refine (T.out _ (HE.out.kept KR.out)).mono ?_
          rintro e v1 ⟨q1, q2, q3, rfl, ht⟩
          have K2 : Hid (Kept w v1) := KR.out.then ht.2.2.2
          obtain ⟨rfl, rfl, rfl, _⟩ := ht
          go_wp2_with fail
          refine (N.out _).mono ?_
          rintro e v2 ⟨rfl, rfl⟩
          go_wp2
          go_roundw
          case rel => exact ⟨k + 1, by omega, by go_num, K2.out⟩
          case measure => simp [intOf]; omega
        · have N : Hid (∀ w, _) := isName_any X false hn
          have T : Hid (∀ W, Er W → _) := fun W hW => tokens_any X W hXs hW _ hR
          have HN : Hid (ts ≠ []) := hne
          have h2b : ((ts.length : Int) == 2) = false := by rw [beq_eq_false_iff_ne]; omega
          clear hR hn hne h2
          go_wp2_with fail
          refine (T.out _ (HE.out.kept KR.out)).mono ?_
          rintro e v1 ⟨q1, q2, q3, rfl, ht⟩
          obtain ⟨g, cap1, rfl, rfl, rfl, _, _, _, hk1⟩ := told_good ht HN.out
          have K2 : Hid (Kept w v1) := KR.out.then hk1
          clear ht hk1
          go_wp2_with fail
          refine (N.out _).mono ?_
          rintro e v2 ⟨rfl, rfl⟩
          go_wp2
          go_roundw
          case rel => exact ⟨k + 1, by omega, by go_num, K2.out⟩
          case measure => simp [intOf]; omega
        · have N : Hid (∀ w, _) := isName_any X false hn
          have T : Hid (∀ W, Er W → _) := fun W hW => tokens_any X W hXs hW _ hR
          have h1b : ((t0.kind : Int) == 1) = false := by rw [beq_eq_false_iff_ne]; omega
          clear hR hn h1
          go_wp2_with fail
          refine (T.out _ (HE.out.kept KR.out)).mono ?_
          rintro e v1 ⟨q1, q2, q3, rfl, ht⟩
          obtain ⟨g, cap1, rfl, rfl, rfl, _, _, hrow, hk1⟩ := told_good ht (by simp)
          have K2 : Hid (Kept w v1) := KR.out.then hk1
          obtain ⟨a0, a1, a2, a3⟩ := hrow.at 0 (by simp)
          replace a0 : v1.cell? ⟨g, 0, none⟩ = some (.int .i64 (t0.kind : Int)) := a0
          replace a1 : v1.cell? ⟨g, 1, none⟩ = some (.string ⟨t0.text.toArray⟩) := a1
          clear ht hk1 hrow a2 a3
          generalize (t0.kind : Int) = kd at *
          generalize (⟨t0.text.toArray⟩ : ByteArray) = tx at *
          go_wp2_with fail
          refine (N.out _).mono ?_
          rintro e v2 ⟨rfl, rfl⟩
          go_wp2
          go_roundw
          case rel => exact ⟨k + 1, by omega, by go_num, K2.out⟩
          case measure => simp [intOf]; omega
        · have N : Hid (∀ w, _) := isName_any X false hn
          have T : Hid (∀ W, Er W → _) := fun W hW => tokens_any X W hXs hW _ hR
          have h2b := bytes_beq t0.text X false (decide_eq_false h2)
          have h1b : ((t0.kind : Int) == 1) = true := by rw [h1]; rfl
          clear hR hn h1 h2
          go_wp2_with fail
          refine (T.out _ (HE.out.kept KR.out)).mono ?_
          rintro e v1 ⟨q1, q2, q3, rfl, ht⟩
          obtain ⟨g, cap1, rfl, rfl, rfl, _, _, hrow, hk1⟩ := told_good ht (by simp)
          have K2 : Hid (Kept w v1) := KR.out.then hk1
          obtain ⟨a0, a1, a2, a3⟩ := hrow.at 0 (by simp)
          replace a0 : v1.cell? ⟨g, 0, none⟩ = some (.int .i64 (t0.kind : Int)) := a0
          replace a1 : v1.cell? ⟨g, 1, none⟩ = some (.string ⟨t0.text.toArray⟩) := a1
          clear ht hk1 hrow a2 a3
          generalize (t0.kind : Int) = kd at *
          generalize (⟨t0.text.toArray⟩ : ByteArray) = tx at *
          go_wp2_with fail
          refine (N.out _).mono ?_
          rintro e v2 ⟨rfl, rfl⟩
          go_wp2
          go_roundw
          case rel => exact ⟨k + 1, by omega, by go_num, K2.out⟩
          case measure => simp [intOf]; omega
        · obtain ⟨kb, hkb⟩ : ∃ kb, kw X = kb := ⟨_, rfl⟩
          rw [hkb] at hn
          have N : Hid (∀ w, _) := isName_any X (!kb) hn
          have W1 : Hid (∀ w, _) := keyword_any X kb hkb
          have T : Hid (∀ W, Er W → _) := fun W hW => tokens_any X W hXs hW _ hR
          have h2b := bytes_beq t0.text X true (decide_eq_true h2)
          have h1b : ((t0.kind : Int) == 1) = true := by rw [h1]; rfl
          clear hR hn h1 h2 hkb
          go_wp2_with fail
          refine (T.out _ (HE.out.kept KR.out)).mono ?_
          rintro e v1 ⟨q1, q2, q3, rfl, ht⟩
          obtain ⟨g, cap1, rfl, rfl, rfl, _, _, hrow, hk1⟩ := told_good ht (by simp)
          have K2 : Hid (Kept w v1) := KR.out.then hk1
          obtain ⟨a0, a1, a2, a3⟩ := hrow.at 0 (by simp)
          replace a0 : v1.cell? ⟨g, 0, none⟩ = some (.int .i64 (t0.kind : Int)) := a0
          replace a1 : v1.cell? ⟨g, 1, none⟩ = some (.string ⟨t0.text.toArray⟩) := a1
          clear ht hk1 hrow a2 a3
          generalize (t0.kind : Int) = kd at *
          generalize (⟨t0.text.toArray⟩ : ByteArray) = tx at *
          go_wp2_with fail
          refine (W1.out _).mono ?_
          rintro e v2 ⟨rfl, rfl⟩
          go_wp2_with fail
          refine (N.out _).mono ?_
          rintro e v2 ⟨rfl, rfl⟩
          go_wp2
          go_roundw
          case rel => exact ⟨k + 1, by omega, by go_num, K2.out⟩
          case measure => simp [intOf]; omega
      · have P2 : Hid (∀ w, Calls Tryd.prog 18 #[.int .i64 (raw.size : Int), .int .i64 2] w fun e w' => e = .returned (.int .i64 ((raw.size % 2 : Nat) : Int)) ∧ w' = w) := fun w => pick_any (raw.size : Int) 2 w (by omega) (by omega)
        go_wp2_with fail
        refine (known_any _ (HE.out.kept KR.out)).mono ?_
        rintro e v1 ⟨rfl, k6⟩
        have K6 : Hid (Kept w v1) := KR.out.then k6
        clear k6
        go_wp2_with fail
        refine (P2.out _).mono ?_
        rintro e v2 ⟨rfl, rfl⟩
        go_wp2
        go_ret
        exact ⟨rfl, K6.out⟩

set_option maxRecDepth 100000 in
set_option maxHeartbeats 8000000 in
theorem lexNames_nil (raw : ByteArray) (w : World) (hraw : raw.size ≤ 140737488355328) (hz1 : (txt raw []).size ≤ 1125899906842624) (hz3 : (txt ⟨#[]⟩ []).size ≤ 1125899906842624) (hE : Er w) :
    Calls Tryd.prog 8 #[.slice none 0 0, .string raw] w fun e w' => e = .returned (.bool true) ∧ Kept w w' := by
  have T1 : Hid (∀ W, Kept w W → Calls Tryd.prog 13 #[.slice none 0 0, .string raw] W fun e w' => e = .returned (.string (txt raw [])) ∧ Kept W w') := fun W _ => text_any raw _ [] (by decide) (by omega) W .none
  have T2 : Hid (∀ W, Kept w W → Calls Tryd.prog 13 #[.slice none 0 0, .string ⟨#[]⟩] W fun e w' => e = .returned (.string (txt ⟨#[]⟩ [])) ∧ Kept W w') := fun W _ => text_any ⟨#[]⟩ _ [] (by decide) (by decide) W .none
  have HE : Hid (Er w) := hE
  generalize txt raw [] = S1 at *
  generalize txt ⟨#[]⟩ [] = S3 at *
  clear hE
  go_enter Tryd.func8, Tryd.ntmps8
  go_wp2_with fail
  go_region_with (first | (go_at_call_of 13 (Value.string raw); refine (T1.out _ ?_).mono ?_; (first | exact Kept.refl _ | exact (Kept.refl _).drew | exact ((Kept.refl _).drew).then ‹_› | exact Kept.then ‹_› (Kept.refl _)); rintro e w1 ⟨rfl, hb1⟩) | (go_at_call_of 13 (Value.string ⟨#[]⟩); refine (T2.out _ ?_).mono ?_; exact ((Kept.refl _).drew).then hb1; rintro e w2 ⟨rfl, hb2⟩))
  all_goals
    have K0 : Hid (Kept w w2) := (((Kept.refl w).drew).then hb1).then hb2
    clear hb1 hb2
    go_wp2_with fail
    refine wp_of_full (b := { tmps := ((.slice none 0 0) :: (.string raw) :: (undef) :: (undef) :: (.bool false) :: (undef) :: (undef) :: (undef) :: (undef) :: (undef) :: (undef) :: (.slice none 0 0) :: (.string raw) :: (.string S1) :: (.string raw) :: (.slice none 0 0) :: (.slice none 0 0) :: (.int .i64 0) :: (.int .i64 0) :: (.slice none 0 0) :: (.string S3) :: (.agg #[.string S1, .string raw, .string S3]) :: (.int .i64 0) :: (undef) :: (undef) :: (undef) :: (undef) :: (undef) :: (undef) :: (undef) :: (undef) :: (undef) :: (undef) :: (undef) :: (undef) :: (undef) :: (undef) :: (undef) :: (undef) :: (undef) :: (undef) :: (undef) :: (undef) :: (undef) :: (undef) :: (undef) :: (undef) :: (undef) :: (undef) :: (undef) :: (undef) :: (undef) :: (undef) :: (undef) :: (undef) :: (undef) :: (undef) :: (undef) :: (undef) :: (undef) :: (undef) :: (undef) :: (undef) :: (undef) :: (undef) :: (undef) :: (undef) :: (undef) :: (undef) :: (undef) :: []).toArray, defers := [] }) rfl ?_
    go_loopw [22] (fun i wr => ∃ k : Nat, k ≤ 3 ∧ i = .int .i64 k ∧ Kept w wr) (fun i _ => 3 - (intOf i).toNat)
    case atStart => exact ⟨0, Nat.zero_le _, rfl, K0.out⟩
    case round =>
      obtain ⟨k, hk, rfl, hkr⟩ := hrel
      have KR : Hid (Kept w wr) := hkr
      clear hkr
      by_cases hlt : k < 3
      · obtain ⟨X, hX, hI⟩ := index_three S1 raw S3 k hlt
        have hXs : X.size ≤ 1125899906842624 := by rcases hX with rfl | rfl | rfl <;> omega
        have hki : (k : Int) < 3 := by omega
        clear hX
        rcases names_cases X with ⟨q, hR, hn⟩ | ⟨ts, hR, hne, h2, hn⟩ | ⟨t0, t1, hR, h1, hn⟩ | ⟨t0, t1, hR, h1, h2, hn⟩ | ⟨t0, t1, hR, h1, h2, hn⟩
        · have N : Hid (∀ w, _) := isName_any X false hn
          have T : Hid (∀ W, Er W → _) := fun W hW => tokens_any X W hXs hW _ hR
          clear hR hn
          go_wp2_with fail
          refine (T.out _ (HE.out.kept KR.out)).mono ?_
          rintro e v1 ⟨q1, q2, q3, rfl, ht⟩
          have K2 : Hid (Kept w v1) := KR.out.then ht.2.2.2
          obtain ⟨rfl, rfl, rfl, _⟩ := ht
          go_wp2_with fail
          refine (N.out _).mono ?_
          rintro e v2 ⟨rfl, rfl⟩
          go_wp2
          go_roundw
          case rel => exact ⟨k + 1, by omega, by go_num, K2.out⟩
          case measure => simp [intOf]; omega
        · have N : Hid (∀ w, _) := isName_any X false hn
          have T : Hid (∀ W, Er W → _) := fun W hW => tokens_any X W hXs hW _ hR
          have HN : Hid (ts ≠ []) := hne
          have h2b : ((ts.length : Int) == 2) = false := by rw [beq_eq_false_iff_ne]; omega
          clear hR hn hne h2
          go_wp2_with fail
          refine (T.out _ (HE.out.kept KR.out)).mono ?_
          rintro e v1 ⟨q1, q2, q3, rfl, ht⟩
          obtain ⟨g, cap1, rfl, rfl, rfl, _, _, _, hk1⟩ := told_good ht HN.out
          have K2 : Hid (Kept w v1) := KR.out.then hk1
          clear ht hk1
          go_wp2_with fail
          refine (N.out _).mono ?_
          rintro e v2 ⟨rfl, rfl⟩
          go_wp2
          go_roundw
          case rel => exact ⟨k + 1, by omega, by go_num, K2.out⟩
          case measure => simp [intOf]; omega
        · have N : Hid (∀ w, _) := isName_any X false hn
          have T : Hid (∀ W, Er W → _) := fun W hW => tokens_any X W hXs hW _ hR
          have h1b : ((t0.kind : Int) == 1) = false := by rw [beq_eq_false_iff_ne]; omega
          clear hR hn h1
          go_wp2_with fail
          refine (T.out _ (HE.out.kept KR.out)).mono ?_
          rintro e v1 ⟨q1, q2, q3, rfl, ht⟩
          obtain ⟨g, cap1, rfl, rfl, rfl, _, _, hrow, hk1⟩ := told_good ht (by simp)
          have K2 : Hid (Kept w v1) := KR.out.then hk1
          obtain ⟨a0, a1, a2, a3⟩ := hrow.at 0 (by simp)
          replace a0 : v1.cell? ⟨g, 0, none⟩ = some (.int .i64 (t0.kind : Int)) := a0
          replace a1 : v1.cell? ⟨g, 1, none⟩ = some (.string ⟨t0.text.toArray⟩) := a1
          clear ht hk1 hrow a2 a3
          generalize (t0.kind : Int) = kd at *
          generalize (⟨t0.text.toArray⟩ : ByteArray) = tx at *
          go_wp2_with fail
          refine (N.out _).mono ?_
          rintro e v2 ⟨rfl, rfl⟩
          go_wp2
          go_roundw
          case rel => exact ⟨k + 1, by omega, by go_num, K2.out⟩
          case measure => simp [intOf]; omega
        · have N : Hid (∀ w, _) := isName_any X false hn
          have T : Hid (∀ W, Er W → _) := fun W hW => tokens_any X W hXs hW _ hR
          have h2b := bytes_beq t0.text X false (decide_eq_false h2)
          have h1b : ((t0.kind : Int) == 1) = true := by rw [h1]; rfl
          clear hR hn h1 h2
          go_wp2_with fail
          refine (T.out _ (HE.out.kept KR.out)).mono ?_
          rintro e v1 ⟨q1, q2, q3, rfl, ht⟩
          obtain ⟨g, cap1, rfl, rfl, rfl, _, _, hrow, hk1⟩ := told_good ht (by simp)
          have K2 : Hid (Kept w v1) := KR.out.then hk1
          obtain ⟨a0, a1, a2, a3⟩ := hrow.at 0 (by simp)
          replace a0 : v1.cell? ⟨g, 0, none⟩ = some (.int .i64 (t0.kind : Int)) := a0
          replace a1 : v1.cell? ⟨g, 1, none⟩ = some (.string ⟨t0.text.toArray⟩) := a1
          clear ht hk1 hrow a2 a3
          generalize (t0.kind : Int) = kd at *
          generalize (⟨t0.text.toArray⟩ : ByteArray) = tx at *
          go_wp2_with fail
          refine (N.out _).mono ?_
          rintro e v2 ⟨rfl, rfl⟩
          go_wp2
          go_roundw
          case rel => exact ⟨k + 1, by omega, by go_num, K2.out⟩
          case measure => simp [intOf]; omega
        · obtain ⟨kb, hkb⟩ : ∃ kb, kw X = kb := ⟨_, rfl⟩
          rw [hkb] at hn
          have N : Hid (∀ w, _) := isName_any X (!kb) hn
          have W1 : Hid (∀ w, _) := keyword_any X kb hkb
          have T : Hid (∀ W, Er W → _) := fun W hW => tokens_any X W hXs hW _ hR
          have h2b := bytes_beq t0.text X true (decide_eq_true h2)
          have h1b : ((t0.kind : Int) == 1) = true := by rw [h1]; rfl
          clear hR hn h1 h2 hkb
          go_wp2_with fail
          refine (T.out _ (HE.out.kept KR.out)).mono ?_
          rintro e v1 ⟨q1, q2, q3, rfl, ht⟩
          obtain ⟨g, cap1, rfl, rfl, rfl, _, _, hrow, hk1⟩ := told_good ht (by simp)
          have K2 : Hid (Kept w v1) := KR.out.then hk1
          obtain ⟨a0, a1, a2, a3⟩ := hrow.at 0 (by simp)
          replace a0 : v1.cell? ⟨g, 0, none⟩ = some (.int .i64 (t0.kind : Int)) := a0
          replace a1 : v1.cell? ⟨g, 1, none⟩ = some (.string ⟨t0.text.toArray⟩) := a1
          clear ht hk1 hrow a2 a3
          generalize (t0.kind : Int) = kd at *
          generalize (⟨t0.text.toArray⟩ : ByteArray) = tx at *
          go_wp2_with fail
          refine (W1.out _).mono ?_
          rintro e v2 ⟨rfl, rfl⟩
          go_wp2_with fail
          refine (N.out _).mono ?_
          rintro e v2 ⟨rfl, rfl⟩
          go_wp2
          go_roundw
          case rel => exact ⟨k + 1, by omega, by go_num, K2.out⟩
          case measure => simp [intOf]; omega
      · have P2 : Hid (∀ w, Calls Tryd.prog 18 #[.int .i64 (raw.size : Int), .int .i64 2] w fun e w' => e = .returned (.int .i64 ((raw.size % 2 : Nat) : Int)) ∧ w' = w) := fun w => pick_any (raw.size : Int) 2 w (by omega) (by omega)
        go_wp2_with fail
        refine (known_any _ (HE.out.kept KR.out)).mono ?_
        rintro e v1 ⟨rfl, k6⟩
        have K6 : Hid (Kept w v1) := KR.out.then k6
        clear k6
        go_wp2_with fail
        refine (P2.out _).mono ?_
        rintro e v2 ⟨rfl, rfl⟩
        go_wp2
        go_ret
        exact ⟨rfl, K6.out⟩

end Go.Proofs.YtfjeijjllgocdaaDoor
