/- Tk3 -/
import Derived.Test.YtnfkjmafhaecgaaYTk2

namespace Go.Proofs.Ytnfkjmafhaecgaa
open Go.RowKit
theorem RInv.taken {s : ByteArray} {w0 : World} {R : Lx.Out} {k e kd n : Nat} {acc : List Lx.Tk} {f : Nat} {list list' : Value} {w w1 : World} (h : RInv s w0 R k acc f list w) (hk : k < s.size) (h1 : Lx.blank s[k] = false) (h2 : s[k] ≠ 35) (hke : k < e) (he : e ≤ s.size) (ho : Lx.one (s.data.toList.drop k) = some (kd, e - k, n))
    (ho1 : w1.ownsRow w0.heap.size 99 4 list' (acc.length + 1) (rCellsOf acc ++ [.int .i64 (kd : Int), .string (s.extract k e), .int .i64 (n : Int), .int .i64 (k : Int)])) (hb : Kept w0 w1) :
    ∃ g, RInv s w0 R e (acc ++ [⟨kd, k, (s.data.toList.drop k).take (e - k), n⟩]) g list' w1 := by
  obtain ⟨g, rfl⟩ := h.fuel1 hk
  have hll : s.data.toList.length = s.size := by simp
  have hl : k < s.data.toList.length := by omega
  have hf := h.fuel
  have ha := h.acl
  refine ⟨g, he, by omega, ?_, ?_, hb, by rw [List.length_append]; simp; omega⟩
  · have e1 := Lx.step_one s.data.toList g k acc hl (by rw [byte_at s k hk]; exact h1) (by rw [byte_at s k hk]; exact h2) ho
    rw [show k + (e - k) = e by omega] at e1
    rw [← e1]; exact h.run
  · rw [rCellsOf_snoc, List.length_append, List.length_singleton]
    rw [text_of s k e (by omega) he] at ho1
    exact ho1
theorem RInv.none {s : ByteArray} {w0 : World} {R : Lx.Out} {k : Nat} {acc : List Lx.Tk} {f : Nat} {list : Value} {w : World} (h : RInv s w0 R k acc f list w) (hk : k < s.size) (h1 : Lx.blank s[k] = false) (h2 : s[k] ≠ 35) (ho : Lx.one (s.data.toList.drop k) = none) : R = .bad k := by
  obtain ⟨g, rfl⟩ := h.fuel1 hk
  have hl : k < s.data.toList.length := by simpa using hk
  rw [← h.run]
  exact Lx.step_none s.data.toList g k acc hl (by rw [byte_at s k hk]; exact h1) (by rw [byte_at s k hk]; exact h2) ho
theorem RInv.ends {s : ByteArray} {w0 : World} {R : Lx.Out} {k : Nat} {acc : List Lx.Tk} {f : Nat} {list : Value} {w : World} (h : RInv s w0 R k acc f list w) (hk : k = s.size) : R = .good (acc ++ [⟨4, k, [], 0⟩]) := by
  have hf := h.fuel
  obtain ⟨g, rfl⟩ : ∃ g, f = g + 1 := ⟨f - 1, by omega⟩
  have hll : s.data.toList.length = s.size := by simp
  have := Lx.step_end s.data.toList g acc
  rw [hll, ← hk] at this
  rw [← h.run, this]
/-- Behind the append of a token. -/
theorem RInv.behind {s : ByteArray} {w0 : World} {R : Lx.Out} {k : Nat} {acc : List Lx.Tk} {f : Nat} {list : Value} {w w1 : World} (h : RInv s w0 R k acc f list w) {o : Obj} (hg : (w.alloc o).grownBy w1 list.ownBlock) : Kept w0 w1 := by
  have hr : ∀ k, list.ownBlock = some k → w0.heap.size ≤ k ∧ k < w.heap.size := fun k e => h.own.lt k e
  have hz := h.bel.size
  exact (h.bel.alloc hz o).grown hg (by simp; omega) fun k e => by have := hr k e; omega
theorem rone_no (s : ByteArray) (k : Nat) (hs : s.size ≤ 6000) (hk : k < s.size) (ho : Lx.one (s.data.toList.drop k) = none) (w : World) :
    Calls Try.prog 56 #[.string s, .int .i64 (k : Int)] w fun r w' => r = .returned (.tuple #[.agg #[.int .i64 0, .string ⟨#[]⟩, .int .i64 0, .int .i64 0], .int .i64 0]) ∧ Kept w w' := by
  refine (rone_any s k w hs hk).mono ?_
  rintro r w' ⟨⟨v, l, rfl, h⟩, hw⟩
  unfold OneIs at h
  rw [ho] at h
  obtain ⟨rfl, rfl⟩ := h
  exact ⟨rfl, hw⟩
theorem rone_yes (s : ByteArray) (k kd len n : Nat) (hs : s.size ≤ 6000) (hk : k < s.size) (ho : Lx.one (s.data.toList.drop k) = some (kd, len, n)) (w : World) :
    Calls Try.prog 56 #[.string s, .int .i64 (k : Int)] w fun r w' => r = .returned (.tuple #[.agg #[.int .i64 (kd : Int), .string (s.extract k (k + len)), .int .i64 (n : Int), .int .i64 (k : Int)], .int .i64 (len : Int)]) ∧ Kept w w' := by
  refine (rone_any s k w hs hk).mono ?_
  rintro r w' ⟨⟨v, l, rfl, h⟩, hw⟩
  unfold OneIs at h
  rw [ho] at h
  obtain ⟨rfl, rfl, _⟩ := h
  exact ⟨rfl, hw⟩
set_option maxRecDepth 10000 in
set_option maxHeartbeats 1000000 in
theorem rtokens_few (s : ByteArray) (w : World) (hs : s.size ≤ 6000) (R : Lx.Out) (hR : Lx.toks s.data.toList = R) :
    Calls Try.prog 47 #[.string s] w fun r w' => ∃ v p e, r = .returned (.tuple #[v, p, e]) ∧ RTold w R v p e w' := by
  have hll : s.data.toList.length = s.size := by simp
  have HST : Hid (RInv s w R 0 [] (s.size + 1) (.slice none 0 0) w) := by
    refine ⟨Nat.zero_le _, by omega, ?_, ?_, Kept.refl _, Nat.le_refl _⟩
    · rw [← hR, Lx.toks, if_neg (by omega), Lx.pre_nil, hll]; rfl
    · exact ⟨rfl, .inl ⟨rfl, rfl⟩⟩
  have hsi : (s.size : Int) ≤ 6000 := by omega
  clear hR
  go_enter Try.func47, Try.ntmps47
  go_wp2_with fail
  go_loopw [5, 6] (fun list at' wr => ∃ (k : Nat) (acc : List Lx.Tk) (f : Nat), at' = .int .i64 (k : Int) ∧ k ≤ s.size ∧ Hid (RInv s w R k acc f list wr)) (fun _ at' _ => s.size - (intOf at').toNat)
  case atStart => exact ⟨0, [], _, rfl, Nat.zero_le _, HST⟩
  case round =>
    clear HST
    obtain ⟨k, acc, f, rfl, hks, HI⟩ := hrel
    by_cases hk : k < s.size
    · have hki : (k : Int) < (s.size : Int) := by omega
      by_cases c32 : s[k] = 32
      · have e32 : ((s[k].toNat : Int) == 32) = true := by rw [c32]; rfl
        have e9 : ((s[k].toNat : Int) == 9) = false := by rw [c32]; rfl
        have e10 : ((s[k].toNat : Int) == 10) = false := by rw [c32]; rfl
        have NX := HI.out.blank hk (by rw [c32]; rfl)
        clear c32
        go_wp2
        go_roundw
        case rel => obtain ⟨g, h⟩ := NX; exact ⟨k + 1, acc, g, by go_num, by omega, h⟩
        case measure => simp [intOf]; omega
      have n32 : ((s[k].toNat : Int) == 32) = false := ne_byte (n := 32) (by decide) c32
      by_cases c9 : s[k] = 9
      · have e9 : ((s[k].toNat : Int) == 9) = true := by rw [c9]; rfl
        have e32 : ((s[k].toNat : Int) == 32) = false := by rw [c9]; rfl
        have e10 : ((s[k].toNat : Int) == 10) = false := by rw [c9]; rfl
        have NX := HI.out.blank hk (by rw [c9]; rfl)
        clear c9
        go_wp2
        go_roundw
        case rel => obtain ⟨g, h⟩ := NX; exact ⟨k + 1, acc, g, by go_num, by omega, h⟩
        case measure => simp [intOf]; omega
      have n9 : ((s[k].toNat : Int) == 9) = false := ne_byte (n := 9) (by decide) c9
      by_cases c10 : s[k] = 10
      · have e10 : ((s[k].toNat : Int) == 10) = true := by rw [c10]; rfl
        have e32 : ((s[k].toNat : Int) == 32) = false := by rw [c10]; rfl
        have e9 : ((s[k].toNat : Int) == 9) = false := by rw [c10]; rfl
        have NX := HI.out.blank hk (by rw [c10]; rfl)
        clear c10
        go_wp2
        go_roundw
        case rel => obtain ⟨g, h⟩ := NX; exact ⟨k + 1, acc, g, by go_num, by omega, h⟩
        case measure => simp [intOf]; omega
      have n10 : ((s[k].toNat : Int) == 10) = false := ne_byte (n := 10) (by decide) c10
      have hbl : Lx.blank s[k] = false := by simp [Lx.blank, c32, c9, c10]
      clear c32 c9 c10
      by_cases c35 : s[k] = 35
      · have e35 : ((s[k].toNat : Int) == 35) = true := by rw [c35]; rfl
        have NX := HI.out.note hk c35
        obtain ⟨q, hq⟩ : ∃ q, Lx.span Lx.noFeed s.data.toList k = q := ⟨_, rfl⟩
        have hkq := Lx.le_span Lx.noFeed s.data.toList k
        have hqs := Lx.span_le Lx.noFeed s.data.toList k (by omega)
        have hkq1 := Lx.span_yes Lx.noFeed s.data.toList k (by omega) (by rw [byte_at s k hk, c35]; rfl)
        have hkq2 := Lx.le_span Lx.noFeed s.data.toList (k + 1)
        rw [← hkq1] at hkq2
        clear hkq1
        rw [hq] at NX hkq hqs hkq2
        rw [hll] at hqs
        have HQ : Hid (Lx.span Lx.noFeed s.data.toList k = q) := hq
        clear hq hbl c35
        go_wp2_with fail
        go_loop [6] (fun at' => ∃ x : Nat, k ≤ x ∧ x ≤ q ∧ at' = .int .i64 (x : Int) ∧ Hid (Lx.span Lx.noFeed s.data.toList x = q)) (fun at' => s.size - (intOf at').toNat)
        case atStart => exact ⟨k, Nat.le_refl _, hkq, rfl, HQ⟩
        case round =>
          obtain ⟨x, hx1, hx2, rfl, HX⟩ := hrel
          by_cases hxs : x < s.size
          · have hxi : (x : Int) < (s.size : Int) := by omega
            cases hf : Lx.noFeed s[x] with
            | true =>
              have f10 : ((s[x].toNat : Int) != 10) = true := by
                have h10 : ((s[x].toNat : Int) == 10) = false := ne_byte (n := 10) (by decide) (by simpa [Lx.noFeed] using hf)
                rw [bne, h10]; rfl
              have NY := Lx.span_yes Lx.noFeed s.data.toList x (by omega) (by rw [byte_at s x hxs]; exact hf)
              rw [HX.out] at NY
              have hle := Lx.le_span Lx.noFeed s.data.toList (x + 1)
              rw [← NY] at hle
              clear hf
              go_wp2
              go_round
              case rel => exact ⟨x + 1, by omega, by omega, by go_num, NY.symm⟩
              case measure => simp [intOf]; omega
            | false =>
              have f10 : ((s[x].toNat : Int) != 10) = false := by
                have : s[x] = 10 := by simpa [Lx.noFeed] using hf
                rw [this]; rfl
              have NY := Lx.span_no Lx.noFeed s.data.toList x (by omega) (by rw [byte_at s x hxs]; exact hf)
              rw [HX.out] at NY
              clear hf
              go_wp2
              go_roundw
              case rel => obtain ⟨g, h⟩ := NX; exact ⟨q, acc, g, by rw [NY], by omega, h⟩
              case measure => simp [intOf]; omega
          · have hxi : ¬ (x : Int) < (s.size : Int) := by omega
            have NY : q = x := by omega
            go_wp2
            go_roundw
            case rel => obtain ⟨g, h⟩ := NX; exact ⟨q, acc, g, by rw [NY], by omega, h⟩
            case measure => simp [intOf]; omega
      have n35 : ((s[k].toNat : Int) == 35) = false := ne_byte (n := 35) (by decide) c35
      have HB : Hid (Lx.blank s[k] = false) := hbl
      have HC : Hid (s[k] ≠ 35) := c35
      clear hbl c35
      cases ho : Lx.one (s.data.toList.drop k) with
      | none =>
        have N : Hid (∀ w, _) := rone_no s k hs hk ho
        have HR : Hid (R = .bad k) := HI.out.none hk HB.out HC.out ho
        clear ho
        go_wp2_with fail
        refine (N.out _).mono ?_
        rintro r w1 ⟨rfl, k1⟩
        have K1 : Hid (Kept w w1) := HI.out.bel.then k1
        clear k1
        go_wp2
        refine bodyPost_ret (v := .tuple #[.slice none 0 0, .int .i64 (k : Int), .int .i64 2]) ?_ rfl ⟨_, _, _, rfl, ?_⟩
        · simp [results, Try.results47, go_sem]
        rw [HR.out]
        exact ⟨rfl, rfl, rfl, K1.out.alloc K1.out.size _⟩
      | some r =>
        obtain ⟨kd, len, n⟩ := r
        have N : Hid (∀ w, _) := rone_yes s k kd len n hs hk ho
        have hlen := Lx.one_len ho
        rw [List.length_drop, hll] at hlen
        have HO : Hid (Lx.one (s.data.toList.drop k) = some (kd, (k + len) - k, n)) := by
          show _ = _
          rw [ho, show k + len - k = len by omega]
        have hl0 : ((len : Int) == 0) = false := by rw [beq_eq_false_iff_ne]; omega
        obtain ⟨i0, hi, hz0, hz1, hz2⟩ := rtok_info
        have Hi : Hid (_ = _) := hi
        have Hz0 : Hid (_ = _) := hz0
        have Hz1 : Hid (_ = _) := hz1
        have Hz2 : Hid (_ = _) := hz2
        have hcb : acc.length ≤ 6000 := by have := HI.out.acl; omega
        clear hi hz0 hz1 hz2 ho
        go_wp2_with fail
        refine (N.out _).mono ?_
        rintro r w1 ⟨rfl, k1⟩
        have HI1 : Hid (RInv s w R k acc f u5 w1) := HI.out.kept k1
        clear k1
        have hz := HI1.out.bel.size
        go_wp2_with (at_builtin; refine wpList_append_lies _ (by rfl) _ _ _ (by rfl) w.heap.size 99 i0 _ 4 40 Try.underlying92 Hi.out Hz0.out Hz1.out Hz2.out rfl (by decide) u5 acc.length (rCellsOf acc) (by rfl) ?c0 ⟨_, 0, none⟩ 1 1 [.int .i64 (kd : Int), .string (s.extract k (k + len)), .int .i64 (n : Int), .int .i64 (k : Int)] (by rfl) rfl ?c1 ?c2 (by omega) ?c3 (by omega) ?c5 _ rfl ?_)
        case c0 => exact (HI1.out.own.alloc _).alloc _
        case c1 => exact news_of _ _ (by simp) _ _ _ _ _
        case c2 => intro u hu; simp at hu; rcases hu with rfl | rfl | rfl | rfl <;> rfl
        case c3 => unfold maxLen; omega
        case c5 => simp; omega
        intro g cap w2 hown hgrow hat hlt
        have HBl : Hid (Kept w w2) := (HI1.out.kept ((Kept.refl _).alloc (Nat.le_refl _) _)).behind hgrow
        have HW : Hid (World.ownsRow _ _ _ _ _ _ _) := hown
        clear hown hgrow hat hlt
        go_wp2
        go_roundw
        case rel =>
          obtain ⟨f', h⟩ := HI.out.taken hk HB.out HC.out (by omega : k < k + len) (by omega) HO.out HW.out HBl.out
          exact ⟨k + len, _, f', by go_num, by omega, h⟩
        case measure => simp [intOf]; omega
    · have hki : ¬ (k : Int) < (s.size : Int) := by omega
      have hke : k = s.size := by omega
      obtain ⟨i0, hi, hz0, hz1, hz2⟩ := rtok_info
      have Hi : Hid (_ = _) := hi
      have Hz0 : Hid (_ = _) := hz0
      have Hz1 : Hid (_ = _) := hz1
      have Hz2 : Hid (_ = _) := hz2
      have hcb : acc.length ≤ 6000 := by have := HI.out.acl; omega
      have hz := HI.out.bel.size
      clear hi hz0 hz1 hz2
      go_wp2_with (at_builtin; refine wpList_append_lies _ (by rfl) _ _ _ (by rfl) w.heap.size 99 i0 _ 4 40 Try.underlying92 Hi.out Hz0.out Hz1.out Hz2.out rfl (by decide) u5 acc.length (rCellsOf acc) (by rfl) ?c0 ⟨_, 0, none⟩ 1 1 [.int .i64 4, .string ⟨#[]⟩, .int .i64 0, .int .i64 (k : Int)] (by rfl) rfl ?c1 ?c2 (by omega) ?c3 (by omega) ?c5 _ rfl ?_)
      case c0 => exact HI.out.own.alloc _
      case c2 => exact ⟨rfl, rfl, rfl, rfl⟩
      case c3 => unfold maxLen; omega
      case c5 => omega
      intro g cap w1 hown hgrow hat hlt
      have HBl : Hid (Kept w w1) := HI.out.behind hgrow
      have HO : Hid (World.ownsRow _ _ _ _ _ _ _) := hown
      clear hown hgrow hat hlt
      go_wp2
      refine bodyPost_ret (v := .tuple #[.slice (some ⟨g, 0, none⟩) (acc.length + 1) cap, .int .i64 0, .int .i64 0]) ?_ rfl ⟨_, _, _, rfl, ?_⟩
      · simp [results, Try.results47, go_sem]
      rw [HI.out.ends hke]
      exact ⟨rfl, rfl, by rw [rCellsOf_snoc, List.length_append, hke]; exact HO.out, HBl.out⟩
theorem rtokens_many (s : ByteArray) (w : World) (_hz : s.size ≤ 1125899906842624) (hs : 6000 < s.size) :
    Calls Try.prog 47 #[.string s] w fun r w' => r = .returned (.tuple #[.slice none 0 0, .int .i64 6000, .int .i64 2]) ∧ Kept w w' := by
  have hsi : (6000 : Int) < (s.size : Int) := by omega
  go_enter Try.func47, Try.ntmps47
  go_wp2
  refine bodyPost_ret (v := .tuple #[.slice none 0 0, .int .i64 6000, .int .i64 2]) ?_ rfl ⟨rfl, Kept.refl _⟩
  simp [results, Try.results47, go_sem]
theorem rtokens_any (s : ByteArray) (w : World) (hz : s.size ≤ 1125899906842624) (R : Lx.Out) (hR : Lx.toks s.data.toList = R) :
    Calls Try.prog 47 #[.string s] w fun r w' => ∃ v p e, r = .returned (.tuple #[v, p, e]) ∧ RTold w R v p e w' := by
  by_cases hs : s.size ≤ 6000
  · exact rtokens_few s w hs R hR
  · have hll : s.data.toList.length = s.size := by simp
    have : R = .bad 6000 := by rw [← hR, Lx.toks, if_pos (by omega)]
    subst this
    exact (rtokens_many s w hz (by omega)).mono fun r w' ⟨h1, h2⟩ => ⟨_, _, _, h1, rfl, rfl, rfl, h2⟩
end Go.Proofs.Ytnfkjmafhaecgaa
