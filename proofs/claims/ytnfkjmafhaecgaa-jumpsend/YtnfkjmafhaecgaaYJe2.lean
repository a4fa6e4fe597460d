/- Je2 -/
import Derived.Test.YtnfkjmafhaecgaaYJe1
import Derived.Test.YtnfkjmafhaecgaaYJd
import Derived.Test.YtnfkjmafhaecgaaYNp
import Derived.Deep.RegionHeld3

namespace Go.Proofs.Ytnfkjmafhaecgaa
open Go.RowKit Jf
attribute [local go_sem] run_store_complex
attribute [local go_sem ↓] add_fit
theorem cat_list (S X : ByteArray) : (S ++ X).data.toList = S.data.toList ++ X.data.toList := by simp
/-- What has been built so far: its tokens are those of the blocks that stand open. -/
def Bt (u : Nat) (S : ByteArray) : Prop := ∃ (up : List (List St)) (c : List St), up.length = u ∧ Je.Fr up ∧ Je.Okc (6 - u) c ∧ Ps.LexesS S.data.toList (Ps.cw Pp.tGo :: Ps.co :: Je.gc up c)
theorem Bt.start : Bt 0 ⟨#[103, 111, 123]⟩ := ⟨[], [], rfl, trivial, Je.Okc.nil _, Je.start_lex.toS⟩
theorem Bt.goto {u : Nat} {S X : ByteArray} (h : Bt u S) (hX : X = ⟨#[97]⟩ ∨ X = ⟨#[98]⟩ ∨ X = ⟨#[101]⟩) : Bt u ((S ++ ⟨#[32, 103, 111, 116, 111, 32]⟩) ++ X) := by
  obtain ⟨up, c, h1, h2, h3, h4⟩ := h
  obtain ⟨x, hx, rfl⟩ : ∃ x : UInt8, (x = 97 ∨ x = 98 ∨ x = 101) ∧ X = ⟨#[x]⟩ := by
    rcases hX with rfl | rfl | rfl
    · exact ⟨97, .inl rfl, rfl⟩
    · exact ⟨98, .inr (.inl rfl), rfl⟩
    · exact ⟨101, .inr (.inr rfl), rfl⟩
  refine ⟨up, c ++ [Je.gotoS x], h1, h2, h3.snoc (Je.goto_ok _ x hx), ?_⟩
  rw [cat_list, cat_list, Je.gc_snoc, List.append_assoc]
  exact h4.appS (Je.goto_lex x hx) fun r _ => Ps.stop_blank (by decide) _ r
theorem Bt.open {u : Nat} {S : ByteArray} (h : Bt u S) : Bt (u + 1) (S ++ ⟨#[32, 105, 102, 32, 49, 32, 123]⟩) := by
  obtain ⟨up, c, h1, h2, h3, h4⟩ := h
  refine ⟨c :: up, [], by rw [List.length_cons, h1], ⟨by rw [h1]; exact h3, h2⟩, Je.Okc.nil _, ?_⟩
  rw [cat_list, Je.gc_open]
  exact h4.appS Je.if_lex.toS fun r _ => Ps.stop_blank (by decide) _ r
theorem Bt.shut {u : Nat} {S : ByteArray} (h : Bt (u + 1) S) (hu : u < 6) : Bt u (S ++ ⟨#[125]⟩) := by
  obtain ⟨up, c, h1, h2, h3, h4⟩ := h
  cases up with
  | nil => simp at h1
  | cons b r =>
    have hr : r.length = u := by simpa using h1
    obtain ⟨hb, hr2⟩ := h2
    rw [hr] at hb
    have e : 6 - u = (6 - (u + 1)) + 1 := by omega
    refine ⟨r, b ++ [Je.ifS c], hr, hr2, hb.snoc (by rw [e]; exact Je.if_ok _ h3), ?_⟩
    rw [cat_list, Je.gc_shut]
    exact h4.appS Ps.shut_lex.toS fun r _ => Ps.stop_blank (by decide) _ r
theorem Bt.read {S : ByteArray} (h : Bt 0 S) (hs : S.size ≤ 5900) : ∃ (c : List St) (t : List (List St)) (q : Nat), Je.Okc 6 c ∧ Pp.out (S ++ ⟨#[32, 108, 97, 98, 101, 108, 32, 97, 32, 108, 97, 98, 101, 108, 32, 98, 32, 108, 97, 98, 101, 108, 32, 101, 125]⟩) = (some ([], t), q) ∧ t.map St.strips = [St.strips (c ++ Je.labs)] := by
  obtain ⟨up, c, h1, h2, h3, h4⟩ := h
  obtain rfl : up = [] := List.length_eq_zero_iff.1 h1
  obtain ⟨t, q, e1, e2⟩ := Je.end_read (s := S.data.toList) (by rw [Array.length_toList]; exact hs) h3 h4
  refine ⟨c, t, q, h3, ?_, e2⟩
  rw [← e1]
  congr 1
set_option maxRecDepth 100000 in
set_option maxHeartbeats 2000000 in
theorem jumpsEnd_row (l : List Int) (lv : Value) (w : World) (h : IntsR w w.heap.size l lv) (hb : l.length ≤ 17592186044416) :
    Calls Try.prog 4 #[lv] w fun e w' => e = .returned (.bool true) ∧ Kept w w' := by
  have HL : Hid (IntsR w w.heap.size l lv) := h
  obtain ⟨la, lcap, rfl, hl1, hl2, hl3, -⟩ := h.out
  have KN : Hid (∀ W, Calls Try.prog 15 #[] W fun e w' => e = .returned (.bool true) ∧ Kept W w') := fun W => known9_any W
  have hll : (l.length : Int) ≤ 17592186044416 := by omega
  clear h hb hl1 hl2 hl3
  go_enter Try.func4, Try.ntmps4
  go_wp2_with fail
  go_loopw [3, 4, 5] (fun sv ov i wr => ∃ (k : Nat) (S : ByteArray) (u : Nat), sv = .string S ∧ ov = .int .i64 (u : Int) ∧ i = .int .i64 (k : Int) ∧ k ≤ l.length ∧ k ≤ 30 ∧ u ≤ 6 ∧ S.size ≤ 3 + 7 * k ∧ Hid (Bt u S ∧ Kept w wr)) (fun _ _ i _ => l.length - (intOf i).toNat)
  case atStart => exact ⟨0, _, 0, rfl, rfl, rfl, Nat.zero_le _, by omega, by omega, by decide, Bt.start, Kept.refl _⟩
  case round =>
    obtain ⟨k, S, u, rfl, rfl, rfl, hk, hk30, hu, hsz, HI⟩ := hrel
    have HKW : Hid (Kept w wr) := HI.out.2
    have HS : Hid (S.size ≤ 3 + 7 * k) := hsz
    by_cases hgo : k < l.length ∧ k < 30
    · obtain ⟨hlt, h30⟩ := hgo
      have hki : (k : Int) < (l.length : Int) := by omega
      have hk30i : (k : Int) < 30 := by omega
      obtain ⟨_, _, e0, _, _, e3, e4⟩ := (HL.out.kept HKW.out).out
      cases e0
      obtain ⟨b, o, rfl, hbb, hc⟩ := e3 k hlt
      have hbw : b < wr.heap.size := by have := HKW.out.size; omega
      obtain ⟨x, hx⟩ : ∃ x, l[k] = x := ⟨_, rfl⟩
      rw [hx] at hc
      obtain ⟨x1, x2⟩ := e4 x (by rw [← hx]; exact List.getElem_mem _)
      obtain ⟨p, hp, -, hPK⟩ := pick_nat x 8 (by omega) (by omega)
      have PK : Hid (∀ W, Calls Try.prog 16 #[.int .i64 x, .int .i64 8] W fun e w' => e = .returned (.int .i64 (p : Int)) ∧ w' = W) := hPK
      clear e3 e4 hPK hx hbb
      go_wp2_with fail
      refine (PK.out _).mono ?_
      rintro e w4 ⟨rfl, rfl⟩
      clear PK
      by_cases p4 : p < 4
      · have f4 : (p : Int) < 4 := by omega
        obtain ⟨j3, hj3, -, hP3⟩ := pick_nat (x.tdiv 8) 3 (by omega) (by omega)
        have PK3 : Hid (∀ W, Calls Try.prog 16 #[.int .i64 (x.tdiv 8), .int .i64 3] W fun e w' => e = .returned (.int .i64 (j3 : Int)) ∧ w' = W) := hP3
        obtain ⟨X, hXX, hX⟩ := index_three9 ⟨#[97]⟩ ⟨#[98]⟩ ⟨#[101]⟩ j3 hj3
        have hXs : X.size = 1 := by rcases hXX with rfl | rfl | rfl <;> rfl
        have y1 : (S ++ ⟨#[32, 103, 111, 116, 111, 32]⟩).size ≤ 400000000000000 := by rw [ByteArray.size_append]; show _ + 6 ≤ _; omega
        have B1 := addg S ⟨#[32, 103, 111, 116, 111, 32]⟩ (by show _ + 6 ≤ _; omega)
        have B2 := addg (S ++ ⟨#[32, 103, 111, 116, 111, 32]⟩) X (by omega)
        have hns : ((S ++ ⟨#[32, 103, 111, 116, 111, 32]⟩) ++ X).size ≤ 3 + 7 * (k + 1) := by rw [ByteArray.size_append, ByteArray.size_append, hXs]; show _ + 6 + 1 ≤ _; omega
        have HNS : Hid (_ ≤ _) := hns
        have HB : Hid (Bt u ((S ++ ⟨#[32, 103, 111, 116, 111, 32]⟩) ++ X)) := HI.out.1.goto hXX
        clear y1 hP3 hXX hXs hns hsz
        go_wp2_with fail
        refine (PK3.out _).mono ?_
        rintro e w5 ⟨rfl, rfl⟩
        go_wp2_with fail
        refine ⟨⟨k + 1, _, u, rfl, rfl, by go_num, by omega, by omega, hu, HNS.out, HB.out, HKW.out⟩, ?_⟩
        simp [intOf]; omega
      have g4 : decide ((p : Int) < 4) = false := decide_eq_false (by omega)
      have g4' : ¬ (p : Int) < 4 := by omega
      by_cases p6 : p < 6 ∧ u < 6
      · have f6 : (p : Int) < 6 := by omega
        have u6 : (u : Int) < 6 := by omega
        have B1 := addg S ⟨#[32, 105, 102, 32, 49, 32, 123]⟩ (by show _ + 7 ≤ _; omega)
        have hns : (S ++ ⟨#[32, 105, 102, 32, 49, 32, 123]⟩).size ≤ 3 + 7 * (k + 1) := by rw [ByteArray.size_append]; show _ + 7 ≤ _; omega
        have HNS : Hid (_ ≤ _) := hns
        have HB : Hid (Bt (u + 1) (S ++ ⟨#[32, 105, 102, 32, 49, 32, 123]⟩)) := HI.out.1.open
        have hu2 : u + 1 ≤ 6 := by omega
        clear hns hsz p6
        go_wp2_with fail
        refine ⟨⟨k + 1, _, u + 1, rfl, by go_num, by go_num, by omega, by omega, hu2, HNS.out, HB.out, HKW.out⟩, ?_⟩
        simp [intOf]; omega
      by_cases u0 : 0 < u
      · obtain ⟨v, rfl⟩ : ∃ v, u = v + 1 := ⟨u - 1, by omega⟩
        have u0i : ((v + 1 : Nat) : Int) > 0 := by omega
        have uv : ((v + 1 : Nat) : Int) - 1 = (v : Int) := by omega
        have B1 := addg S ⟨#[125]⟩ (by show _ + 1 ≤ _; omega)
        have hns : (S ++ ⟨#[125]⟩).size ≤ 3 + 7 * (k + 1) := by rw [ByteArray.size_append]; show _ + 1 ≤ _; omega
        have HNS : Hid (_ ≤ _) := hns
        have HB : Hid (Bt v (S ++ ⟨#[125]⟩)) := HI.out.1.shut (by omega)
        by_cases p6' : p < 6
        · have f6 : (p : Int) < 6 := by omega
          have u6 : ¬ ((v + 1 : Nat) : Int) < 6 := by omega
          clear hns hsz p6
          go_wp2_with fail
          refine ⟨⟨k + 1, _, v, rfl, by go_num, by go_num, by omega, by omega, by omega, HNS.out, HB.out, HKW.out⟩, ?_⟩
          simp [intOf]; omega
        · have f6 : ¬ (p : Int) < 6 := by omega
          clear hns hsz p6
          go_wp2_with fail
          refine ⟨⟨k + 1, _, v, rfl, by go_num, by go_num, by omega, by omega, by omega, HNS.out, HB.out, HKW.out⟩, ?_⟩
          simp [intOf]; omega
      · have u0i : ¬ ((u : Nat) : Int) > 0 := by omega
        have p6' : ¬ (p : Int) < 6 := by omega
        clear p6
        go_wp2_with fail
        refine ⟨⟨k + 1, S, u, rfl, rfl, by go_num, by omega, by omega, hu, by have := HS.out; omega, HI.out.1, HKW.out⟩, ?_⟩
        simp [intOf]; omega
    · have key : ((k : Int) < (l.length : Int) ∧ ¬ (k : Int) < 30) ∨ ¬ (k : Int) < (l.length : Int) := by omega
      have hsz2 : S.size + u ≤ 300 := by omega
      clear hgo HS hsz HL
      rcases key with ⟨hki, hk30i⟩ | hki
      all_goals
        go_wp2_with fail
        go_loopw [3, 4] (fun sv ov ws => ∃ (S2 : ByteArray) (v : Nat), sv = .string S2 ∧ ov = .int .i64 (v : Int) ∧ v ≤ 6 ∧ S2.size + v ≤ 300 ∧ Hid (Bt v S2 ∧ Kept w ws)) (fun _ ov _ => (intOf ov).toNat)
        case atStart => exact ⟨S, u, rfl, rfl, hu, hsz2, HI.out⟩
        case round =>
          clear hsz2 HI hu
          obtain ⟨S2, v, rfl, rfl, hv, hsz2, HI2⟩ := hrel
          by_cases v0 : 0 < v
          · obtain ⟨v, rfl⟩ : ∃ x, v = x + 1 := ⟨v - 1, by omega⟩
            have v0i : ((v + 1 : Nat) : Int) > 0 := by omega
            have B1 := addg S2 ⟨#[125]⟩ (by show _ + 1 ≤ _; omega)
            have hns : (S2 ++ ⟨#[125]⟩).size + v ≤ 300 := by rw [ByteArray.size_append]; show _ + 1 + v ≤ _; omega
            have HNS : Hid (_ ≤ _) := hns
            have HB : Hid (Bt v (S2 ++ ⟨#[125]⟩)) := HI2.out.1.shut (by omega)
            clear hns hsz2
            go_wp2_with fail
            refine ⟨⟨_, v, rfl, by go_num, by omega, HNS.out, HB.out, HI2.out.2⟩, ?_⟩
            simp [intOf]
          · obtain rfl : v = 0 := by omega
            have v0i : ¬ (((0 : Nat) : Int) > 0) := by omega
            obtain ⟨c, t, q, hc, hout, hst⟩ := HI2.out.1.read (by omega)
            have B1 := addg S2 ⟨#[32, 108, 97, 98, 101, 108, 32, 97, 32, 108, 97, 98, 101, 108, 32, 98, 32, 108, 97, 98, 101, 108, 32, 101, 125]⟩ (by show _ + 25 ≤ _; omega)
            have hrs : (S2 ++ ⟨#[32, 108, 97, 98, 101, 108, 32, 97, 32, 108, 97, 98, 101, 108, 32, 98, 32, 108, 97, 98, 101, 108, 32, 101, 125]⟩ : ByteArray).size ≤ 1125899906842624 := by rw [ByteArray.size_append]; show _ + 25 ≤ _; omega
            have RD : Hid _ := read9_any _ hrs wr [] t q hout
            obtain ⟨f1, f2⟩ := Pp.out_small hout
            have HEF : Hid _ := Je.end_facts hc hst
            have HKW : Hid (Kept w wr) := HI2.out.2
            clear hout hst hc hsz2 HI2 hrs
            go_wp2_with fail
            refine Calls.mono RD.out ?_
            rintro e w1 ⟨a1, n1, q1, a2, n2, q2, rfl, H⟩
            have HD1 : Hid (DsIn w1 0 w1.heap.size [] (.slice a1 n1 q1)) := H.out.2.1.mono fun j hj => ⟨Nat.zero_le _, hj.2⟩
            have HT1 : Hid (TsIn w1 0 w1.heap.size t (.slice a2 n2 q2)) := H.out.2.2.1.mono fun j hj => ⟨Nat.zero_le _, hj.2⟩
            have K1 : Hid (Kept w w1) := HKW.out.then H.out.1
            have HFL : Hid ((flatTs t).length ≤ 20000) := by have := tsz_flat t; show _ ≤ _; omega
            have CK : Hid (∀ W, Kept w1 W → Calls Try.prog 10 #[.agg #[.slice a1 n1 q1, .slice a2 n2 q2]] W fun e w' => e = .returned (.tuple #[.complex .f64 0 0, .int .i64 0]) ∧ Kept W w') := fun W hW => by
              have h := jcheck_any [] t W _ _ (HD1.out.up (Nat.le_refl _) hW) (HT1.out.up (Nat.le_refl _) hW) (by omega) (fun s hs => by have := f2 s hs; unfold maxLen; omega)
              rw [HEF.out.1] at h; exact h
            have LS : Hid (∀ W, Kept w1 W → Calls Try.prog 12 #[.agg #[.slice a1 n1 q1, .slice a2 n2 q2]] W fun r w' => ∃ (a3 : Option Addr) (q3 : Nat), r = .returned (.slice a3 (flatTs t).length q3) ∧ Hid (StsIn w' 0 w'.heap.size (flatTs t) (.slice a3 (flatTs t).length q3) ∧ Kept W w')) := fun W hW => (rlist_any [] t W _ _ (HD1.out.up (Nat.le_refl _) hW) (HT1.out.up (Nat.le_refl _) hW) (by have := HFL.out; omega)).mono fun r w' ⟨v, e, h1, h2⟩ => by
              obtain ⟨a3, q3, rfl, -⟩ := h1.open
              exact ⟨a3, q3, e, h1, h2⟩
            have TG : Hid (∀ (k : Nat) (W : World), Kept w1 W → Calls Try.prog 13 #[.agg #[.slice a1 n1 q1, .slice a2 n2 q2], .int .i64 (k : Int)] W fun e w' => e = .returned (.int .i64 (starg (spt t 0 0) (k : Int))) ∧ Kept W w') := fun k W hW => Target_any [] t k W _ _ (HD1.out.up (Nat.le_refl _) hW) (HT1.out.up (Nat.le_refl _) hW) (by omega)
            obtain ⟨N, hN, HF⟩ := HEF.out.2
            have HJ : Hid (∀ (i : Nat) (hi : i < (flatTs t).length), _) := HF
            obtain ⟨F, hFe⟩ : ∃ F, flatTs t = F := ⟨_, rfl⟩
            rw [hFe] at LS HJ HFL hN
            have hN3 : F.length ≤ 20000 := HFL.out
            have hF3 : 3 ≤ F.length := by omega
            have HN : Hid (F.length = N + 3) := hN
            clear hN
            clear H HEF HF f1 f2 RD hFe HD1 HT1
            go_wp2_with fail
            have KB : Hid (Kept w1 (w1.alloc (.cells #[.slice a1 n1 q1, .slice a2 n2 q2] 27))) := (Kept.refl _).al _
            have x0 : (w1.alloc (.cells #[.slice a1 n1 q1, .slice a2 n2 q2] 27)).cell? ⟨w1.heap.size, 0, none⟩ = some (.slice a1 n1 q1) := by simp
            have x1 : (w1.alloc (.cells #[.slice a1 n1 q1, .slice a2 n2 q2] 27)).cell? ⟨w1.heap.size, 1, none⟩ = some (.slice a2 n2 q2) := by simp
            obtain ⟨W1, hW1⟩ : ∃ W, w1.alloc (.cells #[.slice a1 n1 q1, .slice a2 n2 q2] 27) = W := ⟨_, rfl⟩
            obtain ⟨D, hD⟩ : ∃ D, w1.heap.size = D := ⟨_, rfl⟩
            rw [hW1, hD] at x0 x1 ⊢
            rw [hW1] at KB
            clear hW1 hD
            refine (LS.out _ KB.out).mono ?_
            rintro r w2 ⟨a3, q3, rfl, HLI⟩
            have K2 : Hid (Kept w1 w2) := KB.out.then HLI.out.2
            have y0 := HLI.out.2.cellS x0
            have y1 := HLI.out.2.cellS x1
            obtain ⟨_, _, e, hf1, hf2, hf3⟩ := HLI.out.1.open
            cases e
            clear x0 x1 LS
            go_wp2_with fail
            refine (CK.out _ K2.out).mono ?_
            rintro r w3 ⟨rfl, k3⟩
            have K3 : Hid (Kept w2 w3) := k3
            have z0 := k3.cellS y0
            have z1 := k3.cellS y1
            clear y0 y1 CK k3
            go_wp2_with fail
            go_loopw [82] (fun i ws => ∃ k : Nat, i = .int .i64 (k : Int) ∧ k ≤ F.length ∧ Hid (Kept w3 ws)) (fun i _ => F.length - (intOf i).toNat)
            case atStart => exact ⟨0, rfl, Nat.zero_le _, Kept.refl _⟩
            case round =>
              obtain ⟨k, rfl, hk, HI3⟩ := hrel
              have HK2 : Hid (Kept w2 wr) := K3.out.then HI3.out
              have v0' := HI3.out.cellS z0
              have v1' := HI3.out.cellS z1
              have hDw : D < wr.heap.size := block_lt_of_cell v0'
              by_cases hkf : k < F.length
              · have hki2 : (k : Int) < (F.length : Int) := by omega
                have hz3 := HK2.out.size
                obtain ⟨b, o, a4, n4, q4, a5, n5, q5, a6, n6, q6, rfl, _, hb, _, e0, e1, e2, e3, e4, e5, e6, e7, e8, e9, e10, _, _, _⟩ := HLI.out.1.item (HK2.out.stays (Nat.le_refl _)) k hkf
                have hbw : b < wr.heap.size := by omega
                have HT3 : Hid (∀ W, Kept w2 W → Calls Try.prog 13 #[.agg #[.slice a1 n1 q1, .slice a2 n2 q2], .int .i64 (k : Int)] W fun e w' => e = .returned (.int .i64 (starg (spt t 0 0) (k : Int))) ∧ Kept W w') := fun W hW => TG.out k W (K2.out.then hW)
                have hj := HJ.out k hkf
                obtain ⟨s, hs⟩ : ∃ s, F[k] = s := ⟨_, rfl⟩
                rw [hs] at e0 e1 e2 e3 e4 e5 e6 e10 hj
                clear hs
                rcases hj with ⟨h9, hst⟩ | ⟨h9, hn⟩
                · have h9' : (s.kind == 9) = false := by rw [beq_eq_false_iff_ne]; exact h9
                  rw [hst] at HT3
                  clear hst
                  go_wp2_with fail
                  refine (HT3.out _ (HK2.out.al _)).mono ?_
                  rintro r w5 ⟨rfl, k5⟩
                  have HK5 : Hid (Kept w3 w5) := HI3.out.then (((Kept.refl wr).al _).then k5)
                  clear k5 e0 e1 e2 e3 e4 e5 e6 e7 e8 e9 e10
                  go_wp2_with fail
                  refine ⟨⟨k + 1, by go_num, by omega, HK5.out⟩, ?_⟩
                  simp [intOf]; omega
                · rw [h9] at e0
                  rcases hn with ⟨hn, hst⟩ | ⟨hn, hst⟩ | ⟨hn, hst⟩
                  all_goals
                    rw [hn] at e1
                    rw [hst] at HT3
                    clear hst hn
                  · rw [show ((N : Nat) : Int) = (F.length : Int) - 3 by have := HN.out; omega] at HT3
                    have e1' : wr.cell? ⟨b, o + k * 11 + 1, none⟩ = some (.string ⟨#[97]⟩) := e1
                    clear e1
                    go_wp2_with fail
                    refine (HT3.out _ (HK2.out.al _)).mono ?_
                    rintro r w5 ⟨rfl, k5⟩
                    have HK5 : Hid (Kept w3 w5) := HI3.out.then (((Kept.refl wr).al _).then k5)
                    clear k5 e0 e1' e2 e3 e4 e5 e6 e7 e8 e9 e10
                    go_wp2_with fail
                    refine ⟨⟨k + 1, by go_num, by omega, HK5.out⟩, ?_⟩
                    simp [intOf]; omega
                  · rw [show ((N + 1 : Nat) : Int) = (F.length : Int) - 2 by have := HN.out; omega] at HT3
                    have e1' : wr.cell? ⟨b, o + k * 11 + 1, none⟩ = some (.string ⟨#[98]⟩) := e1
                    clear e1
                    go_wp2_with fail
                    refine (HT3.out _ (HK2.out.al _)).mono ?_
                    rintro r w5 ⟨rfl, k5⟩
                    have HK5 : Hid (Kept w3 w5) := HI3.out.then (((Kept.refl wr).al _).then k5)
                    clear k5 e0 e1' e2 e3 e4 e5 e6 e7 e8 e9 e10
                    go_wp2_with fail
                    refine ⟨⟨k + 1, by go_num, by omega, HK5.out⟩, ?_⟩
                    simp [intOf]; omega
                  · rw [show ((N + 2 : Nat) : Int) = (F.length : Int) - 1 by have := HN.out; omega] at HT3
                    have e1' : wr.cell? ⟨b, o + k * 11 + 1, none⟩ = some (.string ⟨#[101]⟩) := e1
                    clear e1
                    go_wp2_with fail
                    refine (HT3.out _ (HK2.out.al _)).mono ?_
                    rintro r w5 ⟨rfl, k5⟩
                    have HK5 : Hid (Kept w3 w5) := HI3.out.then (((Kept.refl wr).al _).then k5)
                    clear k5 e0 e1' e2 e3 e4 e5 e6 e7 e8 e9 e10
                    go_wp2_with fail
                    refine ⟨⟨k + 1, by go_num, by omega, HK5.out⟩, ?_⟩
                    simp [intOf]; omega
              · have hki2 : ¬ (k : Int) < (F.length : Int) := by omega
                have hn3 : (F.length : Int) ≥ 3 := by omega
                go_wp2_with fail
                refine (KN.out _).mono ?_
                rintro r w5 ⟨rfl, k5⟩
                have KF : Hid (Kept w w5) := K1.out.then (K2.out.then (HK2.out.then k5))
                clear k5
                go_wp2_with fail
                go_ret
                exact ⟨rfl, KF.out⟩
end Go.Proofs.Ytnfkjmafhaecgaa
