/- Nx -/
import Derived.Test.YtdodpeneehbbkabXRr8
import Derived.Test.YtdodpeneehbbkabXRn8
import Derived.Deep.RegionWith

namespace Go.Proofs.Ytdodpeneehbbkab
open Go.RowKit
attribute [local go_sem] run_store_complex
theorem okS_flat {s : St} : OkS s → ∀ x ∈ St.flat s, okAt x.re x.im :=
  St.ind (P := fun s => OkS s → ∀ x ∈ St.flat s, okAt x.re x.im) (fun s hb hl h x hx => by
    cases h with
    | mk _ h1 h2 h3 =>
      rw [St.flat_eq, List.mem_cons, List.mem_append] at hx
      rcases hx with rfl | hx | hx
      · exact h1
      · obtain ⟨y, hy, hx⟩ := mem_flats.1 hx
        exact hb y hy (h2 y hy) x hx
      · obtain ⟨y, hy, hx⟩ := mem_flats.1 hx
        exact hl y hy (h3 y hy) x hx) s
theorem dup_mem : ∀ (r a : List Dc) {y : Dc}, Nf.dup a r = some y → y ∈ r
  | [], _, _, h => by cases h
  | z :: r, a, y, h => by
    unfold Nf.dup at h
    split at h
    · injection h with h; rw [h]; exact List.mem_cons_self
    · exact List.mem_cons_of_mem _ (dup_mem r _ h)
theorem check_ok {d : List Dc} {t : List (List St)} (hd : ∀ y ∈ d, okAt y.re y.im) (ht : ∀ b ∈ t, ∀ y ∈ b, OkS y) : ∀ p, Nf.check d t = some p → okAt p.1 p.2 := by
  intro p hp
  unfold Nf.check at hp
  split at hp
  · next y hy => injection hp with hp; subst hp; exact hd y (dup_mem _ _ hy)
  · rw [Option.map_eq_some_iff] at hp
    obtain ⟨s, hs, rfl⟩ := hp
    have hm := List.mem_of_find?_eq_some hs
    obtain ⟨b, hb, hm⟩ := mem_flatTs.1 hm
    obtain ⟨y, hy, hm⟩ := mem_flats.1 hm
    exact okS_flat (ht b hb y hy) s hm
theorem flat_le_size (s : St) : (St.flat s).length ≤ s.size :=
  St.ind (P := fun s => (St.flat s).length ≤ s.size) (fun s hb hl => by
    have h1 : ∀ (L : List St), (∀ y ∈ L, (St.flat y).length ≤ y.size) → (St.flats L).length ≤ St.sizes L := by
      intro L
      induction L with
      | nil => intro _; exact Nat.zero_le _
      | cons y L ih => intro h; rw [show St.flats (y :: L) = St.flat y ++ St.flats L from rfl, List.length_append, St.sizes]; have := h y List.mem_cons_self; have := ih fun z hz => h z (List.mem_cons_of_mem _ hz); omega
    have := h1 s.body hb
    have := h1 s.els hl
    rw [St.flat_eq, List.length_cons, List.length_append, St.size_eq]
    omega) s
theorem flats_le_sizes : ∀ L : List St, (St.flats L).length ≤ St.sizes L
  | [] => Nat.zero_le _
  | y :: L => by rw [show St.flats (y :: L) = St.flat y ++ St.flats L from rfl, List.length_append, St.sizes]; have := flat_le_size y; have := flats_le_sizes L; omega
theorem flatTs_small {t : List (List St)} (h : ∀ b ∈ t, St.sizes b ≤ 16) (h3 : t.length ≤ 3) : (flatTs t).length ≤ 1073741824 := by
  have h1 : ∀ T : List (List St), (∀ b ∈ T, St.sizes b ≤ 16) → (flatTs T).length ≤ 16 * T.length := by
    intro T
    induction T with
    | nil => intro _; exact Nat.zero_le _
    | cons b T ih => intro h; rw [show flatTs (b :: T) = St.flats b ++ flatTs T from rfl, List.length_append, List.length_cons]; have := h b List.mem_cons_self; have := flats_le_sizes b; have := ih fun z hz => h z (List.mem_cons_of_mem _ hz); omega
  have := h1 t h
  omega
theorem told_pair {d : List Dc} {t : List (List St)} (hd : ∀ y ∈ d, okAt y.re y.im) (ht : ∀ b ∈ t, ∀ y ∈ b, OkS y) : ∃ (x y : Nat) (e : Int), Nf.told (Nf.check d t) = .tuple #[.complex .f64 x y, .int .i64 e] ∧ okAt x y := by
  cases h : Nf.check d t with
  | none => exact ⟨0, 0, 0, rfl, by decide +kernel, by decide +kernel⟩
  | some p => exact ⟨p.1, p.2, 3, rfl, check_ok hd ht p h⟩
theorem index_four (x : ByteArray) (k : Nat) (hk : k < 4) : ∃ y, ∀ w, (Instr.index 43 (.agg #[.string x, .string ⟨#[120]⟩, .string ⟨#[111, 116, 104, 101, 114]⟩, .string ⟨#[99]⟩]) (.int .i64 (k : Int))).run Try.prog w = .ok (.string y) w := by
  have h9 := Try.sizeOf9
  have ha := Try.isAgg9
  match k, hk with
  | 0, _ => exact ⟨_, fun w => by simp [Instr.index, go_sem, h9, ha]; rfl⟩
  | 1, _ => exact ⟨_, fun w => by simp [Instr.index, go_sem, h9, ha]; rfl⟩
  | 2, _ => exact ⟨_, fun w => by simp [Instr.index, go_sem, h9, ha]; rfl⟩
  | 3, _ => exact ⟨_, fun w => by simp [Instr.index, go_sem, h9, ha]; rfl⟩
set_option maxRecDepth 100000 in
set_option maxHeartbeats 4000000 in
theorem namesTells_row (how : Int) (la lb lc : List Ac) (l : List Int) (va vb vc lv : Value) (x : ByteArray) (k0 : Int) (w : World) (hh1 : -9223372036854775808 ≤ how) (hh2 : how ≤ 9223372036854775807) (ha : ActsR w w.heap.size la va) (hb : ActsR w w.heap.size lb vb) (hc : ActsR w w.heap.size lc vc) (hl : IntsR w w.heap.size l lv) (_hk1 : -9223372036854775808 ≤ k0) (_hk2 : k0 ≤ 9223372036854775807) :
    Calls Try.prog 4 #[.int .i64 how, va, vb, vc, lv, .string x, .int .i64 k0] w fun e w' => e = .returned (.bool true) ∧ Kept w w' := by
  have HP : Hid _ := prog_any how la lb lc va vb vc 4 w hh1 hh2 ha hb hc (by omega) (by omega)
  have HL : Hid (IntsR w w.heap.size l lv) := hl
  obtain ⟨aa, qa, rfl, -⟩ := ha.out
  obtain ⟨ab, qb, rfl, -⟩ := hb.out
  obtain ⟨ac, qc, rfl, -⟩ := hc.out
  obtain ⟨al, lcap, rfl, hl1, hl2, -⟩ := hl.out
  have KN : Hid (∀ W, Calls Try.prog 10 #[] W fun e w' => e = .returned (.bool true) ∧ Kept W w') := fun W => known_any W
  clear hl hh1 hh2 ha hb hc
  go_enter Try.func4, Try.ntmps4
  go_wp2_with fail
  refine Calls.mono HP.out ?_
  rintro e w1 ⟨d0, t0, c1, n1, q1, c2, n2, q2, rfl, HM⟩
  obtain ⟨hds, hts, hg, hk⟩ := HM.out
  obtain ⟨s, hsh, d, t, hmr, htl, hrd⟩ := made_read hg hds hts
  have SH : Hid _ := hsh
  have RD : Hid _ := hrd
  have HMR : Hid (MadeR d t) := hmr
  have HT3 : Hid (t.length ≤ 3) := by have := hg.three; show _ ≤ _; omega
  have HK1 : Hid (Kept w w1) := hk
  clear hds hts hg hk hsh hrd hmr HM HP htl
  go_wp2_with fail
  refine Calls.mono SH.out ?_
  rintro e w2 ⟨rfl, k2⟩
  have HK2 : Hid (Kept w w2) := HK1.out.then k2
  clear SH HK1 k2
  go_wp2_with fail
  refine Calls.mono (RD.out _) ?_
  rintro e w3 ⟨a1, p1, a2, p2, rfl, H3⟩
  obtain ⟨k3, ho3, ht3⟩ := H3.out
  have HK3 : Hid (Kept w w3) := HK2.out.then k3
  have HTS3 : Hid (TsIn w3 0 w3.heap.size t (.slice a2 t.length p2)) := ht3
  have HD8 : Hid (d.length = 8) := HMR.out.dl
  have TU : Hid (Calls Try.prog 13 #[.agg #[.slice a1 d.length p1, .slice a2 t.length p2], .slice al l.length lcap] w3 fun e w' => ∃ (ds : List Dc) (a1 : Option Addr) (q1 : Nat), e = .returned (.agg #[.slice a1 ds.length q1, .slice a2 t.length p2]) ∧ Hid (Kept w3 w' ∧ OwnD w' w3.heap.size ds (.slice a1 ds.length q1) ∧ TurnedD ds d.length)) := turned_any d l w3 _ (.slice al l.length lcap) a2 t.length p2 ho3 (by have := HMR.out.dl; omega) (by have := HMR.out.dl; omega) ⟨rfl, HMR.out.fd, HMR.out.ok.1⟩ ((HL.out.kept HK3.out).mono HK3.out.size)
  clear RD HK2 k3 ho3 ht3 H3 HL hl1 hl2
  go_wp2_with fail
  refine Calls.mono TU.out ?_
  rintro e w4 ⟨ds, a4, p4, rfl, H4⟩
  obtain ⟨k4, ho4, htd⟩ := H4.out
  have HK4 : Hid (Kept w w4) := HK3.out.then k4
  have hds4 : DsIn w4 0 w4.heap.size ds (.slice a4 ds.length p4) := ho4.ds fun k e => ⟨Nat.zero_le _, (ho4.row.lt k e).2⟩
  have hts4 : TsIn w4 0 w4.heap.size t (.slice a2 t.length p2) := HTS3.out.up (Nat.le_refl _) k4
  obtain ⟨X, Y, E, hT, hXY⟩ := told_pair (d := ds) (t := t) htd.ok HMR.out.ok.2
  have CK : Hid (∀ W, Kept w4 W → Calls Try.prog 7 #[.agg #[.slice a4 ds.length p4, .slice a2 t.length p2]] W fun e w' => e = .returned (.tuple #[.complex .f64 X Y, .int .i64 E]) ∧ Kept W w') := fun W hW => by
    have h := check_any ds t W _ _ (hds4.up (Nat.le_refl _) hW) (hts4.up (Nat.le_refl _) hW) HMR.out.ft (fun b hb => Nat.le_trans (HMR.out.sz b hb) (by decide)) (fun y hy => (htd.fd y hy).1)
    rw [hT] at h; exact h
  have RN : Hid (∀ W, Kept w4 W → Calls Try.prog 16 #[.agg #[.slice a4 ds.length p4, .slice a2 t.length p2]] W fun e w' => e = .returned (.tuple #[.complex .f64 X Y, .int .i64 E]) ∧ Kept W w') := fun W hW => by
    have h := rnames8_any ds t W _ _ (hds4.up (Nat.le_refl _) hW) (hts4.up (Nat.le_refl _) hW) (flatTs_small HMR.out.sz HT3.out) (fun s hs => Nat.le_trans (HMR.out.ft s hs).e (by decide))
    rw [hT] at h; exact h
  have F1 : Hid (∀ (y : ByteArray) (W : World), Kept w4 W → Calls Try.prog 11 #[.agg #[.slice a4 ds.length p4, .slice a2 t.length p2], .string y] W fun e w' => e = .returned (.int .i64 (Nf.find ds 0 y)) ∧ Kept W w') := fun y W hW => find_any ds y W _ a2 t.length p2 (hds4.up (Nat.le_refl _) hW)
  have F2 : Hid (∀ (y : ByteArray) (W : World), Kept w4 W → Calls Try.prog 18 #[.agg #[.slice a4 ds.length p4, .slice a2 t.length p2], .string y] W fun e w' => e = .returned (.int .i64 (Nf.find ds 0 y)) ∧ Kept W w') := fun y W hW => rfind_any ds y W _ a2 t.length p2 (hds4.up (Nat.le_refl _) hW)
  obtain ⟨j, hj9, -, hP⟩ := pick_nat k0 9 (by omega) (by omega)
  have PK : Hid (∀ W, Calls Try.prog 17 #[.int .i64 k0, .int .i64 9] W fun e w' => e = .returned (.int .i64 (j : Int)) ∧ w' = W) := hP
  have HXY : Hid (okAt X Y) := hXY
  clear TU k4 ho4 H4 HK3 HD8 hds4 hts4 hT hXY HTS3 htd hP HMR HT3
  go_wp2_with fail
  obtain ⟨W5, hW5⟩ : ∃ W, w4.alloc (.cells #[.slice a4 ds.length p4, .slice a2 t.length p2] 31) = W := ⟨_, rfl⟩
  obtain ⟨P, hP⟩ : ∃ P, w4.heap.size = P := ⟨_, rfl⟩
  have k45 : Kept w4 W5 := by rw [← hW5]; exact (Kept.refl _).al _
  have HK5 : Hid (Kept w W5) := HK4.out.then k45
  have K45 : Hid (Kept w4 W5) := k45
  have HBX : Hid (BoxS W5 P [.slice a4 ds.length p4, .slice a2 t.length p2]) := by rw [← hW5, ← hP]; exact box_newQ _ _ _
  rw [hW5, hP]
  clear HK4 k45 hW5 hP
  refine (CK.out _ K45.out).mono ?_
  rintro e w6 ⟨rfl, k6⟩
  have K6 : Hid (Kept W5 w6) := k6
  have bx := HBX.out.kept k6
  have p0 := bx.cell 0 rfl
  have p1 := bx.cell 1 rfl
  have pl := bx.lt
  clear k6 bx
  go_wp2_with fail
  refine (RN.out _ (K45.out.then K6.out)).mono ?_
  rintro e w7 ⟨rfl, k7⟩
  have K7 : Hid (Kept W5 w7) := K6.out.then k7
  clear k7 p0 p1 pl K6
  go_wp2_with fail
  refine (PK.out _).mono ?_
  rintro e w8 ⟨rfl, rfl⟩
  have hwj : IntKind.i64.wrap ((j : Int) - 1) = (j : Int) - 1 := by rw [IntKind.wrap_i64]; omega
  go_wp2_with fail
  go_loopw [46] (fun i wr => ∃ k : Nat, i = .int .i64 (k : Int) ∧ k ≤ 4 ∧ Hid (Kept W5 wr)) (fun i _ => 4 - (intOf i).toNat)
  case atStart => exact ⟨0, rfl, by decide, K7⟩
  case round =>
    obtain ⟨k, rfl, hk, HB⟩ := hrel
    have bx := HBX.out.kept HB.out
    have p0 := bx.cell 0 rfl
    have p1 := bx.cell 1 rfl
    have pl := bx.lt
    clear bx
    by_cases hlt : k < 4
    · have hki : (k : Int) < 4 := by omega
      obtain ⟨y, hix⟩ := index_four x k hlt
      have G1 : Hid _ := F1.out y
      have G2 : Hid _ := F2.out y
      go_wp2_with fail
      go_region_with (first
        | (go_at_call 11; refine (G1.out _ (K45.out.then HB.out.dr)).mono ?_; rintro e w9 ⟨rfl, k9⟩; have HB9 : Hid (Kept W5 w9) := HB.out.dr.then k9; have bx9 := HBX.out.kept HB9.out; have p09 := bx9.cell 0 rfl; have p19 := bx9.cell 1 rfl; have pl9 := bx9.lt; clear k9 bx9)
        | (go_at_call 18; refine (G2.out _ (K45.out.then HB9.out)).mono ?_; rintro e w10 ⟨rfl, k10⟩; have HB10 : Hid (Kept W5 w10) := HB9.out.then k10; clear k10)
        | fail)
      all_goals
        clear p0 p1 pl p09 p19 pl9
        go_wp2_with fail
        go_roundw
        case rel => exact ⟨k + 1, by go_num, by omega, HB10⟩
        case measure => simp [intOf]; omega
    · have hki : ¬ (k : Int) < 4 := by omega
      have S1 : Hid (∀ W, Calls Try.prog 12 #[.int .i64 ((j : Int) - 1)] W fun e w' => e = .returned (.bool (Nf.shared ((j : Int) - 1))) ∧ w' = W) := fun W => shared_any _ W
      have S2 : Hid (∀ W, Calls Try.prog 19 #[.int .i64 ((j : Int) - 1)] W fun e w' => e = .returned (.bool (Nf.shared ((j : Int) - 1))) ∧ w' = W) := fun W => rshared_any _ W
      have e1 := HXY.out.1
      have e2 := HXY.out.2
      clear p0 p1 pl
      go_wp2_with fail
      refine (KN.out _).mono ?_
      rintro e w9 ⟨rfl, k9⟩
      have K9 : Hid (Kept W5 w9) := HB.out.then k9
      clear k9
      go_wp2_with fail
      refine (S1.out _).mono ?_
      rintro e w10 ⟨rfl, rfl⟩
      go_wp2_with fail
      refine (S2.out _).mono ?_
      rintro e w11 ⟨rfl, rfl⟩
      go_wp2_with fail
      go_ret
      exact ⟨rfl, HK5.out.then K9.out⟩
end Go.Proofs.Ytdodpeneehbbkab
