/- Mc Md -/
import Derived.Test.YtnfkjmafhaecgaaTMb

namespace Go.Proofs.Ytnfkjmafhaecgaa
open Go.RowKit Jf
attribute [local go_sem] run_store_complex
theorem allA_take (t : List (List St)) (k : Nat) (h : k < t.length) : allA (t.take (k + 1)) 0 0 0 = allA (t.take k) 0 0 0 ++ many t[k] [tnb (t.take k) + 1] (tsz (t.take k)) k (tnb (t.take k) + 1) (tsz (t.take k)) := by
  rw [List.take_succ_eq_append_getElem h, allA_append]
  have : (t.take k).length = k := by rw [List.length_take]; omega
  simp [allA, this]
theorem tnb_take (t : List (List St)) (k : Nat) (h : k < t.length) : tnb (t.take (k + 1)) = tnb (t.take k) + 1 + St.nbs t[k] := by
  rw [List.take_succ_eq_append_getElem h, tnb_append]; simp [tnb]; omega
theorem tnb_take_le (t : List (List St)) (k : Nat) : tnb (t.take k) ≤ tnb t := by
  have := tnb_append (t.take k) (t.drop k)
  rw [List.take_append_drop] at this
  omega
set_option maxRecDepth 100000 in
set_option maxHeartbeats 1000000 in
theorem rall_any (d : List Dc) (t : List (List St)) (w : World) (dv tv : Value) (hd : DsIn w 0 w.heap.size d dv) (ht : TsIn w 0 w.heap.size t tv) (hn : tsz t ≤ 1073741824) (hnb : tnb t ≤ 1073741824) : Calls Try.prog 33 #[.agg #[dv, tv]] w fun e w' => ∃ v ms, e = .returned v ∧ OwnM w' w.heap.size w.heap.size ms v ∧ ms.map Mk.said = (allA t 0 0 0).map An.said ∧ Kept w w' := by
  have HA : Hid (TsIn w 0 w.heap.size t tv) := ht
  obtain ⟨ad, capd, rfl, -⟩ := hd.open
  obtain ⟨a, cap, rfl, hl, hl2, hcap⟩ := ht.open
  have HN : Hid (tsz t ≤ 1073741824 ∧ tnb t ≤ 1073741824) := ⟨hn, hnb⟩
  clear hd ht hn hnb hl2 hcap
  go_enter Try.func33, Try.ntmps33
  go_wp2_with fail
  obtain ⟨W0, hW0⟩ : ∃ W, (w.alloc (.cells #[.slice ad d.length capd, .slice a t.length cap] 27)).alloc (.cells #[.int .i64 0] 3) = W := ⟨_, rfl⟩
  have K0 : Hid (Kept w W0) := by rw [← hW0]; exact ((Kept.refl _).al _).al _
  have HZ0 : Hid (W0.heap.size = w.heap.size + 2) := by rw [← hW0]; show _ = _; simp
  have P1 : Hid (W0.cell? ⟨w.heap.size, 1, none⟩ = some (.slice a t.length cap)) := by rw [← hW0]; show _ = _; simp
  have HB : Hid (BoxS W0 (w.heap.size + 1) [.int .i64 ((tnb (t.take 0) : Nat) : Int)]) := by
    rw [← hW0]
    have := box_newQ (w.alloc (.cells #[.slice ad d.length capd, .slice a t.length cap] 27)) #[.int .i64 0] 3
    rwa [World.size_alloc] at this
  rw [hW0]
  clear hW0
  go_loopw [3, 5] (fun list i wr => ∃ (k : Nat) (a1 : Option Addr) (n1 q1 : Nat) (ms1 : List Mk), list = .slice a1 n1 q1 ∧ i = .int .i64 (k : Int) ∧ k ≤ t.length ∧ Hid (RM W0 w.heap.size (w.heap.size + 1) (.slice none 0 0) [] wr ms1 (.slice a1 n1 q1) (tnb (t.take k))) ∧ Hid (ms1.map Mk.said = (allA (t.take k) 0 0 0).map An.said)) (fun _ i _ => t.length - (intOf i).toNat)
  case atStart => exact ⟨0, _, _, _, [], rfl, rfl, Nat.zero_le _, ⟨OwnM.nil _ _ _ (Nat.le_refl _), Bu.refl _ _, HB.out, ⟨rfl, .inl ⟨rfl, rfl⟩⟩⟩, rfl⟩
  case round =>
    obtain ⟨k, ax, nx, qx, ms1, rfl, rfl, hk, HI, HS⟩ := hrel
    have HU : Hid (Kept w wr) := HI.out.bu.kept K0.out fun i e => by omega
    have b1 : wr.cell? ⟨w.heap.size, 1, none⟩ = some (.slice a t.length cap) := HI.out.bu.cell P1.out (by omega)
    by_cases hlt : k < t.length
    · have hki : (k : Int) < (t.length : Int) := by omega
      obtain ⟨b, o, a1, n1, q1, rfl, _, hb, _, c0, k1⟩ := HA.out.item (HU.out.stays (Nat.le_refl _)) k hlt
      have hlen1 : ms1.length = tsz (t.take k) := by
        have := congrArg List.length HS.out
        rwa [List.length_map, List.length_map, all_len] at this
      have hst := tsz_take t k hlt
      have hstl := tsz_take_le t (k + 1)
      have hnt := tnb_take t k hlt
      have hntl := tnb_take_le t (k + 1)
      have HSTEP : Hid (allA (t.take (k + 1)) 0 0 0 = allA (t.take k) 0 0 0 ++ many t[k] [tnb (t.take k) + 1] (tsz (t.take k)) k (tnb (t.take k) + 1) (tsz (t.take k))) := allA_take t k hlt
      have HK : Hid (ms1.length + St.sizes t[k] ≤ 1073741824 ∧ tnb (t.take (k + 1)) = tnb (t.take k) + 1 + St.nbs t[k]) := ⟨by have := HN.out; omega, hnt⟩
      have PM : Hid (Calls Try.prog 45 #[.slice a1 n1 q1, .slice none 0 0, .int .i64 (k : Int), .pointer (some ⟨w.heap.size + 1, 0, none⟩)] wr fun r w' => ∃ a7 n7 q7 ms', r = .returned (.slice a7 n7 q7) ∧ Hid (OwnM w' wr.heap.size w.heap.size ms' (.slice a7 n7 q7) ∧ ms'.map Mk.said = (many t[k] [tnb (t.take k) + 1] (tsz (t.take k)) k (tnb (t.take k) + 1) (tsz (t.take k))).map An.said ∧ Bu (· = w.heap.size + 1) wr w' ∧ BoxS w' (w.heap.size + 1) [.int .i64 ((tnb (t.take k) + 1 + St.nbs t[k] : Nat) : Int)])) := by
        refine (marks_any t[k] wr w.heap.size (w.heap.size + 1) (w.heap.size + 2) _ (.slice none 0 0) [] (tsz (t.take k)) k (tnb (t.take k)) (tsz (t.take k)) (Nat.le_succ _) k1 HI.out.box ⟨rfl, .inl ⟨rfl, rfl⟩⟩ (Nat.lt_succ_self _) (by have := HN.out; omega) (Nat.zero_le _) (by have := HN.out; omega)).mono ?_
        rintro r w9 ⟨v9, ms9, rfl, ho9, hm9, hb9, hx9⟩
        obtain ⟨a7, q7, rfl, -⟩ := own_slice ho9.row
        exact ⟨a7, _, q7, ms9, rfl, ho9, hm9, hb9, hx9⟩
      have HLE : Hid (W0.heap.size ≤ wr.heap.size ∧ w.heap.size ≤ W0.heap.size ∧ w.heap.size + 1 < W0.heap.size) := ⟨HI.out.bu.size, by have := HZ0.out; omega, by have := HZ0.out; omega⟩
      clear k1 hlen1 hst hstl hnt hntl
      go_wp2_with fail
      refine Calls.mono PM.out ?_
      rintro r w3 ⟨a7, n7, q7, ms3, rfl, HS3⟩
      have hl3 : ms3.length = St.sizes t[k] := by
        have := congrArg List.length HS3.out.2.1
        rwa [List.length_map, List.length_map, many_len] at this
      have H3 : Hid (RM W0 w.heap.size (w.heap.size + 1) (.slice none 0 0) [] w3 ms1 (.slice ax nx qx) (tnb (t.take (k + 1)))) := by
        have := HI.out.past (Nat.le_succ _) HLE.out.2.2 HS3.out.2.2.1 HS3.out.2.2.2
        rw [HK.out.2]; exact this
      have hb3 : ms1.length + ms3.length ≤ 1073741824 := by have := HK.out; omega
      clear hl3
      go_wp2_with (at_builtin; refine wpList_append_rows (base := W0.heap.size) (n := ms1.length) (xs := mkCells ms1) (by rfl) _ _ _ (by rfl) elemM (by rfl) H3.out.own.row (by rfl) HS3.out.1.row HS3.out.1.one (by omega) ?len H3.out.own.le ?_)
      case len => unfold maxLen; omega
      intro ad4 cap4 w4 HG4
      have H4 : Hid (RM W0 w.heap.size (w.heap.size + 1) (.slice none 0 0) [] w4 (ms1 ++ ms3) (.slice ad4 (ms1.length + ms3.length) cap4) (tnb (t.take (k + 1)))) := H3.out.grew (qs := ms3) HLE.out.2.1 HLE.out.2.2 (fun m hm => (HS3.out.1.kids m hm).low HLE.out.1) HG4.out
      have HM4 : Hid ((ms1 ++ ms3).map Mk.said = (allA (t.take (k + 1)) 0 0 0).map An.said) := by
        show _ = _
        rw [List.map_append, HS.out, HS3.out.2.1, HSTEP.out, List.map_append]
      clear HG4 hb3
      go_wp2_with fail
      go_roundw
      case rel => exact ⟨k + 1, _, _, _, ms1 ++ ms3, rfl, by go_num, by omega, H4.out, HM4.out⟩
      case measure => simp [intOf]; omega
    · have hki : ¬ (k : Int) < (t.length : Int) := by omega
      have HE : Hid (OwnM wr w.heap.size w.heap.size ms1 (.slice ax nx qx) ∧ ms1.map Mk.said = (allA t 0 0 0).map An.said ∧ Kept w wr) := by
        have h1 := HI.out
        have h2 := HS.out
        rw [List.take_of_length_le (by omega)] at h1 h2
        exact ⟨h1.own.low (by have := HZ0.out; omega), h2, HU.out⟩
      go_wp2_with fail
      go_ret
      exact ⟨_, rfl, ms1, HE.out⟩
end Go.Proofs.Ytnfkjmafhaecgaa

namespace Go.Proofs.Ytnfkjmafhaecgaa
open Go.RowKit Jf
attribute [local go_sem] run_store_complex
theorem ints_at {w : World} {base : Nat} {v : Value} {path : List Nat} (h : w.ownsRow base 3 1 v path.length (ints path)) : ∃ a cap, v = .slice a path.length cap ∧ path.length ≤ cap ∧ cap ≤ 9223372036854775807 ∧ ∀ i (hi : i < path.length), ∃ g, a = some ⟨g, 0, none⟩ ∧ w.cell? ⟨g, i, none⟩ = some (.int .i64 (path[i] : Int)) ∧ g < w.heap.size := by
  obtain ⟨a, cap, rfl, hs⟩ := own_slice h
  refine ⟨a, cap, rfl, hs.le, hs.big, fun i hi => ?_⟩
  obtain ⟨g, cap', e, h1, h2⟩ := h.form (by omega)
  injection e with e1 e2 e3
  subst e1 e3
  refine ⟨g, rfl, ?_, h2⟩
  rw [h.cellAt i (by omega)]
  simp [ints, hi]
set_option maxRecDepth 100000 in
set_option maxHeartbeats 1000000 in
theorem rwithin_any (block : Nat) (x0 x3 x4 x5 : Int) (s1 s2 s6 : ByteArray) (y7 y8 y9 : Value) (re im thr : Nat) (path : List Nat) (pv : Value) (w : World) (base : Nat) (hp : w.ownsRow base 3 1 pv path.length (ints path)) : Calls Try.prog 46 #[.int .i64 (block : Int), .agg #[.int .i64 x0, .string s1, .string s2, .int .i64 x3, .int .i64 x4, .int .i64 x5, .string s6, y7, y8, y9, .complex .f64 re im, pv, .int .i64 (thr : Int)]] w fun e w' => e = .returned (.bool (decide (block ∈ path))) ∧ Kept w w' := by
  obtain ⟨a, cap, rfl, hl, hl2, hat⟩ := ints_at hp
  have HAT : Hid (∀ i (hi : i < path.length), ∃ g, a = some ⟨g, 0, none⟩ ∧ w.cell? ⟨g, i, none⟩ = some (.int .i64 (path[i] : Int)) ∧ g < w.heap.size) := hat
  have hpl : path.length ≤ 9223372036854775807 := by omega
  clear hp hat hl hl2
  go_enter Try.func46, Try.ntmps46
  go_wp2_with fail
  obtain ⟨W0, hW0⟩ : ∃ W, w.alloc (.cells #[.int .i64 x0, .string s1, .string s2, .int .i64 x3, .int .i64 x4, .int .i64 x5, .string s6, y7, y8, y9, .complex .f64 re im, .slice a path.length cap, .int .i64 (thr : Int)] 68) = W := ⟨_, rfl⟩
  have K0 : Hid (Kept w W0) := by rw [← hW0]; exact (Kept.refl _).al _
  have c11 : W0.cell? ⟨w.heap.size, 11, none⟩ = some (.slice a path.length cap) := by rw [← hW0]; simp
  rw [hW0]
  clear hW0
  go_loopw [5] (fun i wr => ∃ k : Nat, i = .int .i64 (k : Int) ∧ k ≤ path.length ∧ Hid (wr = W0 ∧ block ∉ path.take k)) (fun i _ => path.length - (intOf i).toNat)
  case atStart => exact ⟨0, rfl, Nat.zero_le _, rfl, by simp⟩
  case round =>
    obtain ⟨k, rfl, hk, HI⟩ := hrel
    obtain rfl := HI.out.1
    by_cases hlt : k < path.length
    · have hki : (k : Int) < (path.length : Int) := by omega
      obtain ⟨g, rfl, c, hg⟩ := HAT.out k hlt
      have cw : wr.cell? ⟨g, k, none⟩ = some (.int .i64 (path[k] : Int)) := K0.out.cellS c
      have hgw : g < wr.heap.size := Nat.lt_of_lt_of_le hg K0.out.size
      clear c hg
      by_cases heq : path[k] = block
      · have heqb : ((path[k] : Int) == (block : Int)) = true := by rw [heq]; simp
        have HE : Hid (block ∈ path) := by show _ ∈ _; rw [← heq]; exact List.getElem_mem hlt
        go_wp2_with fail
        go_ret
        exact ⟨by rw [decide_eq_true HE.out]; rfl, K0.out⟩
      · have heqb : ((path[k] : Int) == (block : Int)) = false := by simp; omega
        have HE : Hid (block ∉ path.take (k + 1)) := by
          show ¬ _
          rw [List.take_succ_eq_append_getElem hlt, List.mem_append, List.mem_singleton]
          exact fun c => c.elim HI.out.2 fun e => heq e.symm
        go_wp2_with fail
        go_roundw
        case rel => exact ⟨k + 1, by go_num, by omega, trivial, HE.out⟩
        case measure => simp [intOf]; omega
    · have hki : ¬ (k : Int) < (path.length : Int) := by omega
      have HE : Hid (block ∉ path) := by
        have := HI.out.2
        rwa [List.take_of_length_le (by omega)] at this
      go_wp2_with fail
      go_ret
      exact ⟨by rw [decide_eq_false HE.out]; rfl, K0.out⟩
theorem OwnM.item {w : World} {base hi n cap : Nat} {ms : List Mk} {a : Option Addr} (h : OwnM w base hi ms (.slice a n cap)) (i : Nat) (hi' : i < ms.length) :
    ∃ g o a1 n1 q1 a2 n2 q2 a3 n3 q3 a4 q4, a = some ⟨g, o, none⟩ ∧ w.cell? ⟨g, o + i * 13, none⟩ = some (.int .i64 ms[i].it.s.kind) ∧ w.cell? ⟨g, o + i * 13 + 1, none⟩ = some (.string ms[i].it.s.name) ∧ w.cell? ⟨g, o + i * 13 + 2, none⟩ = some (.string ms[i].it.s.other) ∧ w.cell? ⟨g, o + i * 13 + 3, none⟩ = some (.int .i64 ms[i].it.s.n) ∧ w.cell? ⟨g, o + i * 13 + 4, none⟩ = some (.int .i64 ms[i].it.s.e.kind) ∧ w.cell? ⟨g, o + i * 13 + 5, none⟩ = some (.int .i64 ms[i].it.s.e.n) ∧ w.cell? ⟨g, o + i * 13 + 6, none⟩ = some (.string ms[i].it.s.e.name) ∧ w.cell? ⟨g, o + i * 13 + 7, none⟩ = some (.slice a1 n1 q1) ∧ w.cell? ⟨g, o + i * 13 + 8, none⟩ = some (.slice a2 n2 q2) ∧ w.cell? ⟨g, o + i * 13 + 9, none⟩ = some (.slice a3 n3 q3) ∧ w.cell? ⟨g, o + i * 13 + 10, none⟩ = some (.complex .f64 ms[i].it.s.re ms[i].it.s.im) ∧ w.cell? ⟨g, o + i * 13 + 11, none⟩ = some (.slice a4 ms[i].path.length q4) ∧ w.cell? ⟨g, o + i * 13 + 12, none⟩ = some (.int .i64 (ms[i].thr : Int)) ∧ g < w.heap.size ∧ w.ownsRow base 3 1 (.slice a4 ms[i].path.length q4) ms[i].path.length (ints ms[i].path) := by
  obtain ⟨g, cap', e, h1, h2⟩ := h.row.form (by omega)
  have hr := h.row
  rw [e] at hr
  injection e with e1 e2 e3
  subst e1 e2
  have hm := h.kids ms[i] (List.getElem_mem hi')
  obtain ⟨a1, n1, q1, f1⟩ := hm.it.e.form
  obtain ⟨a2, n2, q2, f2⟩ := hm.it.b.form
  obtain ⟨a3, n3, q3, f3⟩ := hm.it.l.form
  obtain ⟨a4, q4, f4, -⟩ := own_slice hm.row
  have hrow := hm.row
  rw [f4] at hrow
  have hc : ∀ r, r < 13 → w.cell? ⟨g, 0 + i * 13 + r, none⟩ = ms[i].cells[r]? := fun r hr' => by
    rw [Nat.zero_add, hr.cellAt (i * 13 + r) (by omega), mkCells_get ms i hi' r hr']
  have hcs : ms[i].cells = [.int .i64 ms[i].it.s.kind, .string ms[i].it.s.name, .string ms[i].it.s.other, .int .i64 ms[i].it.s.n, .int .i64 ms[i].it.s.e.kind, .int .i64 ms[i].it.s.e.n, .string ms[i].it.s.e.name, .slice a1 n1 q1, .slice a2 n2 q2, .slice a3 n3 q3, .complex .f64 ms[i].it.s.re ms[i].it.s.im, .slice a4 ms[i].path.length q4, .int .i64 (ms[i].thr : Int)] := by
    unfold Mk.cells Item.cells
    rw [f1, f2, f3, f4]; rfl
  rw [hcs] at hc
  exact ⟨g, 0, a1, n1, q1, a2, n2, q2, a3, n3, q3, a4, q4, rfl, hc 0 (by omega), hc 1 (by omega), hc 2 (by omega), hc 3 (by omega), hc 4 (by omega), hc 5 (by omega), hc 6 (by omega), hc 7 (by omega), hc 8 (by omega), hc 9 (by omega), hc 10 (by omega), hc 11 (by omega), hc 12 (by omega), h2, hrow⟩
end Go.Proofs.Ytnfkjmafhaecgaa
