/- Jn -/
import Derived.Test.YtnfkjmafhaecgaaYJm
import Derived.Deep.LoopGhost

namespace Go.Proofs.Ytnfkjmafhaecgaa
open Go.RowKit Jf Go.Maps Go.WideMaps
attribute [local go_sem] run_store_complex
def fThr (l : List Sp) : ByteArray → Option Value := fun x => (lastThr l x).map fun n => Value.int .i64 (n : Int)
theorem fThr_put (l : List Sp) (s : Sp) (h : s.lab = true) : (fun x => if x = s.name then some (Value.int .i64 (s.thr : Int)) else fThr l x) = fThr (l ++ [s]) := by
  funext x
  unfold fThr
  rw [lastThr_snoc]
  by_cases hx : x = s.name
  · rw [if_pos hx, if_pos ⟨h, hx.symm⟩]; rfl
  · rw [if_neg hx, if_neg (fun e => hx e.2.symm)]
theorem fThr_not (l : List Sp) (s : Sp) (h : s.lab = false) : fThr (l ++ [s]) = fThr l := by
  funext x
  unfold fThr
  rw [lastThr_snoc, if_neg (fun e => by rw [h] at e; cases e.1)]
theorem run_make0 (t : TypeId) (w : World) : (Instr.makeMap t none).run Try.prog w = .ok (.map (some w.heap.size)) (w.alloc (.map #[] 0)) := by
  simp [Instr.makeMap, Result.andThen]
set_option maxRecDepth 100000 in
set_option maxHeartbeats 1000000 in
theorem firstTwice_any (l : List Sp) (w : World) (lv : Value) (h : JsD w l lv) (hs : l.Pairwise fun a b => a.thr ≤ b.thr) (hnm : ∀ x ∈ l, x.name.size ≤ maxLen) (hl : l.length ≤ 1073741824) : Calls Try.prog 31 #[lv] w fun e w' => e = .returned (.int .i64 (ftw [] l : Int)) ∧ Kept w w' := by
  have HJ : Hid (JsD w l lv) := h
  have HS : Hid (l.Pairwise fun a b => a.thr ≤ b.thr) := hs
  have HNM : Hid (∀ x ∈ l, x.name.size ≤ maxLen) := hnm
  obtain ⟨a, cap, rfl, -, -⟩ := h.open
  have hll : (l.length : Int) ≤ 1073741824 := by omega
  have hmk : ∀ W, (Instr.makeMap 84 none).run Try.prog W = .ok (.map (some W.heap.size)) (W.alloc (.map #[] 0)) := fun W => run_make0 _ W
  clear h hs hnm hl
  go_enter Try.func31, Try.ntmps31
  go_upto_region 2 with fail
  obtain ⟨W0, hW0⟩ : ∃ W, w.alloc (.map #[] 0) = W := ⟨_, rfl⟩
  obtain ⟨B, hB⟩ : ∃ B, w.heap.size = B := ⟨_, rfl⟩
  have HM0 : Hid (MF W0 B 0 (.int .i64 0) (fThr (l.take 0))) := by rw [← hW0, ← hB]; exact MF.made w _
  have K0 : Hid (Kept w W0) := by rw [← hW0]; exact (Kept.refl _).al _
  have HB : Hid (w.heap.size = B) := hB
  rw [hW0, hB]
  clear hW0 hB hmk
  go_wp2_with fail
  go_loopw [11] (fun i wr => ∃ k n : Nat, i = .int .i64 (k : Int) ∧ k ≤ l.length ∧ Hid (n ≤ k ∧ Kept w wr ∧ MF wr B n (.int .i64 0) (fThr (l.take k)) ∧ ftw [] l = ftw (l.take k) (l.drop k))) (fun i _ => l.length - (intOf i).toNat)
  case atStart => exact ⟨0, 0, rfl, Nat.zero_le _, Nat.le_refl _, K0.out, HM0.out, rfl⟩
  case round =>
    obtain ⟨k, n, rfl, hk, HI⟩ := hrel
    by_cases hlt : k < l.length
    · have hki : (k : Int) < (l.length : Int) := by omega
      obtain ⟨b, o, rfl, c0, c1, c2, c3, c4, c5, cl⟩ := (HJ.out.kept HI.out.2.1).item k hlt
      have hst : ftw [] l = if twice (l.take k) l[k] = true then k else ftw (l.take (k + 1)) (l.drop (k + 1)) := by rw [HI.out.2.2.2, ftw_step l k hlt]
      have hpw : (l.take k ++ [l[k]]).Pairwise fun a b => a.thr ≤ b.thr := by rw [← List.take_succ_eq_append_getElem hlt]; exact HS.out.sublist (List.take_sublist _ _)
      rw [twice_last hpw] at hst
      have hsz := HNM.out _ (List.getElem_mem hlt)
      have htk : l.take (k + 1) = l.take k ++ [l[k]] := List.take_succ_eq_append_getElem hlt
      have HTK : Hid (∀ s, l[k] = s → l.take (k + 1) = l.take k ++ [s]) := fun s e => by rw [htk, e]
      obtain ⟨x, hx⟩ : ∃ x, l[k] = x := ⟨_, rfl⟩
      rw [hx] at c0 c1 c2 c3 c4 c5 hst hsz
      have HTX : Hid (l.take (k + 1) = l.take k ++ [x]) := HTK.out x hx
      have HST : Hid _ := hst
      have HKW : Hid (Kept w wr) := HI.out.2.1
      have HNK : Hid (n ≤ k) := HI.out.1
      have HM : Hid (MF wr B n (.int .i64 0) (fThr (l.take k))) := HI.out.2.2.1
      clear hst hx HI hpw htk HTK
      cases hlab : x.lab with
      | false =>
        rw [hlab] at c0
        have HE : Hid (ftw [] l = ftw (l.take (k + 1)) (l.drop (k + 1))) := by show _ = _; rw [HST.out, hlab, if_neg (by simp)]
        have HM2 : Hid (fThr (l.take (k + 1)) = fThr (l.take k)) := by show _ = _; rw [HTX.out]; exact fThr_not _ _ hlab
        clear HST hlab hsz
        go_wp2_with fail
        go_roundw
        case rel => exact ⟨k + 1, n, by go_num, by omega, Nat.le_succ_of_le HNK.out, HKW.out.al _, by rw [HM2.out]; exact HM.out.kept ((Kept.refl _).al _), HE.out⟩
        case measure => simp [intOf]; omega
      | true =>
        rw [hlab] at c0
        have HLAB : Hid (x.lab = true) := hlab
        obtain ⟨W1, hW1⟩ : ∃ W, wr.alloc (.cells #[.bool true, .string x.name, .int .i64 (x.num : Int), .int .i64 (x.blk : Int), .int .i64 (x.thr : Int), .complex .f64 x.re x.im] 64) = W := ⟨_, rfl⟩
        have hk1 : Kept wr W1 := by rw [← hW1]; exact (Kept.refl _).al _
        have hm1 : MF W1 B n (.int .i64 0) (fThr (l.take k)) := HM.out.kept hk1
        have hlk := hm1.look Try.underlying84 (zeroI W1) x.name hsz
        obtain ⟨w3, hup, hm3, ht3⟩ := hm1.put Try.underlying84 x.name hsz (by have := HNK.out; unfold maxLen; omega) (.int .i64 (x.thr : Int))
        have HM3 : Hid (MF w3 B (n + 1) (.int .i64 0) (fThr (l.take (k + 1)))) := by
          rw [HTX.out, ← fThr_put _ _ hlab]; exact hm3
        have HK1 : Hid (Kept w W1) := HKW.out.then hk1
        have hk3 : Kept w w3 := HK1.out.grown ht3.grown HK1.out.size (fun j e => by injection e with e; have := HB.out; omega)
        have HK3 : Hid (Kept w w3) := hk3
        clear hsz hm1 hm3 ht3 hk1 hk3
        rw [← hW1] at hlk hup
        have HW1 : Hid _ := hW1
        clear hW1 hlab
        unfold fThr at hlk
        cases hth : lastThr (l.take k) x.name with
        | none =>
          rw [hth] at hlk
          have HE : Hid (ftw [] l = ftw (l.take (k + 1)) (l.drop (k + 1))) := by show _ = _; rw [HST.out, hth, if_neg (by simp)]
          clear HST hth
          have hlk : (Instr.lookup 84 (.map (some B)) (.string x.name) true).run Try.prog (wr.alloc (.cells #[.bool true, .string x.name, .int .i64 (x.num : Int), .int .i64 (x.blk : Int), .int .i64 (x.thr : Int), .complex .f64 x.re x.im] 64)) = .ok (.tuple #[.int .i64 0, .bool false]) (wr.alloc (.cells #[.bool true, .string x.name, .int .i64 (x.num : Int), .int .i64 (x.blk : Int), .int .i64 (x.thr : Int), .complex .f64 x.re x.im] 64)) := hlk
          go_wp2_with fail
          go_roundw
          case rel => exact ⟨k + 1, n + 1, by go_num, by omega, by have := HNK.out; omega, HK3.out, HM3.out, HE.out⟩
          case measure => simp [intOf]; omega
        | some q =>
          rw [hth] at hlk
          have hlk : (Instr.lookup 84 (.map (some B)) (.string x.name) true).run Try.prog (wr.alloc (.cells #[.bool true, .string x.name, .int .i64 (x.num : Int), .int .i64 (x.blk : Int), .int .i64 (x.thr : Int), .complex .f64 x.re x.im] 64)) = .ok (.tuple #[.int .i64 (q : Int), .bool true]) (wr.alloc (.cells #[.bool true, .string x.name, .int .i64 (x.num : Int), .int .i64 (x.blk : Int), .int .i64 (x.thr : Int), .complex .f64 x.re x.im] 64)) := hlk
          by_cases hq : q = x.thr
          · have HE : Hid (ftw [] l = k) := by show _ = _; rw [HST.out, hth, HLAB.out, if_pos (by simp [hq])]
            subst hq
            clear HST hth hup
            go_wp2_with fail
            go_ret
            exact ⟨by rw [HE.out]; rfl, by rw [HW1.out]; exact HK1.out⟩
          · have hqi : ((q : Int) == (x.thr : Int)) = false := by simp; omega
            have HE : Hid (ftw [] l = ftw (l.take (k + 1)) (l.drop (k + 1))) := by show _ = _; rw [HST.out, hth, if_neg (by simp [hq])]
            clear HST hth hq
            go_wp2_with fail
            go_roundw
            case rel => exact ⟨k + 1, n + 1, by go_num, by omega, by have := HNK.out; omega, HK3.out, HM3.out, HE.out⟩
            case measure => simp [intOf]; omega
    · have hki : ¬ (k : Int) < (l.length : Int) := by omega
      have HE : Hid (ftw [] l = l.length) := by show _ = _; rw [HI.out.2.2.2, List.drop_eq_nil_of_le (by omega), List.take_of_length_le (by omega)]; rfl
      have HK : Hid (Kept w wr) := HI.out.2.1
      go_wp2_with fail
      go_ret
      exact ⟨by rw [HE.out]; rfl, HK.out⟩
/-- Of the Labels of a name the one whose block begins first. -/
def widest : List Sp → ByteArray → Option Sp
  | [], _ => none
  | s :: r, x => if s.lab = true ∧ s.name = x then (match widest r x with
    | none => some s
    | some y => if s.blk < y.blk then some s else some y) else widest r x
theorem widest_cases (x : ByteArray) : ∀ l : List Sp, (widest l x = none ∧ ∀ y ∈ l, ¬ (y.lab = true ∧ y.name = x)) ∨ ∃ y, widest l x = some y ∧ y ∈ l ∧ y.lab = true ∧ y.name = x ∧ ∀ z ∈ l, z.lab = true → z.name = x → y.blk ≤ z.blk
  | [] => .inl ⟨rfl, fun _ h => by cases h⟩
  | s :: l => by
    by_cases hs : s.lab = true ∧ s.name = x
    · right
      rcases widest_cases x l with ⟨h1, h2⟩ | ⟨y, h1, h2, h3, h4, h5⟩
      · refine ⟨s, by rw [widest, if_pos hs, h1], List.mem_cons_self, hs.1, hs.2, fun z hz a b => ?_⟩
        rcases List.mem_cons.1 hz with rfl | hz
        · exact Nat.le_refl _
        · exact absurd ⟨a, b⟩ (h2 z hz)
      · by_cases hb : s.blk < y.blk
        · refine ⟨s, by rw [widest, if_pos hs, h1]; simp only [if_pos hb], List.mem_cons_self, hs.1, hs.2, fun z hz a b => ?_⟩
          rcases List.mem_cons.1 hz with rfl | hz
          · exact Nat.le_refl _
          · have := h5 z hz a b; omega
        · refine ⟨y, by rw [widest, if_pos hs, h1]; simp only [if_neg hb], List.mem_cons_of_mem _ h2, h3, h4, fun z hz a b => ?_⟩
          rcases List.mem_cons.1 hz with rfl | hz
          · omega
          · exact h5 z hz a b
    · rcases widest_cases x l with ⟨h1, h2⟩ | ⟨y, h1, h2, h3, h4, h5⟩
      · exact .inl ⟨by rw [widest, if_neg hs, h1], fun z hz => (List.mem_cons.1 hz).elim (fun e => e ▸ hs) (h2 z)⟩
      · refine .inr ⟨y, by rw [widest, if_neg hs, h1], List.mem_cons_of_mem _ h2, h3, h4, fun z hz a b => ?_⟩
        rcases List.mem_cons.1 hz with rfl | hz
        · exact absurd ⟨a, b⟩ hs
        · exact h5 z hz a b
theorem stgt_neg (s : Sp) : ∀ r : List Sp, stgt s r < 0 ↔ ∀ y ∈ r, ¬ (y.lab = true ∧ y.name = s.name ∧ y.blk ≤ s.num)
  | [] => by simp [stgt]
  | y :: r => by
    rw [stgt]
    by_cases h : y.lab = true ∧ y.name = s.name ∧ y.blk ≤ s.num
    · rw [if_pos h]
      exact ⟨fun c => by omega, fun c => absurd h (c y List.mem_cons_self)⟩
    · rw [if_neg h, stgt_neg s r]
      exact ⟨fun c z hz => (List.mem_cons.1 hz).elim (fun e => e ▸ h) (c z), fun c z hz => c z (List.mem_cons_of_mem _ hz)⟩
theorem lost_widest (s : Sp) (r : List Sp) : lost s r = (!s.lab && match widest r s.name with
    | none => true
    | some y => decide (¬ y.blk ≤ s.num)) := by
  unfold lost
  congr 1
  rcases widest_cases s.name r with ⟨h1, h2⟩ | ⟨y, h1, h2, h3, h4, h5⟩
  · rw [h1]
    simp only [decide_eq_true_eq]
    exact (stgt_neg s r).2 fun z hz c => h2 z hz ⟨c.1, c.2.1⟩
  · rw [h1]
    show _ = decide (¬ y.blk ≤ s.num)
    by_cases hb : y.blk ≤ s.num
    · rw [decide_eq_false (show ¬ ¬ y.blk ≤ s.num from fun c => c hb), decide_eq_false]
      intro c
      exact (stgt_neg s r).1 c y h2 ⟨h3, h4, hb⟩
    · rw [decide_eq_true (show ¬ y.blk ≤ s.num from hb), decide_eq_true]
      refine (stgt_neg s r).2 fun z hz c => hb ?_
      have := h5 z hz c.1 c.2.1
      omega
theorem flo_wid (l : List Sp) (k : Nat) (h : k < l.length) : flo k (l.drop k) = if (!l[k].lab && match widest (l.drop (k + 1)) l[k].name with
    | none => true
    | some y => decide (¬ y.blk ≤ l[k].num)) = true then k else flo (k + 1) (l.drop (k + 1)) := by rw [flo_step l k h, lost_widest]
def fWid (l : List Sp) : ByteArray → Option Value := fun x => (widest l x).map Sp.val
theorem fWid_put (s : Sp) (r : List Sp) (h : s.lab = true) (hw : ∀ y, widest r s.name = some y → s.blk < y.blk) : (fun x => if x = s.name then some s.val else fWid r x) = fWid (s :: r) := by
  funext x
  unfold fWid
  by_cases hx : x = s.name
  · subst hx
    rw [if_pos rfl, widest, if_pos ⟨h, rfl⟩]
    cases hc : widest r s.name with
    | none => rfl
    | some y => simp only [if_pos (hw y hc)]; rfl
  · rw [if_neg hx, widest, if_neg (fun e => hx e.2.symm)]
theorem fWid_not (s : Sp) (r : List Sp) (h : s.lab = true → ∃ y, widest r s.name = some y ∧ ¬ s.blk < y.blk) : fWid (s :: r) = fWid r := by
  funext x
  unfold fWid
  rw [widest]
  by_cases hx : s.lab = true ∧ s.name = x
  · obtain ⟨y, h1, h2⟩ := h hx.1
    rw [if_pos hx, ← hx.2, h1]; simp only [if_neg h2]
  · rw [if_neg hx]
def sp0v : Value := .agg #[.bool false, .string ⟨#[]⟩, .int .i64 0, .int .i64 0, .int .i64 0, .complex .f64 0 0]
theorem zeroJ (w : World) : (zeroValue 64).run Try.prog w = .ok sp0v w := by kernel_rfl
set_option maxRecDepth 100000 in
set_option maxHeartbeats 1000000 in
theorem firstLost_any (l : List Sp) (w : World) (lv : Value) (h : JsD w l lv) (hnm : ∀ x ∈ l, x.name.size ≤ maxLen) (hl : l.length ≤ 1073741824) : Calls Try.prog 32 #[lv] w fun e w' => e = .returned (.int .i64 (flo 0 l : Int)) ∧ Kept w w' := by
  have HJ : Hid (JsD w l lv) := h
  have HNM : Hid (∀ x ∈ l, x.name.size ≤ maxLen) := hnm
  obtain ⟨a, cap, rfl, -, -⟩ := h.open
  have hll : (l.length : Int) ≤ 1073741824 := by omega
  have hmk : ∀ W, (Instr.makeMap 86 none).run Try.prog W = .ok (.map (some W.heap.size)) (W.alloc (.map #[] 0)) := fun W => run_make0 _ W
  have hw0 : IntKind.i64.wrap ((l.length : Int) - 1) = (l.length : Int) - 1 := by rw [IntKind.wrap_i64]; omega
  have SE : Hid (∀ (s x : Sp) (W : World), Calls Try.prog 44 #[.agg #[.bool s.lab, .string s.name, .int .i64 (s.num : Int), .int .i64 (s.blk : Int), .int .i64 (s.thr : Int), .complex .f64 s.re s.im], .agg #[.bool x.lab, .string x.name, .int .i64 (x.num : Int), .int .i64 (x.blk : Int), .int .i64 (x.thr : Int), .complex .f64 x.re x.im]] W fun e w' => e = .returned (.bool (decide (x.blk ≤ s.num))) ∧ Kept W w') := fun s x W => sees_any s x W
  clear h hnm hl
  go_enter Try.func32, Try.ntmps32
  go_upto_region 3 with fail
  obtain ⟨W0, hW0⟩ : ∃ W, w.alloc (.map #[] 0) = W := ⟨_, rfl⟩
  obtain ⟨B, hB⟩ : ∃ B, w.heap.size = B := ⟨_, rfl⟩
  have HM0 : Hid (MF W0 B 0 sp0v (fWid (l.drop l.length))) := by
    have h0 : fWid (l.drop l.length) = fun _ => none := by rw [List.drop_length]; rfl
    rw [← hW0, ← hB, h0]; exact MF.made w _
  have K0 : Hid (Kept w W0) := by rw [← hW0]; exact (Kept.refl _).al _
  have HB : Hid (w.heap.size = B) := hB
  rw [hW0, hB]
  clear hW0 hB hmk
  go_wp2_with fail
  go_loopw [3, 5] (fun fv i wr => ∃ j n : Nat, i = .int .i64 ((j : Int) - 1) ∧ j ≤ l.length ∧ fv = .int .i64 (flo j (l.drop j) : Int) ∧ Hid (n + j ≤ l.length ∧ Kept w wr ∧ MF wr B n sp0v (fWid (l.drop j)))) (fun _ i _ => (intOf i + 1).toNat)
  case atStart => exact ⟨l.length, 0, rfl, Nat.le_refl _, by rw [List.drop_length]; rfl, by omega, K0.out, HM0.out⟩
  case round =>
    obtain ⟨j, n, rfl, hj, rfl, HI⟩ := hrel
    cases j with
    | zero =>
      have HK : Hid (Kept w wr) := HI.out.2.1
      rw [show (((0 : Nat) : Int) - 1) = -1 by rfl, List.drop_zero]
      go_wp2_with fail
      go_ret
      exact ⟨rfl, HK.out⟩
    | succ k =>
      rw [show (((k + 1 : Nat) : Int) - 1) = (k : Int) by omega]
      have hlt : k < l.length := hj
      have hki : (k : Int) < (l.length : Int) := by omega
      have hk0 : (0 : Int) ≤ (k : Int) := by omega
      obtain ⟨b, o, rfl, c0, c1, c2, c3, c4, c5, cl⟩ := (HJ.out.kept HI.out.2.1).item k hlt
      have hst := flo_wid l k hlt
      have hsz := HNM.out _ (List.getElem_mem hlt)
      have hdr : l.drop k = l[k] :: l.drop (k + 1) := List.drop_eq_getElem_cons hlt
      have HDR : Hid (∀ s, l[k] = s → l.drop k = s :: l.drop (k + 1)) := fun s e => by rw [hdr, e]
      obtain ⟨x, hx⟩ : ∃ x, l[k] = x := ⟨_, rfl⟩
      rw [hx] at c0 c1 c2 c3 c4 c5 hst hsz
      have HDX : Hid (l.drop k = x :: l.drop (k + 1)) := HDR.out x hx
      have HST : Hid _ := hst
      have HKW : Hid (Kept w wr) := HI.out.2.1
      have HNK : Hid (n + (k + 1) ≤ l.length) := HI.out.1
      have HM : Hid (MF wr B n sp0v (fWid (l.drop (k + 1)))) := HI.out.2.2
      have hwm : IntKind.i64.wrap ((k : Int) - 1) = (k : Int) - 1 := by rw [IntKind.wrap_i64]; omega
      clear hst hx HI hdr HDR
      obtain ⟨W1, hW1⟩ : ∃ W, wr.alloc (.cells #[.bool x.lab, .string x.name, .int .i64 (x.num : Int), .int .i64 (x.blk : Int), .int .i64 (x.thr : Int), .complex .f64 x.re x.im] 64) = W := ⟨_, rfl⟩
      have hk1 : Kept wr W1 := by rw [← hW1]; exact (Kept.refl _).al _
      have hm1 : MF W1 B n sp0v (fWid (l.drop (k + 1))) := HM.out.kept hk1
      have hlk := hm1.look Try.underlying86 (zeroJ W1) x.name hsz
      have HSZ : Hid (x.name.size ≤ maxLen) := hsz
      have HK1 : Hid (Kept w W1) := HKW.out.then hk1
      have HM1 : Hid (MF W1 B n sp0v (fWid (l.drop (k + 1)))) := hm1
      obtain ⟨D, hD⟩ : ∃ D, wr.heap.size = D := ⟨_, rfl⟩
      have HD : Hid (BoxS W1 D [.bool x.lab, .string x.name, .int .i64 (x.num : Int), .int .i64 (x.blk : Int), .int .i64 (x.thr : Int), .complex .f64 x.re x.im]) := by rw [← hW1, ← hD]; exact box_newQ _ _ _
      have HW1 : Hid _ := And.intro hW1 hD
      clear hsz hm1 hk1 hW1 hD
      unfold fWid at hlk
      go_upto_region 7 with fail
      rw [HW1.out.1, HW1.out.2]
      clear c0 c1 c2 c3 c4 c5 cl HW1
      have bd := HD.out
      have d0 := bd.cell 0 rfl
      have d1 := bd.cell 1 rfl
      have d2 := bd.cell 2 rfl
      have d3 := bd.cell 3 rfl
      have d4 := bd.cell 4 rfl
      have d5 := bd.cell 5 rfl
      have dl := bd.lt
      clear bd
      cases hlab : x.lab with
      | true =>
        rw [hlab] at d0
        have HLAB : Hid (x.lab = true) := hlab
        have HE : Hid (flo k (l.drop k) = flo (k + 1) (l.drop (k + 1))) := by show _ = _; rw [HST.out, hlab, if_neg (by simp)]
        clear HST hlab
        cases hth : widest (l.drop (k + 1)) x.name with
        | none =>
          rw [hth] at hlk
          replace hlk : (Instr.lookup 86 (.map (some B)) (.string x.name) true).run Try.prog W1 = .ok (.tuple #[.agg #[.bool false, .string ⟨#[]⟩, .int .i64 0, .int .i64 0, .int .i64 0, .complex .f64 0 0], .bool false]) W1 := hlk
          obtain ⟨w3, hup, hm3, ht3⟩ := (HM1.out.kept ((Kept.refl W1).al (.cells #[.bool false, .string ⟨#[]⟩, .int .i64 0, .int .i64 0, .int .i64 0, .complex .f64 0 0] 64))).put Try.underlying86 x.name HSZ.out (by have := HNK.out; unfold maxLen; omega) (.agg #[.bool true, .string x.name, .int .i64 (x.num : Int), .int .i64 (x.blk : Int), .int .i64 (x.thr : Int), .complex .f64 x.re x.im])
          have hxv : x.val = .agg #[.bool true, .string x.name, .int .i64 (x.num : Int), .int .i64 (x.blk : Int), .int .i64 (x.thr : Int), .complex .f64 x.re x.im] := by unfold Sp.val; rw [HLAB.out]
          have HM3 : Hid (MF w3 B (n + 1) sp0v (fWid (l.drop k))) := by
            rw [HDX.out, ← fWid_put x _ HLAB.out (fun y c => by rw [hth] at c; cases c), hxv]; exact hm3
          have hk3 : Kept w w3 := (HK1.out.al _).grown ht3.grown (by have := HK1.out.size; simp; omega) (fun j e => by injection e with e; have := HB.out; omega)
          have HK3 : Hid (Kept w w3) := hk3
          clear hm3 ht3 hk3 hxv
          clear hth
          go_wp2_with fail
          go_roundw
          case rel => exact ⟨k, n + 1, by first | rfl | go_num, Nat.le_of_lt hlt, by rw [HE.out], by have := HNK.out; omega, HK3.out, HM3.out⟩
          case measure => simp [intOf]
        | some y =>
          rw [hth] at hlk
          replace hlk : (Instr.lookup 86 (.map (some B)) (.string x.name) true).run Try.prog W1 = .ok (.tuple #[.agg #[.bool y.lab, .string y.name, .int .i64 (y.num : Int), .int .i64 (y.blk : Int), .int .i64 (y.thr : Int), .complex .f64 y.re y.im], .bool true]) W1 := hlk
          by_cases hb : x.blk < y.blk
          · have hbi : (x.blk : Int) < (y.blk : Int) := by omega
            obtain ⟨w3, hup, hm3, ht3⟩ := (HM1.out.kept ((Kept.refl W1).al (.cells #[.bool y.lab, .string y.name, .int .i64 (y.num : Int), .int .i64 (y.blk : Int), .int .i64 (y.thr : Int), .complex .f64 y.re y.im] 64))).put Try.underlying86 x.name HSZ.out (by have := HNK.out; unfold maxLen; omega) (.agg #[.bool true, .string x.name, .int .i64 (x.num : Int), .int .i64 (x.blk : Int), .int .i64 (x.thr : Int), .complex .f64 x.re x.im])
            have hxv : x.val = .agg #[.bool true, .string x.name, .int .i64 (x.num : Int), .int .i64 (x.blk : Int), .int .i64 (x.thr : Int), .complex .f64 x.re x.im] := by unfold Sp.val; rw [HLAB.out]
            have HM3 : Hid (MF w3 B (n + 1) sp0v (fWid (l.drop k))) := by
              rw [HDX.out, ← fWid_put x _ HLAB.out (fun z c => by rw [hth] at c; injection c with c; rw [← c]; exact hb), hxv]; exact hm3
            have hk3 : Kept w w3 := (HK1.out.al _).grown ht3.grown (by have := HK1.out.size; simp; omega) (fun j e => by injection e with e; have := HB.out; omega)
            have HK3 : Hid (Kept w w3) := hk3
            clear hm3 ht3 hk3 hxv
            clear hth
            go_wp2_with fail
            go_roundw
            case rel => exact ⟨k, n + 1, by first | rfl | go_num, Nat.le_of_lt hlt, by rw [HE.out], by have := HNK.out; omega, HK3.out, HM3.out⟩
            case measure => simp [intOf]
          · have hbi : decide ((x.blk : Int) < (y.blk : Int)) = false := decide_eq_false (by omega)
            have hbn : decide (x.blk < y.blk) = false := decide_eq_false hb
            have HN0 : Hid (fWid (l.drop k) = fWid (l.drop (k + 1))) := by show _ = _; rw [HDX.out]; exact fWid_not x _ fun _ => ⟨y, hth, hb⟩
            clear hth hb
            go_wp2_with fail
            go_roundw
            case rel => exact ⟨k, n, by first | rfl | go_num, Nat.le_of_lt hlt, by rw [HE.out], by have := HNK.out; omega, HK1.out.al _, by rw [HN0.out]; exact HM1.out.kept ((Kept.refl _).al _)⟩
            case measure => simp [intOf]
      | false =>
        rw [hlab] at d0
        have HLAB : Hid (x.lab = false) := hlab
        have HN0 : Hid (fWid (l.drop k) = fWid (l.drop (k + 1))) := by show _ = _; rw [HDX.out]; exact fWid_not x _ fun c => by rw [hlab] at c; cases c
        clear hlab
        cases hth : widest (l.drop (k + 1)) x.name with
        | none =>
          rw [hth] at hlk
          replace hlk : (Instr.lookup 86 (.map (some B)) (.string x.name) true).run Try.prog W1 = .ok (.tuple #[.agg #[.bool false, .string ⟨#[]⟩, .int .i64 0, .int .i64 0, .int .i64 0, .complex .f64 0 0], .bool false]) W1 := hlk
          have HE : Hid (flo k (l.drop k) = k) := by show _ = _; rw [HST.out, HLAB.out, hth, if_pos (by simp)]
          clear HST hth
          go_wp2_with fail
          go_roundw
          case rel => exact ⟨k, n, by first | rfl | go_num, Nat.le_of_lt hlt, by rw [HE.out], by have := HNK.out; omega, HK1.out.al _, by rw [HN0.out]; exact HM1.out.kept ((Kept.refl _).al _)⟩
          case measure => simp [intOf]
        | some y =>
          rw [hth] at hlk
          replace hlk : (Instr.lookup 86 (.map (some B)) (.string x.name) true).run Try.prog W1 = .ok (.tuple #[.agg #[.bool y.lab, .string y.name, .int .i64 (y.num : Int), .int .i64 (y.blk : Int), .int .i64 (y.thr : Int), .complex .f64 y.re y.im], .bool true]) W1 := hlk
          have SX := SE.out x y
          rw [HLAB.out] at SX
          have SX : Hid _ := SX
          by_cases hb : y.blk ≤ x.num
          all_goals
            have HE : Hid (flo k (l.drop k) = if decide (y.blk ≤ x.num) = true then flo (k + 1) (l.drop (k + 1)) else k) := by
              show _ = _
              rw [HST.out, HLAB.out, hth]
              by_cases hc : y.blk ≤ x.num <;> simp [hc]
          · have SX2 : Hid (∀ W, Calls Try.prog 44 #[.agg #[.bool false, .string x.name, .int .i64 (x.num : Int), .int .i64 (x.blk : Int), .int .i64 (x.thr : Int), .complex .f64 x.re x.im], .agg #[.bool y.lab, .string y.name, .int .i64 (y.num : Int), .int .i64 (y.blk : Int), .int .i64 (y.thr : Int), .complex .f64 y.re y.im]] W fun e w' => e = .returned (.bool true) ∧ Kept W w') := fun W => by have := SX.out W; rwa [decide_eq_true hb] at this
            rw [if_pos (decide_eq_true hb)] at HE
            clear HST hth hb SX
            go_wp2_with fail
            refine (SX2.out _).mono ?_
            rintro e w5 ⟨rfl, k5⟩
            have HK5 : Hid (Kept W1 w5) := ((Kept.refl W1).al _).then k5
            clear k5
            go_wp2_with fail
            go_roundw
            case rel => exact ⟨k, n, by first | rfl | go_num, Nat.le_of_lt hlt, by rw [HE.out], by have := HNK.out; omega, HK1.out.then HK5.out, by rw [HN0.out]; exact HM1.out.kept HK5.out⟩
            case measure => simp [intOf]
          · have SX2 : Hid (∀ W, Calls Try.prog 44 #[.agg #[.bool false, .string x.name, .int .i64 (x.num : Int), .int .i64 (x.blk : Int), .int .i64 (x.thr : Int), .complex .f64 x.re x.im], .agg #[.bool y.lab, .string y.name, .int .i64 (y.num : Int), .int .i64 (y.blk : Int), .int .i64 (y.thr : Int), .complex .f64 y.re y.im]] W fun e w' => e = .returned (.bool false) ∧ Kept W w') := fun W => by have := SX.out W; rwa [decide_eq_false hb] at this
            rw [if_neg (by simpa using hb)] at HE
            clear HST hth hb SX
            go_wp2_with fail
            refine (SX2.out _).mono ?_
            rintro e w5 ⟨rfl, k5⟩
            have HK5 : Hid (Kept W1 w5) := ((Kept.refl W1).al _).then k5
            clear k5
            go_wp2_with fail
            go_roundw
            case rel => exact ⟨k, n, by first | rfl | go_num, Nat.le_of_lt hlt, by rw [HE.out], by have := HNK.out; omega, HK1.out.then HK5.out, by rw [HN0.out]; exact HM1.out.kept HK5.out⟩
            case measure => simp [intOf]
end Go.Proofs.Ytnfkjmafhaecgaa
