/- Bg -/
import Derived.Test.YtnfkjmafhaecgaaZBe
import Derived.Test.YtnfkjmafhaecgaaZBf

namespace Go.Proofs.Ytnfkjmafhaecgaa
open Go.RowKit Bn
attribute [local go_sem] run_store_complex
namespace Bn
def nums (l : List Nat) : List Value := l.map fun i : Nat => Value.int .i64 (i : Int)
/-- The threads' sizes. -/
def szs (t : List (List St)) : List Nat := t.map fun l => cap (sns l)
theorem szs_len (t : List (List St)) : (szs t).length = t.length := List.length_map ..
theorem szs_get (t : List (List St)) (i : Nat) (h : i < (szs t).length) : (szs t)[i] = cap (sns (t[i]'(by rw [szs_len] at h; exact h))) := by simp [szs]
theorem szs_take (t : List (List St)) (k : Nat) (h : k < t.length) : szs (t.take (k + 1)) = szs (t.take k) ++ [cap (sns t[k])] := by
  unfold szs; rw [List.take_succ_eq_append_getElem h, List.map_append]; rfl
theorem nums_len (l : List Nat) : (nums l).length = l.length := List.length_map ..
theorem nums_app (l m : List Nat) : nums (l ++ m) = nums l ++ nums m := List.map_append ..
/-- Numbers that have been told up to k. -/
def upto (l : List Nat) (k : Nat) : List Nat := l.take k ++ List.replicate (l.length - k) 0
theorem upto_len (l : List Nat) (k : Nat) (h : k ≤ l.length) : (upto l k).length = l.length := by
  unfold upto; rw [List.length_append, List.length_replicate, List.length_take]; omega
theorem upto_zero (l : List Nat) : upto l 0 = List.replicate l.length 0 := rfl
theorem upto_all (l : List Nat) : upto l l.length = l := by simp [upto]
theorem upto_set (l : List Nat) (k : Nat) (h : k < l.length) : (nums (upto l k)).set k (.int .i64 (l[k] : Int)) = nums (upto l (k + 1)) := by
  unfold nums
  rw [← List.map_set (f := fun i : Nat => Value.int .i64 (i : Int)) (a := l[k])]
  congr 1
  unfold upto
  rw [List.set_append_right _ _ (by rw [List.length_take]; omega), List.length_take, Nat.min_eq_left (by omega), Nat.sub_self, List.take_succ_eq_append_getElem h, List.append_assoc]
  congr 1
  rw [show l.length - k = (l.length - (k + 1)) + 1 by omega, List.replicate_succ, List.set_cons_zero]
  rfl
end Bn
/-- Numbers that were told: a row, to be read. -/
structure NumsR (w w' : World) (l : List Nat) (a : Option Addr) (cap : Nat) : Prop where
  le : l.length ≤ cap
  big : cap ≤ 9223372036854775807
  kept : Kept w w'
  at_ : ∀ i (h : i < l.length), ∃ g, a = some ⟨g, 0, none⟩ ∧ w'.cell? ⟨g, i, none⟩ = some (.int .i64 (l[i] : Int))
theorem nums_at {w w' : World} {base : Nat} {v : Value} {l : List Nat} (h : w'.ownsRow base 3 1 v l.length (nums l)) (k : Kept w w') : ∃ a cap, v = .slice a l.length cap ∧ NumsR w w' l a cap := by
  obtain ⟨a, cap, rfl, hs⟩ := own_slice h
  refine ⟨a, cap, rfl, hs.le, hs.big, k, fun i hi => ?_⟩
  rcases h.2 with ⟨e, h0⟩ | ⟨g, cap', cur, e, _, _, _, _, _, _⟩
  · omega
  · injection e with e1 e2 e3
    subst e1 e3
    refine ⟨g, rfl, ?_⟩
    rw [h.cellAt i (by omega)]
    simp [nums, hi]
theorem NumsR.up {w w' W : World} {l : List Nat} {a : Option Addr} {cap : Nat} (h : NumsR w w' l a cap) (k : Kept w' W) : NumsR w W l a cap :=
  ⟨h.le, h.big, h.kept.then k, fun i hi => by obtain ⟨g, e, hc⟩ := h.at_ i hi; exact ⟨g, e, k.cellS hc⟩⟩
theorem binfo_of {t : TypeId} {z : Option Value} {s b : Nat} (h : (Try.prog.info? t).map (fun i => (i.zero, i.size, i.bytes)) = some (z, s, b)) : ∃ i, Try.prog.info? t = some i ∧ i.zero = z ∧ i.size = s ∧ i.bytes = b := by
  cases hi : Try.prog.info? t with
  | none => rw [hi] at h; cases h
  | some i => rw [hi] at h; simp at h; exact ⟨i, rfl, h.1, h.2.1, h.2.2⟩
theorem made_nums (n : Nat) : madeCells #[Value.int .i64 0] (n * 1) = (nums (List.replicate n 0)).toArray := by
  rw [Nat.mul_one]
  unfold madeCells nums
  apply Array.ext
  · simp
  · intro i h1 h2
    simp only [Array.getElem_map, Array.getElem_range, List.getElem_toArray, List.getElem_map, List.getElem_replicate]
    have e : i % (#[Value.int .i64 0] : Array Value).size = 0 := Nat.mod_one i
    rw [e]
    rfl
theorem make_nums (n : Nat) (hn : n ≤ 10000000) (w : World) :
    (Instr.makeSlice 22 (.int .i64 (n : Int)) (.int .i64 (n : Int))).run Try.prog w = .ok (.slice (some ⟨w.heap.size, 0, none⟩) n n) (w.alloc (.cells (nums (List.replicate n 0)).toArray 3)) := by
  obtain ⟨i, h1, h2, h3, h4⟩ := binfo_of (t := 3) (z := some (.int .i64 0)) (s := 1) (b := 8) (by kernel_rfl)
  have := run_makeSlice (P := Try.prog) w 22 3 i (.int .i64 0) Try.underlying22 h1 h2 .i64 .i64 n n (by omega) (by omega) (by simp [h3]; omega) (by rw [h4]; omega) (by omega)
  rw [this, Int.toNat_natCast, h3, show (Value.int .i64 0).cells = #[Value.int .i64 0] from rfl, made_nums]
set_option maxRecDepth 100000 in
set_option maxHeartbeats 2000000 in
/-- What bound.Size tells of p. -/
theorem bsize_any (t : List (List St)) (ht : t.length ≤ 1000000) (hn : ∀ l ∈ t, NumL l) (w : World) (a1 a2 : Option Addr) (n1 q1 n2 q2 : Nat) (hT : TsIn w 0 w.heap.size t (.slice a2 n2 q2)) :
    Calls Try.prog 18 #[.agg #[.slice a1 n1 q1, .slice a2 n2 q2]] w fun r w' => ∃ a cap, r = .returned (.slice a (szs t).length cap) ∧ NumsR w w' (szs t) a cap := by
  have HT : Hid _ := hT
  have HN : Hid (∀ l ∈ t, NumL l) := hn
  obtain ⟨a, c, e, hl, hl2, hcap⟩ := hT.open
  cases e
  clear hT hn
  go_enter Try.func18, Try.ntmps18
  have hmk := make_nums t.length (by omega) (w.alloc (.cells #[.slice a1 n1 q1, .slice a2 t.length q2] 27))
  rw [World.size_alloc] at hmk
  have hs1 : (w.alloc (.cells #[.slice a1 n1 q1, .slice a2 t.length q2] 27)).heap.size = w.heap.size + 1 := World.size_alloc ..
  go_wp2_with fail
  obtain ⟨H, hH⟩ : ∃ H, w.heap.size + 1 = H := ⟨_, rfl⟩
  have HO0 : Hid (((w.alloc (.cells #[.slice a1 n1 q1, .slice a2 t.length q2] 27)).alloc (.cells (nums (List.replicate t.length 0)).toArray 3)).ownsRow w.heap.size 3 1 (.slice (some ⟨H, 0, none⟩) t.length t.length) t.length (nums (upto (szs t) 0))) := by
    have := World.ownsRow_lit (base := w.heap.size) (e := 3) (size := 1) (w.alloc (.cells #[.slice a1 n1 q1, .slice a2 t.length q2] 27)) (nums (List.replicate t.length 0)).toArray t.length (by rw [hs1]; omega) (by unfold maxLen; omega) (by simp [nums])
    rw [hs1, hH] at this
    rw [upto_zero, szs_len]
    exact this
  have HK0 : Hid (Kept w ((w.alloc (.cells #[.slice a1 n1 q1, .slice a2 t.length q2] 27)).alloc (.cells (nums (List.replicate t.length 0)).toArray 3))) := ((Kept.refl w).al _).al _
  rw [hH]
  clear hmk hs1
  obtain ⟨W0, hW0⟩ : ∃ W0, (w.alloc (.cells #[.slice a1 n1 q1, .slice a2 t.length q2] 27)).alloc (.cells (nums (List.replicate t.length 0)).toArray 3) = W0 := ⟨_, rfl⟩
  rw [hW0] at HO0 HK0 ⊢
  clear hW0
  go_loopw [13] (fun i wr => ∃ k : Nat, i = .int .i64 (k : Int) ∧ k ≤ t.length ∧ Hid (wr.ownsRow w.heap.size 3 1 (.slice (some ⟨H, 0, none⟩) t.length t.length) t.length (nums (upto (szs t) k)) ∧ Kept w wr)) (fun i _ => t.length - (intOf i).toNat)
  case atStart => exact ⟨0, rfl, Nat.zero_le _, HO0.out, HK0.out⟩
  case round =>
    obtain ⟨k, rfl, hk, HI⟩ := hrel
    by_cases hlt : k < t.length
    · have hki : (k : Int) < (t.length : Int) := by omega
      have hz := HI.out.2.size
      obtain ⟨b, o, a3, n3, q3, rfl, _, hb, _, c0, k1⟩ := HT.out.item (HI.out.2.stays (Nat.le_refl _)) k hlt
      have hzb : b < wr.heap.size := by omega
      have G : Hid (∀ W, Kept wr W → Calls Try.prog 38 #[.slice a3 n3 q3] W fun r w' => r = .returned (.int .i64 (cap (sns t[k]) : Int)) ∧ Kept W w') :=
        fun W hW => bblock_any t[k] W _ (k1.up hz hW) (HN.out _ (List.getElem_mem hlt))
      clear k1
      go_wp2_with fail
      refine (G.out _ (Kept.refl wr)).mono ?_
      rintro r w6 ⟨rfl, kw⟩
      have HO6 : Hid (w6.ownsRow w.heap.size 3 1 (.slice (some ⟨H, 0, none⟩) t.length t.length) t.length (nums (upto (szs t) k))) := HI.out.1.kept (Grow.kept (.slice none 0 0) kw).grown (by simp [Value.ownBlock])
      have HK6 : Hid (Kept w w6) := HI.out.2.then kw
      have cH : w6.cell? ⟨H, k, none⟩ = (nums (upto (szs t) k))[k]? := HO6.out.cellAt k (by omega)
      have hul := upto_len (szs t) k (by rw [szs_len]; exact hk)
      rw [List.getElem?_eq_getElem (by rw [nums_len, hul, szs_len]; exact hlt)] at cH
      obtain ⟨u, cH⟩ : ∃ u, w6.cell? ⟨H, k, none⟩ = some u := ⟨_, cH⟩
      have fH : w6.frozen? ⟨H, k, none⟩ = false := HO6.out.frozenAt k
      have hHb : w.heap.size ≤ H ∧ H < w6.heap.size := HO6.out.lt H rfl
      have HS : Hid ((nums (upto (szs t) k)).set k (.int .i64 (cap (sns t[k]) : Int)) = nums (upto (szs t) (k + 1))) := by
        have := upto_set (szs t) k (by rw [szs_len]; exact hlt)
        rw [szs_get] at this
        exact this
      clear kw c0
      go_wp2_with fail
      go_roundw
      case rel =>
        refine ⟨k + 1, by go_num, by omega, ?_, ?_⟩
        · rw [← HS.out]; exact (HO6.out.stored k _).1
        · exact Below.setCells HK6.out hHb.1 [.int .i64 (cap (sns t[k]) : Int)] k
      case measure => simp [intOf]; omega
    · have hki : ¬ (k : Int) < (t.length : Int) := by omega
      obtain rfl : k = t.length := by omega
      have HM : Hid (∃ a cap, Value.slice (some ⟨H, 0, none⟩) t.length t.length = .slice a (szs t).length cap ∧ NumsR w wr (szs t) a cap) := by
        have h1 := HI.out.1
        have e := upto_all (szs t)
        rw [szs_len] at e
        rw [e] at h1
        have hsl := szs_len t
        refine nums_at (base := w.heap.size) ?_ HI.out.2
        rw [hsl]; exact h1
      go_wp2_with fail
      go_ret
      obtain ⟨a, cp, e, hr⟩ := HM.out
      exact ⟨a, cp, by rw [← e]; rfl, hr⟩
set_option maxRecDepth 100000 in
set_option maxHeartbeats 2000000 in
/-- What the document's Size tells of p. -/
theorem rsizes_any (t : List (List St)) (ht : t.length ≤ 1000000) (hn : ∀ l ∈ t, NumL l) (w : World) (a1 a2 : Option Addr) (n1 q1 n2 q2 : Nat) (hT : TsIn w 0 w.heap.size t (.slice a2 n2 q2)) :
    Calls Try.prog 23 #[.agg #[.slice a1 n1 q1, .slice a2 n2 q2]] w fun r w' => ∃ a cap, r = .returned (.slice a (szs t).length cap) ∧ NumsR w w' (szs t) a cap := by
  have HT : Hid _ := hT
  have HN : Hid (∀ l ∈ t, NumL l) := hn
  obtain ⟨a, c, e, hl, hl2, hcap⟩ := hT.open
  cases e
  clear hT hn
  go_enter Try.func23, Try.ntmps23
  go_wp2_with fail
  have b1 : (w.alloc (.cells #[.slice a1 n1 q1, .slice a2 t.length q2] 27)).cell? ⟨w.heap.size, 1, none⟩ = some (.slice a2 t.length q2) := by simp
  have KW : Hid (Kept w (w.alloc (.cells #[.slice a1 n1 q1, .slice a2 t.length q2] 27))) := (Kept.refl w).al _
  obtain ⟨W0, hW0⟩ : ∃ W0, w.alloc (.cells #[.slice a1 n1 q1, .slice a2 t.length q2] 27) = W0 := ⟨_, rfl⟩
  rw [hW0] at b1 KW ⊢
  clear hW0
  go_loopw [3, 4] (fun list i wr => ∃ (k : Nat) (a4 : Option Addr) (n4 q4 : Nat) (zs : List Nat), list = .slice a4 n4 q4 ∧ i = .int .i64 (k : Int) ∧ k ≤ t.length ∧ zs.length ≤ 1000000 ∧ Hid (zs.length = k) ∧ Hid (zs = szs (t.take k)) ∧ Hid (wr.ownsRow W0.heap.size 3 1 (.slice a4 n4 q4) zs.length (nums zs) ∧ Kept W0 wr)) (fun _ i _ => t.length - (intOf i).toNat)
  case atStart => exact ⟨0, none, 0, 0, [], rfl, rfl, Nat.zero_le _, Nat.zero_le _, rfl, rfl, ⟨rfl, .inl ⟨rfl, rfl⟩⟩, Kept.refl _⟩
  case round =>
    obtain ⟨k, a4, n4, q4, zs, rfl, rfl, hk, hz2, HZL, HZ, HI⟩ := hrel
    have hz := (KW.out.then HI.out.2).size
    have b1' := HI.out.2.cellS b1
    by_cases hlt : k < t.length
    · have hki : (k : Int) < (t.length : Int) := by omega
      obtain ⟨b, o, a3, n3, q3, rfl, _, hb, _, c0, k1⟩ := HT.out.item ((KW.out.then HI.out.2).stays (Nat.le_refl _)) k hlt
      have hzb : b < wr.heap.size := by omega
      have G : Hid (∀ W, Kept wr W → Calls Try.prog 40 #[.slice a3 n3 q3] W fun r w' => r = .returned (.int .i64 (cap (sns t[k]) : Int)) ∧ Kept W w') :=
        fun W hW => rsize_any t[k] W _ (k1.up (by omega) hW) (HN.out _ (List.getElem_mem hlt))
      have HZ2 : Hid (zs ++ [cap (sns t[k])] = szs (t.take (k + 1))) := by show _ = _; rw [HZ.out, szs_take t k hlt]
      clear k1
      go_wp2_with fail
      refine (G.out _ (Kept.refl wr)).mono ?_
      rintro r w6 ⟨rfl, kw⟩
      have HO6 : Hid (w6.ownsRow W0.heap.size 3 1 (.slice a4 n4 q4) zs.length (nums zs)) := HI.out.1.kept (Grow.kept (.slice none 0 0) kw).grown (by cases a4 <;> simp [Value.ownBlock])
      have HK6 : Hid (Kept W0 w6) := HI.out.2.then kw
      have hz6 := HK6.out.size
      clear kw c0 b1'
      go_wp2_with (at_builtin; (refine wpList_append_rows (base := W0.heap.size) (n := zs.length) (xs := nums zs) (by rfl) _ _ _ (by rfl) elemInt (by rfl) (HO6.out.alloc _) (by rfl) (own_lit 0 3 1 _ (by rfl) (Nat.zero_le _)) ?one (by omega) ?len ?base ?_))
      case one => rfl
      case len => unfold maxLen; omega
      case base => simp; omega
      intro ad cap2 w4 HG
      have HN4 : Hid (w4.ownsRow W0.heap.size 3 1 (.slice ad (zs.length + 1) cap2) (zs ++ [cap (sns t[k])]).length (nums (zs ++ [cap (sns t[k])])) ∧ Kept W0 w4) :=
        ⟨by rw [List.length_append, nums_app]; exact HG.out.own, HG.out.below (HO6.out.alloc _) (Nat.le_refl _) (by simp; omega) (HK6.out.al _)⟩
      clear HG
      go_wp2_with fail
      go_roundw
      case rel => exact ⟨k + 1, _, _, _, _, rfl, by go_num, by omega, by rw [List.length_append, HZL.out]; show k + 1 ≤ _; omega, by show _ = _; rw [List.length_append, HZL.out]; rfl, HZ2.out, HN4.out⟩
      case measure => simp [intOf]; omega
    · have hki : ¬ (k : Int) < (t.length : Int) := by omega
      have HM : Hid (∃ a cap, Value.slice a4 n4 q4 = .slice a (szs t).length cap ∧ NumsR w wr (szs t) a cap) := by
        have h2 := HZ.out
        rw [List.take_of_length_le (by omega)] at h2
        rw [← h2]
        obtain ⟨a, cp, e, hr⟩ := nums_at HI.out.1 (KW.out.then HI.out.2)
        exact ⟨a, cp, e, hr⟩
      go_wp2_with fail
      go_ret
      obtain ⟨a, cp, e, hr⟩ := HM.out
      exact ⟨a, cp, by rw [← e]; rfl, hr⟩
end Go.Proofs.Ytnfkjmafhaecgaa
