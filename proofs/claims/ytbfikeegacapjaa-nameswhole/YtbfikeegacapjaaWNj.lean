/- Nj -/
import Derived.Test.YtbfikeegacapjaaWNi

namespace Go.Proofs.Ytbfikeegacapjaa
open Go.RowKit Go.Maps Go.WideMaps
attribute [local go_sem] run_store_complex
structure FitD (y : Dc) : Prop where
  nm : y.name.size ≤ maxLen
  lo : -9223372036854775808 ≤ y.kind
  hi : y.kind ≤ 9223372036854775807
set_option maxRecDepth 100000 in
theorem run_makeHint (n : Nat) (w : World) : (Instr.makeMap 69 (some (.int .i64 (n : Int)))).run Try.prog w = .ok (.map (some w.heap.size)) (w.alloc (.map #[] 0)) := by
  simp [Instr.makeMap, run_underlying Try.underlying69, asInt, asIntOf, Result.andThen]
theorem KM.made (w : World) : KM (w.alloc (.map #[] 0)) w.heap.size [] := by
  refine ⟨0, .map [], World.ownsMap_made .., Nat.le_refl _, fun x => ?_, fun x => ?_⟩
  · exact atKey_of_not_has (by rfl) _
  · rfl
theorem dup_step (d : List Dc) (k : Nat) (h : k < d.length) : Nf.dup (d.take k) (d.drop k) = if Nf.isIn (d.take k) d[k].name = true then some d[k] else Nf.dup (d.take (k + 1)) (d.drop (k + 1)) := by
  rw [List.drop_eq_getElem_cons h, Nf.dup, List.take_succ_eq_append_getElem h]
theorem dup_end (d : List Dc) (k : Nat) (h : d.length ≤ k) (a : List Dc) : Nf.dup a (d.drop k) = none := by rw [List.drop_eq_nil_of_le h]; rfl
theorem mem_flatTs {s : St} : ∀ {t : List (List St)}, s ∈ flatTs t ↔ ∃ b ∈ t, s ∈ St.flats b
  | [] => by simp [flatTs]
  | a :: t => by
    rw [show flatTs (a :: t) = St.flats a ++ flatTs t from rfl, List.mem_append, mem_flatTs (t := t)]
    simp
theorem wrong_step (d : List Dc) (t : List (List St)) (k : Nat) (h : k < t.length) : Nf.wrong d (flatTs (t.drop k)) = ((Nf.wrong d (St.flats t[k])).or (Nf.wrong d (flatTs (t.drop (k + 1))))) := by
  rw [List.drop_eq_getElem_cons h]
  unfold Nf.wrong
  rw [show flatTs (t[k] :: t.drop (k + 1)) = St.flats t[k] ++ flatTs (t.drop (k + 1)) from rfl, List.find?_append]
set_option maxRecDepth 100000 in
set_option maxHeartbeats 2000000 in
theorem check_any (d : List Dc) (t : List (List St)) (w : World) (dv tv : Value) (hd : DsIn w 0 w.heap.size d dv) (ht : TsIn w 0 w.heap.size t tv) (hf : ∀ s ∈ flatTs t, Fit s) (hz : ∀ ss ∈ t, St.sizes ss ≤ 300000000) (hk : ∀ y ∈ d, FitD y) :
    Calls Try.prog 12 #[.agg #[dv, tv]] w fun e w' => e = .returned (Nf.told (Nf.check d t)) ∧ Kept w w' := by
  have HD : Hid (DsIn w 0 w.heap.size d dv) := hd
  have HT : Hid (TsIn w 0 w.heap.size t tv) := ht
  have HFT : Hid (∀ s ∈ flatTs t, Fit s) := hf
  have HZ : Hid (∀ ss ∈ t, St.sizes ss ≤ 300000000) := hz
  have HFD : Hid (∀ y ∈ d, FitD y) := hk
  obtain ⟨a1, q1, rfl, hl1, hl2, hl3⟩ := hd.open
  obtain ⟨a2, q2, rfl, hm1, hm2, hm3⟩ := ht.open
  clear hd ht hf hz hk
  have hmk : ∀ W, (Instr.makeMap 69 (some (.int .i64 (d.length : Int)))).run Try.prog W = .ok (.map (some W.heap.size)) (W.alloc (.map #[] 0)) := fun W => run_makeHint d.length W
  go_enter Try.func12, Try.ntmps12
  go_wp2_with fail
  obtain ⟨W1, hW1⟩ : ∃ W, w.alloc (.cells #[.slice a1 d.length q1, .slice a2 t.length q2] 27) = W := ⟨_, rfl⟩
  have K1 : Hid (Kept w W1) := by rw [← hW1]; exact (Kept.refl _).al _
  have hB1 : W1.heap.size = w.heap.size + 1 := by rw [← hW1]; simp
  obtain ⟨B, hB2⟩ : ∃ B, w.heap.size + 1 = B := ⟨_, rfl⟩
  have hB : W1.heap.size = B := hB1.trans hB2
  obtain ⟨W2, hW2⟩ : ∃ W, W1.alloc (.map #[] 0) = W := ⟨_, rfl⟩
  have K2 : Hid (Kept w W2) := by rw [← hW2]; exact K1.out.al _
  have HB : Hid (w.heap.size ≤ B) := by show _ ≤ _; omega
  have HBN : Hid (w.heap.size < B) := by show _ < _; omega
  have HM0 : Hid (KM W2 B (d.take 0)) := by rw [← hW2, ← hB]; exact KM.made W1
  have b1 : W2.cell? ⟨w.heap.size, 1, none⟩ = some (.slice a2 t.length q2) := by rw [← hW2, ← hW1]; exact ((Kept.refl _).al _).cellS (by simp)
  have HB1 : Hid (W2.cell? ⟨w.heap.size, 1, none⟩ = some (.slice a2 t.length q2)) := b1
  rw [hW1, hB2, hW2]
  clear hW1 hB1 hB hB2 hW2 hmk b1
  go_loopw [20] (fun i wr => ∃ k : Nat, i = .int .i64 (k : Int) ∧ k ≤ d.length ∧ Hid (Kept W2 wr ∨ True) ∧ Hid (Kept w wr) ∧ Hid (KM wr B (d.take k)) ∧ Hid (wr.cell? ⟨w.heap.size, 1, none⟩ = some (.slice a2 t.length q2)) ∧ Hid (Nf.dup [] d = Nf.dup (d.take k) (d.drop k))) (fun i _ => d.length - (intOf i).toNat)
  case atStart => exact ⟨0, rfl, Nat.zero_le _, .inr trivial, K2, HM0, HB1, rfl⟩
  case round =>
    obtain ⟨k, rfl, hk, -, HK, HM, HB2, HU⟩ := hrel
    by_cases hlt : k < d.length
    · have hki : (k : Int) < (d.length : Int) := by omega
      have hz := HK.out.size
      obtain ⟨b, o, rfl, _, hb, _, c0, c1, c2, c3⟩ := HD.out.item (HK.out.stays (Nat.le_refl _)) k hlt
      have hst := HU.out.trans (dup_step d k hlt)
      have HFY : Hid (FitD d[k]) := HFD.out _ (List.getElem_mem hlt)
      have hlen : (d.take k).length = k := by rw [List.length_take]; omega
      have HMA : Hid (KM (wr.alloc (.cells #[.int .i64 d[k].kind, .string d[k].name, .int .i64 d[k].n, .complex .f64 d[k].re d[k].im] 38)) B (d.take k)) := HM.out.kept ((Kept.refl _).al _)
      have hlk := HMA.out.look_ok d[k].name HFY.out.nm
      cases hi : Nf.isIn (d.take k) d[k].name with
      | true =>
        rw [hi] at hst hlk
        have HE : Hid (Nf.dup [] d = some d[k]) := by rw [if_pos rfl] at hst; exact hst
        clear hst hi
        go_wp2_with fail
        go_ret2
        refine ⟨?_, HK.out.al _⟩
        unfold Nf.check
        rw [HE.out]; rfl
      | false =>
        rw [hi] at hst hlk
        have HE : Hid (Nf.dup [] d = Nf.dup (d.take (k + 1)) (d.drop (k + 1))) := by rw [if_neg (by decide)] at hst; exact hst
        obtain ⟨w3, hup, hm3, ht3⟩ := HMA.out.put d[k] HFY.out.nm hi (by rw [hlen]; unfold maxLen; omega) ⟨HFY.out.lo, HFY.out.hi⟩
        have HM3 : Hid (KM w3 B (d.take (k + 1))) := by
          show KM _ _ _
          rw [List.take_succ_eq_append_getElem hlt]; exact hm3
        have hgr := ht3.grown
        have K3 : Hid (Kept w w3) := (HK.out.al _).grown hgr (Nat.le_trans hz (by simp)) (fun j e => by injection e with e; have := HB.out; omega)
        have HB3 : Hid (w3.cell? ⟨w.heap.size, 1, none⟩ = some (.slice a2 t.length q2)) := by
          have h1 : (wr.alloc (.cells #[.int .i64 d[k].kind, .string d[k].name, .int .i64 d[k].n, .complex .f64 d[k].re d[k].im] 38)).cell? ⟨w.heap.size, 1, none⟩ = some (.slice a2 t.length q2) := ((Kept.refl wr).al _).cellS HB2.out
          exact hgr.cell h1 (fun e => by injection e with e; have h2 := HBN.out; have e' : w.heap.size = B := e; omega)
        clear hst hi hm3 ht3 hgr hlen
        go_wp2_with fail
        go_roundw
        case rel => exact ⟨k + 1, by go_num, by omega, .inr trivial, K3, HM3, HB3, HE⟩
        case measure => simp [intOf]; omega
    · have hki : ¬ (k : Int) < (d.length : Int) := by omega
      obtain rfl : k = d.length := by omega
      have HN : Hid (Nf.dup [] d = none) := HU.out.trans (dup_end d d.length (Nat.le_refl _) _)
      have HMD : Hid (KM wr B d) := by have := HM.out; rw [List.take_length] at this; exact this
      have b1 := HB2.out
      have hbl := block_lt_of_cell b1
      clear hki hk HU HM HB2 HM0 HB1 K2
      obtain ⟨w0, hw0⟩ : ∃ w0, w0 = wr := ⟨_, rfl⟩
      subst hw0
      go_wp2_with fail
      go_loopw [43] (fun i wr => ∃ k : Nat, i = .int .i64 (k : Int) ∧ k ≤ t.length ∧ Hid (Kept w0 wr) ∧ Hid (Nf.wrong d (flatTs t) = Nf.wrong d (flatTs (t.drop k)))) (fun i _ => t.length - (intOf i).toNat)
      case atStart => exact ⟨0, rfl, Nat.zero_le _, Kept.refl _, rfl⟩
      case round =>
        obtain ⟨k, rfl, hk, HK2, HU⟩ := hrel
        by_cases hlt : k < t.length
        · have hki : (k : Int) < (t.length : Int) := by omega
          obtain ⟨b, o, a3, n3, q3, rfl, _, hb, _, c0, hst⟩ := HT.out.item ((HK.out.then HK2.out).stays (Nat.le_refl _)) k hlt
          have hz := (HK.out.then HK2.out).size
          have hbl2 : b < wr.heap.size := by omega
          have FW' : Hid (Calls Try.prog 32 #[.slice a3 n3 q3, .map (some B)] wr fun e w' => e = .returned (toldW (Nf.wrong d (St.flats t[k]))) ∧ Kept wr w') :=
            firstWrong_any d t[k] wr B _ (hst.mono (Rng.up (Nat.le_refl _) hz)) (HMD.out.kept HK2.out) (fun s hs => HFT.out s (mem_flatTs.2 ⟨_, List.getElem_mem hlt, hs⟩)) (HZ.out _ (List.getElem_mem hlt))
          have hw := HU.out.trans (wrong_step d t k hlt)
          clear hst
          cases hx : Nf.wrong d (St.flats t[k]) with
          | some s =>
            rw [hx] at hw FW'
            have HE : Hid (Nf.check d t = some (s.re, s.im)) := by show _ = _; unfold Nf.check; rw [HN.out, hw]; rfl
            clear hw hx
            go_wp2_with fail
            refine Calls.mono FW'.out ?_
            rintro e w4 ⟨rfl, k4⟩
            have K4 : Hid (Kept wr w4) := k4
            clear k4
            unfold toldW
            go_wp2_with fail
            go_ret2
            exact ⟨by rw [HE.out]; rfl, (HK.out.then HK2.out).then K4.out⟩
          | none =>
            rw [hx] at hw FW'
            have HE : Hid (Nf.wrong d (flatTs t) = Nf.wrong d (flatTs (t.drop (k + 1)))) := hw
            clear hw hx
            go_wp2_with fail
            refine Calls.mono FW'.out ?_
            rintro e w4 ⟨rfl, k4⟩
            have K4 : Hid (Kept wr w4) := k4
            clear k4
            unfold toldW
            go_wp2_with fail
            go_roundw
            case rel => exact ⟨k + 1, by go_num, by omega, HK2.out.then K4.out, HE⟩
            case measure => simp [intOf]; omega
        · have hki : ¬ (k : Int) < (t.length : Int) := by omega
          have HE : Hid (Nf.check d t = none) := by
            show _ = _
            unfold Nf.check
            rw [HN.out, HU.out, List.drop_eq_nil_of_le (by omega)]; rfl
          go_wp2_with fail
          go_ret2
          exact ⟨by rw [HE.out]; rfl, HK.out.then HK2.out⟩
end Go.Proofs.Ytbfikeegacapjaa
