/- ParseDeep answers true: its walk. -/
import Derived.Test.YteaopephdjoegaaDoorDe5
namespace Go.Proofs.YteaopephdjoegaaDoor
open Go.RowKit
attribute [local go_sem] run_store_complex

theorem ba_size (a : List UInt8) : (⟨a.toArray⟩ : ByteArray).size = a.length := by simp [ByteArray.size]
theorem ba_get (a : List UInt8) (i : Nat) (h : i < a.length) : (⟨a.toArray⟩ : ByteArray)[i]'(by rw [ba_size]; exact h) = a[i] := by
  show a.toArray[i] = a[i]
  simp

/-- The iterator stands at p. -/
def IsIt (wr w : World) (S : ByteArray) (p : Nat) : Prop := wr = w.iter S p
theorem IsIt.eq {wr w : World} {S : ByteArray} {p : Nat} (h : IsIt wr w S p) : wr = w.iter S p := h
def itp (w : World) (b : Nat) : Nat := match w.heap[b]? with
  | some (.stringIter _ p) => p
  | _ => 0
theorem itp_iter (w : World) (S : ByteArray) (p : Nat) : itp (w.iter S p) w.heap.size = p := by unfold itp; rw [World.iter_heap]

set_option maxRecDepth 100000 in
set_option maxHeartbeats 2000000 in
theorem parseDeep_row (l : List Int) (v : Value) (x : Int) (w : World) (h : IntsR w w.heap.size l v) (hE : Er w) : Calls Tryd.prog 4 #[v, .int .i64 x] w fun e w' => e = .returned (.bool true) ∧ Kept w w' := by
  obtain ⟨n, hn, -, hp⟩ := pick_nat x 12 (by omega) (by omega)
  have HP := hide hp
  have HKN := hide (fun W (k : Kept w W) => known_any W (hE.kept k))
  have HRD := hide (fun (s : ByteArray) (hs : s.size ≤ 1125899906842624) r q (hr : Pp.out s = (r, q)) W (k : Kept w W) => pread_any s hs W (hE.kept k) r q hr)
  obtain ⟨a, cap, rfl, hl1, hl2, hl3, -⟩ := h.out
  have HL := hide hl3
  have hn' : (n : Int) < 12 := by omega
  have HLT := hide (fun j => Dp.ks_lt l j)
  clear h hp hE hl3
  go_enter Tryd.func4, Tryd.ntmps4
  go_wp2_with fail
  refine (unhide HP _).mono ?_
  rintro e w1 ⟨rfl, hw1⟩
  obtain rfl : w = w1 := hw1.symm
  clear hw1
  go_wp2_with fail
  go_loop [5, 6] (fun s i => ∃ j : Nat, j ≤ n ∧ i = .int .i64 (j : Int) ∧ s = .string ⟨(Dp.txt (Dp.ks l j)).toArray⟩) (fun _ i => n - (intOf i).toNat)
  case atStart => exact ⟨0, Nat.zero_le _, rfl, rfl⟩
  case round =>
    obtain ⟨j, hj, rfl, rfl⟩ := hrel
    have hsz : (⟨(Dp.txt (Dp.ks l j)).toArray⟩ : ByteArray).size ≤ 200 := by
      rw [ba_size]
      have := Dp.txt_len _ (Dp.ks_lt l j)
      rw [Dp.ks_len] at this
      omega
    by_cases hjn : j < n
    · have hjn' : (j : Int) < (n : Int) := by omega
      have hos : (⟨(Dp.opn (Dp.kd l j)).toArray⟩ : ByteArray).size ≤ 16 := by rw [ba_size]; exact Dp.opn_len _ (Dp.kd_lt l j)
      have HIX := hide (fun W => index_opn (Dp.kd l j) (Dp.kd_lt l j) W)
      have HAP : Hid ((⟨(Dp.txt (Dp.ks l j)).toArray⟩ : ByteArray) ++ ⟨(Dp.opn (Dp.kd l j)).toArray⟩ = ⟨(Dp.txt (Dp.ks l (j + 1))).toArray⟩) := hide (by rw [ba_app, Dp.ks_succ, Dp.txt_snoc])
      generalize (⟨(Dp.txt (Dp.ks l j)).toArray⟩ : ByteArray) = S0 at *
      generalize (⟨(Dp.opn (Dp.kd l j)).toArray⟩ : ByteArray) = O at *
      by_cases hjl : j < l.length
      · have hjl' : (j : Int) < (l.length : Int) := by omega
        obtain ⟨b, o, rfl, hb, hc⟩ := unhide HL j hjl
        obtain ⟨k, hk, hke, hkp⟩ := pick_nat l[j] 3 (by omega) (by omega)
        have hkd : Dp.kd l j = k := by
          unfold Dp.kd
          rw [if_pos hjl]
          have : l.getD j 0 = l[j] := by simp [List.getD, hjl]
          rw [this]
          have hke' : l[j] % 3 = (k : Int) := hke
          rw [hke']; simp
        rw [hkd] at HIX
        have HPK := hide hkp
        have hix := unhide HIX
        clear hkp hke hkd
        go_wp2_with fail
        refine (unhide HPK _).mono ?_
        rintro e w1 ⟨rfl, hw1⟩
        obtain rfl : w = w1 := hw1.symm
        clear hw1
        go_wp2_with fail
        go_round
        case rel => exact ⟨j + 1, by omega, by go_num, by rw [unhide HAP]⟩
        case measure => simp [intOf]; omega
      · have hjl' : ¬ (j : Int) < (l.length : Int) := by omega
        have hkd : Dp.kd l j = 0 := by unfold Dp.kd; rw [if_neg hjl]
        rw [hkd] at HIX
        have hix : ∀ W, (Instr.index 44 (.agg #[.string ⟨#[32, 105, 102, 32, 120, 32, 123]⟩, .string ⟨#[32, 114, 101, 112, 101, 97, 116, 32, 50, 32, 123]⟩, .string ⟨#[32, 105, 102, 32, 49, 32, 123, 32, 125, 32, 101, 108, 115, 101, 32, 123]⟩]) (.int .i64 0)).run Tryd.prog W = .ok (.string O) W := fun W => (unhide HIX) W
        clear hkd
        go_wp2_with fail
        go_round
        case rel => exact ⟨j + 1, by omega, by go_num, by rw [unhide HAP]⟩
        case measure => simp [intOf]; omega
    · have hjn' : ¬ (j : Int) < (n : Int) := by omega
      obtain rfl : j = n := by omega
      obtain ⟨TS, hTS⟩ : ∃ TS, Dp.txt (Dp.ks l j) = TS := ⟨_, rfl⟩
      have hlen : TS.length ≤ 200 := by rw [hTS, ba_size] at hsz; exact hsz
      have hasc : ∀ c ∈ TS, c.toNat < 128 := by rw [← hTS]; exact Dp.ascii _ (Dp.ks_lt l j)
      obtain ⟨S, hS⟩ : ∃ S : ByteArray, ⟨TS.toArray⟩ = S := ⟨_, rfl⟩
      have hSs : S.size = TS.length := by rw [← hS]; exact ba_size TS
      have hSg : ∀ p (hp : p < S.size), S[p] = TS[p]'(by omega) := by
        subst hS
        intro p hp
        exact ba_get TS p (by rw [← ba_size]; exact hp)
      obtain ⟨res, hres⟩ : ∃ res, Dp.scan TS 0 0 = res := ⟨_, rfl⟩
      have HRES := hide (show Dp.scan (TS.drop 0) 0 0 = res by rw [List.drop_zero]; exact hres)
      have HSG := hide (show (∀ p (hp : p < S.size), S[p] = TS[p]'(by omega)) ∧ (∀ c ∈ TS, c.toNat < 128) from ⟨hSg, hasc⟩)
      have HTS := hide (show Dp.txt (Dp.ks l j) = TS ∧ ⟨TS.toArray⟩ = S from ⟨hTS, hS⟩)
      have HR2 := hide hres
      have HSS := hide hS.symm
      rw [hTS, hS]
      have hSz : S.size ≤ 200 := by omega
      clear hres hSg hasc hsz
      go_wp2_with fail
      go_loopw [8, 9, 10] (fun at' op _ wr => ∃ (p : Nat) (o : Int), p ≤ S.size ∧ at' = .int .i64 0 ∧ op = .int .i64 o ∧ -(p : Int) ≤ o ∧ o ≤ (p : Int) ∧ IsIt wr w S p ∧ Hid (Dp.scan (TS.drop p) p o = res)) (fun _ _ _ wr => S.size - itp wr w.heap.size)
      case atStart => exact ⟨0, 0, Nat.zero_le _, rfl, rfl, by omega, by omega, rfl, HRES⟩
      case round =>
        obtain ⟨p, o, hpl, rfl, rfl, ho1, ho2, hit, HSC⟩ := hrel
        obtain rfl := hit.eq
        clear hit
        by_cases hps : p < S.size
        · obtain ⟨c, hc⟩ : ∃ c, S[p] = c := ⟨_, rfl⟩
          have hc2 : TS[p]'(by omega) = c := by rw [← (unhide HSG).1 p hps]; exact hc
          have hca : c.toNat < 128 := by rw [← hc2]; exact (unhide HSG).2 _ (List.getElem_mem _)
          have hst := Dp.scan_step TS p o (by omega)
          rw [hc2, unhide HSC] at hst
          have HST := hide hst
          have hnx := fun ty => run_next_ascii (P := Tryd.prog) w S p ty hps (by rw [hc]; exact hca)
          rw [hc] at hnx
          have hpi : (p : Int) < (S.size : Int) := by omega
          have hib := hSz
          have hix := hc
          clear hc2 hst
          by_cases h123 : c = 123
          · subst h123
            by_cases h9 : o + 1 = 9
            · have ho8 : o = 8 := by omega
              subst ho8
              have HRS : Hid (res = some p) := hide (by have := unhide HST; simpa using this)
              have hp0 : 0 < p := by omega
              clear HST h9
              go_wp2_with fail
              obtain ⟨WI, hWI⟩ : ∃ WI, w.iter S (p + 1) = WI := ⟨_, rfl⟩
              have KI : Hid (Kept w WI) := hide (by rw [← hWI]; exact (Kept.refl _).al _)
              rw [hWI]
              clear hWI
              obtain ⟨FS, hFS⟩ : ∃ FS, TS ++ List.replicate (j + 1) 125 = FS := ⟨_, rfl⟩
              have hfull : Dp.full (Dp.ks l j) = FS := by rw [← hFS, ← (unhide HTS).1]; unfold Dp.full; rw [Dp.ks_len]
              have hFl : FS.length ≤ 300 := by rw [← hFS, List.length_append, List.length_replicate]; omega
              have hrs := unhide HRS
              have hr2 := unhide HR2
              rw [← (unhide HTS).1] at hr2
              have hout : Pp.out ⟨FS.toArray⟩ = (none, p) ∧ p ≤ FS.length := by
                rcases Nat.lt_or_ge j 8 with h8 | h8
                · have := Dp.scan_none (Dp.ks l j) (Dp.ks_lt l j) (by rw [Dp.ks_len]; omega)
                  rw [this, hrs] at hr2; cases hr2
                · obtain ⟨k1, k, k2, e1, e2⟩ := Dp.split7 l j h8
                  have hlt := Dp.ks_lt l j
                  have hle := Dp.ks_len l j
                  rw [e1] at hlt hle hr2 hfull
                  have hpp : p = 4 + (k1.flatMap Dp.opn).length + Dp.off k := by
                    rw [Dp.scan_some k1 k2 k (fun x hx => hlt x (List.mem_append_left _ hx)) (hlt k (by simp)) e2, hrs] at hr2
                    injection hr2 with hr2; exact hr2.symm
                  refine ⟨?_, ?_⟩
                  · rw [← hfull, hpp]; exact Dp.out_fail k1 k2 k hlt e2 (by omega)
                  · rw [← hFS, List.length_append]; omega
              obtain ⟨ho3, hpF⟩ := hout
              have HRD2 := hide (fun W k => unhide HRD ⟨FS.toArray⟩ (by rw [ba_size]; omega) _ _ ho3 W k)
              have HPL := hide (fun W => place_in ⟨FS.toArray⟩ p (by rw [ba_size]; omega) (by rw [ba_size]; exact hpF) W)
              have HOR := hide (show (FloatKind.f64.format.order (lineW ⟨FS.toArray⟩ p) (lineW ⟨FS.toArray⟩ p) == some .eq) = true ∧ (FloatKind.f64.format.order (colW ⟨FS.toArray⟩ p) (colW ⟨FS.toArray⟩ p) == some .eq) = true from ⟨ord_line _ p (by rw [ba_size]; omega) (by rw [ba_size]; exact hpF), ord_col _ p (by rw [ba_size]; omega) (by rw [ba_size]; exact hpF)⟩)
              have HFS := hide hFS
              have hj12 : (j : Int) ≤ 12 := by omega
              clear hfull hrs hr2 ho3 HSC HSG HR2 HRES HTS HL hnx
              go_loop [5, 11] (fun s i => ∃ q : Nat, q ≤ j + 1 ∧ i = .int .i64 (q : Int) ∧ s = .string ⟨(TS ++ List.replicate q 125).toArray⟩) (fun _ i => j + 1 - (intOf i).toNat)
              case atStart => exact ⟨0, Nat.zero_le _, rfl, by rw [List.replicate_zero, List.append_nil]; rw [show S = ⟨TS.toArray⟩ from unhide HSS]⟩
              case round =>
                obtain ⟨q, hq, rfl, rfl⟩ := hrel
                have hsz2 : (⟨(TS ++ List.replicate q 125).toArray⟩ : ByteArray).size ≤ 300 := by rw [ba_size, List.length_append, List.length_replicate]; omega
                by_cases hqj : q ≤ j
                · have hqj' : (q : Int) ≤ (j : Int) := by omega
                  have HAP : Hid ((⟨(TS ++ List.replicate q 125).toArray⟩ : ByteArray) ++ ⟨#[125]⟩ = ⟨(TS ++ List.replicate (q + 1) 125).toArray⟩) := hide (by
                    rw [show (⟨#[125]⟩ : ByteArray) = ⟨[125].toArray⟩ from rfl, ba_app, List.append_assoc, ← List.replicate_succ'])
                  generalize (⟨(TS ++ List.replicate q 125).toArray⟩ : ByteArray) = S0 at *
                  go_wp2_with fail
                  go_round
                  case rel => exact ⟨q + 1, by omega, by go_num, by rw [unhide HAP]⟩
                  case measure => simp [intOf]; omega
                · have hqj' : ¬ (q : Int) ≤ (j : Int) := by omega
                  obtain rfl : q = j + 1 := by omega
                  rw [unhide HFS] at hsz2 ⊢
                  generalize (⟨FS.toArray⟩ : ByteArray) = FB at *
                  clear HFS
                  go_wp2_with fail
                  refine (unhide HRD2 _ (unhide KI)).mono ?_
                  rintro e w3 ⟨b1, n1, q1, b2, n2, q2, X, Y, E, rfl, H⟩
                  obtain ⟨hk3, hno, -⟩ := unhide H
                  obtain ⟨rfl, rfl, rfl, rfl, rfl, rfl, rfl, rfl, rfl⟩ := hno rfl
                  have HK3 := hide ((unhide KI).then hk3)
                  have hp0' : (0 : Int) < (p : Int) := by omega
                  clear hk3 hno H
                  go_wp2_with fail
                  refine (unhide HKN _ (by exact (unhide HK3).al _)).mono ?_
                  rintro e w4 ⟨rfl, k4⟩
                  have HK4 := hide (((unhide HK3).al _).then k4)
                  clear k4
                  go_wp2_with fail
                  refine (unhide HPL _).mono ?_
                  rintro e w5 ⟨rfl, rfl⟩
                  go_wp2_with fail
                  go_ret
                  refine ⟨ret_bool ?_, unhide HK4⟩
                  rw [Bool.and_eq_true]
                  exact unhide HOR
            · have h9' : ((o + 1 : Int) == 9) = false := ne_int h9
              have HS2 : Hid (Dp.scan (TS.drop (p + 1)) (p + 1) (o + 1) = res) := hide (by have := unhide HST; rw [if_pos rfl, if_neg h9] at this; exact this.symm)
              clear HST h9
              go_wp2_with fail
              go_roundw
              case rel => exact ⟨p + 1, o + 1, by omega, rfl, rfl, by omega, by omega, rfl, HS2⟩
              case measure => rw [itp_iter, itp_iter]; omega
          · have h123' : ((c.toNat : Int) == 123) = false := ne_byte (by decide) h123
            by_cases h125 : c = 125
            · subst h125
              have HS2 : Hid (Dp.scan (TS.drop (p + 1)) (p + 1) (o - 1) = res) := hide (by have := unhide HST; rw [if_neg h123, if_pos rfl] at this; exact this.symm)
              clear HST
              go_wp2_with fail
              go_roundw
              case rel => exact ⟨p + 1, o - 1, by omega, rfl, rfl, by omega, by omega, rfl, HS2⟩
              case measure => rw [itp_iter, itp_iter]; omega
            · have h125' : ((c.toNat : Int) == 125) = false := ne_byte (by decide) h125
              have HS2 : Hid (Dp.scan (TS.drop (p + 1)) (p + 1) o = res) := hide (by have := unhide HST; rw [if_neg h123, if_neg h125] at this; exact this.symm)
              clear HST
              go_wp2_with fail
              go_roundw
              case rel => exact ⟨p + 1, o, by omega, rfl, rfl, by omega, by omega, rfl, HS2⟩
              case measure => rw [itp_iter, itp_iter]; omega
        · have hnx := fun ty => run_next_end (P := Tryd.prog) w S p ty hps
          have HRS : Hid (res = none) := hide (by rw [← unhide HSC]; exact Dp.scan_end _ _ _ (by omega))
          go_wp2_with fail
          obtain ⟨WI, hWI⟩ : ∃ WI, w.iter S (p) = WI := ⟨_, rfl⟩
          have KI : Hid (Kept w WI) := hide (by rw [← hWI]; exact (Kept.refl _).al _)
          rw [hWI]
          clear hWI
          obtain ⟨FS, hFS⟩ : ∃ FS, TS ++ List.replicate (j + 1) 125 = FS := ⟨_, rfl⟩
          have hfull : Dp.full (Dp.ks l j) = FS := by rw [← hFS, ← (unhide HTS).1]; unfold Dp.full; rw [Dp.ks_len]
          have hFl : FS.length ≤ 300 := by rw [← hFS, List.length_append, List.length_replicate]; omega
          have hrs := unhide HRS
          have hr2 := unhide HR2
          rw [← (unhide HTS).1] at hr2
          have hout : ∃ b q, Pp.out ⟨FS.toArray⟩ = (some ([], [b]), q) := by
            rcases Nat.lt_or_ge j 8 with h8 | h8
            · rw [← hfull]; exact Dp.out_deep (Dp.ks l j) (Dp.ks_lt l j) (by rw [Dp.ks_len]; omega)
            · obtain ⟨k1, k, k2, e1, e2⟩ := Dp.split7 l j h8
              have hlt := Dp.ks_lt l j
              rw [e1] at hlt hr2
              rw [Dp.scan_some k1 k2 k (fun x hx => hlt x (List.mem_append_left _ hx)) (hlt k (by simp)) e2, hrs] at hr2
              cases hr2
          obtain ⟨bb, qq, ho3⟩ := hout
          have HRD2 := hide (fun W k => unhide HRD ⟨FS.toArray⟩ (by rw [ba_size]; omega) _ _ ho3 W k)
          have HFS := hide hFS
          have hj12 : (j : Int) ≤ 12 := by omega
          clear hfull hrs hr2 ho3 HSC HSG HR2 HRES HTS HL hnx
          go_loop [5, 11] (fun s i => ∃ q : Nat, q ≤ j + 1 ∧ i = .int .i64 (q : Int) ∧ s = .string ⟨(TS ++ List.replicate q 125).toArray⟩) (fun _ i => j + 1 - (intOf i).toNat)
          case atStart => exact ⟨0, Nat.zero_le _, rfl, by rw [List.replicate_zero, List.append_nil]; rw [show S = ⟨TS.toArray⟩ from unhide HSS]⟩
          case round =>
            obtain ⟨q, hq, rfl, rfl⟩ := hrel
            have hsz2 : (⟨(TS ++ List.replicate q 125).toArray⟩ : ByteArray).size ≤ 300 := by rw [ba_size, List.length_append, List.length_replicate]; omega
            by_cases hqj : q ≤ j
            · have hqj' : (q : Int) ≤ (j : Int) := by omega
              have HAP : Hid ((⟨(TS ++ List.replicate q 125).toArray⟩ : ByteArray) ++ ⟨#[125]⟩ = ⟨(TS ++ List.replicate (q + 1) 125).toArray⟩) := hide (by
                rw [show (⟨#[125]⟩ : ByteArray) = ⟨[125].toArray⟩ from rfl, ba_app, List.append_assoc, ← List.replicate_succ'])
              generalize (⟨(TS ++ List.replicate q 125).toArray⟩ : ByteArray) = S0 at *
              go_wp2_with fail
              go_round
              case rel => exact ⟨q + 1, by omega, by go_num, by rw [unhide HAP]⟩
              case measure => simp [intOf]; omega
            · have hqj' : ¬ (q : Int) ≤ (j : Int) := by omega
              obtain rfl : q = j + 1 := by omega
              rw [unhide HFS] at hsz2 ⊢
              generalize (⟨FS.toArray⟩ : ByteArray) = FB at *
              clear HFS
              go_wp2_with fail
              refine (unhide HRD2 _ (unhide KI)).mono ?_
              rintro e w3 ⟨b1, n1, q1, b2, n2, q2, X, Y, E, rfl, H⟩
              obtain ⟨hk3, -, hv⟩ := unhide H
              obtain ⟨rfl, rfl, rfl, -, ht⟩ := hv _ _ rfl
              obtain ⟨_, _, et, -⟩ := ht.open
              injection et with e1 e2 e3
              obtain rfl : n2 = 1 := e2
              have HK3 := hide ((unhide KI).then hk3)
              clear hk3 hv H ht e1 e3
              go_wp2_with fail
              refine (unhide HKN _ (by exact (unhide HK3).al _)).mono ?_
              rintro e w4 ⟨rfl, k4⟩
              obtain ⟨hcc, hff⟩ := bcell k4
              have hz4 := k4.size
              have HK4 := hide (((unhide HK3).al _).then k4)
              clear k4
              go_wp2_with fail
              go_ret
              exact ⟨rfl, unhide HK4⟩
#print axioms parseDeep_row
end Go.Proofs.YteaopephdjoegaaDoor
