/- LexBlanks answers true at whatever numbers, at whatever memory in which ErrRange holds an error. -/
import Derived.Test.YtfjeijjllgocdaaDoorBl1
import Derived.Test.YtfjeijjllgocdaaDoorKnown
import Derived.Deep.QuietTactic
import Derived.BigQuiet
namespace Go.Proofs.YtfjeijjllgocdaaDoor
open Go.RowKit

/-- A slice of numbers, whatever its address. -/
structure Nums (w : World) (ao : Option Addr) (l : List Int) : Prop where
  cells : ∀ k (h : k < l.length), ∃ a, ao = some a ∧ w.cell? (a.add k) = some (.int .i64 l[k])

theorem core_at {ts us : List Lx.Tk} (h : ts.map Lx.Tk.core = us.map Lx.Tk.core) (k : Nat) (h1 : k < ts.length) (h2 : k < us.length) : ts[k].kind = us[k].kind ∧ ts[k].text = us[k].text ∧ ts[k].n = us[k].n := by
  have e : (ts.map Lx.Tk.core)[k]'(by simpa using h1) = (us.map Lx.Tk.core)[k]'(by simpa using h2) := by simp only [h]
  rw [List.getElem_map, List.getElem_map] at e
  simp only [Lx.Tk.core, Prod.mk.injEq] at e
  exact e

set_option maxRecDepth 100000 in
set_option maxHeartbeats 4000000 in
theorem lexBlanks_any (ao1 ao2 : Option Addr) (cap1 cap2 : Nat) (l gaps : List Int) (w : World) (hl : l.length ≤ 17592186044416) (_hg : gaps.length ≤ 17592186044416) (h1 : Nums w ao1 l) (h2 : Nums w ao2 gaps) (hE : Er w) :
    Calls Tryd.prog 5 #[.slice ao1 l.length cap1, .slice ao2 gaps.length cap2] w fun e w' => e = .returned (.bool true) ∧ Kept w w' := by
  obtain ⟨N, hN⟩ : ∃ N, min l.length 60 = N := ⟨_, rfl⟩
  have hN60 : N ≤ 60 := by omega
  have hNl : N ≤ l.length := by omega
  have hmin : min (l.length : Int) 60 = (N : Int) := by omega
  obtain ⟨ts, us, r1, r2, hcore, hlen⟩ := blank_toks l gaps N hN60
  have z1 := sAt_size l gaps N
  have z2 := tAt_size l gaps N
  have D1 : Hid (∀ W, Er W → _) := fun W hW => tokens_any (sAt l gaps N) W (by omega) hW _ r1
  have D2 : Hid (∀ W, Er W → _) := fun W hW => tokens_any (tAt l gaps N) W (by omega) hW _ r2
  have hul : us.length = N + 1 := by
    have := congrArg List.length hcore
    simp at this
    omega
  have HU : Hid (us.length = N + 1) := hul
  have HUT : Hid (us.length = ts.length) := by show _ = _; omega
  have HL : Hid (ts.length = N + 1) := hlen
  have HC : Hid (ts.map Lx.Tk.core = us.map Lx.Tk.core) := hcore
  have HE : Hid (Er w) := hE
  have H1 : Hid (Nums w ao1 l) := h1
  have H2 : Hid (Nums w ao2 gaps) := h2
  have HN : Hid (min l.length 60 = N) := hN
  have hlN : ((ts.length : Int) == 1 + (N : Int)) = true := by rw [beq_iff_eq]; omega
  have htb : ts.length ≤ 61 := by omega
  clear hN r1 r2 hcore hul hlen hE h1 h2
  go_enter Tryd.func5, Tryd.ntmps5
  go_wp2_with (first | (refine wpList_build_to (by rfl) _ _ (by rfl) bpCells (bp_built _) ?_) | (refine wpList_store_new (by rfl) _ _ _ (by rfl) _ bpCells (by rfl) (by rfl) bp_info bp_size bp_one ?_))
  go_loop [6, 7, 8] (fun s t i => ∃ k : Nat, k ≤ N ∧ i = .int .i64 k ∧ s = .string (sAt l gaps k) ∧ t = .string (tAt l gaps k)) (fun _ _ i => N - (intOf i).toNat)
  case atStart => exact ⟨0, Nat.zero_le _, rfl, rfl, rfl⟩
  case round =>
    obtain ⟨k, hk, rfl, rfl, rfl⟩ := hrel
    by_cases hlt : k < N
    · have hkl : k < l.length := by omega
      have hki : (k : Int) < (l.length : Int) := by omega
      have hk60 : (k : Int) < 60 := by omega
      obtain ⟨a, ea, hca⟩ := H1.out.cells k hkl
      have hcell : (w.alloc (.cells bpCells 41)).cell? (a.add k) = some (.int .i64 l[k]) := by
        have h2 := World.block_lt_of_cell? w _ hca
        rw [← hca]
        exact World.cell?_of_block (Below.heap_alloc w _ _ h2)
      have hS : Hid (sAt l gaps (k + 1) = sAt l gaps k ++ wf l k ++ ⟨#[32]⟩) := sAt_succ l gaps k
      have hT : Hid (tAt l gaps (k + 1) = tAt l gaps k ++ gf gaps k ++ wf l k ++ gf gaps k) := tAt_succ l gaps k
      have s1 := sAt_size l gaps k
      have s2 := tAt_size l gaps k
      have s3 := (wf_fact l k).2
      have s4 := (gf_fact gaps k).2
      have m0 := Int.emod_nonneg l[k] (by omega : (16 : Int) ≠ 0)
      have m1 := Int.emod_lt_of_pos l[k] (by omega : (0 : Int) < 16)
      obtain ⟨m, hm⟩ := Int.eq_ofNat_of_zero_le m0
      have P1 : Hid (∀ w, Calls Tryd.prog 18 #[.int .i64 l[k], .int .i64 16] w fun e w' => e = .returned (.int .i64 (m : Int)) ∧ w' = w) := by
        intro w; have := pick_any l[k] 16 w (by omega) (by omega); rwa [hm] at this
      have hwf : wf l k = bp.getD m ⟨#[]⟩ := by
        unfold wf
        rw [show l.getD k 0 = l[k] by simp [List.getD, hkl], hm]
        rfl
      have hpc := bp_cell w m (by omega)
      rw [← hwf] at hpc
      have hm16 : (m : Int) < 16 := by omega
      subst ea
      by_cases hgk : k < gaps.length
      · have hgi : (k : Int) < (gaps.length : Int) := by omega
        obtain ⟨b, eb, hcb⟩ := H2.out.cells k hgk
        have hcell2 : (w.alloc (.cells bpCells 41)).cell? (b.add k) = some (.int .i64 gaps[k]) := by
          have h2 := World.block_lt_of_cell? w _ hcb
          rw [← hcb]
          exact World.cell?_of_block (Below.heap_alloc w _ _ h2)
        have q0 := Int.emod_nonneg gaps[k] (by omega : (5 : Int) ≠ 0)
        have q1 := Int.emod_lt_of_pos gaps[k] (by omega : (0 : Int) < 5)
        obtain ⟨p, hp⟩ := Int.eq_ofNat_of_zero_le q0
        have P2 : Hid (∀ w, Calls Tryd.prog 18 #[.int .i64 gaps[k], .int .i64 5] w fun e w' => e = .returned (.int .i64 (p : Int)) ∧ w' = w) := by
          intro w; have := pick_any gaps[k] 5 w (by omega) (by omega); rwa [hp] at this
        have hgf : gf gaps k = bg.getD p ⟨#[]⟩ := by
          unfold gf
          rw [if_pos hgk, show gaps.getD k 0 = gaps[k] by simp [List.getD, hgk], hp]
          rfl
        have hix := index_five p (by omega)
        rw [← hgf] at hix
        have hp5 : (p : Int) < 5 := by omega
        subst eb
        clear hca hcb m0 m1 hm q0 q1 hp hwf hgf
        generalize l[k] = x at *
        generalize gaps[k] = y at *
        generalize sAt l gaps k = A at *
        generalize tAt l gaps k = B at *
        generalize wf l k = X at *
        generalize gf gaps k = G at *
        go_wp2_with fail
        refine (P1.out _).mono ?_
        rintro e v1 ⟨rfl, rfl⟩
        go_wp2_with fail
        refine (P2.out _).mono ?_
        rintro e v1 ⟨rfl, rfl⟩
        go_wp2
        go_round
        case rel => exact ⟨k + 1, by omega, by go_num, by rw [hS.out], by rw [hT.out]⟩
        case measure => simp [intOf]; omega
      · have hgi : decide ((k : Int) < (gaps.length : Int)) = false := decide_eq_false (by omega)
        have hgf : gf gaps k = ⟨#[32]⟩ := by unfold gf; rw [if_neg hgk]
        rw [hgf] at hT
        clear hca m0 m1 hm hwf s4
        generalize l[k] = x at *
        generalize sAt l gaps k = A at *
        generalize tAt l gaps k = B at *
        generalize wf l k = X at *
        clear hgf
        go_wp2_with fail
        refine (P1.out _).mono ?_
        rintro e v1 ⟨rfl, rfl⟩
        go_wp2
        go_round
        case rel => exact ⟨k + 1, by omega, by go_num, by rw [hS.out], by rw [hT.out]⟩
        case measure => simp [intOf]; omega
    · obtain rfl : k = N := by omega
      have KA : Hid (Kept w (w.alloc (.cells bpCells 41))) := (Kept.refl w).alloc (Nat.le_refl _) _
      have HT1 : Hid (ts ≠ []) := by intro e; have := HL.out; rw [e] at this; simp at this
      have HT2 : Hid (us ≠ []) := by intro e; have := HU.out; rw [e] at this; simp at this
      by_cases hkl : k < l.length
      · have hki : (k : Int) < (l.length : Int) := by omega
        have hk60 : decide ((k : Int) < 60) = false := decide_eq_false (by have := HN.out; omega)
        go_wp2_with fail
        refine (D1.out _ (HE.out.kept KA.out)).mono ?_
        rintro e w3 ⟨q1, q2, q3, rfl, ht⟩
        have K3 : Hid (Kept w w3) := KA.out.then ht.2.2.2
        obtain ⟨g1, c1, rfl, rfl, rfl, _, x1, r1, _⟩ := told_good ht HT1.out
        have R1 : Hid (Row (sAt l gaps k) ts g1 w3 ∧ g1 < w3.heap.size) := ⟨r1, x1⟩
        clear ht r1 x1
        go_wp2_with fail
        refine (D2.out _ (HE.out.kept K3.out)).mono ?_
        rintro e w4 ⟨q4, q5, q6, rfl, ht⟩
        have K34 : Hid (Kept w3 w4) := ht.2.2.2
        have K4 : Hid (Kept w w4) := K3.out.then K34.out
        obtain ⟨g2, c2, rfl, rfl, rfl, _, x2, r2, _⟩ := told_good ht HT2.out
        have R2 : Hid (Row (tAt l gaps k) us g2 w4 ∧ g2 < w4.heap.size) := ⟨r2, x2⟩
        clear ht r2 x2
        rw [HUT.out]
        go_wp2_with fail
        refine (known_any _ (HE.out.kept K4.out)).mono ?_
        rintro e w5 ⟨rfl, k5⟩
        have K45 : Hid (Kept w4 w5) := k5
        have K5 : Hid (Kept w w5) := K4.out.then k5
        clear k5
        go_wp2_with fail
        go_loopw [98] (fun i wr => ∃ j : Nat, j ≤ ts.length ∧ i = .int .i64 j ∧ Kept w4 wr) (fun i _ => ts.length - (intOf i).toNat)
        case atStart => exact ⟨0, Nat.zero_le _, rfl, K45.out⟩
        case round =>
          obtain ⟨j, hj, rfl, hkr⟩ := hrel
          have KR : Hid (Kept w4 wr) := hkr
          by_cases hjt : j < ts.length
          · have hju : j < us.length := by have := HU.out; have := HL.out; omega
            have ra := R1.out.1.kept R1.out.2 (K34.out.then KR.out)
            have rb := R2.out.1.kept R2.out.2 KR.out
            have y1 : g1 < wr.heap.size := Nat.lt_of_lt_of_le R1.out.2 (K34.out.then KR.out).size
            have y2 : g2 < wr.heap.size := Nat.lt_of_lt_of_le R2.out.2 KR.out.size
            obtain ⟨a0, a1, a2, _⟩ := ra.at j hjt
            obtain ⟨b0, b1, b2, _⟩ := rb.at j hju
            obtain ⟨e0, e1, e2⟩ := core_at HC.out j hjt hju
            rw [← e0] at b0
            rw [← e1] at b1
            rw [← e2] at b2
            have hji : (j : Int) < (ts.length : Int) := by omega
            clear ra rb e0 e1 e2 hkr
            generalize (ts[j].kind : Int) = kd at *
            generalize (⟨ts[j].text.toArray⟩ : ByteArray) = tx at *
            generalize (ts[j].n : Int) = nn at *
            go_wp2
            go_quiet (fail)
            go_wp2
            go_roundw
            case rel => exact ⟨j + 1, by omega, by go_num, KR.out.trans ⟨rfl, rfl, rfl, Nat.le_refl _, fun _ _ => rfl⟩⟩
            case measure => simp [intOf]; omega
          · go_wp2
            go_ret
            exact ⟨rfl, K4.out.then KR.out⟩
      · have hki : decide ((k : Int) < (l.length : Int)) = false := decide_eq_false (by omega)
        go_wp2_with fail
        refine (D1.out _ (HE.out.kept KA.out)).mono ?_
        rintro e w3 ⟨q1, q2, q3, rfl, ht⟩
        have K3 : Hid (Kept w w3) := KA.out.then ht.2.2.2
        obtain ⟨g1, c1, rfl, rfl, rfl, _, x1, r1, _⟩ := told_good ht HT1.out
        have R1 : Hid (Row (sAt l gaps k) ts g1 w3 ∧ g1 < w3.heap.size) := ⟨r1, x1⟩
        clear ht r1 x1
        go_wp2_with fail
        refine (D2.out _ (HE.out.kept K3.out)).mono ?_
        rintro e w4 ⟨q4, q5, q6, rfl, ht⟩
        have K34 : Hid (Kept w3 w4) := ht.2.2.2
        have K4 : Hid (Kept w w4) := K3.out.then K34.out
        obtain ⟨g2, c2, rfl, rfl, rfl, _, x2, r2, _⟩ := told_good ht HT2.out
        have R2 : Hid (Row (tAt l gaps k) us g2 w4 ∧ g2 < w4.heap.size) := ⟨r2, x2⟩
        clear ht r2 x2
        rw [HUT.out]
        go_wp2_with fail
        refine (known_any _ (HE.out.kept K4.out)).mono ?_
        rintro e w5 ⟨rfl, k5⟩
        have K45 : Hid (Kept w4 w5) := k5
        have K5 : Hid (Kept w w5) := K4.out.then k5
        clear k5
        go_wp2_with fail
        go_loopw [98] (fun i wr => ∃ j : Nat, j ≤ ts.length ∧ i = .int .i64 j ∧ Kept w4 wr) (fun i _ => ts.length - (intOf i).toNat)
        case atStart => exact ⟨0, Nat.zero_le _, rfl, K45.out⟩
        case round =>
          obtain ⟨j, hj, rfl, hkr⟩ := hrel
          have KR : Hid (Kept w4 wr) := hkr
          by_cases hjt : j < ts.length
          · have hju : j < us.length := by have := HU.out; have := HL.out; omega
            have ra := R1.out.1.kept R1.out.2 (K34.out.then KR.out)
            have rb := R2.out.1.kept R2.out.2 KR.out
            have y1 : g1 < wr.heap.size := Nat.lt_of_lt_of_le R1.out.2 (K34.out.then KR.out).size
            have y2 : g2 < wr.heap.size := Nat.lt_of_lt_of_le R2.out.2 KR.out.size
            obtain ⟨a0, a1, a2, _⟩ := ra.at j hjt
            obtain ⟨b0, b1, b2, _⟩ := rb.at j hju
            obtain ⟨e0, e1, e2⟩ := core_at HC.out j hjt hju
            rw [← e0] at b0
            rw [← e1] at b1
            rw [← e2] at b2
            have hji : (j : Int) < (ts.length : Int) := by omega
            clear ra rb e0 e1 e2 hkr
            generalize (ts[j].kind : Int) = kd at *
            generalize (⟨ts[j].text.toArray⟩ : ByteArray) = tx at *
            generalize (ts[j].n : Int) = nn at *
            go_wp2
            go_quiet (fail)
            go_wp2
            go_roundw
            case rel => exact ⟨j + 1, by omega, by go_num, KR.out.trans ⟨rfl, rfl, rfl, Nat.le_refl _, fun _ _ => rfl⟩⟩
            case measure => simp [intOf]; omega
          · go_wp2
            go_ret
            exact ⟨rfl, K4.out.then KR.out⟩

end Go.Proofs.YtfjeijjllgocdaaDoor
