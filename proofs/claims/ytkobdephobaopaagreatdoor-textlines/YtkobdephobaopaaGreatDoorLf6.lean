/- The reference's Lines: a text in lines, each with its line feed, and none but that; there is but one way. -/
import Derived.Test.YtkobdephobaopaaGreatDoorPyA
import Derived.Test.YtkobdephobaopaaGreatDoorKpA
import Derived.Test.YtkobdephobaopaaGreatDoorSgA
namespace Go.Proofs.YtkobdephobaopaaGreatDoor
open Go.RowKit

theorem elemStr : ElemOf Tryz.prog 54 9 (.string ⟨#[]⟩) 1 16 := ⟨Tryz.underlying54, by kernel_rfl, rfl, by decide⟩
/-- Lines, as values. -/
def strs (l : List (List UInt8)) : List Value := l.map fun x => Value.string (Px.ba x)
theorem strs_append (l m : List (List UInt8)) : strs (l ++ m) = strs l ++ strs m := by simp [strs]
theorem own_lit' {w : World} (base e size : Nat) (cs : Array Value) (hs : cs.size = size) (hb : base ≤ w.heap.size) (H : Nat) (hH : w.heap.size = H) : (w.alloc (.cells cs e)).ownsRow base e size (.slice (some ⟨H, 0, none⟩) 1 1) 1 cs.toList := by
  subst hH; exact own_lit base e size cs hs hb

/-- Lines: each with its line feed, and none but that. -/
def Ps.Fed1 (L : List (List UInt8)) : Prop := ∀ x ∈ L, ∃ a, x = a ++ [10] ∧ ∀ c ∈ a, c ≠ 10
theorem Ps.take_feed : ∀ (a r : List UInt8), (∀ c ∈ a, c ≠ 10) → (a ++ 10 :: r).takeWhile (fun c => c != 10) = a
  | [], r, _ => by simp
  | c :: a, r, h => by
    have h1 := h c (List.mem_cons_self ..)
    rw [List.cons_append, List.takeWhile_cons, if_pos (by simpa using h1), Ps.take_feed a r fun x hx => h x (List.mem_cons_of_mem _ hx)]
theorem Ps.fed1_uniq : ∀ (L M : List (List UInt8)), Ps.Fed1 L → Ps.Fed1 M → L.flatten = M.flatten → L = M
  | [], [], _, _, _ => rfl
  | [], y :: M, _, hM, h => by
    obtain ⟨b, rfl, -⟩ := hM y (List.mem_cons_self ..)
    simp at h
  | x :: L, [], hL, _, h => by
    obtain ⟨b, rfl, -⟩ := hL x (List.mem_cons_self ..)
    simp at h
  | x :: L, y :: M, hL, hM, h => by
    obtain ⟨a, rfl, ha⟩ := hL x (List.mem_cons_self ..)
    obtain ⟨b, rfl, hb⟩ := hM y (List.mem_cons_self ..)
    rw [List.flatten_cons, List.flatten_cons, List.append_assoc, List.append_assoc] at h
    have e1 := Ps.take_feed a L.flatten ha
    have e2 := Ps.take_feed b M.flatten hb
    have h' : a ++ 10 :: L.flatten = b ++ 10 :: M.flatten := h
    rw [h', e2] at e1
    subst e1
    have h3 := List.append_cancel_left h'
    injection h3 with _ h4
    rw [Ps.fed1_uniq L M (fun z hz => hL z (List.mem_cons_of_mem _ hz)) (fun z hz => hM z (List.mem_cons_of_mem _ hz)) h4]

/-- Where Lines stands: those that were found, of what is ahead. -/
structure LnJ (s : ByteArray) (w wr : World) (L : List (List UInt8)) (v : Value) (f i : Nat) : Prop where
  row : wr.ownsRow w.heap.size 9 1 v L.length (strs L)
  kept : Kept w wr
  fed : Ps.Fed1 L
  flat : L.flatten = s.data.toList.take f
  few : L.length ≤ f
  le : f ≤ i
  last : ∀ j (h : j < s.data.toList.length), f ≤ j → j < i → s.data.toList[j] ≠ 10

set_option maxRecDepth 100000 in
set_option maxHeartbeats 2000000 in
theorem rlines6_any (s : ByteArray) (hs : s.size ≤ 100000) (hend : ∃ a, s.data.toList = a ++ [10]) (w : World) :
    Calls Tryz.prog 24 #[.string s] w fun e w' => ∃ (L : List (List UInt8)) (v : Value), e = .returned v ∧ Hid (LnJ s w w' L v s.size s.size) := by
  have HEnd : Hid (∃ a, s.data.toList = a ++ [10]) := hend
  have hsz : s.data.toList.length = s.size := Array.length_toList
  have HSZ : Hid (s.data.toList.length = s.size) := hsz
  clear hend hsz
  go_enter Tryz.func24, Tryz.ntmps24
  go_wp2_with fail
  go_loopw [3, 4, 5] (fun v f i wr => ∃ (L : List (List UInt8)) (a : Option Addr) (cap fr k : Nat), v = .slice a L.length cap ∧ f = .int .i64 (fr : Int) ∧ i = .int .i64 (k : Int) ∧ k ≤ s.size ∧ Hid (LnJ s w wr L (.slice a L.length cap) fr k)) (fun _ _ i _ => s.size - (intOf i).toNat)
  case atStart =>
    have h0 : LnJ s w w [] (.slice none 0 0) 0 0 := { row := ⟨rfl, .inl ⟨rfl, rfl⟩⟩, kept := Kept.refl _, fed := (fun x hx => by cases hx), flat := rfl, few := Nat.le_refl _, le := Nat.le_refl _, last := fun j h h1 h2 => by omega }
    exact ⟨[], none, 0, 0, 0, rfl, rfl, rfl, Nat.zero_le _, h0⟩
  case round =>
    obtain ⟨L, a, cap, fr, k, rfl, rfl, rfl, hk, HI⟩ := hrel
    by_cases hlt : k < s.size
    · have hki : (k : Int) < (s.size : Int) := by omega
      have hfr := HI.out.le
      have hfew := HI.out.few
      have hwr : IntKind.i64.wrap ((k : Int) + 1) = (k : Int) + 1 := by rw [IntKind.wrap_i64]; omega
      have hL : L.length ≤ 100000 := by omega
      have e2 : s.data.toList[k]'(by rw [HSZ.out]; exact hlt) = s[k] := by rw [Array.getElem_toList]; rfl
      have HE2 : Hid _ := e2
      clear e2 hfew
      by_cases hc : s[k] = 10
      · have t : (((s[k]).toNat : Int) == 10) = true := by rw [hc]; rfl
        have HC : Hid (s[k] = 10) := hc
        clear hc
        have hsl : ∀ wx, (Instr.slice 9 (.string s) (some (.int .i64 (fr : Int))) (some (.int .i64 ((k : Int) + 1))) none).run Tryz.prog wx = .ok (.string (s.extract fr (k + 1))) wx := fun wx => by
          have := run_slice_string (P := Tryz.prog) wx 9 s .i64 .i64 (fr : Int) ((k : Int) + 1) Tryz.underlying9 (by omega) (by omega) (by omega)
          rw [this]; congr 2
        have HX : Hid (s.extract fr (k + 1) = Px.ba ((s.data.toList.drop fr).take (k + 1 - fr))) := text_of s fr (k + 1) (by omega) (by omega)
        rw [HX.out] at hsl
        obtain ⟨X, hX⟩ : ∃ X, (s.data.toList.drop fr).take (k + 1 - fr) = X := ⟨_, rfl⟩
        rw [hX] at hsl HX
        have HXX : Hid _ := hX
        clear hX
        go_wp2_with (at_builtin; refine wpList_append_rows (base := w.heap.size) (n := L.length) (xs := strs L) (by rfl) _ _ _ (by rfl) elemStr (by rfl) (own_kept HI.out.row ((Kept.refl wr).al _)) (by rfl) (own_lit' 0 9 1 _ (by rfl) (Nat.zero_le _) wr.heap.size rfl) ?one (by omega) ?len ?base ?_)
        case one => rfl
        case len => unfold maxLen; omega
        case base => have := HI.out.kept.size; simp; omega
        intro ad2 cap2 w2 HG
        have hI2 : LnJ s w w2 (L ++ [X]) (.slice ad2 (L.length + 1) cap2) (k + 1) (k + 1) := by
          have hx := HXX.out
          have hn : X.length = k + 1 - fr := by rw [← hx, List.length_take, List.length_drop, HSZ.out]; omega
          refine { row := ?_, kept := ?_, fed := ?_, flat := ?_, few := ?_, le := Nat.le_refl _, last := fun j h h1 h2 => by omega }
          · rw [strs_append, List.length_append]; exact HG.out.own
          · exact HG.out.below (own_kept HI.out.row ((Kept.refl wr).al _)) (Nat.le_refl _) (by have := HI.out.kept.size; simp; omega) (HI.out.kept.al _)
          · intro x hm
            rcases List.mem_append.1 hm with hm | hm
            · exact HI.out.fed x hm
            · obtain rfl : x = X := by simpa using hm
              refine ⟨(s.data.toList.drop fr).take (k - fr), ?_, fun c hc => ?_⟩
              · rw [← hx, show k + 1 - fr = k - fr + 1 by omega, List.take_succ_eq_append_getElem (by rw [List.length_drop, HSZ.out]; omega), List.getElem_drop]
                congr 2
                have : s.data.toList[fr + (k - fr)]'(by rw [HSZ.out]; omega) = s.data.toList[k]'(by rw [HSZ.out]; omega) := by congr 1; omega
                rw [this, HE2.out, HC.out]
              · obtain ⟨j, hj, rfl⟩ := List.mem_iff_getElem.1 hc
                rw [List.getElem_take, List.getElem_drop]
                rw [List.length_take, List.length_drop] at hj
                exact HI.out.last _ _ (by omega) (by omega)
          · rw [List.flatten_append, HI.out.flat, List.flatten_singleton, ← hx]
            have := List.take_add (l := s.data.toList) (i := fr) (j := k + 1 - fr)
            rw [← this]; congr 1; omega
          · have := HI.out.few; rw [List.length_append]; show _ + 1 ≤ _; omega
        have HI2 : Hid _ := hI2
        clear hI2 HG
        go_wp2_with fail
        go_roundw
        case rel => exact ⟨L ++ [X], ad2, cap2, k + 1, k + 1, by simp, by go_num, by go_num, by omega, by rw [List.length_append]; exact HI2.out⟩
        case measure => simp [intOf]; omega
      · have t : (((s[k]).toNat : Int) == 10) = false := by rw [beq_eq_false_iff_ne]; intro e; apply hc; apply UInt8.toNat_inj.1; show _ = 10; omega
        have HC : Hid (¬ s[k] = 10) := hc
        clear hc
        go_wp2_with fail
        go_roundw
        case rel =>
          refine ⟨L, a, cap, fr, k + 1, rfl, rfl, by go_num, by omega, ⟨HI.out.row, HI.out.kept, HI.out.fed, HI.out.flat, HI.out.few, by omega, fun j h h1 h2 => ?_⟩⟩
          by_cases hj : j = k
          · subst hj; rw [HE2.out]; exact HC.out
          · exact HI.out.last j h h1 (by omega)
        case measure => simp [intOf]; omega
    · have hki : ¬ (k : Int) < (s.size : Int) := by omega
      obtain rfl : k = s.size := by omega
      have hf : fr = s.size := by
        rcases Nat.lt_or_ge fr s.size with h | h
        · obtain ⟨a, ha⟩ := HEnd.out
          exfalso
          have hsz := HSZ.out
          have h1 : s.size - 1 < s.data.toList.length := by omega
          apply HI.out.last (s.size - 1) h1 (by omega) (by omega)
          rw [ha] at hsz
          simp at hsz
          simp [ha, show s.size - 1 = a.length by omega]
        · have := HI.out.le; omega
      subst hf
      have hfl : ¬ (s.size : Int) < (s.size : Int) := by omega
      go_wp2_with fail
      go_ret
      exact ⟨L, _, rfl, HI.out⟩
#print axioms rlines6_any
end Go.Proofs.YtkobdephobaopaaGreatDoor
