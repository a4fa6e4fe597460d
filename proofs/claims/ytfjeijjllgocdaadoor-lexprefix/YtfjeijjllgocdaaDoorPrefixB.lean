/- LexPrefix, where one of the two texts has no tokens. -/
import Derived.Test.YtfjeijjllgocdaaDoorPrefix
namespace Go.Proofs.YtfjeijjllgocdaaDoor
open Go.RowKit

set_option maxRecDepth 100000 in
set_option maxHeartbeats 1000000 in
theorem prefix_first (v1 v2 : Value) (raw S T : ByteArray) (p r : Nat) (w : World) (hT : Two w v1 v2 raw S T) (hE : Er w) (hlen : S.size + T.size + 1 ≤ 6000) (hR1 : Lx.toks S.data.toList = .bad p) (hR3 : Lx.toks (S ++ ⟨#[10]⟩ ++ T).data.toList = .bad r) :
    Calls Tryd.prog 7 #[v1, v2, .string raw] w fun e w' => e = .returned (.bool true) ∧ Kept w w' := by
  have C1 : Hid (∀ W, Kept w W → _) := hT.t1
  have C2 : Hid (∀ W, Kept w W → _) := hT.t2
  have hsz : (S ++ ⟨#[10]⟩ ++ T).size = S.size + 1 + T.size := by rw [ByteArray.size_append, ByteArray.size_append]; rfl
  have D1 : Hid (∀ W, Er W → _) := fun W hW => tokens_any S W (by omega) hW _ hR1
  have D2 : Hid (∀ W, Er W → _) := fun W hW => tokens_any T W (by omega) hW _ rfl
  have D3 : Hid (∀ W, Er W → _) := fun W hW => tokens_any (S ++ ⟨#[10]⟩ ++ T) W (by omega) hW _ hR3
  have HE : Hid (Er w) := hE
  have hgt : decide ((6000 : Int) < (S.size : Int) + (T.size : Int) + 1) = false := decide_eq_false (by omega)
  clear hT hE hsz hR1 hR3
  go_enter Tryd.func7, Tryd.ntmps7
  go_wp2_with fail
  refine (C1.out _ (Kept.refl _)).mono ?_
  rintro e w1 ⟨rfl, k1⟩
  have K1 : Hid (Kept w w1) := k1
  clear k1
  go_wp2_with fail
  refine (C2.out _ K1.out).mono ?_
  rintro e w2 ⟨rfl, k2⟩
  have K2 : Hid (Kept w w2) := K1.out.then k2
  clear k2
  go_wp2_with fail
  refine (D1.out _ (HE.out.kept K2.out)).mono ?_
  rintro e w3 ⟨q1, q2, q3, rfl, ht⟩
  have K3 : Hid (Kept w w3) := K2.out.then (told_kept ht)
  obtain ⟨rfl, rfl, rfl, _⟩ := told_none ht
  clear ht
  go_wp2_with fail
  refine (D2.out _ (HE.out.kept K3.out)).mono ?_
  rintro e w4 ⟨q4, q5, q6, rfl, ht⟩
  have K4 : Hid (Kept w w4) := K3.out.then (told_kept ht)
  clear ht
  go_wp2_with fail
  refine (D3.out _ (HE.out.kept K4.out)).mono ?_
  rintro e w5 ⟨q7, q8, q9, rfl, ht⟩
  have K5 : Hid (Kept w w5) := K4.out.then (told_kept ht)
  obtain ⟨rfl, rfl, rfl, _⟩ := told_none ht
  clear ht
  go_wp2_with fail
  refine (known_any _ (HE.out.kept K5.out)).mono ?_
  rintro e w6 ⟨rfl, k6⟩
  have K6 : Hid (Kept w w6) := K5.out.then k6
  clear k6
  go_wp2_with fail
  refine (known_any _ (HE.out.kept K6.out)).mono ?_
  rintro e w7 ⟨rfl, k7⟩
  have K7 : Hid (Kept w w7) := K6.out.then k7
  clear k7
  go_wp2
  go_ret
  exact ⟨rfl, K7.out⟩

set_option maxRecDepth 100000 in
set_option maxHeartbeats 1000000 in
theorem prefix_second (v1 v2 : Value) (raw S T : ByteArray) (ts : List Lx.Tk) (p r : Nat) (w : World) (hT : Two w v1 v2 raw S T) (hE : Er w) (hlen : S.size + T.size + 1 ≤ 6000) (hR1 : Lx.toks S.data.toList = .good ts) (hR2 : Lx.toks T.data.toList = .bad p) (hR3 : Lx.toks (S ++ ⟨#[10]⟩ ++ T).data.toList = .bad r) :
    Calls Tryd.prog 7 #[v1, v2, .string raw] w fun e w' => e = .returned (.bool true) ∧ Kept w w' := by
  have C1 : Hid (∀ W, Kept w W → _) := hT.t1
  have C2 : Hid (∀ W, Kept w W → _) := hT.t2
  have hsz : (S ++ ⟨#[10]⟩ ++ T).size = S.size + 1 + T.size := by rw [ByteArray.size_append, ByteArray.size_append]; rfl
  have D1 : Hid (∀ W, Er W → _) := fun W hW => tokens_any S W (by omega) hW _ hR1
  have D2 : Hid (∀ W, Er W → _) := fun W hW => tokens_any T W (by omega) hW _ hR2
  have D3 : Hid (∀ W, Er W → _) := fun W hW => tokens_any (S ++ ⟨#[10]⟩ ++ T) W (by omega) hW _ hR3
  have HE : Hid (Er w) := hE
  have HN : Hid (ts ≠ []) := toks_ne _ _ hR1
  have hgt : decide ((6000 : Int) < (S.size : Int) + (T.size : Int) + 1) = false := decide_eq_false (by omega)
  clear hT hE hsz hR1 hR2 hR3
  go_enter Tryd.func7, Tryd.ntmps7
  go_wp2_with fail
  refine (C1.out _ (Kept.refl _)).mono ?_
  rintro e w1 ⟨rfl, k1⟩
  have K1 : Hid (Kept w w1) := k1
  clear k1
  go_wp2_with fail
  refine (C2.out _ K1.out).mono ?_
  rintro e w2 ⟨rfl, k2⟩
  have K2 : Hid (Kept w w2) := K1.out.then k2
  clear k2
  go_wp2_with fail
  refine (D1.out _ (HE.out.kept K2.out)).mono ?_
  rintro e w3 ⟨q1, q2, q3, rfl, ht⟩
  have K3 : Hid (Kept w w3) := K2.out.then (told_kept ht)
  obtain ⟨g, cap, rfl, rfl, rfl, _⟩ := told_good ht HN.out
  clear ht
  go_wp2_with fail
  refine (D2.out _ (HE.out.kept K3.out)).mono ?_
  rintro e w4 ⟨q4, q5, q6, rfl, ht⟩
  have K4 : Hid (Kept w w4) := K3.out.then (told_kept ht)
  obtain ⟨rfl, rfl, rfl, _⟩ := told_none ht
  clear ht
  go_wp2_with fail
  refine (D3.out _ (HE.out.kept K4.out)).mono ?_
  rintro e w5 ⟨q7, q8, q9, rfl, ht⟩
  have K5 : Hid (Kept w w5) := K4.out.then (told_kept ht)
  obtain ⟨rfl, rfl, rfl, _⟩ := told_none ht
  clear ht
  go_wp2_with fail
  refine (known_any _ (HE.out.kept K5.out)).mono ?_
  rintro e w6 ⟨rfl, k6⟩
  have K6 : Hid (Kept w w6) := K5.out.then k6
  clear k6
  go_wp2_with fail
  refine (known_any _ (HE.out.kept K6.out)).mono ?_
  rintro e w7 ⟨rfl, k7⟩
  have K7 : Hid (Kept w w7) := K6.out.then k7
  clear k7
  go_wp2
  go_ret
  exact ⟨rfl, K7.out⟩

end Go.Proofs.YtfjeijjllgocdaaDoor
