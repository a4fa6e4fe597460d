/- What text.line answers: a line more. What text.declaration and text.statement answer: the words of a line. What text.writeBlock and text.writeStmt answer. -/
import Derived.Test.YtkobdephobaopaaGreatDoorWtA
import Derived.Test.YtkobdephobaopaaGreatDoorPlB
import Derived.Test.YtkobdephobaopaaGreatDoorPyA
import Derived.Test.YtkobdephobaopaaGreatDoorLn
import Derived.Test.YtkobdephobaopaaGreatDoorShelf2
import Derived.Deep.RegionHeld3
import Derived.Lib.AppendIntMem

namespace Go.Proofs.YtkobdephobaopaaGreatDoor
open Go.RowKit

theorem Wk.al {B : Nat} {w w' : World} (h : Wk B w w') (hB : B ≤ w.heap.size) (b : Obj) : Wk B w (w'.alloc b) := h.then (Wk.of ((Kept.refl _).al _) (Nat.le_trans hB h.bel.size))
theorem tabs_succ (k : Nat) : Ps.tabs k ++ [9] = Ps.tabs (k + 1) := by unfold Ps.tabs; rw [List.replicate_succ']
theorem tabs_zero : Ps.tabs 0 = [] := rfl

set_option maxRecDepth 100000 in
set_option maxHeartbeats 2000000 in
theorem line_any (acc : List UInt8) (d : Nat) (y : ByteArray) (B : Nat) (w : World) (v : Value) (ht : Txt w B v acc) (hB : B ≤ w.heap.size) (hd : d ≤ 1000000) (hl : acc.length + y.size ≤ 900000000000) (acc' : List UInt8) (ha : acc ++ (Ps.tabs d ++ (y.data.toList ++ [10])) = acc') :
    Calls Tryz.prog 65 #[v, .int .i64 (d : Int), .string y] w fun e w' => Wrote B w acc' e w' := by
  obtain ⟨a0, cap0, rfl⟩ := ht.form
  have HT : Hid (Txt w B (.slice a0 acc.length cap0) acc) := ht
  have HA : Hid _ := ha
  clear ht ha
  go_enter Tryz.func65, Tryz.ntmps65
  go_wp2_with fail
  go_loopw [0, 8] (fun v i wr => ∃ (t : List UInt8) (a : Option Addr) (cap k : Nat), v = .slice a t.length cap ∧ i = .int .i64 (k : Int) ∧ k ≤ d ∧ Hid (t = acc ++ Ps.tabs k ∧ Txt wr B (.slice a t.length cap) t ∧ Wk B w wr)) (fun _ i _ => d - (intOf i).toNat)
  case atStart => exact ⟨acc, a0, cap0, 0, rfl, rfl, Nat.zero_le _, ⟨by rw [tabs_zero, List.append_nil], HT.out, Wk.refl _ _⟩⟩
  case round =>
    obtain ⟨t, a, cap, k, rfl, rfl, hk, HI⟩ := hrel
    have htl : t.length + y.size ≤ 900001000000 := by rw [HI.out.1, List.length_append, Ps.tabs_len]; omega
    by_cases hlt : k < d
    · have hki : (k : Int) < (d : Int) := by omega
      have hwr : IntKind.i64.wrap ((k : Int) + 1) = (k : Int) + 1 := by rw [IntKind.wrap_i64]; omega
      obtain ⟨t1, ht1⟩ : ∃ t1, t ++ [9] = t1 := ⟨_, rfl⟩
      have HT1 : Hid (t ++ [9] = t1) := ht1
      have hsz := HI.out.2.2.bel.size
      clear ht1
      go_wp2_with (at_builtin; refine wp_app (by rfl) _ _ (by rfl) B (.slice a t.length cap) t t1 9 HT1.out (by rfl) ?c0 ⟨_, 0, none⟩ (by rfl) ?c1 ?c2 ?c3 ?_)
      case c0 => exact HI.out.2.1.kept ((Kept.refl _).al _)
      case c1 => simp
      case c2 => omega
      case c3 => simp; omega
      intro a1 cap1 w1 tx k1
      have HI1 : Hid (t1 = acc ++ Ps.tabs (k + 1) ∧ Txt w1 B (.slice a1 t1.length cap1) t1 ∧ Wk B w w1) := ⟨by rw [← HT1.out, HI.out.1, List.append_assoc, tabs_succ], tx, (HI.out.2.2.al hB _).then k1⟩
      clear tx k1
      go_wp2_with fail
      go_roundw
      case rel => exact ⟨t1, a1, cap1, k + 1, rfl, by go_num, by omega, HI1⟩
      case measure => simp [intOf]; omega
    · have hki : ¬ (k : Int) < (d : Int) := by omega
      obtain rfl : k = d := by omega
      obtain ⟨t1, ht1⟩ : ∃ t1, t ++ y.data.toList = t1 := ⟨_, rfl⟩
      have HT1 : Hid (t ++ y.data.toList = t1) := ht1
      have hsz := HI.out.2.2.bel.size
      have hl1 : t1.length ≤ 900001000000 := by rw [← ht1, List.length_append]; simpa using htl
      clear ht1
      go_wp2_with (at_builtin; refine wp_apps (by rfl) _ _ (by rfl) B (.slice a t.length cap) t t1 y HT1.out (by rfl) ?c0 (by rfl) ?c2 ?c3 ?_)
      case c0 => exact HI.out.2.1
      case c2 => omega
      case c3 => omega
      intro a1 cap1 w1 tx k1
      have HTX : Hid (Txt w1 B (.slice a1 t1.length cap1) t1) := tx
      have HK1 : Hid (Wk B w w1) := HI.out.2.2.then k1
      have hsz1 := HK1.out.bel.size
      clear tx k1
      obtain ⟨t2, ht2⟩ : ∃ t2, t1 ++ [10] = t2 := ⟨_, rfl⟩
      have HT2 : Hid (t1 ++ [10] = t2) := ht2
      clear ht2
      go_wp2_with (at_builtin; refine wp_app (by rfl) _ _ (by rfl) B (.slice a1 t1.length cap1) t1 t2 10 HT2.out (by rfl) ?d0 ⟨_, 0, none⟩ (by rfl) ?d1 ?d2 ?d3 ?_)
      case d0 => exact HTX.out.kept ((Kept.refl _).al _)
      case d1 => simp
      case d2 => omega
      case d3 => simp; omega
      intro a2 cap2 w2 tx k2
      have HF : Hid (Txt w2 B (.slice a2 t2.length cap2) t2 ∧ Wk B w w2) := ⟨tx, (HK1.out.al hB _).then k2⟩
      clear tx k2
      go_wp2_with fail
      go_ret
      have e : t2 = acc' := by rw [← HA.out, ← HT2.out, ← HT1.out, HI.out.1]; simp only [List.append_assoc]
      rw [← e]
      exact ⟨a2, cap2, rfl, HF.out.1, HF.out.2⟩
end Go.Proofs.YtkobdephobaopaaGreatDoor

namespace Go.Proofs.YtkobdephobaopaaGreatDoor
open Go.RowKit
attribute [local go_sem] run_store_complex
attribute [local go_sem ↓] add_fit

theorem ba_data (S : ByteArray) : Px.ba S.data.toList = S := by cases S; rfl
theorem ba_cons (l : List UInt8) (S : ByteArray) : Px.ba l ++ S = Px.ba (l ++ S.data.toList) := by rw [← Px.ba_app, ba_data]
theorem ba_snoc (l : List UInt8) (S : ByteArray) : S ++ Px.ba l = Px.ba (S.data.toList ++ l) := by rw [← Px.ba_app, ba_data]
theorem ba_toList (l : List UInt8) : (Px.ba l).data.toList = l := rfl

theorem itoa_any (n : Int) (h0 : -9223372036854775808 ≤ n) (h1 : n ≤ 9223372036854775807) {w : World} (hE : Env w) : ∀ W, Kept w W → Calls Tryz.prog 94 #[.int .i64 n] W fun r w' => r = .returned (.string (Px.ba (Lib.itoa n))) ∧ Kept W w' := by
  intro W hW
  refine (Tryz.strconv_Itoa n h0 h1 W (hE.pow W hW)).mono ?_
  rintro e w' ⟨rfl, k, os, rfl⟩
  exact ⟨rfl, Lib.below_grow _ _ (Nat.le_refl _) k os⟩

set_option maxRecDepth 100000 in
set_option maxHeartbeats 2000000 in
theorem tdecl_any (x : Dc) (w : World) (hn : x.name.size ≤ 12) (h0 : -9223372036854775808 ≤ x.n) (h1 : x.n ≤ 9223372036854775807) (hE : Env w) :
    Calls Tryz.prog 66 #[x.val] w fun e w' => e = .returned (.string (Px.ba (Ps.Pu.dwords x))) ∧ Kept w w' := by
  obtain ⟨k, S, n, p, q⟩ := x
  have hn : S.size ≤ 12 := hn
  have IT : Hid _ := itoa_any n h0 h1 hE
  have hil : (Px.ba (Lib.itoa n)).size ≤ 21 := by rw [Px.ba_size]; exact Lib.itoa_length_le n h0 h1
  show Calls Tryz.prog 66 #[.agg #[.int .i64 k, .string S, .int .i64 n, .complex .f64 p q]] w _
  clear hE h0 h1
  by_cases c1 : k = 1
  · subst c1
    have HE : Hid ((⟨#[118, 97, 114, 32]⟩ : ByteArray) ++ S = Px.ba (Ps.Pu.dwords ⟨1, S, n, p, q⟩)) := by
      show _ = _
      rw [show (⟨#[118, 97, 114, 32]⟩ : ByteArray) = Px.ba [118, 97, 114, 32] from rfl, ba_cons]; rfl
    have B1 := addf ⟨#[118, 97, 114, 32]⟩ S (by show 4 + _ ≤ _; omega)
    clear IT hil
    go_enter Tryz.func66, Tryz.ntmps66
    go_wp2_with fail
    go_ret
    exact ⟨by rw [← HE.out]; rfl, (Kept.refl _).al _⟩
  have g1 : (k == 1) = false := ne_int c1
  by_cases c2 : k = 2
  · subst c2
    have HE : Hid ((⟨#[119, 105, 100, 101, 32]⟩ : ByteArray) ++ S = Px.ba (Ps.Pu.dwords ⟨2, S, n, p, q⟩)) := by
      show _ = _
      rw [show (⟨#[119, 105, 100, 101, 32]⟩ : ByteArray) = Px.ba [119, 105, 100, 101, 32] from rfl, ba_cons]; rfl
    have B1 := addf ⟨#[119, 105, 100, 101, 32]⟩ S (by show 5 + _ ≤ _; omega)
    clear IT hil
    go_enter Tryz.func66, Tryz.ntmps66
    go_wp2_with fail
    go_ret
    exact ⟨by rw [← HE.out]; rfl, (Kept.refl _).al _⟩
  have g2 : (k == 2) = false := ne_int c2
  by_cases c3 : k = 3
  · subst c3
    have HE : Hid ((⟨#[97, 116, 111, 109, 105, 99, 32]⟩ : ByteArray) ++ S = Px.ba (Ps.Pu.dwords ⟨3, S, n, p, q⟩)) := by
      show _ = _
      rw [show (⟨#[97, 116, 111, 109, 105, 99, 32]⟩ : ByteArray) = Px.ba [97, 116, 111, 109, 105, 99, 32] from rfl, ba_cons]; rfl
    have B1 := addf ⟨#[97, 116, 111, 109, 105, 99, 32]⟩ S (by show 7 + _ ≤ _; omega)
    clear IT hil
    go_enter Tryz.func66, Tryz.ntmps66
    go_wp2_with fail
    go_ret
    exact ⟨by rw [← HE.out]; rfl, (Kept.refl _).al _⟩
  have g3 : (k == 3) = false := ne_int c3
  by_cases c4 : k = 4
  · subst c4
    have HE : Hid ((⟨#[108, 111, 99, 97, 108, 32]⟩ : ByteArray) ++ S = Px.ba (Ps.Pu.dwords ⟨4, S, n, p, q⟩)) := by
      show _ = _
      rw [show (⟨#[108, 111, 99, 97, 108, 32]⟩ : ByteArray) = Px.ba [108, 111, 99, 97, 108, 32] from rfl, ba_cons]; rfl
    have B1 := addf ⟨#[108, 111, 99, 97, 108, 32]⟩ S (by show 6 + _ ≤ _; omega)
    clear IT hil
    go_enter Tryz.func66, Tryz.ntmps66
    go_wp2_with fail
    go_ret
    exact ⟨by rw [← HE.out]; rfl, (Kept.refl _).al _⟩
  have g4 : (k == 4) = false := ne_int c4
  by_cases c5 : k = 5
  · subst c5
    have HE : Hid ((⟨#[109, 117, 116, 101, 120, 32]⟩ : ByteArray) ++ S = Px.ba (Ps.Pu.dwords ⟨5, S, n, p, q⟩)) := by
      show _ = _
      rw [show (⟨#[109, 117, 116, 101, 120, 32]⟩ : ByteArray) = Px.ba [109, 117, 116, 101, 120, 32] from rfl, ba_cons]; rfl
    have B1 := addf ⟨#[109, 117, 116, 101, 120, 32]⟩ S (by show 6 + _ ≤ _; omega)
    clear IT hil
    go_enter Tryz.func66, Tryz.ntmps66
    go_wp2_with fail
    go_ret
    exact ⟨by rw [← HE.out]; rfl, (Kept.refl _).al _⟩
  have g5 : (k == 5) = false := ne_int c5
  by_cases c6 : k = 6
  · subst c6
    generalize hR : Px.ba (Lib.itoa n) = R at *
    have HE : Hid ((((⟨#[99, 104, 97, 110, 32]⟩ : ByteArray) ++ S) ++ ⟨#[32]⟩) ++ R = Px.ba (Ps.Pu.dwords ⟨6, S, n, p, q⟩)) := by
      show _ = _
      rw [← hR, show (⟨#[99, 104, 97, 110, 32]⟩ : ByteArray) = Px.ba [99, 104, 97, 110, 32] from rfl, show (⟨#[32]⟩ : ByteArray) = Px.ba [32] from rfl, ba_cons, Px.ba_app, Px.ba_app]; rfl
    clear hR
    have y1 : ((⟨#[99, 104, 97, 110, 32]⟩ : ByteArray) ++ S).size ≤ 17 := by rw [ByteArray.size_append]; show 5 + _ ≤ _; omega
    have y2 : (((⟨#[99, 104, 97, 110, 32]⟩ : ByteArray) ++ S) ++ ⟨#[32]⟩).size ≤ 18 := by rw [ByteArray.size_append]; show _ + 1 ≤ _; omega
    have B1 := addf ⟨#[99, 104, 97, 110, 32]⟩ S (by show 5 + _ ≤ _; omega)
    have B2 := addf ((⟨#[99, 104, 97, 110, 32]⟩ : ByteArray) ++ S) ⟨#[32]⟩ (by show _ + 1 ≤ _; omega)
    have B3 := addf (((⟨#[99, 104, 97, 110, 32]⟩ : ByteArray) ++ S) ++ ⟨#[32]⟩) R (by omega)
    clear y1 y2
    go_enter Tryz.func66, Tryz.ntmps66
    go_wp2_with fail
    obtain ⟨W1, hW1⟩ : ∃ W1, w.alloc (.cells #[.int .i64 6, .string S, .int .i64 n, .complex .f64 p q] 40) = W1 := ⟨_, rfl⟩
    have KW : Hid (Kept w W1) := by rw [← hW1]; exact (Kept.refl _).al _
    have e1 : W1.cell? ⟨w.heap.size, 1, none⟩ = some (.string S) := by rw [← hW1]; simp
    have e2 : W1.cell? ⟨w.heap.size, 2, none⟩ = some (.int .i64 n) := by rw [← hW1]; simp
    rw [hW1]
    clear hW1
    go_region_held3 (fun w' => Hid (Kept W1 w') ∧ w'.cell? ⟨w.heap.size, 1, none⟩ = some (.string S) ∧ w'.cell? ⟨w.heap.size, 2, none⟩ = some (.int .i64 n))
      ((first | (have KK : Kept W1 _ := ((Kept.refl W1).dr).then kw; exact ⟨KK, KK.cellS e1, KK.cellS e2⟩) | (have KK : Kept W1 _ := (Kept.refl W1).dr; exact ⟨KK, KK.cellS e1, KK.cellS e2⟩)))
      ((go_at_call 94; refine (IT.out _ (KW.out.then (Kept.refl W1).dr)).mono ?_; rintro r w3 ⟨rfl, kw⟩))
    rename_i hH
    clear hH
    have KF : Hid (Kept w w3) := KW.out.then (((Kept.refl W1).dr).then kw)
    clear kw e1 e2
    go_wp2_with fail
    go_ret
    exact ⟨by rw [← HE.out]; rfl, KF.out⟩
  have g6 : (k == 6) = false := ne_int c6
  have HE : Hid (Px.ba (Ps.Pu.dwords ⟨k, S, n, p, q⟩) = ⟨#[]⟩) := by
    show Px.ba _ = _
    unfold Ps.Pu.dwords
    rw [if_neg c1, if_neg c2, if_neg c3, if_neg c4, if_neg c5, if_neg c6]; rfl
  clear IT hil
  go_enter Tryz.func66, Tryz.ntmps66
  go_wp2_with fail
  go_ret
  exact ⟨by rw [HE.out]; rfl, (Kept.refl _).al _⟩

set_option maxRecDepth 100000 in
set_option maxHeartbeats 4000000 in
theorem tstmt_any (s : St) (w : World) (ev bv lv : Value) (hn : s.name.size ≤ 12) (ho : s.other.size ≤ 12) (h0 : -9223372036854775808 ≤ s.n) (h1 : s.n ≤ 9223372036854775807) (hf : s.e.fit) (hz : s.e.size ≤ 10000) (hx : ExsIn w 0 w.heap.size s.e.of ev) (hE : Env w) :
    Calls Tryz.prog 115 #[s.val ev bv lv] w fun e w' => e = .returned (.string (Px.ba (Ps.Pu.words s.kind s.name s.other s.n s.e))) ∧ Kept w w' := by
  obtain ⟨k, S, O, n, x, b, c, p, q⟩ := s
  have hn : S.size ≤ 12 := hn
  have ho : O.size ≤ 12 := ho
  have IT : Hid _ := itoa_any n h0 h1 hE
  have hil : (Px.ba (Lib.itoa n)).size ≤ 21 := by rw [Px.ba_size]; exact Lib.itoa_length_le n h0 h1
  have hpl : (Px.ba (Px.print x)).size ≤ 6000 := by rw [Px.ba_size]; exact Ps.Pu.print_len x
  have hx : ExsIn w 0 w.heap.size x.of ev := hx
  obtain ⟨a1, n1, q1, rfl⟩ := hx.form
  have HX : Hid (∀ W, Kept w W → Calls Tryz.prog 125 #[.agg #[.int .i64 x.kind, .int .i64 x.n, .string x.name, .slice a1 n1 q1]] W fun r w' => r = .returned (.string (Px.ba (Px.print x))) ∧ Kept W w') :=
    fun W hW => print_any x W _ (hx.up (Nat.le_refl _) hW) hf (by have : x.size ≤ 10000 := hz; omega) (hE.kept hW)
  show Calls Tryz.prog 115 #[.agg #[.int .i64 k, .string S, .string O, .int .i64 n, .int .i64 x.kind, .int .i64 x.n, .string x.name, .slice a1 n1 q1, bv, lv, .complex .f64 p q]] w fun e w' => e = .returned (.string (Px.ba (Ps.Pu.words k S O n x))) ∧ Kept w w'
  clear hE h0 h1 hf hz hx
  by_cases c1 : k = 1
  · subst c1
    have HE0 : (S ++ ⟨#[32, 61, 32]⟩) ++ Px.ba (Px.print x) = Px.ba (Ps.Pu.words 1 S O n x) := by
      rw [show (⟨#[32, 61, 32]⟩ : ByteArray) = Px.ba [32, 61, 32] from rfl, ba_snoc [32, 61, 32] S, Px.ba_app]; rfl
    generalize Px.ba (Px.print x) = R at *
    have HE : Hid _ := HE0
    clear HE0
    have y2 : (S ++ ⟨#[32, 61, 32]⟩).size ≤ 15 := by rw [ByteArray.size_append]; show _ + 3 ≤ _; omega
    have B2 := addf S ⟨#[32, 61, 32]⟩ (by show _ + 3 ≤ _; omega)
    have B3 := addf (S ++ ⟨#[32, 61, 32]⟩) R (by omega)
    clear y2
    clear IT hil
    go_enter Tryz.func115, Tryz.ntmps115
    go_wp2_with fail
    obtain ⟨W1, hW1⟩ : ∃ W1, w.alloc (.cells #[.int .i64 1, .string S, .string O, .int .i64 n, .int .i64 x.kind, .int .i64 x.n, .string x.name, .slice a1 n1 q1, bv, lv, .complex .f64 p q] 46) = W1 := ⟨_, rfl⟩
    have KW : Hid (Kept w W1) := by rw [← hW1]; exact (Kept.refl _).al _
    have e1 : W1.cell? ⟨w.heap.size, 1, none⟩ = some (.string S) := by rw [← hW1]; simp
    have e4 : W1.cell? ⟨w.heap.size, 4, none⟩ = some (.int .i64 x.kind) := by rw [← hW1]; simp
    have e5 : W1.cell? ⟨w.heap.size, 5, none⟩ = some (.int .i64 x.n) := by rw [← hW1]; simp
    have e6 : W1.cell? ⟨w.heap.size, 6, none⟩ = some (.string x.name) := by rw [← hW1]; simp
    have e7 : W1.cell? ⟨w.heap.size, 7, none⟩ = some (.slice a1 n1 q1) := by rw [← hW1]; simp
    rw [hW1]
    clear hW1
    go_region_held3 (fun w' => Hid (Kept W1 w') ∧ w'.cell? ⟨w.heap.size, 1, none⟩ = some (.string S) ∧ w'.cell? ⟨w.heap.size, 4, none⟩ = some (.int .i64 x.kind) ∧ w'.cell? ⟨w.heap.size, 5, none⟩ = some (.int .i64 x.n) ∧ w'.cell? ⟨w.heap.size, 6, none⟩ = some (.string x.name) ∧ w'.cell? ⟨w.heap.size, 7, none⟩ = some (.slice a1 n1 q1))
      ((first | (have KK : Kept W1 _ := ((Kept.refl W1).dr).then kw; exact ⟨KK, KK.cellS e1, KK.cellS e4, KK.cellS e5, KK.cellS e6, KK.cellS e7⟩) | (have KK : Kept W1 _ := (Kept.refl W1).dr; exact ⟨KK, KK.cellS e1, KK.cellS e4, KK.cellS e5, KK.cellS e6, KK.cellS e7⟩)))
      ((go_at_call 125; refine (HX.out _ (KW.out.then (Kept.refl W1).dr)).mono ?_; rintro r w3 ⟨rfl, kw⟩))
    rename_i hH
    clear hH
    have KF : Hid (Kept w w3) := KW.out.then (((Kept.refl W1).dr).then kw)
    clear kw e1 e4 e5 e6 e7
    go_wp2_with fail
    go_ret
    exact ⟨by rw [← HE.out]; rfl, KF.out⟩
  have g1 : (k == 1) = false := ne_int c1
  by_cases c2 : k = 2
  · subst c2
    have HE : Hid ((⟨#[108, 111, 99, 107, 32]⟩ : ByteArray) ++ S = Px.ba (Ps.Pu.words 2 S O n x)) := by
      show _ = _
      rw [show (⟨#[108, 111, 99, 107, 32]⟩ : ByteArray) = Px.ba [108, 111, 99, 107, 32] from rfl, ba_cons]; rfl
    have B1 := addf ⟨#[108, 111, 99, 107, 32]⟩ S (by show 5 + _ ≤ _; omega)
    clear IT hil HX hpl
    go_enter Tryz.func115, Tryz.ntmps115
    go_wp2_with fail
    go_ret
    exact ⟨by rw [← HE.out]; rfl, (Kept.refl _).al _⟩
  have g2 : (k == 2) = false := ne_int c2
  by_cases c3 : k = 3
  · subst c3
    have HE : Hid ((⟨#[117, 110, 108, 111, 99, 107, 32]⟩ : ByteArray) ++ S = Px.ba (Ps.Pu.words 3 S O n x)) := by
      show _ = _
      rw [show (⟨#[117, 110, 108, 111, 99, 107, 32]⟩ : ByteArray) = Px.ba [117, 110, 108, 111, 99, 107, 32] from rfl, ba_cons]; rfl
    have B1 := addf ⟨#[117, 110, 108, 111, 99, 107, 32]⟩ S (by show 7 + _ ≤ _; omega)
    clear IT hil HX hpl
    go_enter Tryz.func115, Tryz.ntmps115
    go_wp2_with fail
    go_ret
    exact ⟨by rw [← HE.out]; rfl, (Kept.refl _).al _⟩
  have g3 : (k == 3) = false := ne_int c3
  by_cases c4 : k = 4
  · subst c4
    have HE0 : (((⟨#[115, 101, 110, 100, 32]⟩ : ByteArray) ++ S) ++ ⟨#[32]⟩) ++ Px.ba (Px.print x) = Px.ba (Ps.Pu.words 4 S O n x) := by
      rw [show (⟨#[115, 101, 110, 100, 32]⟩ : ByteArray) = Px.ba [115, 101, 110, 100, 32] from rfl, show (⟨#[32]⟩ : ByteArray) = Px.ba [32] from rfl, ba_cons, Px.ba_app, Px.ba_app]; rfl
    generalize Px.ba (Px.print x) = R at *
    have HE : Hid _ := HE0
    clear HE0
    have y1 : ((⟨#[115, 101, 110, 100, 32]⟩ : ByteArray) ++ S).size ≤ 17 := by rw [ByteArray.size_append]; show 5 + _ ≤ _; omega
    have y2 : (((⟨#[115, 101, 110, 100, 32]⟩ : ByteArray) ++ S) ++ ⟨#[32]⟩).size ≤ 18 := by rw [ByteArray.size_append]; show _ + 1 ≤ _; omega
    have B1 := addf ⟨#[115, 101, 110, 100, 32]⟩ S (by show 5 + _ ≤ _; omega)
    have B2 := addf ((⟨#[115, 101, 110, 100, 32]⟩ : ByteArray) ++ S) ⟨#[32]⟩ (by show _ + 1 ≤ _; omega)
    have B3 := addf (((⟨#[115, 101, 110, 100, 32]⟩ : ByteArray) ++ S) ++ ⟨#[32]⟩) R (by omega)
    clear y2
    clear y1
    clear IT hil
    go_enter Tryz.func115, Tryz.ntmps115
    go_wp2_with fail
    obtain ⟨W1, hW1⟩ : ∃ W1, w.alloc (.cells #[.int .i64 4, .string S, .string O, .int .i64 n, .int .i64 x.kind, .int .i64 x.n, .string x.name, .slice a1 n1 q1, bv, lv, .complex .f64 p q] 46) = W1 := ⟨_, rfl⟩
    have KW : Hid (Kept w W1) := by rw [← hW1]; exact (Kept.refl _).al _
    have e1 : W1.cell? ⟨w.heap.size, 1, none⟩ = some (.string S) := by rw [← hW1]; simp
    have e4 : W1.cell? ⟨w.heap.size, 4, none⟩ = some (.int .i64 x.kind) := by rw [← hW1]; simp
    have e5 : W1.cell? ⟨w.heap.size, 5, none⟩ = some (.int .i64 x.n) := by rw [← hW1]; simp
    have e6 : W1.cell? ⟨w.heap.size, 6, none⟩ = some (.string x.name) := by rw [← hW1]; simp
    have e7 : W1.cell? ⟨w.heap.size, 7, none⟩ = some (.slice a1 n1 q1) := by rw [← hW1]; simp
    rw [hW1]
    clear hW1
    go_region_held3 (fun w' => Hid (Kept W1 w') ∧ w'.cell? ⟨w.heap.size, 1, none⟩ = some (.string S) ∧ w'.cell? ⟨w.heap.size, 4, none⟩ = some (.int .i64 x.kind) ∧ w'.cell? ⟨w.heap.size, 5, none⟩ = some (.int .i64 x.n) ∧ w'.cell? ⟨w.heap.size, 6, none⟩ = some (.string x.name) ∧ w'.cell? ⟨w.heap.size, 7, none⟩ = some (.slice a1 n1 q1))
      ((first | (have KK : Kept W1 _ := ((Kept.refl W1).dr).then kw; exact ⟨KK, KK.cellS e1, KK.cellS e4, KK.cellS e5, KK.cellS e6, KK.cellS e7⟩) | (have KK : Kept W1 _ := (Kept.refl W1).dr; exact ⟨KK, KK.cellS e1, KK.cellS e4, KK.cellS e5, KK.cellS e6, KK.cellS e7⟩)))
      ((go_at_call 125; refine (HX.out _ (KW.out.then (Kept.refl W1).dr)).mono ?_; rintro r w3 ⟨rfl, kw⟩))
    rename_i hH
    clear hH
    have KF : Hid (Kept w w3) := KW.out.then (((Kept.refl W1).dr).then kw)
    clear kw e1 e4 e5 e6 e7
    go_wp2_with fail
    go_ret
    exact ⟨by rw [← HE.out]; rfl, KF.out⟩
  have g4 : (k == 4) = false := ne_int c4
  by_cases c5 : k = 5
  · subst c5
    have HE : Hid ((((⟨#[114, 101, 99, 118, 32]⟩ : ByteArray) ++ S) ++ ⟨#[32]⟩) ++ O = Px.ba (Ps.Pu.words 5 S O n x)) := by
      show _ = _
      rw [show (⟨#[114, 101, 99, 118, 32]⟩ : ByteArray) = Px.ba [114, 101, 99, 118, 32] from rfl, show (⟨#[32]⟩ : ByteArray) = Px.ba [32] from rfl, ba_cons, Px.ba_app, ba_cons]; rfl
    have y1 : ((⟨#[114, 101, 99, 118, 32]⟩ : ByteArray) ++ S).size ≤ 17 := by rw [ByteArray.size_append]; show 5 + _ ≤ _; omega
    have y2 : (((⟨#[114, 101, 99, 118, 32]⟩ : ByteArray) ++ S) ++ ⟨#[32]⟩).size ≤ 18 := by rw [ByteArray.size_append]; show _ + 1 ≤ _; omega
    have B1 := addf ⟨#[114, 101, 99, 118, 32]⟩ S (by show 5 + _ ≤ _; omega)
    have B2 := addf ((⟨#[114, 101, 99, 118, 32]⟩ : ByteArray) ++ S) ⟨#[32]⟩ (by show _ + 1 ≤ _; omega)
    have B3 := addf (((⟨#[114, 101, 99, 118, 32]⟩ : ByteArray) ++ S) ++ ⟨#[32]⟩) O (by omega)
    clear y1 y2 IT hil HX hpl
    go_enter Tryz.func115, Tryz.ntmps115
    go_wp2_with fail
    go_ret
    exact ⟨by rw [← HE.out]; rfl, (Kept.refl _).al _⟩
  have g5 : (k == 5) = false := ne_int c5
  by_cases c6 : k = 6
  · subst c6
    have HE0 : (⟨#[112, 114, 105, 110, 116, 32]⟩ : ByteArray) ++ Px.ba (Px.print x) = Px.ba (Ps.Pu.words 6 S O n x) := by
      rw [show (⟨#[112, 114, 105, 110, 116, 32]⟩ : ByteArray) = Px.ba [112, 114, 105, 110, 116, 32] from rfl, Px.ba_app]; rfl
    generalize Px.ba (Px.print x) = R at *
    have HE : Hid _ := HE0
    clear HE0
    have B1 := addf ⟨#[112, 114, 105, 110, 116, 32]⟩ R (by show 6 + _ ≤ _; omega)
    clear IT hil
    go_enter Tryz.func115, Tryz.ntmps115
    go_wp2_with fail
    refine (HX.out _ ((Kept.refl _).al _)).mono ?_
    rintro r w3 ⟨rfl, kw⟩
    have KF : Hid (Kept w w3) := ((Kept.refl w).al _).then kw
    clear kw
    go_wp2_with fail
    go_ret
    exact ⟨by rw [← HE.out]; rfl, KF.out⟩
  have g6 : (k == 6) = false := ne_int c6
  by_cases c7 : k = 7
  · subst c7
    have HE0 : ((⟨#[105, 102, 32]⟩ : ByteArray) ++ Px.ba (Px.print x)) ++ ⟨#[32, 123]⟩ = Px.ba (Ps.Pu.words 7 S O n x) := by
      rw [show (⟨#[105, 102, 32]⟩ : ByteArray) = Px.ba [105, 102, 32] from rfl, show (⟨#[32, 123]⟩ : ByteArray) = Px.ba [32, 123] from rfl, Px.ba_app, Px.ba_app]; rfl
    generalize Px.ba (Px.print x) = R at *
    have HE : Hid _ := HE0
    clear HE0
    have B1 := addf ⟨#[105, 102, 32]⟩ R (by show 3 + _ ≤ _; omega)
    have y1 : ((⟨#[105, 102, 32]⟩ : ByteArray) ++ R).size ≤ 6003 := by rw [ByteArray.size_append]; show 3 + _ ≤ _; omega
    have B2 := addf ((⟨#[105, 102, 32]⟩ : ByteArray) ++ R) ⟨#[32, 123]⟩ (by show _ + 2 ≤ _; omega)
    clear y1
    clear IT hil
    go_enter Tryz.func115, Tryz.ntmps115
    go_wp2_with fail
    refine (HX.out _ ((Kept.refl _).al _)).mono ?_
    rintro r w3 ⟨rfl, kw⟩
    have KF : Hid (Kept w w3) := ((Kept.refl w).al _).then kw
    clear kw
    go_wp2_with fail
    go_ret
    exact ⟨by rw [← HE.out]; rfl, KF.out⟩
  have g7 : (k == 7) = false := ne_int c7
  by_cases c8 : k = 8
  · subst c8
    have HE0 : ((⟨#[114, 101, 112, 101, 97, 116, 32]⟩ : ByteArray) ++ Px.ba (Lib.itoa n)) ++ ⟨#[32, 123]⟩ = Px.ba (Ps.Pu.words 8 S O n x) := by
      rw [show (⟨#[114, 101, 112, 101, 97, 116, 32]⟩ : ByteArray) = Px.ba [114, 101, 112, 101, 97, 116, 32] from rfl, show (⟨#[32, 123]⟩ : ByteArray) = Px.ba [32, 123] from rfl, Px.ba_app, Px.ba_app]; rfl
    generalize Px.ba (Lib.itoa n) = R at *
    have HE : Hid _ := HE0
    clear HE0
    have B1 := addf ⟨#[114, 101, 112, 101, 97, 116, 32]⟩ R (by show 7 + _ ≤ _; omega)
    have y1 : ((⟨#[114, 101, 112, 101, 97, 116, 32]⟩ : ByteArray) ++ R).size ≤ 6007 := by rw [ByteArray.size_append]; show 7 + _ ≤ _; omega
    have B2 := addf ((⟨#[114, 101, 112, 101, 97, 116, 32]⟩ : ByteArray) ++ R) ⟨#[32, 123]⟩ (by show _ + 2 ≤ _; omega)
    clear y1
    clear HX hpl
    go_enter Tryz.func115, Tryz.ntmps115
    go_wp2_with fail
    refine (IT.out _ ((Kept.refl _).al _)).mono ?_
    rintro r w3 ⟨rfl, kw⟩
    have KF : Hid (Kept w w3) := ((Kept.refl w).al _).then kw
    clear kw
    go_wp2_with fail
    go_ret
    exact ⟨by rw [← HE.out]; rfl, KF.out⟩
  have g8 : (k == 8) = false := ne_int c8
  by_cases c9 : k = 9
  · subst c9
    have HE : Hid ((⟨#[103, 111, 116, 111, 32]⟩ : ByteArray) ++ S = Px.ba (Ps.Pu.words 9 S O n x)) := by
      show _ = _
      rw [show (⟨#[103, 111, 116, 111, 32]⟩ : ByteArray) = Px.ba [103, 111, 116, 111, 32] from rfl, ba_cons]; rfl
    have B1 := addf ⟨#[103, 111, 116, 111, 32]⟩ S (by show 5 + _ ≤ _; omega)
    clear IT hil HX hpl
    go_enter Tryz.func115, Tryz.ntmps115
    go_wp2_with fail
    go_ret
    exact ⟨by rw [← HE.out]; rfl, (Kept.refl _).al _⟩
  have g9 : (k == 9) = false := ne_int c9
  by_cases c10 : k = 10
  · subst c10
    have HE : Hid ((⟨#[108, 97, 98, 101, 108, 32]⟩ : ByteArray) ++ S = Px.ba (Ps.Pu.words 10 S O n x)) := by
      show _ = _
      rw [show (⟨#[108, 97, 98, 101, 108, 32]⟩ : ByteArray) = Px.ba [108, 97, 98, 101, 108, 32] from rfl, ba_cons]; rfl
    have B1 := addf ⟨#[108, 97, 98, 101, 108, 32]⟩ S (by show 6 + _ ≤ _; omega)
    clear IT hil HX hpl
    go_enter Tryz.func115, Tryz.ntmps115
    go_wp2_with fail
    go_ret
    exact ⟨by rw [← HE.out]; rfl, (Kept.refl _).al _⟩
  have g10 : (k == 10) = false := ne_int c10
  have HE : Hid (Px.ba (Ps.Pu.words k S O n x) = ⟨#[]⟩) := by
    show Px.ba _ = _
    unfold Ps.Pu.words
    rw [if_neg c1, if_neg c2, if_neg c3, if_neg c4, if_neg c5, if_neg c6, if_neg c7, if_neg c8, if_neg c9, if_neg c10]; rfl
  clear IT hil HX hpl
  go_enter Tryz.func115, Tryz.ntmps115
  go_wp2_with fail
  go_ret
  exact ⟨by rw [HE.out]; rfl, (Kept.refl _).al _⟩
end Go.Proofs.YtkobdephobaopaaGreatDoor

namespace Go.Proofs.YtkobdephobaopaaGreatDoor
open Go.RowKit
open Ps.Pu (Wr wS wB ln words)
attribute [local go_sem] run_store_complex

/-- What the program's own variables hold, as long as nothing below B turns. -/
def EnvB (B : Nat) (w : World) : Prop := ∀ W, Below B w W → Env W
theorem EnvB.on {B : Nat} {w W : World} (h : EnvB B w) (k : Below B w W) : EnvB B W := fun V hV => h V (k.trans hV)
theorem EnvB.of {w : World} (h : Env w) : EnvB w.heap.size w := fun _ hW => h.kept hW
theorem Wk.blk {B : Nat} {w w' : World} (h : Wk B w w') {b : Nat} {cs : Array Value} {ty : Nat} (hty : ty ≠ 5) (hb : w.heap[b]? = some (.cells cs ty)) : w'.heap[b]? = some (.cells cs ty) :=
  h.oth b _ hb (by simp) (fun c fz e => hty (by cases e; rfl))
theorem row_cell {w : World} {b : Nat} {cs : Array Value} {ty : Nat} (h : w.heap[b]? = some (.cells cs ty)) (j : Nat) : w.cell? ⟨b, j, none⟩ = cs[j]? := cell_of_row w b _ _ _ (0, 0) h
theorem row_lt {w : World} {b : Nat} {o : Obj} (h : w.heap[b]? = some o) : b < w.heap.size := by
  rcases Nat.lt_or_ge b w.heap.size with h1 | h1
  · exact h1
  · rw [Array.getElem?_eq_none h1] at h; cases h

def PWS (x : St) : Prop := ∀ (acc : List UInt8) (d B : Nat) (w : World) (v ev bv lv : Value), Txt w B v acc → ExsIn w 0 B x.e.of ev → StsIn w 0 B x.body bv → StsIn w 0 B x.els lv → B ≤ w.heap.size → Wr x → d + x.size ≤ 20000 → acc.length + 68000 * x.size ≤ 800000000000 → EnvB B w →
  Calls Tryz.prog 95 #[v, .int .i64 (d : Int), x.val ev bv lv] w fun e w' => Wrote B w (wS x d acc) e w'
def PWB (l : List St) : Prop := ∀ (acc : List UInt8) (d B : Nat) (w : World) (v lv : Value), Txt w B v acc → StsIn w 0 B l lv → B ≤ w.heap.size → (∀ x ∈ l, Wr x) → d + St.sizes l ≤ 20000 → acc.length + 68000 * St.sizes l ≤ 800000000000 → EnvB B w →
  Calls Tryz.prog 67 #[v, .int .i64 (d : Int), lv] w fun e w' => Wrote B w (wB l d acc) e w'

theorem sizes_drop (l : List St) (k : Nat) (h : k < l.length) : St.sizes (l.drop k) = l[k].size + St.sizes (l.drop (k + 1)) := by rw [List.drop_eq_getElem_cons h, St.sizes]
theorem sizes_drop_le (l : List St) (k : Nat) : St.sizes (l.drop k) ≤ St.sizes l := by
  have := St.sizes_append (l.take k) (l.drop k)
  rw [List.take_append_drop] at this
  omega

set_option maxRecDepth 100000 in
set_option maxHeartbeats 2000000 in
theorem tblock_of (l : List St) (H : ∀ x ∈ l, PWS x) : PWB l := by
  intro acc d B w v lv ht hx hB hw hd hsz hE
  obtain ⟨a0, cap0, rfl⟩ := ht.form
  have HT : Hid (Txt w B (.slice a0 acc.length cap0) acc) := ht
  have HX : Hid _ := hx
  obtain ⟨al, lcap, rfl, hl1, hl2, hcap⟩ := hx.open
  have HW : Hid (∀ x ∈ l, Wr x) := hw
  have HH : Hid (∀ x ∈ l, PWS x) := H
  have HEE : Hid (EnvB B w) := hE
  have HSZ : Hid (d + St.sizes l ≤ 20000 ∧ acc.length + 68000 * St.sizes l ≤ 800000000000) := ⟨hd, hsz⟩
  have hd0 : d ≤ 20000 := by omega
  clear ht hx hw H hE hd hsz
  go_enter Tryz.func67, Tryz.ntmps67
  go_wp2_with fail
  go_loopw [0, 11] (fun v i wr => ∃ (t : List UInt8) (a : Option Addr) (cap k : Nat), v = .slice a t.length cap ∧ i = .int .i64 (k : Int) ∧ k ≤ l.length ∧ t.length ≤ 800000000000 ∧ Hid (wB (l.drop k) d t = wB l d acc ∧ Txt wr B (.slice a t.length cap) t ∧ Wk B w wr ∧ t.length + 68000 * St.sizes (l.drop k) ≤ 800000000000)) (fun _ i _ => l.length - (intOf i).toNat)
  case atStart => exact ⟨acc, a0, cap0, 0, rfl, rfl, Nat.zero_le _, by have := HSZ.out.2; omega, ⟨rfl, HT.out, Wk.refl _ _, HSZ.out.2⟩⟩
  case round =>
    obtain ⟨t, a, cap, k, rfl, rfl, hk, htl, HI⟩ := hrel
    by_cases hlt : k < l.length
    · have hki : (k : Int) < (l.length : Int) := by omega
      obtain ⟨b, o, a1, n1, q1, a2, n2, q2, a3, n3, q3, rfl, _, hb, _, c0, c1, c2, c3, c4, c5, c6, c7, c8, c9, c10, k1, k2, k3⟩ := HX.out.item (Stays.of_below HI.out.2.2.1.bel (Nat.le_refl _)) k hlt
      have hz := Nat.le_trans hB HI.out.2.2.1.bel.size
      have hzb : b < wr.heap.size := by omega
      have HK3 : Hid _ := And.intro k1 (And.intro k2 k3)
      clear k1 k2 k3
      by_cases h6 : 6000 < t.length
      · have g6 : (6000 : Int) < (t.length : Int) := by omega
        have HE : Hid (wB l d acc = t) := by show _ = _; rw [← HI.out.1]; exact Ps.Pu.wB_cut _ _ _ h6
        go_wp2_with fail
        go_ret
        rw [HE.out]
        exact ⟨a, cap, rfl, HI.out.2.1.kept ((Kept.refl _).al _), HI.out.2.2.1.al hB _⟩
      · have g6 : ¬ (6000 : Int) < (t.length : Int) := by omega
        have hsd := HI.out.2.2.2
        rw [sizes_drop l k hlt] at hsd
        have hsm := St.size_mem l l[k] (List.getElem_mem hlt)
        have HCALL : Hid (∀ W, Kept wr W → Calls Tryz.prog 95 #[.slice a t.length cap, .int .i64 (d : Int), l[k].val (.slice a1 n1 q1) (.slice a2 n2 q2) (.slice a3 n3 q3)] W fun e w' => Wrote B W (wS l[k] d t) e w') := fun W hW => by
          have hBW : Below B wr W := hW.mono hz
          refine HH.out _ (List.getElem_mem hlt) t d B W _ _ _ _ (HI.out.2.1.kept hW) (tree_bel HK3.out.1 hBW) (HK3.out.2.1.stays (Stays.of_below hBW (Nat.le_refl _))) (HK3.out.2.2.stays (Stays.of_below hBW (Nat.le_refl _))) (Nat.le_trans hz hW.size) (HW.out _ (List.getElem_mem hlt)) (by have := HSZ.out.1; omega) (by omega) (HEE.out.on (HI.out.2.2.1.bel.trans hBW))
        have HLEN : Hid ((wS l[k] d t).length + 68000 * St.sizes (l.drop (k + 1)) ≤ 800000000000) := by
          have := Ps.Pu.wS_len (M := 20000) l[k] (HW.out _ (List.getElem_mem hlt)) d t (by have := HSZ.out.1; omega)
          show _ ≤ _
          omega
        have HE : Hid (wB (l.drop (k + 1)) d (wS l[k] d t) = wB l d acc) := by
          show _ = _
          rw [← HI.out.1, List.drop_eq_getElem_cons hlt, Ps.Pu.wB_cons _ _ _ _ h6]
        have hwr : IntKind.i64.wrap ((k : Int) + 1) = (k : Int) + 1 := by rw [IntKind.wrap_i64]; omega
        obtain ⟨t1, ht1⟩ : ∃ t1, wS l[k] d t = t1 := ⟨_, rfl⟩
        rw [ht1] at HCALL HLEN HE
        clear ht1 hsd hsm
        go_wp2_with fail
        refine (HCALL.out _ ((Kept.refl _).al _)).mono ?_
        rintro e w1 ⟨a4, cap4, rfl, t4, k4⟩
        have HI1 : Hid (wB (l.drop (k + 1)) d t1 = wB l d acc ∧ Txt w1 B (.slice a4 t1.length cap4) t1 ∧ Wk B w w1 ∧ t1.length + 68000 * St.sizes (l.drop (k + 1)) ≤ 800000000000) := ⟨HE.out, t4, (HI.out.2.2.1.al hB _).then k4, HLEN.out⟩
        clear t4 k4
        have htl1 : t1.length ≤ 800000000000 := by have := HLEN.out; omega
        go_wp2_with fail
        go_roundw
        case rel => exact ⟨t1, a4, cap4, k + 1, rfl, by go_num, by omega, htl1, HI1⟩
        case measure => simp [intOf]; omega
    · have hki : ¬ (k : Int) < (l.length : Int) := by omega
      have HE : Hid (wB l d acc = t) := by show _ = _; rw [← HI.out.1, List.drop_eq_nil_of_le (by omega)]; exact Ps.Pu.wB_nil _ _
      go_wp2_with fail
      go_ret
      rw [HE.out]
      exact ⟨a, cap, rfl, HI.out.2.1, HI.out.2.2.1⟩

set_option maxRecDepth 100000 in
set_option maxHeartbeats 4000000 in
theorem tstmtW_of (x : St) (HB : PWB x.body) (HC : PWB x.els) : PWS x := by
  intro acc d B w v ev bv lv ht hx hb hl hB hw hd hsz hE
  obtain ⟨k, S, O, n, x, b, c, p, q⟩ := x
  obtain ⟨a0, cap0, rfl⟩ := ht.form
  have hx : ExsIn w 0 B x.of ev := hx
  have hb : StsIn w 0 B b bv := hb
  have hl : StsIn w 0 B c lv := hl
  have HB : PWB b := HB
  have HC : PWB c := HC
  obtain ⟨a1, n1, q1, rfl⟩ := hx.form
  obtain ⟨a2, n2, q2, rfl⟩ := hb.form
  have hlo := hl.open
  obtain ⟨a3, q3, rfl, hc1, hc2, hc3⟩ := hlo
  obtain ⟨n3, hn3⟩ : ∃ n3, c.length = n3 := ⟨_, rfl⟩
  rw [hn3] at hl hc1 hc2 ⊢
  have HT : Hid (Txt w B (.slice a0 acc.length cap0) acc) := ht
  have hwl := Ps.Pu.words_len hw
  have hss : (St.mk k S O n x b c p q).size = 1 + (St.sizes b + St.sizes c) := by rw [St.size_eq]; rfl
  rw [hss] at hd hsz
  obtain ⟨hn, ho, h0, h1, hf, hz, gb, gc⟩ : S.size ≤ 12 ∧ O.size ≤ 12 ∧ -9223372036854775808 ≤ n ∧ n ≤ 9223372036854775807 ∧ x.fit ∧ x.size ≤ 10000 ∧ (∀ y ∈ b, Wr y) ∧ (∀ y ∈ c, Wr y) := by
    cases hw with
    | mk _ a1 a2 a3 a4 a5 a6 a7 a8 => exact ⟨a1, a2, a3, a4, a5, a6, a7, a8⟩
  have hwl : (words k S O n x).length ≤ 6040 := hwl
  have HST : Hid (∀ W, Kept w W → Calls Tryz.prog 115 #[.agg #[.int .i64 k, .string S, .string O, .int .i64 n, .int .i64 x.kind, .int .i64 x.n, .string x.name, .slice a1 n1 q1, .slice a2 n2 q2, .slice a3 n3 q3, .complex .f64 p q]] W fun e w' => e = .returned (.string (Px.ba (words k S O n x))) ∧ Kept W w') :=
    fun W hW => tstmt_any (.mk k S O n x b c p q) W (.slice a1 n1 q1) (.slice a2 n2 q2) (.slice a3 n3 q3) hn ho h0 h1 hf hz (hx.up hB hW) (hE W (hW.mono hB))
  have HWS : Hid _ := Ps.Pu.wS_eq (.mk k S O n x b c p q) d acc
  have HWS : Hid (wS (.mk k S O n x b c p q) d acc = if k = 7 ∨ k = 8 then ln (if c.isEmpty then wB b (d + 1) (ln acc d (words k S O n x)) else wB c (d + 1) (ln (wB b (d + 1) (ln acc d (words k S O n x))) d Ps.Pu.yElse)) d [125] else ln acc d (words k S O n x)) := HWS
  obtain ⟨t1, ht1⟩ : ∃ t1, ln acc d (words k S O n x) = t1 := ⟨_, rfl⟩
  have hl1 : t1.length ≤ acc.length + 26041 := by rw [← ht1, Ps.Pu.ln_len]; omega
  have HLN : Hid (∀ W, Wk B w W → ∀ a cap, Txt W B (.slice a acc.length cap) acc → Calls Tryz.prog 65 #[.slice a acc.length cap, .int .i64 (d : Int), .string (Px.ba (words k S O n x))] W fun e w' => Wrote B W t1 e w') :=
    fun W hW a cap hT => line_any acc d (Px.ba (words k S O n x)) B W _ hT (Nat.le_trans hB hW.bel.size) (by omega) (by rw [Px.ba_size]; omega) t1 (by rw [← ht1]; rfl)
  rw [ht1] at HWS
  clear ht1
  show Calls Tryz.prog 95 #[.slice a0 acc.length cap0, .int .i64 (d : Int), .agg #[.int .i64 k, .string S, .string O, .int .i64 n, .int .i64 x.kind, .int .i64 x.n, .string x.name, .slice a1 n1 q1, .slice a2 n2 q2, .slice a3 n3 q3, .complex .f64 p q]] w _
  generalize Px.ba (words k S O n x) = Y at *
  have HXX : Hid (StsIn w 0 B b (.slice a2 n2 q2) ∧ StsIn w 0 B c (.slice a3 n3 q3)) := ⟨hb, hl⟩
  have HBB : Hid (PWB b ∧ PWB c ∧ (∀ y ∈ b, Wr y) ∧ (∀ y ∈ c, Wr y)) := ⟨HB, HC, gb, gc⟩
  have HEE : Hid (EnvB B w) := hE
  have HN3 : Hid (c.length = n3) := hn3
  have HSZ : Hid (d + (1 + (St.sizes b + St.sizes c)) ≤ 20000 ∧ acc.length + 68000 * (1 + (St.sizes b + St.sizes c)) ≤ 800000000000 ∧ t1.length ≤ acc.length + 26041) := ⟨hd, hsz, hl1⟩
  have hd0 : d + 1 ≤ 20000 := by omega
  clear ht hx hb hl HB HC hw hwl hss hd hsz hn ho h0 h1 hf hz gb gc hE hn3 hl1
  by_cases hk : k = 7 ∨ k = 8
  · have HWB : Hid (∀ W, Wk B w W → ∀ a cap, Txt W B (.slice a t1.length cap) t1 → Calls Tryz.prog 67 #[.slice a t1.length cap, .int .i64 ((d : Int) + 1), .slice a2 n2 q2] W fun e w' => Wrote B W (wB b (d + 1) t1) e w') := fun W hW a cap hT => by
      have := HSZ.out
      exact HBB.out.1 t1 (d + 1) B W _ _ hT (HXX.out.1.stays (Stays.of_below hW.bel (Nat.le_refl _))) (Nat.le_trans hB hW.bel.size) HBB.out.2.2.1 (by omega) (by omega) (HEE.out.on hW.bel)
    have HL2 : Hid ((wB b (d + 1) t1).length ≤ t1.length + 68000 * St.sizes b) := Ps.Pu.wB_len (M := 20000) b HBB.out.2.2.1 (d + 1) t1 (by have := HSZ.out; omega)
    obtain ⟨t2, ht2⟩ : ∃ t2, wB b (d + 1) t1 = t2 := ⟨_, rfl⟩
    rw [ht2] at HWB HL2
    have HWSb : Hid (wS (.mk k S O n x b c p q) d acc = ln (if c.isEmpty then t2 else wB c (d + 1) (ln t2 d Ps.Pu.yElse)) d [125]) := by show _ = _; rw [HWS.out, if_pos hk, ht2]
    clear ht2
    have hwd : IntKind.i64.wrap ((d : Int) + 1) = (d : Int) + 1 := by rw [IntKind.wrap_i64]; omega
    have HTAIL : Hid (∀ t W, Wk B w W → t.length ≤ acc.length + 68000 * (1 + (St.sizes b + St.sizes c)) → ∀ a cap, Txt W B (.slice a t.length cap) t → Calls Tryz.prog 65 #[.slice a t.length cap, .int .i64 (d : Int), .string ⟨#[125]⟩] W fun e w' => Wrote B W (ln t d [125]) e w') :=
      fun t W hW ht a cap hT => line_any t d ⟨#[125]⟩ B W _ hT (Nat.le_trans hB hW.bel.size) (by omega) (by have := HSZ.out; show _ + 1 ≤ _; omega) _ rfl
    by_cases hc : c = []
    · have hn0 : n3 = 0 := by rw [← HN3.out, hc]; rfl
      subst hn0
      have HWSc : Hid (wS (.mk k S O n x b c p q) d acc = ln t2 d [125]) := by show _ = _; rw [HWSb.out, hc]; rfl
      clear hc

      rcases hk with rfl | rfl
      · go_enter Tryz.func95, Tryz.ntmps95
        go_wp2_with fail
        obtain ⟨W1, hW1⟩ : ∃ W1, w.alloc (.cells #[.int .i64 7, .string S, .string O, .int .i64 n, .int .i64 x.kind, .int .i64 x.n, .string x.name, .slice a1 n1 q1, .slice a2 n2 q2, .slice a3 0 q3, .complex .f64 p q] 46) = W1 := ⟨_, rfl⟩
        have KW : Hid (Kept w W1) := by rw [← hW1]; exact (Kept.refl _).al _
        have HBX : Hid (W1.heap[w.heap.size]? = some (.cells #[.int .i64 7, .string S, .string O, .int .i64 n, .int .i64 x.kind, .int .i64 x.n, .string x.name, .slice a1 n1 q1, .slice a2 n2 q2, .slice a3 0 q3, .complex .f64 p q] 46)) := by rw [← hW1]; exact heap_alloc_new _ _
        rw [hW1]
        clear hW1
        refine (HST.out _ KW.out).mono ?_
        rintro r w2 ⟨rfl, kw⟩
        have KW2 : Hid (Kept w w2) := KW.out.then kw
        have HBX2 : Hid (w2.heap[w.heap.size]? = some (.cells #[.int .i64 7, .string S, .string O, .int .i64 n, .int .i64 x.kind, .int .i64 x.n, .string x.name, .slice a1 n1 q1, .slice a2 n2 q2, .slice a3 0 q3, .complex .f64 p q] 46)) := (kw.block _ (row_lt HBX.out)).trans HBX.out
        clear kw HBX
        go_wp2_with fail
        refine (HLN.out _ (Wk.of KW2.out hB) _ _ (HT.out.kept KW2.out)).mono ?_
        rintro r w3 ⟨a4, cap4, rfl, t4, k4⟩
        have HT3 : Hid (Txt w3 B (.slice a4 t1.length cap4) t1) := t4
        have HK3 : Hid (Wk B w w3) := (Wk.of KW2.out hB).then k4
        have HBX3 : Hid (w3.heap[w.heap.size]? = some (.cells #[.int .i64 7, .string S, .string O, .int .i64 n, .int .i64 x.kind, .int .i64 x.n, .string x.name, .slice a1 n1 q1, .slice a2 n2 q2, .slice a3 0 q3, .complex .f64 p q] 46)) := k4.blk (by decide) HBX2.out
        have c0 := row_cell HBX3.out 0
        have c5 := row_cell HBX3.out 8
        have c6 := row_cell HBX3.out 9
        have hlt := row_lt HBX3.out
        have c0 : w3.cell? ⟨w.heap.size, 0, none⟩ = some (.int .i64 7) := c0
        have c5 : w3.cell? ⟨w.heap.size, 8, none⟩ = some (.slice a2 n2 q2) := c5
        have c6 : w3.cell? ⟨w.heap.size, 9, none⟩ = some (.slice a3 0 q3) := c6
        clear t4 k4 HBX2
        go_wp2_with fail
        refine (HWB.out _ HK3.out _ _ HT3.out).mono ?_
        rintro r w4 ⟨a5, cap5, rfl, t5, k5⟩
        have HT4 : Hid (Txt w4 B (.slice a5 t2.length cap5) t2) := t5
        have HK4 : Hid (Wk B w w4) := HK3.out.then k5
        have HBX4 : Hid (w4.heap[w.heap.size]? = some (.cells #[.int .i64 7, .string S, .string O, .int .i64 n, .int .i64 x.kind, .int .i64 x.n, .string x.name, .slice a1 n1 q1, .slice a2 n2 q2, .slice a3 0 q3, .complex .f64 p q] 46)) := k5.blk (by decide) HBX3.out
        have d6 : w4.cell? ⟨w.heap.size, 9, none⟩ = some (.slice a3 0 q3) := row_cell HBX4.out 9
        have hlt4 := row_lt HBX4.out
        clear t5 k5 c0 c5 c6 HBX3
        go_wp2_with fail
        refine (HTAIL.out t2 _ HK4.out (by have := HL2.out; have := HSZ.out; omega) _ _ HT4.out).mono ?_
        rintro r w5 ⟨a6, cap6, rfl, t6, k6⟩
        have HF : Hid (Wrote B w (wS (.mk 7 S O n x b c p q) d acc) (.returned (.slice a6 (ln t2 d [125]).length cap6)) w5) := by
          show Wrote _ _ _ _ _
          rw [HWSc.out]
          exact ⟨a6, cap6, rfl, t6, HK4.out.then k6⟩
        clear t6 k6
        go_wp2_with fail
        go_ret
        exact HF.out
      · go_enter Tryz.func95, Tryz.ntmps95
        go_wp2_with fail
        obtain ⟨W1, hW1⟩ : ∃ W1, w.alloc (.cells #[.int .i64 8, .string S, .string O, .int .i64 n, .int .i64 x.kind, .int .i64 x.n, .string x.name, .slice a1 n1 q1, .slice a2 n2 q2, .slice a3 0 q3, .complex .f64 p q] 46) = W1 := ⟨_, rfl⟩
        have KW : Hid (Kept w W1) := by rw [← hW1]; exact (Kept.refl _).al _
        have HBX : Hid (W1.heap[w.heap.size]? = some (.cells #[.int .i64 8, .string S, .string O, .int .i64 n, .int .i64 x.kind, .int .i64 x.n, .string x.name, .slice a1 n1 q1, .slice a2 n2 q2, .slice a3 0 q3, .complex .f64 p q] 46)) := by rw [← hW1]; exact heap_alloc_new _ _
        rw [hW1]
        clear hW1
        refine (HST.out _ KW.out).mono ?_
        rintro r w2 ⟨rfl, kw⟩
        have KW2 : Hid (Kept w w2) := KW.out.then kw
        have HBX2 : Hid (w2.heap[w.heap.size]? = some (.cells #[.int .i64 8, .string S, .string O, .int .i64 n, .int .i64 x.kind, .int .i64 x.n, .string x.name, .slice a1 n1 q1, .slice a2 n2 q2, .slice a3 0 q3, .complex .f64 p q] 46)) := (kw.block _ (row_lt HBX.out)).trans HBX.out
        clear kw HBX
        go_wp2_with fail
        refine (HLN.out _ (Wk.of KW2.out hB) _ _ (HT.out.kept KW2.out)).mono ?_
        rintro r w3 ⟨a4, cap4, rfl, t4, k4⟩
        have HT3 : Hid (Txt w3 B (.slice a4 t1.length cap4) t1) := t4
        have HK3 : Hid (Wk B w w3) := (Wk.of KW2.out hB).then k4
        have HBX3 : Hid (w3.heap[w.heap.size]? = some (.cells #[.int .i64 8, .string S, .string O, .int .i64 n, .int .i64 x.kind, .int .i64 x.n, .string x.name, .slice a1 n1 q1, .slice a2 n2 q2, .slice a3 0 q3, .complex .f64 p q] 46)) := k4.blk (by decide) HBX2.out
        have c0 := row_cell HBX3.out 0
        have c5 := row_cell HBX3.out 8
        have c6 := row_cell HBX3.out 9
        have hlt := row_lt HBX3.out
        have c0 : w3.cell? ⟨w.heap.size, 0, none⟩ = some (.int .i64 8) := c0
        have c5 : w3.cell? ⟨w.heap.size, 8, none⟩ = some (.slice a2 n2 q2) := c5
        have c6 : w3.cell? ⟨w.heap.size, 9, none⟩ = some (.slice a3 0 q3) := c6
        clear t4 k4 HBX2
        go_wp2_with fail
        refine (HWB.out _ HK3.out _ _ HT3.out).mono ?_
        rintro r w4 ⟨a5, cap5, rfl, t5, k5⟩
        have HT4 : Hid (Txt w4 B (.slice a5 t2.length cap5) t2) := t5
        have HK4 : Hid (Wk B w w4) := HK3.out.then k5
        have HBX4 : Hid (w4.heap[w.heap.size]? = some (.cells #[.int .i64 8, .string S, .string O, .int .i64 n, .int .i64 x.kind, .int .i64 x.n, .string x.name, .slice a1 n1 q1, .slice a2 n2 q2, .slice a3 0 q3, .complex .f64 p q] 46)) := k5.blk (by decide) HBX3.out
        have d6 : w4.cell? ⟨w.heap.size, 9, none⟩ = some (.slice a3 0 q3) := row_cell HBX4.out 9
        have hlt4 := row_lt HBX4.out
        clear t5 k5 c0 c5 c6 HBX3
        go_wp2_with fail
        refine (HTAIL.out t2 _ HK4.out (by have := HL2.out; have := HSZ.out; omega) _ _ HT4.out).mono ?_
        rintro r w5 ⟨a6, cap6, rfl, t6, k6⟩
        have HF : Hid (Wrote B w (wS (.mk 8 S O n x b c p q) d acc) (.returned (.slice a6 (ln t2 d [125]).length cap6)) w5) := by
          show Wrote _ _ _ _ _
          rw [HWSc.out]
          exact ⟨a6, cap6, rfl, t6, HK4.out.then k6⟩
        clear t6 k6
        go_wp2_with fail
        go_ret
        exact HF.out
    · have hpos : 0 < n3 := by rw [← HN3.out]; exact List.length_pos_iff.2 hc
      have hpi : (0 : Int) < (n3 : Int) := by omega
      obtain ⟨t3, ht3⟩ : ∃ t3, ln t2 d Ps.Pu.yElse = t3 := ⟨_, rfl⟩
      have hl3 : t3.length ≤ acc.length + 26041 + 68000 * St.sizes b + 20010 := by rw [← ht3, Ps.Pu.ln_len]; have := HSZ.out; have := HL2.out; show _ + _ + 8 + 1 ≤ _; omega
      have HLE : Hid (∀ W, Wk B w W → ∀ a cap, Txt W B (.slice a t2.length cap) t2 → Calls Tryz.prog 65 #[.slice a t2.length cap, .int .i64 (d : Int), .string ⟨#[125, 32, 101, 108, 115, 101, 32, 123]⟩] W fun e w' => Wrote B W t3 e w') :=
        fun W hW a cap hT => line_any t2 d ⟨#[125, 32, 101, 108, 115, 101, 32, 123]⟩ B W _ hT (Nat.le_trans hB hW.bel.size) (by omega) (by have := HSZ.out; have := HL2.out; show _ + 8 ≤ _; omega) _ (by rw [← ht3]; rfl)
      have HWC : Hid (∀ W, Wk B w W → ∀ a cap, Txt W B (.slice a t3.length cap) t3 → Calls Tryz.prog 67 #[.slice a t3.length cap, .int .i64 ((d : Int) + 1), .slice a3 n3 q3] W fun e w' => Wrote B W (wB c (d + 1) t3) e w') := fun W hW a cap hT => by
        have := HSZ.out
        exact HBB.out.2.1 t3 (d + 1) B W _ _ hT (HXX.out.2.stays (Stays.of_below hW.bel (Nat.le_refl _))) (Nat.le_trans hB hW.bel.size) HBB.out.2.2.2 (by omega) (by omega) (HEE.out.on hW.bel)
      have HL4 : Hid ((wB c (d + 1) t3).length ≤ acc.length + 68000 * (1 + (St.sizes b + St.sizes c))) := by
        have := Ps.Pu.wB_len (M := 20000) c HBB.out.2.2.2 (d + 1) t3 (by have := HSZ.out; omega)
        show _ ≤ _
        omega
      have HWSc : Hid (wS (.mk k S O n x b c p q) d acc = ln (wB c (d + 1) t3) d [125]) := by
        show _ = _
        rw [HWSb.out, ht3, if_neg (by cases c with
          | nil => exact absurd rfl hc
          | cons y c => simp)]
      obtain ⟨t4, ht4⟩ : ∃ t4, wB c (d + 1) t3 = t4 := ⟨_, rfl⟩
      rw [ht4] at HWC HL4 HWSc
      clear ht4 ht3 hc hl3
      rcases hk with rfl | rfl
      · go_enter Tryz.func95, Tryz.ntmps95
        go_wp2_with fail
        obtain ⟨W1, hW1⟩ : ∃ W1, w.alloc (.cells #[.int .i64 7, .string S, .string O, .int .i64 n, .int .i64 x.kind, .int .i64 x.n, .string x.name, .slice a1 n1 q1, .slice a2 n2 q2, .slice a3 n3 q3, .complex .f64 p q] 46) = W1 := ⟨_, rfl⟩
        have KW : Hid (Kept w W1) := by rw [← hW1]; exact (Kept.refl _).al _
        have HBX : Hid (W1.heap[w.heap.size]? = some (.cells #[.int .i64 7, .string S, .string O, .int .i64 n, .int .i64 x.kind, .int .i64 x.n, .string x.name, .slice a1 n1 q1, .slice a2 n2 q2, .slice a3 n3 q3, .complex .f64 p q] 46)) := by rw [← hW1]; exact heap_alloc_new _ _
        rw [hW1]
        clear hW1
        refine (HST.out _ KW.out).mono ?_
        rintro r w2 ⟨rfl, kw⟩
        have KW2 : Hid (Kept w w2) := KW.out.then kw
        have HBX2 : Hid (w2.heap[w.heap.size]? = some (.cells #[.int .i64 7, .string S, .string O, .int .i64 n, .int .i64 x.kind, .int .i64 x.n, .string x.name, .slice a1 n1 q1, .slice a2 n2 q2, .slice a3 n3 q3, .complex .f64 p q] 46)) := (kw.block _ (row_lt HBX.out)).trans HBX.out
        clear kw HBX
        go_wp2_with fail
        refine (HLN.out _ (Wk.of KW2.out hB) _ _ (HT.out.kept KW2.out)).mono ?_
        rintro r w3 ⟨a4, cap4, rfl, t4, k4⟩
        have HT3 : Hid (Txt w3 B (.slice a4 t1.length cap4) t1) := t4
        have HK3 : Hid (Wk B w w3) := (Wk.of KW2.out hB).then k4
        have HBX3 : Hid (w3.heap[w.heap.size]? = some (.cells #[.int .i64 7, .string S, .string O, .int .i64 n, .int .i64 x.kind, .int .i64 x.n, .string x.name, .slice a1 n1 q1, .slice a2 n2 q2, .slice a3 n3 q3, .complex .f64 p q] 46)) := k4.blk (by decide) HBX2.out
        have c0 := row_cell HBX3.out 0
        have c5 := row_cell HBX3.out 8
        have c6 := row_cell HBX3.out 9
        have hlt := row_lt HBX3.out
        have c0 : w3.cell? ⟨w.heap.size, 0, none⟩ = some (.int .i64 7) := c0
        have c5 : w3.cell? ⟨w.heap.size, 8, none⟩ = some (.slice a2 n2 q2) := c5
        have c6 : w3.cell? ⟨w.heap.size, 9, none⟩ = some (.slice a3 n3 q3) := c6
        clear t4 k4 HBX2
        go_wp2_with fail
        refine (HWB.out _ HK3.out _ _ HT3.out).mono ?_
        rintro r w4 ⟨a5, cap5, rfl, t5, k5⟩
        have HT4 : Hid (Txt w4 B (.slice a5 t2.length cap5) t2) := t5
        have HK4 : Hid (Wk B w w4) := HK3.out.then k5
        have HBX4 : Hid (w4.heap[w.heap.size]? = some (.cells #[.int .i64 7, .string S, .string O, .int .i64 n, .int .i64 x.kind, .int .i64 x.n, .string x.name, .slice a1 n1 q1, .slice a2 n2 q2, .slice a3 n3 q3, .complex .f64 p q] 46)) := k5.blk (by decide) HBX3.out
        have d6 : w4.cell? ⟨w.heap.size, 9, none⟩ = some (.slice a3 n3 q3) := row_cell HBX4.out 9
        have hlt4 := row_lt HBX4.out
        clear t5 k5 c0 c5 c6 HBX3
        go_wp2_with fail
        refine (HLE.out _ HK4.out _ _ HT4.out).mono ?_
        rintro r w5 ⟨a6, cap6, rfl, t6, k6⟩
        have HT5 : Hid (Txt w5 B (.slice a6 t3.length cap6) t3) := t6
        have HK5 : Hid (Wk B w w5) := HK4.out.then k6
        have HBX5 : Hid (w5.heap[w.heap.size]? = some (.cells #[.int .i64 7, .string S, .string O, .int .i64 n, .int .i64 x.kind, .int .i64 x.n, .string x.name, .slice a1 n1 q1, .slice a2 n2 q2, .slice a3 n3 q3, .complex .f64 p q] 46)) := k6.blk (by decide) HBX4.out
        have f6 : w5.cell? ⟨w.heap.size, 9, none⟩ = some (.slice a3 n3 q3) := row_cell HBX5.out 9
        have hlt5 := row_lt HBX5.out
        clear t6 k6 d6 HBX4 hlt4
        go_wp2_with fail
        refine (HWC.out _ HK5.out _ _ HT5.out).mono ?_
        rintro r w6 ⟨a7, cap7, rfl, t7, k7⟩
        have HT6 : Hid (Txt w6 B (.slice a7 t4.length cap7) t4) := t7
        have HK6 : Hid (Wk B w w6) := HK5.out.then k7
        clear t7 k7 f6 HBX5
        go_wp2_with fail
        refine (HTAIL.out t4 _ HK6.out HL4.out _ _ HT6.out).mono ?_
        rintro r w7 ⟨a8, cap8, rfl, t8, k8⟩
        have HF : Hid (Wrote B w (wS (.mk 7 S O n x b c p q) d acc) (.returned (.slice a8 (ln t4 d [125]).length cap8)) w7) := by
          show Wrote _ _ _ _ _
          rw [HWSc.out]
          exact ⟨a8, cap8, rfl, t8, HK6.out.then k8⟩
        clear t8 k8
        go_wp2_with fail
        go_ret
        exact HF.out
      · go_enter Tryz.func95, Tryz.ntmps95
        go_wp2_with fail
        obtain ⟨W1, hW1⟩ : ∃ W1, w.alloc (.cells #[.int .i64 8, .string S, .string O, .int .i64 n, .int .i64 x.kind, .int .i64 x.n, .string x.name, .slice a1 n1 q1, .slice a2 n2 q2, .slice a3 n3 q3, .complex .f64 p q] 46) = W1 := ⟨_, rfl⟩
        have KW : Hid (Kept w W1) := by rw [← hW1]; exact (Kept.refl _).al _
        have HBX : Hid (W1.heap[w.heap.size]? = some (.cells #[.int .i64 8, .string S, .string O, .int .i64 n, .int .i64 x.kind, .int .i64 x.n, .string x.name, .slice a1 n1 q1, .slice a2 n2 q2, .slice a3 n3 q3, .complex .f64 p q] 46)) := by rw [← hW1]; exact heap_alloc_new _ _
        rw [hW1]
        clear hW1
        refine (HST.out _ KW.out).mono ?_
        rintro r w2 ⟨rfl, kw⟩
        have KW2 : Hid (Kept w w2) := KW.out.then kw
        have HBX2 : Hid (w2.heap[w.heap.size]? = some (.cells #[.int .i64 8, .string S, .string O, .int .i64 n, .int .i64 x.kind, .int .i64 x.n, .string x.name, .slice a1 n1 q1, .slice a2 n2 q2, .slice a3 n3 q3, .complex .f64 p q] 46)) := (kw.block _ (row_lt HBX.out)).trans HBX.out
        clear kw HBX
        go_wp2_with fail
        refine (HLN.out _ (Wk.of KW2.out hB) _ _ (HT.out.kept KW2.out)).mono ?_
        rintro r w3 ⟨a4, cap4, rfl, t4, k4⟩
        have HT3 : Hid (Txt w3 B (.slice a4 t1.length cap4) t1) := t4
        have HK3 : Hid (Wk B w w3) := (Wk.of KW2.out hB).then k4
        have HBX3 : Hid (w3.heap[w.heap.size]? = some (.cells #[.int .i64 8, .string S, .string O, .int .i64 n, .int .i64 x.kind, .int .i64 x.n, .string x.name, .slice a1 n1 q1, .slice a2 n2 q2, .slice a3 n3 q3, .complex .f64 p q] 46)) := k4.blk (by decide) HBX2.out
        have c0 := row_cell HBX3.out 0
        have c5 := row_cell HBX3.out 8
        have c6 := row_cell HBX3.out 9
        have hlt := row_lt HBX3.out
        have c0 : w3.cell? ⟨w.heap.size, 0, none⟩ = some (.int .i64 8) := c0
        have c5 : w3.cell? ⟨w.heap.size, 8, none⟩ = some (.slice a2 n2 q2) := c5
        have c6 : w3.cell? ⟨w.heap.size, 9, none⟩ = some (.slice a3 n3 q3) := c6
        clear t4 k4 HBX2
        go_wp2_with fail
        refine (HWB.out _ HK3.out _ _ HT3.out).mono ?_
        rintro r w4 ⟨a5, cap5, rfl, t5, k5⟩
        have HT4 : Hid (Txt w4 B (.slice a5 t2.length cap5) t2) := t5
        have HK4 : Hid (Wk B w w4) := HK3.out.then k5
        have HBX4 : Hid (w4.heap[w.heap.size]? = some (.cells #[.int .i64 8, .string S, .string O, .int .i64 n, .int .i64 x.kind, .int .i64 x.n, .string x.name, .slice a1 n1 q1, .slice a2 n2 q2, .slice a3 n3 q3, .complex .f64 p q] 46)) := k5.blk (by decide) HBX3.out
        have d6 : w4.cell? ⟨w.heap.size, 9, none⟩ = some (.slice a3 n3 q3) := row_cell HBX4.out 9
        have hlt4 := row_lt HBX4.out
        clear t5 k5 c0 c5 c6 HBX3
        go_wp2_with fail
        refine (HLE.out _ HK4.out _ _ HT4.out).mono ?_
        rintro r w5 ⟨a6, cap6, rfl, t6, k6⟩
        have HT5 : Hid (Txt w5 B (.slice a6 t3.length cap6) t3) := t6
        have HK5 : Hid (Wk B w w5) := HK4.out.then k6
        have HBX5 : Hid (w5.heap[w.heap.size]? = some (.cells #[.int .i64 8, .string S, .string O, .int .i64 n, .int .i64 x.kind, .int .i64 x.n, .string x.name, .slice a1 n1 q1, .slice a2 n2 q2, .slice a3 n3 q3, .complex .f64 p q] 46)) := k6.blk (by decide) HBX4.out
        have f6 : w5.cell? ⟨w.heap.size, 9, none⟩ = some (.slice a3 n3 q3) := row_cell HBX5.out 9
        have hlt5 := row_lt HBX5.out
        clear t6 k6 d6 HBX4 hlt4
        go_wp2_with fail
        refine (HWC.out _ HK5.out _ _ HT5.out).mono ?_
        rintro r w6 ⟨a7, cap7, rfl, t7, k7⟩
        have HT6 : Hid (Txt w6 B (.slice a7 t4.length cap7) t4) := t7
        have HK6 : Hid (Wk B w w6) := HK5.out.then k7
        clear t7 k7 f6 HBX5
        go_wp2_with fail
        refine (HTAIL.out t4 _ HK6.out HL4.out _ _ HT6.out).mono ?_
        rintro r w7 ⟨a8, cap8, rfl, t8, k8⟩
        have HF : Hid (Wrote B w (wS (.mk 8 S O n x b c p q) d acc) (.returned (.slice a8 (ln t4 d [125]).length cap8)) w7) := by
          show Wrote _ _ _ _ _
          rw [HWSc.out]
          exact ⟨a8, cap8, rfl, t8, HK6.out.then k8⟩
        clear t8 k8
        go_wp2_with fail
        go_ret
        exact HF.out
  · have h7 : ¬ k = 7 := fun h => hk (.inl h)
    have h8 : ¬ k = 8 := fun h => hk (.inr h)
    have g7 : (k != 7) = true := by simp; exact h7
    have g8 : (k != 8) = true := by simp; exact h8
    have HWSc : Hid (wS (.mk k S O n x b c p q) d acc = t1) := by show _ = _; rw [HWS.out, if_neg hk]
    clear hk h7 h8
    go_enter Tryz.func95, Tryz.ntmps95
    go_wp2_with fail
    obtain ⟨W1, hW1⟩ : ∃ W1, w.alloc (.cells #[.int .i64 k, .string S, .string O, .int .i64 n, .int .i64 x.kind, .int .i64 x.n, .string x.name, .slice a1 n1 q1, .slice a2 n2 q2, .slice a3 n3 q3, .complex .f64 p q] 46) = W1 := ⟨_, rfl⟩
    have KW : Hid (Kept w W1) := by rw [← hW1]; exact (Kept.refl _).al _
    have HBX : Hid (W1.heap[w.heap.size]? = some (.cells #[.int .i64 k, .string S, .string O, .int .i64 n, .int .i64 x.kind, .int .i64 x.n, .string x.name, .slice a1 n1 q1, .slice a2 n2 q2, .slice a3 n3 q3, .complex .f64 p q] 46)) := by rw [← hW1]; exact heap_alloc_new _ _
    rw [hW1]
    clear hW1
    refine (HST.out _ KW.out).mono ?_
    rintro r w2 ⟨rfl, kw⟩
    have KW2 : Hid (Kept w w2) := KW.out.then kw
    have HBX2 : Hid (w2.heap[w.heap.size]? = some (.cells #[.int .i64 k, .string S, .string O, .int .i64 n, .int .i64 x.kind, .int .i64 x.n, .string x.name, .slice a1 n1 q1, .slice a2 n2 q2, .slice a3 n3 q3, .complex .f64 p q] 46)) := (kw.block _ (row_lt HBX.out)).trans HBX.out
    clear kw HBX
    go_wp2_with fail
    refine (HLN.out _ (Wk.of KW2.out hB) _ _ (HT.out.kept KW2.out)).mono ?_
    rintro r w3 ⟨a4, cap4, rfl, t4, k4⟩
    have HT3 : Hid (Txt w3 B (.slice a4 t1.length cap4) t1) := t4
    have HK3 : Hid (Wk B w w3) := (Wk.of KW2.out hB).then k4
    have HBX3 : Hid (w3.heap[w.heap.size]? = some (.cells #[.int .i64 k, .string S, .string O, .int .i64 n, .int .i64 x.kind, .int .i64 x.n, .string x.name, .slice a1 n1 q1, .slice a2 n2 q2, .slice a3 n3 q3, .complex .f64 p q] 46)) := k4.blk (by decide) HBX2.out
    have c0 := row_cell HBX3.out 0
    have c5 := row_cell HBX3.out 8
    have c6 := row_cell HBX3.out 9
    have hlt := row_lt HBX3.out
    have c0 : w3.cell? ⟨w.heap.size, 0, none⟩ = some (.int .i64 k) := c0
    have c5 : w3.cell? ⟨w.heap.size, 8, none⟩ = some (.slice a2 n2 q2) := c5
    have c6 : w3.cell? ⟨w.heap.size, 9, none⟩ = some (.slice a3 n3 q3) := c6
    clear t4 k4 HBX2
    go_wp2_with fail
    go_ret
    rw [HWSc.out]
    exact ⟨a4, cap4, rfl, HT3.out, HK3.out⟩
theorem tstmtW_any (x : St) : PWS x := St.ind (fun x hb hc => tstmtW_of x (tblock_of _ hb) (tblock_of _ hc)) x
theorem tblock_any (l : List St) : PWB l := tblock_of l fun x _ => tstmtW_any x
end Go.Proofs.YtkobdephobaopaaGreatDoor
