/- Ng -/
import Derived.Test.YtbfikeegacapjaaWNf
import Derived.Maps.OwnOps
import Derived.Maps.Views
import Derived.Maps.OwnSet
import Derived.Deep.LoopGhost
import Derived.StringKeys

namespace Go.Proofs.Ytbfikeegacapjaa
open Go.RowKit Go.Maps Go.WideMaps
attribute [local go_sem] run_store_complex
theorem lawS : Keyed Try.prog 9 := string_keyed Try.underlying9
theorem zeroI (w : World) : (zeroValue 3).run Try.prog w = .ok (.int .i64 0) w := by kernel_rfl
theorem at_intQ {a b : Int} (h : (DataW.lit (.int .i64 a) : DataW Unit) = .lit (.int .i64 b)) : a = b := by cases h; rfl
set_option maxRecDepth 100000 in
theorem plain_inv {v : Value} {c : Int} {ps : List MemPlace} (h : (plainElem Try.prog 3 v : Option (DataW Unit × List MemPlace)) = some (.lit (.int .i64 c), ps)) : v = .int .i64 c := by
  unfold plainElem at h
  rw [Try.underlying3] at h
  cases v with
  | int q a =>
    simp only at h
    split at h
    · rename_i hc
      simp only [Option.some.injEq, Prod.mk.injEq] at h
      obtain ⟨h1, -⟩ := h
      rw [hc.1, at_intQ h1]
    · cases h
  | _ => simp at h
theorem kind_app (d : List Dc) (y : Dc) (hn : Nf.isIn d y.name = false) (x : ByteArray) : Nf.kind (d ++ [y]) x = if x = y.name then y.kind else Nf.kind d x := by
  induction d with
  | nil => simp only [List.nil_append, Nf.kind]; by_cases h : x = y.name
           · rw [if_pos h.symm, if_pos h]
           · rw [if_neg (fun e => h e.symm), if_neg h]
  | cons z d ih =>
    have h1 : Nf.isIn d y.name = false := by unfold Nf.isIn at hn ⊢; simp at hn ⊢; exact hn.2
    have h2 : z.name ≠ y.name := by unfold Nf.isIn at hn; simp at hn; exact hn.1
    rw [List.cons_append, Nf.kind, Nf.kind, ih h1]
    by_cases hz : z.name = x
    · subst hz; rw [if_pos rfl, if_pos rfl, if_neg h2]
    · rw [if_neg hz, if_neg hz]
theorem isIn_app (d : List Dc) (y : Dc) (x : ByteArray) : Nf.isIn (d ++ [y]) x = (Nf.isIn d x || decide (y.name = x)) := by
  unfold Nf.isIn; simp
theorem lit_ne {x y : ByteArray} (h : x ≠ y) : (Lit.string x.data.toList) ≠ .string y.data.toList := by
  intro e
  injection e with e
  apply h
  have := Array.toList_inj.1 e
  cases x; cases y; simp at this; rw [this]
theorem wf64 {n : Int} (h : -9223372036854775808 ≤ n ∧ n ≤ 9223372036854775807) : (Lit.int .i64 n).wf = true := by
  simp [Lit.wf, IntKind.min, IntKind.max, IntKind.signed, IntKind.bits]
  omega
structure KM (w : World) (B : Nat) (d : List Dc) : Prop where
  out : ∃ (n : Nat) (D : DataW Unit), w.ownsMap Try.prog 9 (plainElem Try.prog 3) B n D ∧ n ≤ d.length ∧ (∀ x : ByteArray, D.atKey (.string x.data.toList) (.lit (.int .i64 0)) = .lit (.int .i64 (Nf.kind d x))) ∧ (∀ x : ByteArray, Maps.has D (.string x.data.toList) = Nf.isIn d x)
theorem KM.lt {w : World} {B : Nat} {d : List Dc} (h : KM w B d) : B < w.heap.size := by
  obtain ⟨n, D, ho, -⟩ := h.out
  exact ho.lt
theorem KM.same {w w' : World} {B : Nat} {d : List Dc} (h : KM w B d) (e : w'.heap[B]? = w.heap[B]?) : KM w' B d := by
  obtain ⟨n, D, ho, r⟩ := h.out
  obtain ⟨es, clock, hb, Ft, hs, hD⟩ := ho
  exact ⟨n, D, ⟨es, clock, e.trans hb, Ft, hs, hD⟩, r⟩
theorem KM.kept {w w' : World} {B : Nat} {d : List Dc} (h : KM w B d) (k : Kept w w') : KM w' B d := h.same (k.block B h.lt)
theorem KM.look {w : World} {B : Nat} {d : List Dc} (h : KM w B d) (x : ByteArray) (hx : x.size ≤ maxLen) :
    (Instr.lookup 69 (.map (some B)) (.string x) false).run Try.prog w = .ok (.int .i64 (Nf.kind d x)) w := by
  obtain ⟨n, D, ho, -, ha, -⟩ := h.out
  obtain ⟨c, hrun, hat, hwc⟩ := ho.lookup_int lawS Try.underlying69 Try.underlying3 (zeroI w) (keyOf_string_mk Try.underlying9 hx)
  rw [ha x] at hat
  rw [hrun, at_intQ hat]
theorem KM.look_ok {w : World} {B : Nat} {d : List Dc} (h : KM w B d) (x : ByteArray) (hx : x.size ≤ maxLen) :
    (Instr.lookup 69 (.map (some B)) (.string x) true).run Try.prog w = .ok (.tuple #[.int .i64 (Nf.kind d x), .bool (Nf.isIn d x)]) w := by
  have h1 := h.look x hx
  obtain ⟨n, D, ho, -, ha, hh⟩ := h.out
  have hz : (plainElem Try.prog 3 (.int .i64 0) : Option (DataW Unit × List MemPlace)) = some (.lit (.int .i64 0), []) := by kernel_rfl
  obtain ⟨v, ps, hrun, hv⟩ := ho.look_ok lawS Try.underlying69 (zeroI w) hz (keyOf_string_mk Try.underlying9 hx)
  rw [ha x] at hv
  rw [hrun, hh x]
  rw [plain_inv hv]
theorem KM.put {w : World} {B : Nat} {d : List Dc} (h : KM w B d) (y : Dc) (hy : y.name.size ≤ maxLen) (hn : Nf.isIn d y.name = false) (hl : d.length < maxLen) (hw : -9223372036854775808 ≤ y.kind ∧ y.kind ≤ 9223372036854775807) :
    ∃ w', (Instr.mapUpdate 69 (.map (some B)) (.string y.name) (.int .i64 y.kind)).run Try.prog w = .ok () w' ∧ KM w' B (d ++ [y]) ∧ w.mapTurned w' B := by
  obtain ⟨n, D, ho, hnl, ha, hh⟩ := h.out
  have hv : (plainElem Try.prog 3 (.int .i64 y.kind) : Option (DataW Unit × List MemPlace)) = some (.lit (.int .i64 y.kind), []) := by
    exact plainElem_int Try.underlying3 (wf64 hw)
  obtain ⟨w', hrun, ho', ht⟩ := ho.store lawS Try.underlying69 (by omega) (keyOf_string_mk Try.underlying9 hy) hv
  refine ⟨w', hrun, ⟨n + 1, _, ho', by simp; omega, fun x => ?_, fun x => ?_⟩, ht⟩
  · rw [kind_app d y hn x]
    by_cases hx : x = y.name
    · subst hx
      rw [atKey_put_same ho.isMap (by trivial), if_pos rfl]
    · rw [atKey_put_other (lit_ne hx), ha, if_neg hx]
  · rw [isIn_app]
    by_cases hx : x = y.name
    · subst hx
      rw [has_put_same ho.isMap (by trivial)]; simp
    · rw [has_put_other (lit_ne hx), hh, decide_eq_false (fun e => hx e.symm), Bool.or_false]
set_option maxRecDepth 100000 in
set_option maxHeartbeats 1000000 in
theorem all_step (d : List Dc) (l : List ByteArray) (k : Nat) (h : k < l.length) : ((l.drop k).all fun x => Nf.plain (Nf.kind d x)) = (Nf.plain (Nf.kind d l[k]) && (l.drop (k + 1)).all fun x => Nf.plain (Nf.kind d x)) := by
  rw [List.drop_eq_getElem_cons h, List.all_cons]
theorem plain_of (k : Int) : Nf.plain k = !(!Nf.shared k && (k != 4)) := by
  unfold Nf.plain
  cases Nf.shared k <;> simp [bne]
set_option maxRecDepth 100000 in
set_option maxHeartbeats 2000000 in
theorem right_any (d : List Dc) (s : St) (w : World) (B : Nat) (ev bv lv : Value) (he : ExsIn w 0 w.heap.size s.e.of ev) (hb : StsIn w 0 w.heap.size s.body bv) (hl : StsIn w 0 w.heap.size s.els lv) (hn : s.e.size ≤ 1073741823) (hm : KM w B d) (hs : s.name.size ≤ maxLen) (hts : ∀ x ∈ s.touches, x.size ≤ maxLen) :
    Calls Try.prog 52 #[s.val ev bv lv, .map (some B)] w fun e w' => e = .returned (.bool (Nf.right d s)) ∧ Kept w w' := by
  have TO : Hid (∀ W, Kept w W → Calls Try.prog 68 #[s.val ev bv lv] W fun r w' => ∃ v', r = .returned v' ∧ ValsD w' (Rng W.heap.size w'.heap.size) (strs s.touches) v' ∧ Kept W w') := fun W hW => touches_any s W ev bv lv (he.up (Nat.le_refl _) hW) (hb.up (Nat.le_refl _) hW) (hl.up (Nat.le_refl _) hW) hn
  obtain ⟨a1, n1, q1, rfl⟩ := he.form
  obtain ⟨a2, n2, q2, rfl⟩ := hb.form
  obtain ⟨a3, n3, q3, rfl⟩ := hl.form
  have HM : Hid (KM w B d) := hm
  have HTS : Hid (∀ x ∈ s.touches, x.size ≤ maxLen) := hts
  clear he hb hl hn hm hts
  unfold St.val at TO ⊢
  obtain ⟨W0, hW0⟩ : ∃ W0, w.alloc (.cells #[.int .i64 s.kind, .string s.name, .string s.other, .int .i64 s.n, .int .i64 s.e.kind, .int .i64 s.e.n, .string s.e.name, .slice a1 n1 q1, .slice a2 n2 q2, .slice a3 n3 q3, .complex .f64 s.re s.im] 55) = W0 := ⟨_, rfl⟩
  have KW : Hid (Kept w W0) := by rw [← hW0]; exact (Kept.refl _).al _
  have hlook := (HM.out.kept KW.out).look s.name hs
  have TW := TO.out W0 KW.out
  rw [← hW0] at hlook TW KW
  have TW : Hid _ := TW
  clear hW0 hs TO
  cases hk2 : (s.kind == 2) with
  | true =>
    have HO2 : Hid (Nf.own d s = (Nf.kind d s.name == 5)) := by
      have hk : s.kind = 2 := by simpa using hk2
      show _ = _
      unfold Nf.own
      rw [hk]; simp
    cases hc : (Nf.kind d s.name == 5) with
    | false =>
      have hcn : (Nf.kind d s.name != 5) = true := by rw [bne, hc]; rfl
      have HE : Hid (Nf.right d s = false) := by show _ = _; unfold Nf.right; rw [HO2.out, hc]; rfl
      go_enter Try.func52, Try.ntmps52
      go_wp2_with fail
      go_ret
      exact ⟨by rw [HE.out]; rfl, KW.out⟩
    | true =>
      have hcn : (Nf.kind d s.name != 5) = false := by rw [bne, hc]; rfl
      have HO : Hid (Nf.own d s = true) := HO2.out.trans hc
      clear HO2
      go_enter Try.func52, Try.ntmps52
      go_wp2_with fail
      refine Calls.mono TW.out ?_
      rintro e w1 ⟨v1, rfl, hv1, hk1⟩
      obtain ⟨a9, c9, rfl, hl1, hl2, hl3⟩ := hv1.open
      rw [strs_len] at *
      have HV : Hid (ValsD w1 (Rng _ _) (strs s.touches) (.slice a9 s.touches.length c9)) := hv1
      have K1 : Hid (Kept w w1) := KW.out.then hk1
      have HM1 : Hid (KM w1 B d) := HM.out.kept K1.out
      clear hv1 hk1
      go_wp2_with fail
      go_loopw [29] (fun i wr => ∃ k : Nat, i = .int .i64 (k : Int) ∧ k ≤ s.touches.length ∧ wr = w1 ∧ Hid (Nf.right d s = (s.touches.drop k).all fun x => Nf.plain (Nf.kind d x))) (fun i _ => s.touches.length - (intOf i).toNat)
      case atStart => exact ⟨0, rfl, Nat.zero_le _, rfl, by show _ = _; unfold Nf.right; rw [HO.out]; rfl⟩
      case round =>
        obtain ⟨k, rfl, hk, hwr, HS⟩ := hrel
        obtain rfl : w1 = wr := hwr.symm
        by_cases hlt : k < s.touches.length
        · have hki : (k : Int) < (s.touches.length : Int) := by omega
          obtain ⟨b, o, rfl, hb, c0⟩ := HV.out.itemD k (by rw [strs_len]; exact hlt)
          have e0 : (strs s.touches)[k]'(by rw [strs_len]; exact hlt) = .string s.touches[k] := by simp [strs]
          rw [e0] at c0
          have hst := HS.out.trans (all_step d s.touches k hlt)
          rw [plain_of] at hst
          have hlk := HM1.out.look s.touches[k] (HTS.out _ (List.getElem_mem hlt))
          have SH : Hid (∀ W, Calls Try.prog 69 #[.int .i64 (Nf.kind d s.touches[k])] W fun e w' => e = .returned (.bool (Nf.shared (Nf.kind d s.touches[k]))) ∧ w' = W) := fun W => shared_any _ W
          generalize Nf.kind d s.touches[k] = kd at *
          generalize s.touches[k] = tx at *
          clear e0
          cases h1 : Nf.shared kd with
          | true =>
            rw [h1] at hst SH
            have HE : Hid (Nf.right d s = (s.touches.drop (k + 1)).all fun x => Nf.plain (Nf.kind d x)) := by show _ = _; simpa using hst
            clear hst h1
            go_wp2_with fail
            refine (SH.out _).mono ?_
            rintro e w2 ⟨rfl, rfl⟩
            go_wp2_with fail
            go_roundw
            case rel => exact ⟨k + 1, by go_num, by omega, trivial, HE⟩
            case measure => simp [intOf]; omega
          | false =>
            rw [h1] at hst SH
            clear h1
            cases h2 : (kd != 4) with
            | true =>
              rw [h2] at hst
              have HE : Hid (Nf.right d s = false) := by show _ = _; simpa using hst
              clear hst
              go_wp2_with fail
              refine (SH.out _).mono ?_
              rintro e w2 ⟨rfl, rfl⟩
              go_wp2_with fail
              go_ret
              exact ⟨by rw [HE.out]; rfl, K1.out⟩
            | false =>
              rw [h2] at hst
              have HE : Hid (Nf.right d s = (s.touches.drop (k + 1)).all fun x => Nf.plain (Nf.kind d x)) := by show _ = _; simpa using hst
              clear hst
              go_wp2_with fail
              refine (SH.out _).mono ?_
              rintro e w2 ⟨rfl, rfl⟩
              go_wp2_with fail
              go_roundw
              case rel => exact ⟨k + 1, by go_num, by omega, trivial, HE⟩
              case measure => simp [intOf]; omega
        · have hki : ¬ (k : Int) < (s.touches.length : Int) := by omega
          have HE : Hid (Nf.right d s = true) := by show _ = _; rw [HS.out, List.drop_eq_nil_of_le (by omega)]; rfl
          go_wp2_with fail
          go_ret
          exact ⟨by rw [HE.out]; rfl, K1.out⟩
  | false =>
  cases hk3 : (s.kind == 3) with
  | true =>
    have HO2 : Hid (Nf.own d s = (Nf.kind d s.name == 5)) := by
      have hk : s.kind = 3 := by simpa using hk3
      show _ = _
      unfold Nf.own
      rw [hk]; simp
    cases hc : (Nf.kind d s.name == 5) with
    | false =>
      have hcn : (Nf.kind d s.name != 5) = true := by rw [bne, hc]; rfl
      have HE : Hid (Nf.right d s = false) := by show _ = _; unfold Nf.right; rw [HO2.out, hc]; rfl
      go_enter Try.func52, Try.ntmps52
      go_wp2_with fail
      go_ret
      exact ⟨by rw [HE.out]; rfl, KW.out⟩
    | true =>
      have hcn : (Nf.kind d s.name != 5) = false := by rw [bne, hc]; rfl
      have HO : Hid (Nf.own d s = true) := HO2.out.trans hc
      clear HO2
      go_enter Try.func52, Try.ntmps52
      go_wp2_with fail
      refine Calls.mono TW.out ?_
      rintro e w1 ⟨v1, rfl, hv1, hk1⟩
      obtain ⟨a9, c9, rfl, hl1, hl2, hl3⟩ := hv1.open
      rw [strs_len] at *
      have HV : Hid (ValsD w1 (Rng _ _) (strs s.touches) (.slice a9 s.touches.length c9)) := hv1
      have K1 : Hid (Kept w w1) := KW.out.then hk1
      have HM1 : Hid (KM w1 B d) := HM.out.kept K1.out
      clear hv1 hk1
      go_wp2_with fail
      go_loopw [29] (fun i wr => ∃ k : Nat, i = .int .i64 (k : Int) ∧ k ≤ s.touches.length ∧ wr = w1 ∧ Hid (Nf.right d s = (s.touches.drop k).all fun x => Nf.plain (Nf.kind d x))) (fun i _ => s.touches.length - (intOf i).toNat)
      case atStart => exact ⟨0, rfl, Nat.zero_le _, rfl, by show _ = _; unfold Nf.right; rw [HO.out]; rfl⟩
      case round =>
        obtain ⟨k, rfl, hk, hwr, HS⟩ := hrel
        obtain rfl : w1 = wr := hwr.symm
        by_cases hlt : k < s.touches.length
        · have hki : (k : Int) < (s.touches.length : Int) := by omega
          obtain ⟨b, o, rfl, hb, c0⟩ := HV.out.itemD k (by rw [strs_len]; exact hlt)
          have e0 : (strs s.touches)[k]'(by rw [strs_len]; exact hlt) = .string s.touches[k] := by simp [strs]
          rw [e0] at c0
          have hst := HS.out.trans (all_step d s.touches k hlt)
          rw [plain_of] at hst
          have hlk := HM1.out.look s.touches[k] (HTS.out _ (List.getElem_mem hlt))
          have SH : Hid (∀ W, Calls Try.prog 69 #[.int .i64 (Nf.kind d s.touches[k])] W fun e w' => e = .returned (.bool (Nf.shared (Nf.kind d s.touches[k]))) ∧ w' = W) := fun W => shared_any _ W
          generalize Nf.kind d s.touches[k] = kd at *
          generalize s.touches[k] = tx at *
          clear e0
          cases h1 : Nf.shared kd with
          | true =>
            rw [h1] at hst SH
            have HE : Hid (Nf.right d s = (s.touches.drop (k + 1)).all fun x => Nf.plain (Nf.kind d x)) := by show _ = _; simpa using hst
            clear hst h1
            go_wp2_with fail
            refine (SH.out _).mono ?_
            rintro e w2 ⟨rfl, rfl⟩
            go_wp2_with fail
            go_roundw
            case rel => exact ⟨k + 1, by go_num, by omega, trivial, HE⟩
            case measure => simp [intOf]; omega
          | false =>
            rw [h1] at hst SH
            clear h1
            cases h2 : (kd != 4) with
            | true =>
              rw [h2] at hst
              have HE : Hid (Nf.right d s = false) := by show _ = _; simpa using hst
              clear hst
              go_wp2_with fail
              refine (SH.out _).mono ?_
              rintro e w2 ⟨rfl, rfl⟩
              go_wp2_with fail
              go_ret
              exact ⟨by rw [HE.out]; rfl, K1.out⟩
            | false =>
              rw [h2] at hst
              have HE : Hid (Nf.right d s = (s.touches.drop (k + 1)).all fun x => Nf.plain (Nf.kind d x)) := by show _ = _; simpa using hst
              clear hst
              go_wp2_with fail
              refine (SH.out _).mono ?_
              rintro e w2 ⟨rfl, rfl⟩
              go_wp2_with fail
              go_roundw
              case rel => exact ⟨k + 1, by go_num, by omega, trivial, HE⟩
              case measure => simp [intOf]; omega
        · have hki : ¬ (k : Int) < (s.touches.length : Int) := by omega
          have HE : Hid (Nf.right d s = true) := by show _ = _; rw [HS.out, List.drop_eq_nil_of_le (by omega)]; rfl
          go_wp2_with fail
          go_ret
          exact ⟨by rw [HE.out]; rfl, K1.out⟩
  | false =>
  cases hk4 : (s.kind == 4) with
  | true =>
    have HO2 : Hid (Nf.own d s = (Nf.kind d s.name == 6)) := by
      have hk : s.kind = 4 := by simpa using hk4
      show _ = _
      unfold Nf.own
      rw [hk]; simp
    cases hc : (Nf.kind d s.name == 6) with
    | false =>
      have hcn : (Nf.kind d s.name != 6) = true := by rw [bne, hc]; rfl
      have HE : Hid (Nf.right d s = false) := by show _ = _; unfold Nf.right; rw [HO2.out, hc]; rfl
      go_enter Try.func52, Try.ntmps52
      go_wp2_with fail
      go_ret
      exact ⟨by rw [HE.out]; rfl, KW.out⟩
    | true =>
      have hcn : (Nf.kind d s.name != 6) = false := by rw [bne, hc]; rfl
      have HO : Hid (Nf.own d s = true) := HO2.out.trans hc
      clear HO2
      go_enter Try.func52, Try.ntmps52
      go_wp2_with fail
      refine Calls.mono TW.out ?_
      rintro e w1 ⟨v1, rfl, hv1, hk1⟩
      obtain ⟨a9, c9, rfl, hl1, hl2, hl3⟩ := hv1.open
      rw [strs_len] at *
      have HV : Hid (ValsD w1 (Rng _ _) (strs s.touches) (.slice a9 s.touches.length c9)) := hv1
      have K1 : Hid (Kept w w1) := KW.out.then hk1
      have HM1 : Hid (KM w1 B d) := HM.out.kept K1.out
      clear hv1 hk1
      go_wp2_with fail
      go_loopw [29] (fun i wr => ∃ k : Nat, i = .int .i64 (k : Int) ∧ k ≤ s.touches.length ∧ wr = w1 ∧ Hid (Nf.right d s = (s.touches.drop k).all fun x => Nf.plain (Nf.kind d x))) (fun i _ => s.touches.length - (intOf i).toNat)
      case atStart => exact ⟨0, rfl, Nat.zero_le _, rfl, by show _ = _; unfold Nf.right; rw [HO.out]; rfl⟩
      case round =>
        obtain ⟨k, rfl, hk, hwr, HS⟩ := hrel
        obtain rfl : w1 = wr := hwr.symm
        by_cases hlt : k < s.touches.length
        · have hki : (k : Int) < (s.touches.length : Int) := by omega
          obtain ⟨b, o, rfl, hb, c0⟩ := HV.out.itemD k (by rw [strs_len]; exact hlt)
          have e0 : (strs s.touches)[k]'(by rw [strs_len]; exact hlt) = .string s.touches[k] := by simp [strs]
          rw [e0] at c0
          have hst := HS.out.trans (all_step d s.touches k hlt)
          rw [plain_of] at hst
          have hlk := HM1.out.look s.touches[k] (HTS.out _ (List.getElem_mem hlt))
          have SH : Hid (∀ W, Calls Try.prog 69 #[.int .i64 (Nf.kind d s.touches[k])] W fun e w' => e = .returned (.bool (Nf.shared (Nf.kind d s.touches[k]))) ∧ w' = W) := fun W => shared_any _ W
          generalize Nf.kind d s.touches[k] = kd at *
          generalize s.touches[k] = tx at *
          clear e0
          cases h1 : Nf.shared kd with
          | true =>
            rw [h1] at hst SH
            have HE : Hid (Nf.right d s = (s.touches.drop (k + 1)).all fun x => Nf.plain (Nf.kind d x)) := by show _ = _; simpa using hst
            clear hst h1
            go_wp2_with fail
            refine (SH.out _).mono ?_
            rintro e w2 ⟨rfl, rfl⟩
            go_wp2_with fail
            go_roundw
            case rel => exact ⟨k + 1, by go_num, by omega, trivial, HE⟩
            case measure => simp [intOf]; omega
          | false =>
            rw [h1] at hst SH
            clear h1
            cases h2 : (kd != 4) with
            | true =>
              rw [h2] at hst
              have HE : Hid (Nf.right d s = false) := by show _ = _; simpa using hst
              clear hst
              go_wp2_with fail
              refine (SH.out _).mono ?_
              rintro e w2 ⟨rfl, rfl⟩
              go_wp2_with fail
              go_ret
              exact ⟨by rw [HE.out]; rfl, K1.out⟩
            | false =>
              rw [h2] at hst
              have HE : Hid (Nf.right d s = (s.touches.drop (k + 1)).all fun x => Nf.plain (Nf.kind d x)) := by show _ = _; simpa using hst
              clear hst
              go_wp2_with fail
              refine (SH.out _).mono ?_
              rintro e w2 ⟨rfl, rfl⟩
              go_wp2_with fail
              go_roundw
              case rel => exact ⟨k + 1, by go_num, by omega, trivial, HE⟩
              case measure => simp [intOf]; omega
        · have hki : ¬ (k : Int) < (s.touches.length : Int) := by omega
          have HE : Hid (Nf.right d s = true) := by show _ = _; rw [HS.out, List.drop_eq_nil_of_le (by omega)]; rfl
          go_wp2_with fail
          go_ret
          exact ⟨by rw [HE.out]; rfl, K1.out⟩
  | false =>
  cases hk5 : (s.kind == 5) with
  | true =>
    have HO2 : Hid (Nf.own d s = (Nf.kind d s.name == 6)) := by
      have hk : s.kind = 5 := by simpa using hk5
      show _ = _
      unfold Nf.own
      rw [hk]; simp
    cases hc : (Nf.kind d s.name == 6) with
    | false =>
      have hcn : (Nf.kind d s.name != 6) = true := by rw [bne, hc]; rfl
      have HE : Hid (Nf.right d s = false) := by show _ = _; unfold Nf.right; rw [HO2.out, hc]; rfl
      go_enter Try.func52, Try.ntmps52
      go_wp2_with fail
      go_ret
      exact ⟨by rw [HE.out]; rfl, KW.out⟩
    | true =>
      have hcn : (Nf.kind d s.name != 6) = false := by rw [bne, hc]; rfl
      have HO : Hid (Nf.own d s = true) := HO2.out.trans hc
      clear HO2
      go_enter Try.func52, Try.ntmps52
      go_wp2_with fail
      refine Calls.mono TW.out ?_
      rintro e w1 ⟨v1, rfl, hv1, hk1⟩
      obtain ⟨a9, c9, rfl, hl1, hl2, hl3⟩ := hv1.open
      rw [strs_len] at *
      have HV : Hid (ValsD w1 (Rng _ _) (strs s.touches) (.slice a9 s.touches.length c9)) := hv1
      have K1 : Hid (Kept w w1) := KW.out.then hk1
      have HM1 : Hid (KM w1 B d) := HM.out.kept K1.out
      clear hv1 hk1
      go_wp2_with fail
      go_loopw [29] (fun i wr => ∃ k : Nat, i = .int .i64 (k : Int) ∧ k ≤ s.touches.length ∧ wr = w1 ∧ Hid (Nf.right d s = (s.touches.drop k).all fun x => Nf.plain (Nf.kind d x))) (fun i _ => s.touches.length - (intOf i).toNat)
      case atStart => exact ⟨0, rfl, Nat.zero_le _, rfl, by show _ = _; unfold Nf.right; rw [HO.out]; rfl⟩
      case round =>
        obtain ⟨k, rfl, hk, hwr, HS⟩ := hrel
        obtain rfl : w1 = wr := hwr.symm
        by_cases hlt : k < s.touches.length
        · have hki : (k : Int) < (s.touches.length : Int) := by omega
          obtain ⟨b, o, rfl, hb, c0⟩ := HV.out.itemD k (by rw [strs_len]; exact hlt)
          have e0 : (strs s.touches)[k]'(by rw [strs_len]; exact hlt) = .string s.touches[k] := by simp [strs]
          rw [e0] at c0
          have hst := HS.out.trans (all_step d s.touches k hlt)
          rw [plain_of] at hst
          have hlk := HM1.out.look s.touches[k] (HTS.out _ (List.getElem_mem hlt))
          have SH : Hid (∀ W, Calls Try.prog 69 #[.int .i64 (Nf.kind d s.touches[k])] W fun e w' => e = .returned (.bool (Nf.shared (Nf.kind d s.touches[k]))) ∧ w' = W) := fun W => shared_any _ W
          generalize Nf.kind d s.touches[k] = kd at *
          generalize s.touches[k] = tx at *
          clear e0
          cases h1 : Nf.shared kd with
          | true =>
            rw [h1] at hst SH
            have HE : Hid (Nf.right d s = (s.touches.drop (k + 1)).all fun x => Nf.plain (Nf.kind d x)) := by show _ = _; simpa using hst
            clear hst h1
            go_wp2_with fail
            refine (SH.out _).mono ?_
            rintro e w2 ⟨rfl, rfl⟩
            go_wp2_with fail
            go_roundw
            case rel => exact ⟨k + 1, by go_num, by omega, trivial, HE⟩
            case measure => simp [intOf]; omega
          | false =>
            rw [h1] at hst SH
            clear h1
            cases h2 : (kd != 4) with
            | true =>
              rw [h2] at hst
              have HE : Hid (Nf.right d s = false) := by show _ = _; simpa using hst
              clear hst
              go_wp2_with fail
              refine (SH.out _).mono ?_
              rintro e w2 ⟨rfl, rfl⟩
              go_wp2_with fail
              go_ret
              exact ⟨by rw [HE.out]; rfl, K1.out⟩
            | false =>
              rw [h2] at hst
              have HE : Hid (Nf.right d s = (s.touches.drop (k + 1)).all fun x => Nf.plain (Nf.kind d x)) := by show _ = _; simpa using hst
              clear hst
              go_wp2_with fail
              refine (SH.out _).mono ?_
              rintro e w2 ⟨rfl, rfl⟩
              go_wp2_with fail
              go_roundw
              case rel => exact ⟨k + 1, by go_num, by omega, trivial, HE⟩
              case measure => simp [intOf]; omega
        · have hki : ¬ (k : Int) < (s.touches.length : Int) := by omega
          have HE : Hid (Nf.right d s = true) := by show _ = _; rw [HS.out, List.drop_eq_nil_of_le (by omega)]; rfl
          go_wp2_with fail
          go_ret
          exact ⟨by rw [HE.out]; rfl, K1.out⟩
  | false =>
    have HO : Hid (Nf.own d s = true) := by
      show _ = _
      unfold Nf.own
      simp at hk2 hk3 hk4 hk5
      rw [if_neg (by omega), if_neg (by omega)]
    go_enter Try.func52, Try.ntmps52
    go_wp2_with fail
    refine Calls.mono TW.out ?_
    rintro e w1 ⟨v1, rfl, hv1, hk1⟩
    obtain ⟨a9, c9, rfl, hl1, hl2, hl3⟩ := hv1.open
    rw [strs_len] at *
    have HV : Hid (ValsD w1 (Rng _ _) (strs s.touches) (.slice a9 s.touches.length c9)) := hv1
    have K1 : Hid (Kept w w1) := KW.out.then hk1
    have HM1 : Hid (KM w1 B d) := HM.out.kept K1.out
    clear hv1 hk1
    go_wp2_with fail
    go_loopw [29] (fun i wr => ∃ k : Nat, i = .int .i64 (k : Int) ∧ k ≤ s.touches.length ∧ wr = w1 ∧ Hid (Nf.right d s = (s.touches.drop k).all fun x => Nf.plain (Nf.kind d x))) (fun i _ => s.touches.length - (intOf i).toNat)
    case atStart => exact ⟨0, rfl, Nat.zero_le _, rfl, by show _ = _; unfold Nf.right; rw [HO.out]; rfl⟩
    case round =>
      obtain ⟨k, rfl, hk, hwr, HS⟩ := hrel
      obtain rfl : w1 = wr := hwr.symm
      by_cases hlt : k < s.touches.length
      · have hki : (k : Int) < (s.touches.length : Int) := by omega
        obtain ⟨b, o, rfl, hb, c0⟩ := HV.out.itemD k (by rw [strs_len]; exact hlt)
        have e0 : (strs s.touches)[k]'(by rw [strs_len]; exact hlt) = .string s.touches[k] := by simp [strs]
        rw [e0] at c0
        have hst := HS.out.trans (all_step d s.touches k hlt)
        rw [plain_of] at hst
        have hlk := HM1.out.look s.touches[k] (HTS.out _ (List.getElem_mem hlt))
        have SH : Hid (∀ W, Calls Try.prog 69 #[.int .i64 (Nf.kind d s.touches[k])] W fun e w' => e = .returned (.bool (Nf.shared (Nf.kind d s.touches[k]))) ∧ w' = W) := fun W => shared_any _ W
        generalize Nf.kind d s.touches[k] = kd at *
        generalize s.touches[k] = tx at *
        clear e0
        cases h1 : Nf.shared kd with
        | true =>
          rw [h1] at hst SH
          have HE : Hid (Nf.right d s = (s.touches.drop (k + 1)).all fun x => Nf.plain (Nf.kind d x)) := by show _ = _; simpa using hst
          clear hst h1
          go_wp2_with fail
          refine (SH.out _).mono ?_
          rintro e w2 ⟨rfl, rfl⟩
          go_wp2_with fail
          go_roundw
          case rel => exact ⟨k + 1, by go_num, by omega, trivial, HE⟩
          case measure => simp [intOf]; omega
        | false =>
          rw [h1] at hst SH
          clear h1
          cases h2 : (kd != 4) with
          | true =>
            rw [h2] at hst
            have HE : Hid (Nf.right d s = false) := by show _ = _; simpa using hst
            clear hst
            go_wp2_with fail
            refine (SH.out _).mono ?_
            rintro e w2 ⟨rfl, rfl⟩
            go_wp2_with fail
            go_ret
            exact ⟨by rw [HE.out]; rfl, K1.out⟩
          | false =>
            rw [h2] at hst
            have HE : Hid (Nf.right d s = (s.touches.drop (k + 1)).all fun x => Nf.plain (Nf.kind d x)) := by show _ = _; simpa using hst
            clear hst
            go_wp2_with fail
            refine (SH.out _).mono ?_
            rintro e w2 ⟨rfl, rfl⟩
            go_wp2_with fail
            go_roundw
            case rel => exact ⟨k + 1, by go_num, by omega, trivial, HE⟩
            case measure => simp [intOf]; omega
      · have hki : ¬ (k : Int) < (s.touches.length : Int) := by omega
        have HE : Hid (Nf.right d s = true) := by show _ = _; rw [HS.out, List.drop_eq_nil_of_le (by omega)]; rfl
        go_wp2_with fail
        go_ret
        exact ⟨by rw [HE.out]; rfl, K1.out⟩
end Go.Proofs.Ytbfikeegacapjaa
