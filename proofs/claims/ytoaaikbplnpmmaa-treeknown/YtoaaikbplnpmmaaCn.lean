/- What count and Threads answer. -/
import Derived.Test.YtoaaikbplnpmmaaLb
import Derived.Deep.RegionHeld3
namespace Go.Proofs.Ytoaaikbplnpmmaa
open Go.RowKit
attribute [local go_sem] run_store_complex

theorem wrap_nat (n : Nat) (h : n ≤ 4611686018427387904) : IntKind.i64.wrap (n : Int) = n := by rw [IntKind.wrap_i64]; omega
theorem wrap_add (x y : Nat) (h : x + y ≤ 4611686018427387904) : IntKind.i64.wrap ((x : Int) + (y : Int)) = ((x + y : Nat) : Int) := by rw [← Int.natCast_add]; exact wrap_nat _ h

/-- What count answers at l. -/
def PCn (l : List St) : Prop := ∀ (w : World) (bv : Value), StsIn w 0 w.heap.size l bv → St.sizes l ≤ 1073741824 →
  Calls Try.prog 25 #[bv] w fun r w' => r = .returned (.int .i64 (St.sizes l : Int)) ∧ Kept w w'

set_option maxRecDepth 100000 in
set_option maxHeartbeats 2000000 in
theorem count_of (l : List St) (H : ∀ x ∈ l, PCn x.body ∧ PCn x.els) : PCn l := by
  intro w bv hb hn
  have HA : Hid _ := hb
  have HH : Hid (∀ x ∈ l, PCn x.body ∧ PCn x.els) := H
  obtain ⟨a, cap, rfl, hl, hl2, hcap⟩ := hb.open
  have hsl := St.sizes_len l
  clear hb H
  go_enter Try.func25, Try.ntmps25
  go_wp2_with fail
  go_loopw [3, 10] (fun n i wr => ∃ (k m : Nat), n = .int .i64 (m : Int) ∧ i = .int .i64 (k : Int) ∧ k ≤ l.length ∧ m ≤ 1073741824 ∧ Hid (m + k = l.length + St.sizes (l.take k) ∧ Kept w wr)) (fun _ i _ => l.length - (intOf i).toNat)
  case atStart => exact ⟨0, l.length, rfl, rfl, Nat.zero_le _, by omega, by simp [St.sizes], Kept.refl _⟩
  case round =>
    obtain ⟨k, m, rfl, rfl, hk, hm, HI⟩ := hrel
    by_cases hlt : k < l.length
    · have hki : (k : Int) < (l.length : Int) := by omega
      have hz := HI.out.2.size
      obtain ⟨b, o, a1, n1, q1, a2, n2, q2, a3, n3, q3, rfl, _, hb, _, c0, c1, c2, c3, c4, c5, c6, c7, c8, c9, c10, k1, k2, k3⟩ := HA.out.item (HI.out.2.stays (Nat.le_refl _)) k hlt
      have hzb : b < wr.heap.size := by omega
      have hst := St.sizes_take l k hlt
      have hstl := St.sizes_take_le l (k + 1)
      obtain ⟨x, hx⟩ : ∃ x, St.sizes l[k].body = x := ⟨_, rfl⟩
      obtain ⟨y, hy⟩ : ∃ y, St.sizes l[k].els = y := ⟨_, rfl⟩
      have hkl := St.sizes_len (l.take k)
      have hklt : (l.take k).length = k := by rw [List.length_take]; omega
      have hrest : l.length - (k + 1) + St.sizes (l.take (k + 1)) ≤ St.sizes l := by
        have h1 := St.sizes_append (l.take (k + 1)) (l.drop (k + 1))
        rw [List.take_append_drop] at h1
        have h2 := St.sizes_len (l.drop (k + 1))
        rw [List.length_drop] at h2
        omega
      have hb1 : m + (x + y) ≤ 1073741824 := by have := HI.out.1; rw [hst, hx, hy] at hrest; omega
      have HM : Hid (m + (x + y) + (k + 1) = l.length + St.sizes (l.take (k + 1))) := by have := HI.out.1; show _ = _; rw [hst, hx, hy]; omega
      have G2 : Hid (∀ W, Kept wr W → Calls Try.prog 25 #[.slice a2 n2 q2] W fun r w' => r = .returned (.int .i64 (x : Int)) ∧ Kept W w') := by
        intro W hW
        have := (HH.out _ (List.getElem_mem hlt)).1 W _ (k2.up hz hW) (by rw [hx]; omega)
        rwa [hx] at this
      have G3 : Hid (∀ W, Kept wr W → Calls Try.prog 25 #[.slice a3 n3 q3] W fun r w' => r = .returned (.int .i64 (y : Int)) ∧ Kept W w') := by
        intro W hW
        have := (HH.out _ (List.getElem_mem hlt)).2 W _ (k3.up hz hW) (by rw [hy]; omega)
        rwa [hy] at this
      clear k1 k2 k3 hx hy hst hstl hkl hklt hrest
      go_wp2_with fail
      have e8 : (wr.alloc (.cells #[.int .i64 l[k].kind, .string l[k].name, .string l[k].other, .int .i64 l[k].n, .int .i64 l[k].e.kind, .int .i64 l[k].e.n, .string l[k].e.name, .slice a1 n1 q1, .slice a2 n2 q2, .slice a3 n3 q3, .complex .f64 l[k].re l[k].im] 29)).cell? ⟨wr.heap.size, 8, none⟩ = some (.slice a2 n2 q2) := by simp
      have e9 : (wr.alloc (.cells #[.int .i64 l[k].kind, .string l[k].name, .string l[k].other, .int .i64 l[k].n, .int .i64 l[k].e.kind, .int .i64 l[k].e.n, .string l[k].e.name, .slice a1 n1 q1, .slice a2 n2 q2, .slice a3 n3 q3, .complex .f64 l[k].re l[k].im] 29)).cell? ⟨wr.heap.size, 9, none⟩ = some (.slice a3 n3 q3) := by simp
      obtain ⟨W1, hW1⟩ : ∃ W1, wr.alloc (.cells #[.int .i64 l[k].kind, .string l[k].name, .string l[k].other, .int .i64 l[k].n, .int .i64 l[k].e.kind, .int .i64 l[k].e.n, .string l[k].e.name, .slice a1 n1 q1, .slice a2 n2 q2, .slice a3 n3 q3, .complex .f64 l[k].re l[k].im] 29) = W1 := ⟨_, rfl⟩
      have KW : Hid (Kept wr W1) := by rw [← hW1]; exact (Kept.refl _).al _
      rw [hW1] at e8 e9 ⊢
      clear hW1 c0 c1 c2 c3 c4 c5 c6 c7 c8 c9 c10
      go_region_held3 (fun w' => Hid (Kept W1 w') ∧ w'.cell? ⟨wr.heap.size, 8, none⟩ = some (.slice a2 n2 q2) ∧ w'.cell? ⟨wr.heap.size, 9, none⟩ = some (.slice a3 n3 q3))
        ((first | (have KK : Kept W1 _ := (((Kept.refl W1).dr).then kw).then kw2; exact ⟨KK, KK.cellS e8, KK.cellS e9⟩) | (have KK : Kept W1 _ := ((Kept.refl W1).dr).then kw; exact ⟨KK, KK.cellS e8, KK.cellS e9⟩) | (have KK : Kept W1 _ := (Kept.refl W1).dr; exact ⟨KK, KK.cellS e8, KK.cellS e9⟩)))
        (first | (go_at_call_of 25 (Value.slice a2 n2 q2); refine (G2.out _ (KW.out.then (Kept.refl W1).dr)).mono ?_; rintro e w3 ⟨rfl, kw⟩) | (go_at_call_of 25 (Value.slice a3 n3 q3); refine (G3.out _ (KW.out.then (((Kept.refl W1).dr).then kw))).mono ?_; rintro e w4 ⟨rfl, kw2⟩))
      rename_i hH
      clear hH
      have KF : Hid (Kept w w4) := HI.out.2.then (KW.out.then ((((Kept.refl W1).dr).then kw).then kw2))
      clear kw kw2 e8 e9
      rw [wrap_add x y (by omega), wrap_add m (x + y) (by omega)]
      go_wp2_with fail
      go_roundw
      case rel => exact ⟨k + 1, m + (x + y), rfl, by go_num, by omega, hb1, HM.out, KF.out⟩
      case measure => simp [intOf]; omega
    · have hki : ¬ (k : Int) < (l.length : Int) := by omega
      have HM : Hid (m = St.sizes l) := by
        have := HI.out.1
        rw [List.take_of_length_le (by omega)] at this
        show _ = _; omega
      go_wp2_with fail
      go_ret
      exact ⟨ret_int (by rw [HM.out]), HI.out.2⟩

theorem count_any (l : List St) : PCn l :=
  count_of l fun x _ => St.ind (P := fun x => PCn x.body ∧ PCn x.els) (fun s hb hl => ⟨count_of s.body hb, count_of s.els hl⟩) x
#print axioms count_any

/-! ### Threads -/
/-- Values of one cell each lie in memory, as the slice v says. -/
structure ValsD (w : World) (D : Nat → Prop) (l : List Value) (v : Value) : Prop where
  out : ∃ (a : Option Addr) (cap : Nat), v = .slice a l.length cap ∧ Slc a l.length cap ∧ RowAt w D a l.length 1 (fun i => [l.getD i undef])
theorem ValsD.stays {w w' : World} {D : Nat → Prop} {l : List Value} {v : Value} (h : ValsD w D l v) (hs : StaysD D w w') : ValsD w' D l v := by
  obtain ⟨a, cap, e, h1, h3⟩ := h.out
  exact ⟨a, cap, e, h1, h3.stays hs⟩
theorem ValsD.mono {w : World} {D D' : Nat → Prop} {l : List Value} {v : Value} (h : ValsD w D l v) (k1 : ∀ k, D k → D' k) : ValsD w D' l v := by
  obtain ⟨a, cap, e, h1, h3⟩ := h.out
  exact ⟨a, cap, e, h1, h3.mono k1⟩
theorem ValsD.open {w : World} {D : Nat → Prop} {l : List Value} {v : Value} (h : ValsD w D l v) : ∃ a cap, v = .slice a l.length cap ∧ l.length ≤ 9223372036854775807 ∧ l.length ≤ cap ∧ cap ≤ 9223372036854775807 := by
  obtain ⟨a, cap, rfl, hl, _⟩ := h.out; have h1 := hl.big; have h2 := hl.le; unfold maxLen at h1; exact ⟨_, _, rfl, by omega, by omega, by omega⟩
theorem ValsD.itemD {w : World} {D : Nat → Prop} {l : List Value} {a : Option Addr} {n cap : Nat} (h : ValsD w D l (.slice a n cap)) (k : Nat) (hk : k < l.length) :
    ∃ b o, a = some ⟨b, o, none⟩ ∧ D b ∧ w.cell? ⟨b, o + k, none⟩ = some l[k] := by
  obtain ⟨a, cap, e, h1, h3⟩ := h.out
  cases e
  obtain ⟨b, o, ha, k1, _, c0⟩ := h3.one k hk
  have e : l.getD k undef = l[k] := by simp [List.getD, hk]
  rw [e] at c0
  exact ⟨b, o, ha, k1, c0⟩
theorem vals_of_own {w : World} {base e : Nat} {v : Value} {xs : List Value} {n : Nat} (h : w.ownsRow base e 1 v n xs) {D : Nat → Prop} (hD : ∀ k, v.ownBlock = some k → D k) : ValsD w D xs v := by
  have hn : xs.length = n := by rw [h.1]; omega
  subst hn
  obtain ⟨a, cap, rfl, hs⟩ := own_slice h
  refine ⟨a, cap, rfl, hs, fun i hi => ?_⟩
  rcases h.2 with ⟨e, h0⟩ | ⟨g, cap', cur, e, hb, hh, h1, h2, h3, h4⟩
  · omega
  · cases e
    refine ⟨g, 0, rfl, hD g rfl, fun j => frozen_of_row w g j cur _ hh, fun j u hu => ?_⟩
    have hj : j = 0 := by have := (List.getElem?_eq_some_iff.1 hu).1; simpa using this
    subst hj
    have e : xs.getD i undef = xs[i] := by simp [List.getD, hi]
    simp only [e, List.getElem?_cons_zero, Option.some.injEq] at hu
    subst hu
    rw [cell_of_row w g _ cur _ (0, 0) hh, Nat.mul_one, Nat.zero_add, Nat.add_zero]
    have h5 : (cur.toList.take (xs.length * 1))[i]? = xs[i]? := by rw [h4]
    rw [List.getElem?_take, if_pos (by omega), List.getElem?_eq_getElem hi] at h5
    simpa using h5

theorem elemInt : ElemOf Try.prog 35 3 (.int .i64 0) 1 8 := ⟨Try.underlying35, by kernel_rfl, rfl, by decide⟩

def thrs : Nat → List (List St) → List Value
  | _, [] => []
  | k, a :: l => List.replicate (St.sizes a) (.int .i64 (k : Int)) ++ thrs (k + 1) l
theorem thrs_append (k : Nat) (l m : List (List St)) : thrs k (l ++ m) = thrs k l ++ thrs (k + l.length) m := by
  induction l generalizing k with
  | nil => simp [thrs]
  | cons a l ih => simp only [List.cons_append, thrs, ih, List.append_assoc, List.length_cons]; rw [show k + 1 + l.length = k + (l.length + 1) by omega]
theorem thrs_take (l : List (List St)) (k : Nat) (h : k < l.length) : thrs 0 (l.take (k + 1)) = thrs 0 (l.take k) ++ List.replicate (St.sizes l[k]) (.int .i64 (k : Int)) := by
  rw [List.take_succ_eq_append_getElem h, thrs_append, List.length_take, Nat.min_eq_left (by omega)]
  simp [thrs]
theorem thrs_len (k : Nat) (l : List (List St)) : (thrs k l).length = (flatTs l).length := by
  induction l generalizing k with
  | nil => rfl
  | cons a l ih => simp [thrs, flatTs, ih, St.flats_len]

set_option maxRecDepth 100000 in
set_option maxHeartbeats 2000000 in
theorem threads_any (d : List Dc) (t : List (List St)) (w : World) (dv tv : Value) (hd : DsIn w 0 w.heap.size d dv) (ht : TsIn w 0 w.heap.size t tv) (hn : (flatTs t).length ≤ 1073741824) (hwt : ∀ x ∈ t, St.wts x ≤ 1073741824) :
    Calls Try.prog 9 #[.agg #[dv, tv]] w fun r w' => ∃ v', r = .returned v' ∧ ValsD w' (Rng w.heap.size w'.heap.size) (thrs 0 t) v' ∧ Kept w w' := by
  have HA : Hid _ := ht
  have HN : Hid ((flatTs t).length ≤ 1073741824 ∧ ∀ x ∈ t, St.wts x ≤ 1073741824) := ⟨hn, hwt⟩
  obtain ⟨ad, capd, rfl, -⟩ := hd.open
  obtain ⟨a, cap, rfl, hl, hl2, hcap⟩ := ht.open
  clear hd ht hn hwt
  go_enter Try.func9, Try.ntmps9
  go_wp2_with fail
  obtain ⟨W0, hW0⟩ : ∃ W0, w.alloc (.cells #[.slice ad d.length capd, .slice a t.length cap] 33) = W0 := ⟨_, rfl⟩
  have HW0 : Hid (Kept w W0 ∧ W0.heap.size = w.heap.size + 1) := by rw [← hW0]; exact ⟨(Kept.refl _).al _, by simp⟩
  rw [hW0]
  clear hW0
  go_loopw [3, 9] (fun list i wr => ∃ (k : Nat) (a1 : Option Addr) (n1 q1 : Nat), list = .slice a1 n1 q1 ∧ i = .int .i64 (k : Int) ∧ k ≤ t.length ∧ Hid (wr.ownsRow W0.heap.size 3 1 (.slice a1 n1 q1) (thrs 0 (t.take k)).length (thrs 0 (t.take k)) ∧ Kept W0 wr)) (fun _ i _ => t.length - (intOf i).toNat)
  case atStart => exact ⟨0, _, _, _, rfl, rfl, Nat.zero_le _, ⟨rfl, .inl ⟨rfl, rfl⟩⟩, Kept.refl _⟩
  case round =>
    obtain ⟨k, ax, nx, qx, rfl, rfl, hk, HI⟩ := hrel
    by_cases hlt : k < t.length
    · have hki : (k : Int) < (t.length : Int) := by omega
      have hz := HI.out.2.size
      have hzw := HW0.out.1.size
      obtain ⟨b, o, a1, n1, q1, rfl, _, hb, _, c0, k1⟩ := HA.out.item ((HW0.out.1.then HI.out.2).stays (Nat.le_refl _)) k hlt
      have hft := flatTs_take t k hlt
      have hftl := flatTs_take_len t (k + 1)
      have htl := thrs_len 0 (t.take k)
      obtain ⟨m, hm⟩ : ∃ m, St.sizes t[k] = m := ⟨_, rfl⟩
      have hlb : (thrs 0 (t.take k)).length + m ≤ 1073741824 := by
        have := HN.out.1
        rw [hft, List.length_append, St.flats_len] at hftl
        omega
      have HT : Hid (thrs 0 (t.take (k + 1)) = thrs 0 (t.take k) ++ List.replicate m (.int .i64 (k : Int))) := by
        have := thrs_take t k hlt
        rwa [hm] at this
      have P : Hid (Calls Try.prog 25 #[.slice a1 n1 q1] wr fun r w' => r = .returned (.int .i64 (m : Int)) ∧ Kept wr w') := by
        have := count_any t[k] wr _ (k1.up (by omega) (Kept.refl _)) (by rw [hm]; omega)
        rwa [hm] at this
      obtain ⟨xs, hxs⟩ : ∃ xs, thrs 0 (t.take k) = xs := ⟨_, rfl⟩
      rw [hxs] at HT HI hlb
      clear hft hftl htl k1 hm hxs
      go_wp2_with fail
      refine Calls.mono P.out ?_
      rintro r w3 ⟨rfl, kw⟩
      have HI3 : Hid (w3.ownsRow W0.heap.size 3 1 (.slice ax nx qx) xs.length xs ∧ Kept W0 w3) := ⟨HI.out.1.kept (Grow.kept (.slice none 0 0) kw).grown (by cases (Value.slice ax nx qx).ownBlock <;> simp [Value.ownBlock]), HI.out.2.then kw⟩
      clear kw
      go_wp2_with fail
      go_loopw [3, 16] (fun list i w' => ∃ (j : Nat) (a2 : Option Addr) (n2 q2 : Nat), list = .slice a2 n2 q2 ∧ i = .int .i64 (j : Int) ∧ j ≤ m ∧ Hid (w'.ownsRow W0.heap.size 3 1 (.slice a2 n2 q2) (xs ++ List.replicate j (Value.int .i64 (k : Int))).length (xs ++ List.replicate j (Value.int .i64 (k : Int))) ∧ Kept W0 w')) (fun _ i _ => m - (intOf i).toNat)
      case atStart => exact ⟨0, _, _, _, rfl, rfl, Nat.zero_le _, by simpa only [List.replicate_zero, List.append_nil] using HI3⟩
      case round =>
        obtain ⟨j, a2, n2, q2, rfl, rfl, hj, HJ⟩ := hrel
        by_cases hjm : j < m
        · have hji : (j : Int) < (m : Int) := by omega
          obtain ⟨ys, hys⟩ : ∃ ys, xs ++ List.replicate j (Value.int .i64 (k : Int)) = ys := ⟨_, rfl⟩
          have hyl : ys.length ≤ 1073741824 := by rw [← hys, List.length_append, List.length_replicate]; omega
          have HY : Hid (xs ++ List.replicate (j + 1) (Value.int .i64 (k : Int)) = ys ++ [Value.int .i64 (k : Int)]) := by
            show _ = _
            rw [List.replicate_succ', ← List.append_assoc, hys]
          rw [hys] at HJ
          clear hys
          go_wp2_with (at_builtin; (refine wpList_append_rows (base := W0.heap.size) (n := ys.length) (xs := ys) (by rfl) _ _ _ (by rfl) elemInt (by rfl) (HJ.out.1.alloc _) (by rfl) (own_lit 0 3 1 _ (by rfl) (Nat.zero_le _)) ?one (by omega) ?len ?base ?_))
          case one => rfl
          case len => unfold maxLen; omega
          case base => have := HJ.out.2.size; simp; omega
          intro ad cap2 w4 HG
          have HN4 : Hid (w4.ownsRow W0.heap.size 3 1 (.slice ad (ys.length + 1) cap2) (ys ++ [Value.int .i64 (k : Int)]).length (ys ++ [Value.int .i64 (k : Int)]) ∧ Kept W0 w4) :=
            ⟨by rw [List.length_append]; exact HG.out.own, HG.out.below (HJ.out.1.alloc _) (Nat.le_refl _) (by have := HJ.out.2.size; simp; omega) (HJ.out.2.al _)⟩
          clear HG
          go_wp2_with fail
          go_roundw
          case rel => exact ⟨j + 1, _, _, _, rfl, by go_num, by omega, by rw [HY.out]; exact HN4⟩
          case measure => simp [intOf]; omega
        · have hji : ¬ (j : Int) < (m : Int) := by omega
          obtain rfl : j = m := by omega
          go_wp2_with fail
          go_roundw
          case rel => exact ⟨k + 1, _, _, _, rfl, by go_num, by omega, by rw [HT.out]; exact HJ⟩
          case measure => simp [intOf]; omega
    · have hki : ¬ (k : Int) < (t.length : Int) := by omega
      have HM : Hid (ValsD wr (Rng w.heap.size wr.heap.size) (thrs 0 t) (.slice ax nx qx) ∧ Kept w wr) := by
        have h1 := HI.out
        rw [List.take_of_length_le (by omega)] at h1
        have hz := HW0.out.1.size
        exact ⟨vals_of_own h1.1 fun i hi => by have := h1.1.lt i hi; exact ⟨by omega, this.2⟩, HW0.out.1.then h1.2⟩
      go_wp2_with fail
      go_ret
      exact ⟨_, rfl, HM.out.1, HM.out.2⟩
#print axioms threads_any
end Go.Proofs.Ytoaaikbplnpmmaa
