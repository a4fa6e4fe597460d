/- Mh -/
import Derived.Test.YtnfkjmafhaecgaaTMg
import Derived.Test.YtnfkjmafhaecgaaTJd
import Derived.Test.YtnfkjmafhaecgaaTNp
import Derived.Test.YtnfkjmafhaecgaaTSmA
import Derived.Deep.RegionHeld3
import Derived.Deep.LoopGhost

namespace Go.Proofs.Ytnfkjmafhaecgaa
open Go.RowKit Jf
attribute [local go_sem] run_store_complex
theorem mem_flats9 {x : St} : ∀ {l : List St}, x ∈ St.flats l ↔ ∃ s ∈ l, x ∈ St.flat s
  | [] => by simp [St.flats]
  | a :: l => by rw [St.flats, List.mem_append, mem_flats (l := l)]; simp
theorem okS_flat9 {s : St} : OkS s → ∀ x ∈ St.flat s, okAt x.re x.im :=
  St.ind (P := fun s => OkS s → ∀ x ∈ St.flat s, okAt x.re x.im) (fun s hb hl h x hx => by
    cases h with
    | mk _ h1 h2 h3 =>
      rw [St.flat_eq, List.mem_cons, List.mem_append] at hx
      rcases hx with rfl | hx | hx
      · exact h1
      · obtain ⟨y, hy, hx⟩ := mem_flats9.1 hx
        exact hb y hy (h2 y hy) x hx
      · obtain ⟨y, hy, hx⟩ := mem_flats9.1 hx
        exact hl y hy (h3 y hy) x hx) s
theorem okT_flat {t : List (List St)} (h : ∀ b ∈ t, ∀ y ∈ b, OkS y) : ∀ x ∈ flatTs t, okAt x.re x.im := by
  induction t with
  | nil => intro x hx; simp [flatTs] at hx
  | cons b t ih =>
    intro x hx
    rw [flatTs] at hx
    rcases List.mem_append.1 hx with hx | hx
    · obtain ⟨y, hy, hx⟩ := mem_flats9.1 hx
      exact okS_flat9 (h b List.mem_cons_self y hy) x hx
    · exact ih (fun c hc => h c (List.mem_cons_of_mem _ hc)) x hx
theorem gd_ok {e : Nat} {s : St} (h : Ps.Gd e s) : OkS s := by
  have z0 : okAt 0 0 := ⟨by decide +kernel, by decide +kernel⟩
  induction h with
  | assign e a x p q ha hx h1 => exact .mk _ z0 (fun y hy => by cases hy) (fun y hy => by cases hy)
  | word e k a p q hk ha h1 => exact .mk _ z0 (fun y hy => by cases hy) (fun y hy => by cases hy)
  | send e a x p q ha hx h1 => exact .mk _ z0 (fun y hy => by cases hy) (fun y hy => by cases hy)
  | recv e a b p q ha hb h1 h2 => exact .mk _ z0 (fun y hy => by cases hy) (fun y hy => by cases hy)
  | print e x p q hx => exact .mk _ z0 (fun y hy => by cases hy) (fun y hy => by cases hy)
  | cond e x b c p q hx _ _ ib ic => exact .mk _ z0 ib ic
  | rep e n b p q hn _ ib => exact .mk _ z0 ib (fun y hy => by cases hy)
def terr (r : Option (Nat × Nat)) : Int := if r.isNone then 0 else 4
def tx (r : Option (Nat × Nat)) : Nat := (r.getD (0, 0)).1
def ty (r : Option (Nat × Nat)) : Nat := (r.getD (0, 0)).2
theorem told_terr (r : Option (Nat × Nat)) : Jf.told r = .tuple #[.complex .f64 (tx r) (ty r), .int .i64 (terr r)] := by
  cases r with
  | none => rfl
  | some p => obtain ⟨x, y⟩ := p; rfl
mutual
theorem nb_size : ∀ s : St, St.nb s = 2 * St.size s
  | .mk k s o m e b l x y => by rw [St.nb, St.size, nbs_sizes b, nbs_sizes l]; omega
theorem nbs_sizes : ∀ l : List St, St.nbs l = 2 * St.sizes l
  | [] => rfl
  | a :: l => by rw [St.nbs, St.sizes, nb_size a, nbs_sizes l]; omega
end
theorem tnb_le : ∀ t : List (List St), tnb t = t.length + 2 * tsz t
  | [] => rfl
  | b :: t => by rw [tnb, tsz, tnb_le t, nbs_sizes b, List.length_cons]; omega
theorem chk_ok9 {t : List (List St)} (h : ∀ x ∈ flatTs t, okAt x.re x.im) : okAt (tx (chk (spt t 0 0))) (ty (chk (spt t 0 0))) := by
  unfold chk tx ty
  cases hq : (spt t 0 0)[min (ftw [] (spt t 0 0)) (flo 0 (spt t 0 0))]? with
  | none => exact ⟨by decide +kernel, by decide +kernel⟩
  | some s =>
    have hm : s ∈ spt t 0 0 := List.mem_of_getElem? hq
    rw [← sps_all t 0 0 0] at hm
    obtain ⟨a, ha, e⟩ := List.mem_filterMap.1 hm
    have h2 : a.s ∈ flatTs t := by rw [← all_s t 0 0 0]; exact List.mem_map.2 ⟨a, ha, rfl⟩
    unfold sp at e
    split at e
    · injection e with e
      rw [← e]
      exact h a.s h2
    · cases e
structure JP (w W : World) (d : List Dc) (t : List (List St)) (dv tv : Value) : Prop where
  kept : Kept w W
  ds : DsIn W 0 W.heap.size d dv
  ts : TsIn W 0 W.heap.size t tv
  sz : tsz t ≤ 20000
  nb : tnb t ≤ 1000000
  nm : ∀ x ∈ flatTs t, x.name.size ≤ maxLen
  ok : ∀ x ∈ flatTs t, okAt x.re x.im
theorem jp_read {w w' : World} {d : List Dc} {t : List (List St)} {dv tv : Value} (h : RdP w w' d t dv tv) : JP w w' d t dv tv :=
  ⟨h.kept, h.ds.mono fun j hj => ⟨Nat.zero_le _, hj.2⟩, h.ts.mono fun j hj => ⟨Nat.zero_le _, hj.2⟩, h.sz, by have := h.sz; have := h.num; rw [tnb_le]; omega, fun x hx => by have := h.nm x hx; unfold maxLen; omega, okT_flat h.ok⟩
theorem acts_nil9 (w : World) (hi : Nat) : ActsR w hi [] (.slice none 0 0) := ⟨none, 0, rfl, Nat.le_refl _, by omega, fun i hi => by simp at hi, fun x hx => by cases hx⟩
theorem acts_up {w : World} {hi hi' : Nat} {l : List Ac} {v : Value} (h : ActsR w hi l v) (k : hi ≤ hi') : ActsR w hi' l v := by
  obtain ⟨a, cap, e, h1, h2, h3, h4⟩ := h.out
  refine ⟨a, cap, e, h1, h2, fun i hi => ?_, h4⟩
  obtain ⟨b, o, a1, n1, q1, e1, e2, e3, e4, e5, e6, e7, e8⟩ := h3 i hi
  exact ⟨b, o, a1, n1, q1, e1, by omega, e3, e4, e5, e6, e7, e8.mono k⟩
theorem gd_names {e : Nat} (l : List St) (h : ∀ s ∈ l, Ps.Gd e s) : ∀ x ∈ St.flats l, x.name.size ≤ maxLen := by
  induction l with
  | nil => intro x hx; simp [St.flats] at hx
  | cons a l ih =>
    intro x hx
    rw [St.flats] at hx
    rcases List.mem_append.1 hx with hx | hx
    · exact (gd_fit (h a List.mem_cons_self) x hx).nm
    · exact ih (fun s hs => h s (List.mem_cons_of_mem _ hs)) x hx
theorem gdt_names {e : Nat} (t : List (List St)) (h : ∀ b ∈ t, ∀ s ∈ b, Ps.Gd e s) : ∀ x ∈ flatTs t, x.name.size ≤ maxLen := by
  induction t with
  | nil => intro x hx; simp [flatTs] at hx
  | cons b t ih =>
    intro x hx
    rw [flatTs] at hx
    rcases List.mem_append.1 hx with hx | hx
    · exact gd_names b (h b List.mem_cons_self) x hx
    · exact ih (fun c hc => h c (List.mem_cons_of_mem _ hc)) x hx
theorem tsz_bound (t : List (List St)) (h : ∀ b ∈ t, St.sizes b ≤ 16) : tsz t ≤ 16 * t.length := by
  induction t with
  | nil => simp [tsz]
  | cons b t ih => have h1 := h b List.mem_cons_self; have h2 := ih fun c hc => h c (List.mem_cons_of_mem _ hc); rw [tsz, List.length_cons]; omega
theorem jp_set {w W1 w3 : World} {D : Nat} {d : List Dc} {t : List (List St)} {dv tv x y : Value} {most : Int} {nc : Nat} (hD : w.heap.size ≤ D) (hDW : D < W1.heap.size) (hk : Kept w W1) (h1 : DsIn w3 W1.heap.size w3.heap.size d dv) (h2 : TsIn w3 W1.heap.size w3.heap.size t tv) (hg : GoodP d t most nc) (k3 : Kept W1 w3) : JP w ((w3.setCell ⟨D, 0, none⟩ x).setCell ⟨D, 1, none⟩ y) d t dv tv := by
  have hz : ((w3.setCell ⟨D, 0, none⟩ x).setCell ⟨D, 1, none⟩ y).heap.size = w3.heap.size := by rw [setCell_size, setCell_size]
  have st : StaysD (Rng W1.heap.size w3.heap.size) w3 ((w3.setCell ⟨D, 0, none⟩ x).setCell ⟨D, 1, none⟩ y) := fun k hk => by
    have hn : k ≠ D := by have := hk.1; omega
    exact (heap_setCells D [y] 1 _ k hn).trans (heap_setCells D [x] 0 w3 k hn)
  have kk : Kept w ((w3.setCell ⟨D, 0, none⟩ x).setCell ⟨D, 1, none⟩ y) := Below.setCell (Below.setCell (hk.then k3) (by show w.heap.size ≤ D; omega) _) (by show w.heap.size ≤ D; omega) _
  have h3 := hg.three
  have h4 := tsz_bound t fun b hb => (hg.ok b hb).2
  exact ⟨kk, (h1.stays st).mono fun j hj => ⟨Nat.zero_le _, by rw [hz]; exact hj.2⟩, (h2.stays st).mono fun j hj => ⟨Nat.zero_le _, by rw [hz]; exact hj.2⟩, by omega, by rw [tnb_le]; omega, gdt_names t fun b hb => (hg.ok b hb).1, okT_flat fun b hb y hy => gd_ok ((hg.ok b hb).1 y hy)⟩
set_option maxRecDepth 100000 in
set_option maxHeartbeats 2000000 in
theorem jumpsTells_row (l : List Int) (how : Int) (la lb : List Ac) (any : Bool) (lv va vb : Value) (w : World) (hl : IntsR w w.heap.size l lv) (hbl : l.length ≤ 17592186044416) (hh1 : -9223372036854775808 ≤ how) (hh2 : how ≤ 9223372036854775807) (ha : ActsR w w.heap.size la va) (hb : ActsR w w.heap.size lb vb) : Calls Try.prog 3 #[lv, .int .i64 how, va, vb, .bool any] w fun e w' => e = .returned (.bool true) ∧ Kept w w' := by
  have DP : Hid _ := deep_any l w lv hl hbl
  have KN : Hid (∀ W, Calls Try.prog 15 #[] W fun e w' => e = .returned (.bool true) ∧ Kept W w') := fun W => known9_any W
  have HPA : Hid (∀ W, Kept w W → Calls Try.prog 9 #[.int .i64 how, va, vb, .slice none 0 0, .int .i64 6] W fun r w' => MadeP W 6 ([] : List Ac).length r w') := fun W hW => prog_any how la lb [] va vb (.slice none 0 0) 6 W hh1 hh2 (acts_up (ha.kept hW) hW.size) (acts_up (hb.kept hW) hW.size) (acts_nil9 _ _) (by omega) (by omega)
  obtain ⟨al, lcap, rfl, -⟩ := hl.out
  obtain ⟨aa, qa, rfl, -⟩ := ha.out
  obtain ⟨ab, qb, rfl, -⟩ := hb.out
  clear hl hbl hh1 hh2 ha hb
  go_enter Try.func3, Try.ntmps3
  go_wp2_with fail
  refine Calls.mono DP.out ?_
  rintro e w1 ⟨d, t, a1, n1, q1, a2, n2, q2, rfl, H⟩
  have HJ : Hid (JP w w1 d t (.slice a1 n1 q1) (.slice a2 n2 q2)) := jp_read H.out
  clear DP H
  go_upto_if 19 with fail
  obtain ⟨W1, hW1⟩ : ∃ W, w1.alloc (.cells #[.slice a1 n1 q1, .slice a2 n2 q2] 27) = W := ⟨_, rfl⟩
  obtain ⟨D, hD⟩ : ∃ D, w1.heap.size = D := ⟨_, rfl⟩
  have K11 : Hid (Kept w1 W1) := by rw [← hW1]; exact (Kept.refl _).al _
  have BP : Hid (BoxS W1 D [.slice a1 n1 q1, .slice a2 n2 q2]) := by rw [← hW1, ← hD]; exact box_newQ _ _ _
  have HD : Hid (w.heap.size ≤ D) := by rw [← hD]; exact HJ.out.kept.size
  rw [hW1, hD]
  clear hW1 hD
  have bx := BP.out
  have x0 := bx.cell 0 rfl
  have x1 := bx.cell 1 rfl
  have xf0 := bx.fz 0
  have xf1 := bx.fz 1
  have xl := bx.lt
  clear bx
  go_cut [] (fun wc => ∃ (d : List Dc) (t : List (List St)) (a1 : Option Addr) (n1 q1 : Nat) (a2 : Option Addr) (n2 q2 : Nat), Hid (BoxS wc D [.slice a1 n1 q1, .slice a2 n2 q2] ∧ JP w wc d t (.slice a1 n1 q1) (.slice a2 n2 q2)))
  case first =>
    cases any with
    | true =>
      have HK : Hid (Kept w W1) := HJ.out.kept.then K11.out
      have PR := HPA.out W1 HK.out
      have PR : Hid _ := PR
      go_wp2_with fail
      refine Calls.mono PR.out ?_
      rintro r w3 ⟨d3, t3, b1, m1, r1, b2, m2, r2, rfl, H3⟩
      have hb3 : BoxS w3 D [.slice a1 n1 q1, .slice a2 n2 q2] := BP.out.kept H3.out.2.2.2
      have HX3 : Hid (BoxS w3 D [.slice a1 n1 q1, .slice a2 n2 q2]) := hb3
      clear x0 x1 xf0 xf1 xl
      have x0 := hb3.cell 0 rfl
      have x1 := hb3.cell 1 rfl
      have xf0 := hb3.fz 0
      have xf1 := hb3.fz 1
      have xl := hb3.lt
      clear hb3
      go_wp2_with fail
      go_meet
      exact ⟨d3, t3, b1, m1, r1, b2, m2, r2, (HX3.out.set 0 [.slice b1 m1 r1] (by simp)).set 1 [.slice b2 m2 r2] (by simp), jp_set HD.out BP.out.lt HK.out H3.out.1 H3.out.2.1 H3.out.2.2.1 H3.out.2.2.2⟩
    | false =>
      go_wp2_with fail
      go_meet
      exact ⟨d, t, a1, n1, q1, a2, n2, q2, BP.out, ⟨HJ.out.kept.then K11.out, HJ.out.ds.up (Nat.le_refl _) K11.out, HJ.out.ts.up (Nat.le_refl _) K11.out, HJ.out.sz, HJ.out.nb, HJ.out.nm, HJ.out.ok⟩⟩
  case rest =>
    obtain ⟨d, t, a1, n1, q1, a2, n2, q2, HC⟩ := hcut
    have HJ2 : Hid (JP w wc d t (.slice a1 n1 q1) (.slice a2 n2 q2)) := HC.out.2
    have BP2 : Hid (BoxS wc D [.slice a1 n1 q1, .slice a2 n2 q2]) := HC.out.1
    have HK : Hid (Kept w wc) := HC.out.2.kept
    have CK : Hid (∀ W, Kept wc W → Calls Try.prog 10 #[.agg #[.slice a1 n1 q1, .slice a2 n2 q2]] W fun e w' => e = .returned (.tuple #[.complex .f64 (tx (chk (spt t 0 0))) (ty (chk (spt t 0 0))), .int .i64 (terr (chk (spt t 0 0)))]) ∧ Kept W w') := fun W hW => by
      have h := jcheck_any d t W _ _ (HJ2.out.ds.up (Nat.le_refl _) hW) (HJ2.out.ts.up (Nat.le_refl _) hW) (by have := HJ2.out.sz; omega) HJ2.out.nm
      rw [told_terr] at h; exact h
    have RJ : Hid (∀ W, Kept wc W → Calls Try.prog 11 #[.agg #[.slice a1 n1 q1, .slice a2 n2 q2]] W fun e w' => e = .returned (.tuple #[.complex .f64 (tx (chk (spt t 0 0))) (ty (chk (spt t 0 0))), .int .i64 (terr (chk (spt t 0 0)))]) ∧ Kept W w') := fun W hW => by
      have h := rJumps_any d t W _ _ (HJ2.out.ds.up (Nat.le_refl _) hW) (HJ2.out.ts.up (Nat.le_refl _) hW) (by have := HJ2.out.sz; omega) (by have := HJ2.out.nb; omega)
      rw [told_terr] at h; exact h
    have HFL : Hid ((flatTs t).length ≤ 20000) := by have := HJ2.out.sz; have := tsz_flat t; show _ ≤ _; omega
    have LS : Hid (∀ W, Kept wc W → Calls Try.prog 12 #[.agg #[.slice a1 n1 q1, .slice a2 n2 q2]] W fun r w' => ∃ (a3 : Option Addr) (q3 : Nat), r = .returned (.slice a3 (flatTs t).length q3) ∧ Kept W w') := fun W hW => (rlist_any d t W _ _ (HJ2.out.ds.up (Nat.le_refl _) hW) (HJ2.out.ts.up (Nat.le_refl _) hW) (by have := HFL.out; omega)).mono fun r w' ⟨v, e, h1, h2⟩ => by
      obtain ⟨a3, q3, rfl, -⟩ := h1.open
      exact ⟨a3, q3, e, h2⟩
    have TG : Hid (∀ (k : Int) (W : World), Kept wc W → Calls Try.prog 13 #[.agg #[.slice a1 n1 q1, .slice a2 n2 q2], .int .i64 k] W fun e w' => e = .returned (.int .i64 (starg (spt t 0 0) k)) ∧ Kept W w') := fun k W hW => Target_any d t k W _ _ (HJ2.out.ds.up (Nat.le_refl _) hW) (HJ2.out.ts.up (Nat.le_refl _) hW) (by have := HJ2.out.sz; omega)
    have RG : Hid (∀ (k : Int) (W : World), Kept wc W → Calls Try.prog 14 #[.agg #[.slice a1 n1 q1, .slice a2 n2 q2], .int .i64 k] W fun e w' => e = .returned (.int .i64 (starg (spt t 0 0) k)) ∧ Kept W w') := fun k W hW => (rTarget_any d t k W _ _ (HJ2.out.ds.up (Nat.le_refl _) hW) (HJ2.out.ts.up (Nat.le_refl _) hW) (by have := HJ2.out.sz; omega) (by have := HJ2.out.nb; omega)).mono fun e w' ⟨⟨A, h1, h2⟩, h3⟩ => ⟨by rw [h1, rtgt_starg t A h2], h3⟩
    have HXY : Hid (okAt (tx (chk (spt t 0 0))) (ty (chk (spt t 0 0)))) := chk_ok9 HJ2.out.ok
    obtain ⟨X0, hX0⟩ : ∃ X, tx (chk (spt t 0 0)) = X := ⟨_, rfl⟩
    obtain ⟨Y0, hY0⟩ : ∃ Y, ty (chk (spt t 0 0)) = Y := ⟨_, rfl⟩
    obtain ⟨E0, hE0⟩ : ∃ E, terr (chk (spt t 0 0)) = E := ⟨_, rfl⟩
    rw [hX0, hY0, hE0] at CK RJ
    rw [hX0, hY0] at HXY
    obtain ⟨F, hF⟩ : ∃ F, (flatTs t).length = F := ⟨_, rfl⟩
    rw [hF] at LS HFL
    clear x0 x1 xf0 xf1 xl hX0 hY0 hE0 hF HC HJ HJ2 K11 BP
    have p0 := BP2.out.cell 0 rfl
    have p1 := BP2.out.cell 1 rfl
    have pl := BP2.out.lt
    go_wp2_with fail
    refine Calls.mono (CK.out _ (Kept.refl _)) ?_
    rintro e w2 ⟨rfl, k2⟩
    have K2 : Hid (Kept wc w2) := k2
    clear k2 p0 p1 pl
    have p0 := (BP2.out.kept K2.out).cell 0 rfl
    have p1 := (BP2.out.kept K2.out).cell 1 rfl
    have pl := block_lt_of_cell p0
    go_wp2_with fail
    refine Calls.mono (RJ.out _ K2.out) ?_
    rintro e w3 ⟨rfl, k3⟩
    have K3 : Hid (Kept wc w3) := K2.out.then k3
    clear k3 p0 p1 pl
    have hfl : (F : Int) ≤ 20000 := by have := HFL.out; omega
    go_wp2_with fail
    go_loopw [16] (fun i wr => ∃ z : Int, i = .int .i64 z ∧ -1 ≤ z ∧ z ≤ (F : Int) + 1 ∧ Hid (Kept wc wr)) (fun i _ => ((F : Int) + 1 - intOf i).toNat)
    case atStart => exact ⟨-1, rfl, by omega, by omega, K3.out⟩
    case round =>
      obtain ⟨z, rfl, hz1, hz2, HI⟩ := hrel
      have p0 := (BP2.out.kept HI.out).cell 0 rfl
      have p1 := (BP2.out.kept HI.out).cell 1 rfl
      have pl := block_lt_of_cell p0
      have hwf : IntKind.i64.wrap ((F : Int) + 1) = (F : Int) + 1 := by rw [IntKind.wrap_i64]; omega
      have hwz : IntKind.i64.wrap (z + 1) = z + 1 := by rw [IntKind.wrap_i64]; omega
      have HZ : Hid (-1 ≤ z ∧ z ≤ (F : Int) + 1) := ⟨hz1, hz2⟩
      clear hz1 hz2
      by_cases hlt : z < (F : Int) + 1
      · go_wp2_with fail
        refine Calls.mono (LS.out _ HI.out) ?_
        rintro e w5 ⟨a3, q3, rfl, k5⟩
        have K5 : Hid (Kept wc w5) := HI.out.then k5
        clear k5 p0 p1 pl HI
        have p0 := (BP2.out.kept K5.out).cell 0 rfl
        have p1 := (BP2.out.kept K5.out).cell 1 rfl
        have pl := block_lt_of_cell p0
        obtain ⟨Z, hZ⟩ : ∃ Z, starg (spt t 0 0) z = Z := ⟨_, rfl⟩
        have TZ : Hid (∀ W, Kept wc W → Calls Try.prog 13 #[.agg #[.slice a1 n1 q1, .slice a2 n2 q2], .int .i64 z] W fun e w' => e = .returned (.int .i64 Z) ∧ Kept W w') := by rw [← hZ]; exact TG.out z
        have RZ : Hid (∀ W, Kept wc W → Calls Try.prog 14 #[.agg #[.slice a1 n1 q1, .slice a2 n2 q2], .int .i64 z] W fun e w' => e = .returned (.int .i64 Z) ∧ Kept W w') := by rw [← hZ]; exact RG.out z
        clear hZ
        go_upto_region 9 with fail
        have HK5 : Hid (Kept wc w5) := K5.out
        go_region_held3 (fun w' => w'.cell? ⟨D, 0, none⟩ = some (.slice a1 n1 q1) ∧ w'.cell? ⟨D, 1, none⟩ = some (.slice a2 n2 q2)) (first | go_keep | (refine ⟨e0, e1⟩)) (first | (go_at_call 13; refine Calls.mono (TZ.out _ HK5.out.dr) ?_; rintro e w7 ⟨rfl, k7⟩; have HK7 : Hid (Kept wc w7) := HK5.out.dr.then k7; have bx := BP2.out.kept HK7.out; have e0 := bx.cell 0 rfl; have e1 := bx.cell 1 rfl; clear k7 bx) | (go_at_call 14; refine Calls.mono (RZ.out _ HK5.out.dr) ?_; rintro e w7 ⟨rfl, k7⟩; have HK7 : Hid (Kept wc w7) := HK5.out.dr.then k7; have bx := BP2.out.kept HK7.out; have e0 := bx.cell 0 rfl; have e1 := bx.cell 1 rfl; clear k7 bx) | (go_at_call 13; refine Calls.mono (TZ.out _ HK7.out) ?_; rintro e w8 ⟨rfl, k8⟩; have HK8 : Hid (Kept wc w8) := HK7.out.then k8; clear e0 e1; have bx := BP2.out.kept HK8.out; have e0 := bx.cell 0 rfl; have e1 := bx.cell 1 rfl; clear k8 bx) | (go_at_call 14; refine Calls.mono (RZ.out _ HK7.out) ?_; rintro e w8 ⟨rfl, k8⟩; have HK8 : Hid (Kept wc w8) := HK7.out.then k8; clear e0 e1; have bx := BP2.out.kept HK8.out; have e0 := bx.cell 0 rfl; have e1 := bx.cell 1 rfl; clear k8 bx) | fail)
        all_goals
          go_wp2_with fail
          go_roundw
          case rel => exact ⟨z + 1, rfl, by have := HZ.out; omega, by omega, HK8.out⟩
          case measure => simp [intOf]; omega
      · go_wp2_with fail
        refine Calls.mono (LS.out _ HI.out) ?_
        rintro e w5 ⟨a3, q3, rfl, k5⟩
        have K5 : Hid (Kept wc w5) := HI.out.then k5
        clear k5 p0 p1 pl HI
        go_wp2_with fail
        refine Calls.mono (KN.out _) ?_
        rintro e w6 ⟨rfl, k6⟩
        have K6 : Hid (Kept w w6) := HK.out.then (K5.out.then k6)
        clear k6
        have hx1 : (FloatKind.f64.format.order X0 X0 == some Ordering.eq) = true := HXY.out.1
        have hx2 : (FloatKind.f64.format.order Y0 Y0 == some Ordering.eq) = true := HXY.out.2
        go_wp2_with fail
        go_ret
        exact ⟨by simp, K6.out⟩
end Go.Proofs.Ytnfkjmafhaecgaa
