/- Br8 -/
import Derived.Test.YtnfkjmafhaecgaaZBi
import Derived.Test.YtnfkjmafhaecgaaZBj
import Derived.Test.YtnfkjmafhaecgaaZBl
import Derived.Test.YtnfkjmafhaecgaaZBp8
import Derived.Test.YtnfkjmafhaecgaaZHy
import Derived.Deep.RegionHeld3
import Derived.Deep.RegionWith
import Derived.Deep.QuietTactic

namespace Go.Proofs.Ytnfkjmafhaecgaa
open Go.RowKit Bn
attribute [local go_sem] run_store_complex
theorem tkB {P : Program} {md : Region.Mode} {ops : Array Oper} {Q : Exit → Act → World → Prop} {S : World → Prop} {i : Nat} {oi : Oper} {v : Value} {fuel : Nat} {listed : Array Bool} {a : Act} {w : World} (hi : ops[i]? = some oi) (hs : (Region.noSelect ops && (Region.free md ops listed i && (Region.ready md ops listed).contains i)) = true) (hw : Region.wanted oi (yielded ops a.tmps) = true)
    (hy : ∀ w, S w → (execOp a.eval oi).run P w = .ok (.value v) w) (h : wpAnyH P md ops Q S fuel (listed.setIfInBounds i true) (a.put oi.dst v) w) (hQ : ∀ c a w, Q (.panic c) (a.put oi.dst v) w → Q (.panic c) a w := by exact fun _ _ _ h => h) (hS : S w := by assumption) : wpAnyH P md ops Q S (fuel + 1) listed a w := by
  simp only [Bool.and_eq_true] at hs
  exact wpAnyH_take hi hs.1 hs.2.1 hs.2.2 hQ (.inl ⟨hw, hy⟩) hS h
/-- A thread is turned: another slice is laid into the row. -/
theorem OwnB.turn {wr W : World} {base g cap : Nat} {ps : List (List St × Value)} {ss : List St} {x : Value} (h : OwnB wr base (Far base wr (.slice (some ⟨g, 0, none⟩) ps.length cap)) ps (.slice (some ⟨g, 0, none⟩) ps.length cap)) (k : Kept wr W)
    (j : Nat) (hx : StsD W (fun i => Far base wr (.slice (some ⟨g, 0, none⟩) ps.length cap) i ∨ (wr.heap.size ≤ i ∧ i < W.heap.size)) ss x) :
    OwnB (W.setCell ⟨g, j, none⟩ x) base (Far base (W.setCell ⟨g, j, none⟩ x) (.slice (some ⟨g, 0, none⟩) ps.length cap)) (ps.set j (ss, x)) (.slice (some ⟨g, 0, none⟩) ps.length cap) := by
  have hg : base ≤ g ∧ g < wr.heap.size := h.row.lt g rfl
  have hz := k.size
  have hs : (W.setCell ⟨g, j, none⟩ x).heap.size = W.heap.size := by simp [World.setCell]
  have h1 : OwnB W base (Far base wr (.slice (some ⟨g, 0, none⟩) ps.length cap)) ps _ := h.kept k fun i hi => hi.2.1
  have far : ∀ i, (Far base wr (.slice (some ⟨g, 0, none⟩) ps.length cap) i ∨ (wr.heap.size ≤ i ∧ i < W.heap.size)) → Far base (W.setCell ⟨g, j, none⟩ x) (.slice (some ⟨g, 0, none⟩) ps.length cap) i := by
    intro i hi
    rcases hi with hi | hi
    · exact ⟨hi.1, by rw [hs]; have := hi.2.1; omega, hi.2.2⟩
    · refine ⟨by omega, by rw [hs]; exact hi.2, fun e => ?_⟩
      have e' : i = g := by simpa [Value.ownBlock] using e
      omega
  have st : StaysD (fun i => Far base wr (.slice (some ⟨g, 0, none⟩) ps.length cap) i ∨ (wr.heap.size ≤ i ∧ i < W.heap.size)) W (W.setCell ⟨g, j, none⟩ x) := fun i hi => Below.heap_setCell W _ x i (by
    have h3 := (far i hi).2.2
    intro e
    exact h3 (by rw [e]; rfl))
  refine ⟨?_, by rw [hs]; exact Nat.le_trans h.le hz, fun p hp => ?_⟩
  · rw [List.map_set, List.length_set]
    exact (h1.row.stored j x).1
  · rcases List.mem_or_eq_of_mem_set hp with hp | rfl
    · exact (((h1.kids p hp).mono (D' := fun i => Far base wr (.slice (some ⟨g, 0, none⟩) ps.length cap) i ∨ (wr.heap.size ≤ i ∧ i < W.heap.size)) fun i hi => .inl hi).stays st).mono far
    · exact (hx.stays st).mono far
/-- A thread is turned into one that repeats it: the world as the walk leaves it. -/
theorem OwnB.rep {wr : World} {base g cap : Nat} {ps : List (List St × Value)} (h : OwnB wr base (Far base wr (.slice (some ⟨g, 0, none⟩) ps.length cap)) ps (.slice (some ⟨g, 0, none⟩) ps.length cap))
    (j : Nat) (hj : j < ps.length) (n : Nat) (re im : Nat) (a : Option Addr) (m q : Nat) (hv : ps[j].2 = .slice a m q) :
    OwnB (((wr.setCell ⟨g, j, none⟩ (.slice (some ⟨wr.heap.size, 0, none⟩) 1 1)).alloc (.cells #[.int .i64 8, .string ⟨#[]⟩, .string ⟨#[]⟩, .int .i64 (n : Int), .int .i64 0, .int .i64 0, .string ⟨#[]⟩, .slice none 0 0, .slice a m q, .slice none 0 0, .complex .f64 re im] 46)).drew) base
      (Far base (((wr.setCell ⟨g, j, none⟩ (.slice (some ⟨wr.heap.size, 0, none⟩) 1 1)).alloc (.cells #[.int .i64 8, .string ⟨#[]⟩, .string ⟨#[]⟩, .int .i64 (n : Int), .int .i64 0, .int .i64 0, .string ⟨#[]⟩, .slice none 0 0, .slice a m q, .slice none 0 0, .complex .f64 re im] 46)).drew) (.slice (some ⟨g, 0, none⟩) ps.length cap))
      (ps.set j ([.mk 8 ⟨#[]⟩ ⟨#[]⟩ n (.mk 0 0 ⟨#[]⟩ []) ps[j].1 [] re im], .slice (some ⟨wr.heap.size, 0, none⟩) 1 1)) (.slice (some ⟨g, 0, none⟩) ps.length cap) ∧
    Bu (· = g) wr (((wr.setCell ⟨g, j, none⟩ (.slice (some ⟨wr.heap.size, 0, none⟩) 1 1)).alloc (.cells #[.int .i64 8, .string ⟨#[]⟩, .string ⟨#[]⟩, .int .i64 (n : Int), .int .i64 0, .int .i64 0, .string ⟨#[]⟩, .slice none 0 0, .slice a m q, .slice none 0 0, .complex .f64 re im] 46)).drew) := by
  have hg : base ≤ g ∧ g < wr.heap.size := h.row.lt g rfl
  have hle := h.le
  refine ⟨?_, (((Bu.refl (· = g) wr).set (.inl rfl) j _).al _).dr⟩
  rw [← World.setCell_alloc_past (w := wr) _ g j _ hg.2]
  obtain ⟨O, hO⟩ : ∃ O : Obj, Obj.cells #[.int .i64 8, .string ⟨#[]⟩, .string ⟨#[]⟩, .int .i64 (n : Int), .int .i64 0, .int .i64 0, .string ⟨#[]⟩, .slice none 0 0, .slice a m q, .slice none 0 0, .complex .f64 re im] 46 = O := ⟨_, rfl⟩
  have kk : ∀ i, i < wr.heap.size → (wr.alloc O).heap[i]? = wr.heap[i]? := fun i hi => Below.heap_alloc wr O i hi
  have hb : StsD (wr.alloc O) (fun i => Far base wr (.slice (some ⟨g, 0, none⟩) ps.length cap) i ∨ (wr.heap.size ≤ i ∧ i < (wr.alloc O).heap.size)) ps[j].1 (.slice a m q) := by
    rw [← hv]
    exact ((h.kids ps[j] (List.getElem_mem hj)).stays fun i hi => kk i hi.2.1).mono fun i hi => .inl hi
  have hx : StsD (wr.alloc O) (fun i => Far base wr (.slice (some ⟨g, 0, none⟩) ps.length cap) i ∨ (wr.heap.size ≤ i ∧ i < (wr.alloc O).heap.size)) [.mk 8 ⟨#[]⟩ ⟨#[]⟩ n (.mk 0 0 ⟨#[]⟩ []) ps[j].1 [] re im] (.slice (some ⟨wr.heap.size, 0, none⟩) 1 1) := by
    refine StsD.one (.inr ⟨Nat.le_refl _, by rw [World.size_alloc]; omega⟩) (by rw [← hO]; exact heap_alloc_new wr _) (ExsD.nil _ _) hb (StsD.nil _ _)
  rw [hO]
  have := h.turn ((Kept.refl wr).al O) j hx
  generalize (wr.alloc O).setCell ⟨g, j, none⟩ (.slice (some ⟨wr.heap.size, 0, none⟩) 1 1) = Z at this ⊢
  exact ⟨this.row, this.le, fun p hp => StsD.stays (w := Z) (w' := Z.drew) (this.kids p hp) fun _ _ => rfl⟩
theorem gd_at {e : Nat} {s : St} (h : Ps.Gd e s) : okAt s.re s.im := by
  have z0 : okAt 0 0 := ⟨by decide +kernel, by decide +kernel⟩
  cases h <;> exact z0
theorem ok_turn (k : Nat) (hk : k < 3) : okAt 4617315517961601024 (floatOfInt FloatKind.f64 (k : Int)) := by
  match k, hk with
  | 0, _ => exact ⟨by decide +kernel, by decide +kernel⟩
  | 1, _ => exact ⟨by decide +kernel, by decide +kernel⟩
  | 2, _ => exact ⟨by decide +kernel, by decide +kernel⟩
theorem num_rep {n : Nat} (hn : n < 1000) {l : List St} (h : NumL l) (re im : Nat) : NumL [.mk 8 ⟨#[]⟩ ⟨#[]⟩ n (.mk 0 0 ⟨#[]⟩ []) l [] re im] := by
  intro x hx
  have : x = .mk 8 ⟨#[]⟩ ⟨#[]⟩ n (.mk 0 0 ⟨#[]⟩ []) l [] re im ∨ x ∈ St.flats l := by
    rw [St.flats, St.flat_eq] at hx
    simpa [St.body, St.els, St.flats] using hx
  rcases this with rfl | hx
  · exact ⟨by show _ ≤ (n : Int); omega, by show (n : Int) ≤ _; omega, (by decide : (Ex.mk 0 0 ⟨#[]⟩ []).size ≤ 1073741824)⟩
  · exact h x hx
theorem lng_ok : ∀ (t : List (List St)), (∀ l ∈ t, ∀ s ∈ l, okAt s.re s.im) → okAt (lng t).1 (lng t).2.1
  | [], _ => ⟨by decide +kernel, by decide +kernel⟩
  | l :: t, h => by
    by_cases h3 : 300 < cap (sns l)
    · rw [show lng (l :: t) = at0 l from if_pos h3]
      cases l with
      | nil => exact ⟨by decide +kernel, by decide +kernel⟩
      | cons s l => exact h _ (List.mem_cons_self ..) s (List.mem_cons_self ..)
    · rw [show lng (l :: t) = lng t from if_neg h3]
      exact lng_ok t fun l' hl => h l' (List.mem_cons_of_mem _ hl)
set_option maxRecDepth 100000 in
set_option maxHeartbeats 2000000 in
theorem boundTells_row (how : Int) (la lb lc : List Ac) (lt le : List Int) (va vb vc vt ve : Value) (w : World) (hh1 : -9223372036854775808 ≤ how) (hh2 : how ≤ 9223372036854775807) (ha : ActsR w w.heap.size la va) (hb : ActsR w w.heap.size lb vb) (hc : ActsR w w.heap.size lc vc)
    (ht : IntsR w w.heap.size lt vt) (hbt : lt.length ≤ 17592186044416) (he : IntsR w w.heap.size le ve) (hbe : le.length ≤ 17592186044416) :
    Calls Try.prog 6 #[.int .i64 how, va, vb, vc, vt, ve] w fun e w' => e = .returned (.bool true) ∧ Kept w w' := by
  have KN : Hid (∀ W, Calls Try.prog 21 #[] W fun e w' => e = .returned (.bool true) ∧ Kept W w') := fun W => known10_any W
  have HPA : Hid (Calls Try.prog 9 #[.int .i64 how, va, vb, vc, .int .i64 4] w fun r w' => MadeB w 4 lc.length r w') := prog_anyB how la lb lc va vb vc 4 w hh1 hh2 ha hb hc (by omega) (by omega)
  have HEX : Hid (∀ W, Kept w W → Calls Try.prog 25 #[ve, .int .i64 0] W fun r w' => MadeY W (enF 6 le) r w') := fun W hW => expry_any 6 le W ve 0 (by omega) ((he.kept hW).mono hW.size) hbe (by omega)
  have hcl : enF 6 le ≤ 127 := by have := enF_le 6 le; omega
  obtain ⟨ce, hce⟩ : ∃ c, enF 6 le = c := ⟨_, rfl⟩
  rw [hce] at HEX hcl
  clear hce
  obtain ⟨aa, qa, rfl, -⟩ := ha.out
  obtain ⟨ab, qb, rfl, -⟩ := hb.out
  obtain ⟨ac, qc, rfl, -⟩ := hc.out
  obtain ⟨at_, qt, rfl, ht1, ht2, ht3, -⟩ := ht.out
  obtain ⟨ae, qe, rfl, -⟩ := he.out
  have HTC : Hid (∀ i (h : i < lt.length), ∃ b o, at_ = some ⟨b, o, none⟩ ∧ b < w.heap.size ∧ w.cell? ⟨b, o + i, none⟩ = some (.int .i64 lt[i])) := ht3
  clear hh1 hh2 ha hb hc ht he ht3
  go_enter Try.func6, Try.ntmps6
  go_wp2_with fail
  refine Calls.mono HPA.out ?_
  rintro e w1 ⟨d, ps, base, a1, n1, q1, a2, n2, q2, rfl, H⟩
  obtain ⟨ho, hbs, hg, hk⟩ := H.out
  have hps2 : 2 ≤ ps.length := by simpa using hg.two
  have hps3 : ps.length ≤ 3 := by simpa using hg.three
  obtain ⟨_, _, e, hsl⟩ := own_slice ho.row
  cases e
  have hq1 : ps.length ≤ q2 := hsl.le
  have hq2 : q2 ≤ 9223372036854775807 := hsl.big
  obtain ⟨g, _, e, hgl1, hgl2⟩ := ho.row.form (by omega)
  cases e
  have HO : Hid _ := ho
  have HK : Hid (Kept w w1) := hk
  have HNM : Hid (∀ p ∈ ps, NumL p.1 ∧ ∀ s ∈ p.1, okAt s.re s.im) := fun p hp => ⟨oks_num (hg.ok p.1 (List.mem_map.2 ⟨p, hp, rfl⟩)).1, fun s hs => gd_at ((hg.ok p.1 (List.mem_map.2 ⟨p, hp, rfl⟩)).1 s hs)⟩
  obtain ⟨L, hL⟩ : ∃ L, ps.length = L := ⟨_, rfl⟩
  have HL : Hid (ps.length = L) := hL
  rw [hL] at hps2 hps3 hq1 HO ⊢
  clear hL HPA H ho hg hk hsl
  go_wp2_with fail
  have KW1 : Hid (Kept w1 (w1.alloc (.cells #[.slice a1 n1 q1, .slice (some ⟨g, 0, none⟩) L q2] 27))) := (Kept.refl _).al _
  have BX : Hid (BoxS (w1.alloc (.cells #[.slice a1 n1 q1, .slice (some ⟨g, 0, none⟩) L q2] 27)) w1.heap.size [.slice a1 n1 q1, .slice (some ⟨g, 0, none⟩) L q2]) := box_newQ _ _ _
  have HKW : Hid (Kept w (w1.alloc (.cells #[.slice a1 n1 q1, .slice (some ⟨g, 0, none⟩) L q2] 27))) := HK.out.then KW1.out
  have HD1 : Hid (w1.heap.size < (w1.alloc (.cells #[.slice a1 n1 q1, .slice (some ⟨g, 0, none⟩) L q2] 27)).heap.size) := by rw [World.size_alloc]; show _ < _; omega
  have HO1 : Hid (OwnB (w1.alloc (.cells #[.slice a1 n1 q1, .slice (some ⟨g, 0, none⟩) L q2] 27)) base (Far base (w1.alloc (.cells #[.slice a1 n1 q1, .slice (some ⟨g, 0, none⟩) L q2] 27)) (.slice (some ⟨g, 0, none⟩) L q2)) ps (.slice (some ⟨g, 0, none⟩) L q2)) := by
    have := HO.out.kept KW1.out fun i hi => hi.2.1
    exact ⟨this.row, this.le, fun p hp => (this.kids p hp).mono fun i hi => ⟨hi.1, by rw [World.size_alloc]; have := hi.2.1; omega, hi.2.2⟩⟩
  obtain ⟨W1, hW1⟩ : ∃ W, (w1.alloc (.cells #[.slice a1 n1 q1, .slice (some ⟨g, 0, none⟩) L q2] 27)) = W := ⟨_, rfl⟩
  obtain ⟨D, hD⟩ : ∃ D, w1.heap.size = D := ⟨_, rfl⟩
  rw [hW1] at HKW HD1 HO1 BX ⊢
  rw [hD] at HD1 BX hgl2 ⊢
  have x0 := BX.out.cell 0 rfl
  have x1 := BX.out.cell 1 rfl
  have hDg : D ≠ g := by omega
  have hzD := HD1.out
  have hzw : w.heap.size ≤ D := by rw [← hD]; exact HK.out.size
  clear hW1 KW1 HO hD
  go_loopw [30] (fun i wr => ∃ (k : Nat), i = .int .i64 (k : Int) ∧ k ≤ lt.length ∧ Hid (∃ ps : List (List St × Value), ps.length = L ∧ OwnB wr base (Far base wr (.slice (some ⟨g, 0, none⟩) L q2)) ps (.slice (some ⟨g, 0, none⟩) L q2) ∧ (∀ p ∈ ps, NumL p.1 ∧ ∀ s ∈ p.1, okAt s.re s.im) ∧ Bu (· = g) W1 wr)) (fun i _ => lt.length - (intOf i).toNat)
  case atStart => exact ⟨0, rfl, Nat.zero_le _, ps, HL.out, HO1.out, HNM.out, Bu.refl _ _⟩
  case round =>
    clear HNM HL HO1
    obtain ⟨k, rfl, hk, HI⟩ := hrel
    obtain ⟨ps, hL, ho, hnm, hbu⟩ := HI.out
    have HO : Hid (OwnB wr base (Far base wr (.slice (some ⟨g, 0, none⟩) L q2)) ps (.slice (some ⟨g, 0, none⟩) L q2)) := ho
    have HN : Hid (∀ p ∈ ps, NumL p.1 ∧ ∀ s ∈ p.1, okAt s.re s.im) := hnm
    have HB : Hid (Bu (· = g) W1 wr) := hbu
    have HL : Hid (ps.length = L) := hL
    have y0 := hbu.cell x0 hDg
    have y1 := hbu.cell x1 hDg
    have hzz := hbu.size
    clear HI ho hnm hbu hL x0 x1
    by_cases hlt : k < lt.length
    · have hki : (k : Int) < (lt.length : Int) := by omega
      obtain ⟨tb, tof, rfl, htb, tc⟩ := HTC.out k hlt
      have tc1 : wr.cell? ⟨tb, tof + k, none⟩ = some (.int .i64 lt[k]) := HB.out.cell (HKW.out.cellS tc) (by omega)
      obtain ⟨x, hx⟩ : ∃ x, lt[k] = x := ⟨_, rfl⟩
      rw [hx] at tc1
      clear tc hx
      by_cases hkL : k < L
      · have hkLi : (k : Int) < (L : Int) := by omega
        obtain ⟨p80, hp80, -, hP⟩ := pick_nat x 80 (by omega) (by omega)
        have PK : Hid (∀ W, Calls Try.prog 16 #[.int .i64 x, .int .i64 80] W fun e w' => e = .returned (.int .i64 (p80 : Int)) ∧ w' = W) := hP
        have hkp : k < ps.length := by have := HL.out; omega
        obtain ⟨a5, n5, q5, e5⟩ := (HO.out.kids ps[k] (List.getElem_mem hkp)).form
        have cg : wr.cell? ⟨g, k, none⟩ = some (.slice a5 n5 q5) := by
          have h1 := HO.out.row
          rw [← HL.out] at h1
          rw [h1.cellAt k (by omega), List.getElem?_map, List.getElem?_eq_getElem hkp, ← e5]; rfl
        have fg : wr.frozen? ⟨g, k, none⟩ = false := by
          have h1 := HO.out.row
          rw [← HL.out] at h1
          exact h1.frozenAt k
        have hgw : g < wr.heap.size := (HO.out.row.lt g rfl).2
        have hrep := OwnB.rep (wr := wr) (ps := ps) (by rw [HL.out]; exact HO.out) k hkp p80 4617315517961601024 (floatOfInt FloatKind.f64 (k : Int)) a5 n5 q5 e5
        rw [HL.out] at hrep
        have HR : Hid _ := hrep
        have HNN : Hid (∀ p ∈ ps.set k ([.mk 8 ⟨#[]⟩ ⟨#[]⟩ p80 (.mk 0 0 ⟨#[]⟩ []) ps[k].1 [] 4617315517961601024 (floatOfInt FloatKind.f64 (k : Int))], .slice (some ⟨wr.heap.size, 0, none⟩) 1 1), NumL p.1 ∧ ∀ s ∈ p.1, okAt s.re s.im) := by
          intro p hp
          rcases List.mem_or_eq_of_mem_set hp with hp | rfl
          · exact HN.out p hp
          · refine ⟨num_rep (by omega) (HN.out _ (List.getElem_mem hkp)).1 _ _, fun s hs => ?_⟩
            obtain rfl : s = _ := by simpa using hs
            exact ok_turn k (by omega)
        clear hP hrep e5
        go_wp2_with fail
        refine wp_region_held_drew (S := (fun w' => w'.cell? ⟨D, 1, none⟩ = some (.slice (some ⟨g, 0, none⟩) L q2))) (by kernel_rfl) (by show wr.drew.cell? _ = _; exact y1) (fun hHeld => ?_)
        (refine tkB (i := 0) (v := ?_) rfl (by kernel_rfl) (by rfl) ?_ ?_; rotate_left; · (intro w hSw; (try dsimp only at hSw); go_simp; try with_reducible rfl))
        try simp only [List.getElem_toArray, List.getElem_cons_zero, Act.put, List.setIfInBounds_toArray, List.set_cons_zero, List.set_cons_succ]
        (refine tkB (i := 1) (v := ?_) rfl (by kernel_rfl) (by rfl) ?_ ?_; rotate_left; · (intro w hSw; (try dsimp only at hSw); go_simp; try with_reducible rfl))
        try simp only [List.getElem_toArray, List.getElem_cons_succ, List.getElem_cons_zero, Act.put, List.setIfInBounds_toArray, List.set_cons_zero, List.set_cons_succ]
        (refine tkB (i := 2) (v := ?_) rfl (by kernel_rfl) (by rfl) ?_ ?_; rotate_left; · (intro w hSw; (try dsimp only at hSw); go_simp; try with_reducible rfl))
        try simp only [List.getElem_toArray, List.getElem_cons_succ, List.getElem_cons_zero, Act.put, List.setIfInBounds_toArray, List.set_cons_zero, List.set_cons_succ]
        (refine tkB (i := 3) (v := ?_) rfl (by kernel_rfl) (by rfl) ?_ ?_; rotate_left; · (intro w hSw; (try dsimp only at hSw); go_simp; try with_reducible rfl))
        try simp only [List.getElem_toArray, List.getElem_cons_succ, List.getElem_cons_zero, Act.put, List.setIfInBounds_toArray, List.set_cons_zero, List.set_cons_succ]
        (refine tkB (i := 5) (v := ?_) rfl (by kernel_rfl) (by rfl) ?_ ?_; rotate_left; · (intro w hSw; (try dsimp only at hSw); go_simp; try with_reducible rfl))
        try simp only [List.getElem_toArray, List.getElem_cons_succ, List.getElem_cons_zero, Act.put, List.setIfInBounds_toArray, List.set_cons_zero, List.set_cons_succ]
        (refine tkB (i := 6) (v := ?_) rfl (by kernel_rfl) (by rfl) ?_ ?_; rotate_left; · (intro w hSw; (try dsimp only at hSw); go_simp; try with_reducible rfl))
        try simp only [List.getElem_toArray, List.getElem_cons_succ, List.getElem_cons_zero, Act.put, List.setIfInBounds_toArray, List.set_cons_zero, List.set_cons_succ]
        (refine tkB (i := 7) (v := ?_) rfl (by kernel_rfl) (by rfl) ?_ ?_; rotate_left; · (intro w hSw; (try dsimp only at hSw); go_simp; try with_reducible rfl))
        try simp only [List.getElem_toArray, List.getElem_cons_succ, List.getElem_cons_zero, Act.put, List.setIfInBounds_toArray, List.set_cons_zero, List.set_cons_succ]
        (refine tkB (i := 8) (v := ?_) rfl (by kernel_rfl) (by rfl) ?_ ?_; rotate_left; · (intro w hSw; (try dsimp only at hSw); go_simp; try with_reducible rfl))
        try simp only [List.getElem_toArray, List.getElem_cons_succ, List.getElem_cons_zero, Act.put, List.setIfInBounds_toArray, List.set_cons_zero, List.set_cons_succ]
        (refine tkB (i := 10) (v := ?_) rfl (by kernel_rfl) (by rfl) ?_ ?_; rotate_left; · (intro w hSw; (try dsimp only at hSw); go_simp; try with_reducible rfl))
        try simp only [List.getElem_toArray, List.getElem_cons_succ, List.getElem_cons_zero, Act.put, List.setIfInBounds_toArray, List.set_cons_zero, List.set_cons_succ]
        (refine tkB (i := 11) (v := ?_) rfl (by kernel_rfl) (by rfl) ?_ ?_; rotate_left; · (intro w hSw; (try dsimp only at hSw); go_simp; try with_reducible rfl))
        try simp only [List.getElem_toArray, List.getElem_cons_succ, List.getElem_cons_zero, Act.put, List.setIfInBounds_toArray, List.set_cons_zero, List.set_cons_succ]
        (refine tkB (i := 12) (v := ?_) rfl (by kernel_rfl) (by rfl) ?_ ?_; rotate_left; · (intro w hSw; (try dsimp only at hSw); go_simp; try with_reducible rfl))
        try simp only [List.getElem_toArray, List.getElem_cons_succ, List.getElem_cons_zero, Act.put, List.setIfInBounds_toArray, List.set_cons_zero, List.set_cons_succ]
        refine wpAnyH_ready (rs := [4, 9]) (by kernel_rfl) (by simp) ?_
        refine AllReadyH.cons rfl (fun K hK => ?_) ?_
        · skip
          go_simp
          go_at_call 16
          refine (PK.out _).mono ?_
          rintro e w5 ⟨rfl, hw5⟩
          obtain rfl := hw5.symm
          refine hK.out _ _ (by assumption) (fun hHeldC => ?_)
          clear hK K
          try simp only [List.getElem_toArray, List.getElem_cons_succ, List.getElem_cons_zero, Act.put, List.setIfInBounds_toArray, List.set_cons_zero, List.set_cons_succ]
          refine wpAnyH_ready (rs := [9]) (by kernel_rfl) (by simp) ?_
          refine AllReadyH.cons rfl (fun K hK => ?_) ?_
          rotate_left
          · exact AllReadyH.nil
          go_simp
          refine hK.out _ _ (by assumption) (fun hHeldL => ?_)
          clear hK K
          try simp only [List.getElem_toArray, List.getElem_cons_succ, List.getElem_cons_zero, Act.put, List.setIfInBounds_toArray, List.set_cons_zero, List.set_cons_succ]
          (refine tkB (i := 13) (v := ?_) rfl (by kernel_rfl) (by rfl) ?_ ?_; rotate_left; · (intro w hSw; (try dsimp only at hSw); go_simp; try with_reducible rfl))
          try simp only [List.getElem_toArray, List.getElem_cons_succ, List.getElem_cons_zero, Act.put, List.setIfInBounds_toArray, List.set_cons_zero, List.set_cons_succ]
          refine wpAnyH_ready (rs := [14]) (by kernel_rfl) (by simp) ?_
          refine AllReadyH.cons rfl (fun K hK => ?_) ?_
          rotate_left
          · exact AllReadyH.nil
          go_simp
          refine hK.out _ _ (by first | assumption | go_keep | (simp [*, World.cell?_setCell_other])) (fun hHeldA => ?_)
          clear hK K
          try simp only [List.getElem_toArray, List.getElem_cons_succ, List.getElem_cons_zero, Act.put, List.setIfInBounds_toArray, List.set_cons_zero, List.set_cons_succ]
          (refine tkB (i := 15) (v := ?_) rfl (by kernel_rfl) (by rfl) ?_ ?_; rotate_left; · (intro w hSw; (try dsimp only at hSw); go_simp; try with_reducible rfl))
          try simp only [List.getElem_toArray, List.getElem_cons_succ, List.getElem_cons_zero, Act.put, List.setIfInBounds_toArray, List.set_cons_zero, List.set_cons_succ]
          refine wpAnyH_ready (rs := [16]) (by kernel_rfl) (by simp) ?_
          refine AllReadyH.cons rfl (fun K hK => ?_) ?_
          rotate_left
          · exact AllReadyH.nil
          go_simp
          refine hK.out _ _ (HR.out.2.cell y1 hDg) (fun hHeldZ => ?_)
          clear hK K
          try simp only [List.getElem_toArray, List.getElem_cons_succ, List.getElem_cons_zero, Act.put, List.setIfInBounds_toArray, List.set_cons_zero, List.set_cons_succ]
          refine wpAnyH_done (by kernel_rfl) ?_ _
          go_wp2_with fail
          refine ⟨⟨k + 1, by go_num, by omega, _, by rw [List.length_set]; exact HL.out, HR.out.1, HNN.out, HB.out.then HR.out.2⟩, ?_⟩
          simp [intOf]; omega
        · refine AllReadyH.cons rfl (fun K hK => ?_) AllReadyH.nil
          go_simp
          refine hK.out _ _ (by assumption) (fun hHeldL => ?_)
          clear hK K
          try simp only [List.getElem_toArray, List.getElem_cons_succ, List.getElem_cons_zero, Act.put, List.setIfInBounds_toArray, List.set_cons_zero, List.set_cons_succ]
          refine wpAnyH_ready (rs := [4]) (by kernel_rfl) (by simp) ?_
          refine AllReadyH.cons rfl (fun K hK => ?_) ?_
          rotate_left
          · exact AllReadyH.nil
          go_simp
          go_at_call 16
          refine (PK.out _).mono ?_
          rintro e w5 ⟨rfl, hw5⟩
          obtain rfl := hw5.symm
          refine hK.out _ _ (by assumption) (fun hHeldC => ?_)
          clear hK K
          try simp only [List.getElem_toArray, List.getElem_cons_succ, List.getElem_cons_zero, Act.put, List.setIfInBounds_toArray, List.set_cons_zero, List.set_cons_succ]
          (refine tkB (i := 13) (v := ?_) rfl (by kernel_rfl) (by rfl) ?_ ?_; rotate_left; · (intro w hSw; (try dsimp only at hSw); go_simp; try with_reducible rfl))
          try simp only [List.getElem_toArray, List.getElem_cons_succ, List.getElem_cons_zero, Act.put, List.setIfInBounds_toArray, List.set_cons_zero, List.set_cons_succ]
          refine wpAnyH_ready (rs := [14]) (by kernel_rfl) (by simp) ?_
          refine AllReadyH.cons rfl (fun K hK => ?_) ?_
          rotate_left
          · exact AllReadyH.nil
          go_simp
          refine hK.out _ _ (by first | assumption | go_keep | (simp [*, World.cell?_setCell_other])) (fun hHeldA => ?_)
          clear hK K
          try simp only [List.getElem_toArray, List.getElem_cons_succ, List.getElem_cons_zero, Act.put, List.setIfInBounds_toArray, List.set_cons_zero, List.set_cons_succ]
          (refine tkB (i := 15) (v := ?_) rfl (by kernel_rfl) (by rfl) ?_ ?_; rotate_left; · (intro w hSw; (try dsimp only at hSw); go_simp; try with_reducible rfl))
          try simp only [List.getElem_toArray, List.getElem_cons_succ, List.getElem_cons_zero, Act.put, List.setIfInBounds_toArray, List.set_cons_zero, List.set_cons_succ]
          refine wpAnyH_ready (rs := [16]) (by kernel_rfl) (by simp) ?_
          refine AllReadyH.cons rfl (fun K hK => ?_) ?_
          rotate_left
          · exact AllReadyH.nil
          go_simp
          refine hK.out _ _ (HR.out.2.cell y1 hDg) (fun hHeldZ => ?_)
          clear hK K
          try simp only [List.getElem_toArray, List.getElem_cons_succ, List.getElem_cons_zero, Act.put, List.setIfInBounds_toArray, List.set_cons_zero, List.set_cons_succ]
          refine wpAnyH_done (by kernel_rfl) ?_ _
          go_wp2_with fail
          refine ⟨⟨k + 1, by go_num, by omega, _, by rw [List.length_set]; exact HL.out, HR.out.1, HNN.out, HB.out.then HR.out.2⟩, ?_⟩
          simp [intOf]; omega
      · have hkLi : ¬ (k : Int) < (L : Int) := by omega
        go_wp2_with fail
        refine ⟨⟨k + 1, by go_num, by omega, ps, HL.out, HO.out, HN.out, HB.out⟩, ?_⟩
        simp [intOf]; omega
    · have hki : ¬ (k : Int) < (lt.length : Int) := by omega
      obtain ⟨t, ht⟩ : ∃ t, ps.map (·.1) = t := ⟨_, rfl⟩
      have htl : t.length = L := by rw [← ht, List.length_map]; exact HL.out
      have HTS : TsIn wr 0 wr.heap.size t (.slice (some ⟨g, 0, none⟩) L q2) := by
        rw [← ht]
        exact HO.out.ts (fun i hi => ⟨Nat.zero_le _, hi.2.1⟩) fun i hi => ⟨Nat.zero_le _, (HO.out.row.lt i hi).2⟩
      have hnum : ∀ l ∈ t, NumL l := fun l hl => by
        rw [← ht] at hl
        obtain ⟨p, hp, rfl⟩ := List.mem_map.1 hl
        exact (HN.out p hp).1
      have hok : okAt (lng t).1 (lng t).2.1 := lng_ok t fun l hl => by
        rw [← ht] at hl
        obtain ⟨p, hp, rfl⟩ := List.mem_map.1 hl
        exact (HN.out p hp).2
      have GS : Hid (∀ W, Kept wr W → Calls Try.prog 18 #[.agg #[.slice a1 n1 q1, .slice (some ⟨g, 0, none⟩) L q2]] W fun r w' => ∃ a cap, r = .returned (.slice a L cap) ∧ NumsR W w' (szs t) a cap) := fun W hW => by
        have := bsize_any t (by omega) hnum W a1 (some ⟨g, 0, none⟩) n1 q1 L q2 (HTS.up (Nat.le_refl _) hW)
        rw [szs_len, htl] at this
        exact this
      have GR : Hid (∀ W, Kept wr W → Calls Try.prog 23 #[.agg #[.slice a1 n1 q1, .slice (some ⟨g, 0, none⟩) L q2]] W fun r w' => ∃ a cap, r = .returned (.slice a L cap) ∧ NumsR W w' (szs t) a cap) := fun W hW => by
        have := rsizes_any t (by omega) hnum W a1 (some ⟨g, 0, none⟩) n1 q1 L q2 (HTS.up (Nat.le_refl _) hW)
        rw [szs_len, htl] at this
        exact this
      obtain ⟨X, hX⟩ : ∃ X, (lng t).1 = X := ⟨_, rfl⟩
      obtain ⟨Y, hY⟩ : ∃ Y, (lng t).2.1 = Y := ⟨_, rfl⟩
      obtain ⟨E, hE⟩ : ∃ E, (lng t).2.2 = E := ⟨_, rfl⟩
      have htb : tellB (lng t) = .returned (.tuple #[.complex .f64 X Y, .int .i64 E]) := by unfold tellB; rw [hX, hY, hE]
      rw [hX, hY] at hok
      have ee1 := hok.1
      have ee2 := hok.2
      have GC : Hid (∀ W, Kept wr W → Calls Try.prog 20 #[.agg #[.slice a1 n1 q1, .slice (some ⟨g, 0, none⟩) L q2]] W fun r w' => r = .returned (.tuple #[.complex .f64 X Y, .int .i64 E]) ∧ Kept W w') := fun W hW => by
        have := bcheck_any t (by omega) hnum W a1 (some ⟨g, 0, none⟩) n1 q1 L q2 (HTS.up (Nat.le_refl _) hW)
        rw [htb] at this
        exact this
      have GB : Hid (∀ W, Kept wr W → Calls Try.prog 24 #[.agg #[.slice a1 n1 q1, .slice (some ⟨g, 0, none⟩) L q2]] W fun r w' => r = .returned (.tuple #[.complex .f64 X Y, .int .i64 E]) ∧ Kept W w') := fun W hW => by
        have := rbound_any t (by omega) hnum W a1 (some ⟨g, 0, none⟩) n1 q1 L q2 (HTS.up (Nat.le_refl _) hW)
        rw [htb] at this
        exact this
      have KWR : Hid (Kept w wr) := HB.out.kept HKW.out fun i hi => by have hi' : i = g := hi; omega
      have hsl : (szs t).length = L := by rw [szs_len]; exact htl
      clear ht htl HTS hnum hok hX hY hE htb HO HN HB HL
      go_wp2_with fail
      refine (GS.out _ (Kept.refl _)).mono ?_
      rintro r w2 ⟨aL, cL, rfl, hr⟩
      have HL2 : Hid _ := hr
      have k2 := hr.kept
      have y0a := k2.cellS y0
      have y1a := k2.cellS y1
      have HK2 : Hid (Kept wr w2) := k2
      clear hr k2 y0 y1 GS
      go_wp2_with fail
      refine (GR.out _ HK2.out).mono ?_
      rintro r w3 ⟨aM, cM, rfl, hr⟩
      have HM3 : Hid _ := hr
      have k3 := hr.kept
      have y0b := k3.cellS y0a
      have y1b := k3.cellS y1a
      have HK3 : Hid (Kept w2 w3) := k3
      clear hr k3 y0a y1a GR
      go_wp2_with fail
      refine (GC.out _ (HK2.out.then HK3.out)).mono ?_
      rintro r w4 ⟨rfl, k4⟩
      have y0c := k4.cellS y0b
      have y1c := k4.cellS y1b
      have HK4 : Hid (Kept w3 w4) := k4
      clear k4 y0b y1b GC
      go_wp2_with fail
      refine (GB.out _ ((HK2.out.then HK3.out).then HK4.out)).mono ?_
      rintro r w5 ⟨rfl, k5⟩
      have HK5 : Hid (Kept w3 w5) := HK4.out.then k5
      clear k5 y0c y1c GB
      go_wp2_with fail
      have HEX2 : Hid (∀ W, Kept w W → Calls Try.prog 25 #[.slice ae le.length qe, .int .i64 0] W fun r w' => ∃ (e1 : Ex) (b1 : Option Addr) (m1 p1 : Nat), r = .returned (.agg #[.int .i64 e1.kind, .int .i64 e1.n, .string e1.name, .slice b1 m1 p1]) ∧ Hid (ExsIn w' 0 w'.heap.size e1.of (.slice b1 m1 p1) ∧ e1.size = ce ∧ en e1 = ce ∧ Kept W w')) := fun W hW => by
        refine (HEX.out W hW).mono ?_
        rintro r w' ⟨e1, v1, rfl, h1, ⟨h2, h3⟩, h4⟩
        obtain ⟨b1, m1, p1, rfl⟩ := h1.form
        exact ⟨e1, b1, m1, p1, rfl, h1.mono fun i hi => ⟨Nat.zero_le _, hi.2⟩, h2, h3, h4⟩
      have HKA : Hid (Kept w w5) := KWR.out.then ((HK2.out.then HK3.out).then HK5.out)
      clear HEX HTC KWR
      refine (KN.out _).mono ?_
      rintro r w6 ⟨rfl, k6⟩
      have HK6 : Hid (Kept w5 w6) := k6
      clear k6
      go_wp2_with fail
      refine (HEX2.out _ (HKA.out.then HK6.out)).mono ?_
      rintro r w7 ⟨e1, b1, m1, p1, rfl, HE1⟩
      have P1 : Hid (∀ W, Kept w7 W → Calls Try.prog 22 #[.agg #[.int .i64 e1.kind, .int .i64 e1.n, .string e1.name, .slice b1 m1 p1]] W fun r w' => r = .returned (.int .i64 (ce : Int)) ∧ Kept W w') := fun W hW => by
        have := bexpr_any e1 W _ (HE1.out.1.up (Nat.le_refl _) hW)
        rw [HE1.out.2.2.1, cap_id (by omega)] at this
        exact this
      go_wp2_with fail
      refine (P1.out _ (Kept.refl _)).mono ?_
      rintro r w8 ⟨rfl, k8⟩
      have HK8 : Hid (Kept w5 w8) := HK6.out.then (HE1.out.2.2.2.then k8)
      clear k8 P1
      go_wp2_with fail
      refine (HEX2.out _ (HKA.out.then HK8.out)).mono ?_
      rintro r w9 ⟨e2, b2, m2, p2, rfl, HE2⟩
      have P2 : Hid (∀ W, Kept w9 W → Calls Try.prog 26 #[.agg #[.int .i64 e2.kind, .int .i64 e2.n, .string e2.name, .slice b2 m2 p2]] W fun r w' => r = .returned (.int .i64 (ce : Int)) ∧ Kept W w') := fun W hW => by
        have := rnum_any e2 W _ (HE2.out.1.up (Nat.le_refl _) hW) (by have := HE2.out.2.1; omega)
        rw [HE2.out.2.2.1] at this
        exact this
      go_wp2_with fail
      refine (P2.out _ (Kept.refl _)).mono ?_
      rintro r w10 ⟨rfl, k10⟩
      have HK10 : Hid (Kept w5 w10) := HK8.out.then (HE2.out.2.2.2.then k10)
      clear k10 P2 HEX2
      go_wp2_with fail
      have HLZ : Hid (NumsR wr w10 (szs t) aL cL) := HL2.out.up (HK3.out.then (HK5.out.then HK10.out))
      have HMZ : Hid (NumsR w2 w10 (szs t) aM cM) := HM3.out.up (HK5.out.then HK10.out)
      have HKZ : Hid (Kept w w10) := HKA.out.then HK10.out
      have lc1 := HLZ.out.le
      have lc2 := HLZ.out.big
      have mc1 := HMZ.out.le
      have mc2 := HMZ.out.big
      rw [hsl] at lc1 mc1
      clear HL2 HM3 HE1 HE2 HK2 HK3 HK4 HK5 HK6 HK8 HK10 HKA
      go_loopw [101] (fun i ws => ∃ k : Nat, i = .int .i64 (k : Int) ∧ k ≤ L ∧ Hid (Kept w10 ws)) (fun i _ => L - (intOf i).toNat)
      case atStart => exact ⟨0, rfl, Nat.zero_le _, Kept.refl _⟩
      case round =>
        rename_i wr2
        obtain ⟨k, rfl, hk, HI⟩ := hrel
        by_cases hlt2 : k < L
        · have hki2 : (k : Int) < (L : Int) := by omega
          have hks : k < (szs t).length := by omega
          obtain ⟨gL, rfl, cl0⟩ := HLZ.out.at_ k hks
          obtain ⟨gM, rfl, cm0⟩ := HMZ.out.at_ k hks
          have cl1 := HI.out.cellS cl0
          have cm1 := HI.out.cellS cm0
          obtain ⟨v, hv⟩ : ∃ v, (szs t)[k] = v := ⟨_, rfl⟩
          rw [hv] at cl1 cm1
          clear cl0 cm0 hv
          go_wp2_with fail
          go_quiet (fail)
          go_wp2_with fail
          refine ⟨⟨k + 1, by go_num, by omega, HI.out.then ((Kept.refl _).drN nq)⟩, ?_⟩
          simp [intOf]; omega
        · have hki2 : ¬ (k : Int) < (L : Int) := by omega
          go_wp2_with fail
          go_ret
          exact ⟨rfl, HKZ.out.then HI.out⟩
end Go.Proofs.Ytnfkjmafhaecgaa
