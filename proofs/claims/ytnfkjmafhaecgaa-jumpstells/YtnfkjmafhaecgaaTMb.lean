/- Mb -/
import Derived.Test.YtnfkjmafhaecgaaTRt9
import Derived.Test.YtnfkjmafhaecgaaTJo
import Derived.Deep.RegionHeld3
import Derived.Deep.RegionLaw
import Derived.Deep.CutBlock
import Derived.Deep.DeepCutAuto

namespace Go.Proofs.Ytnfkjmafhaecgaa
open Go.RowKit Jf
attribute [local go_sem] run_store_complex
theorem many_take (l : List St) (k : Nat) (h : k < l.length) (here : List Nat) (f thr n p : Nat) : many (l.take (k + 1)) here f thr n p = many (l.take k) here f thr n p ++ one l[k] here f thr (n + St.nbs (l.take k)) (p + St.sizes (l.take k)) := by
  rw [List.take_succ_eq_append_getElem h, many_append]; simp [many]
theorem rm_box {W w' : World} {base B e s n m : Nat} {v v' : Value} {xs news cs : List Value} (h : BoxS W B cs) (hown : W.ownsRow base e s v n xs) (hB : B < base) (hG : Grew W base e s v n xs m news v' w') : BoxS w' B cs :=
  h.off (hG.grown.block B h.lt fun c => by have := (hown.lt B c.symm).1; omega) hG.grown.size
theorem rm_row {W w' : World} {base b2 e e2 s s2 n n2 m : Nat} {v v' v2 : Value} {xs news ys : List Value} (h : W.ownsRow b2 e2 s2 v2 n2 ys) (hown : W.ownsRow base e s v n xs) (he : e2 ≠ e) (hG : Grew W base e s v n xs m news v' w') : w'.ownsRow b2 e2 s2 v2 n2 ys :=
  World.ownsRow.kept h hG.grown (own_apart h hown he)
structure RM (w : World) (hi B : Nat) (hv : Value) (here : List Nat) (W : World) (ms : List Mk) (v : Value) (N : Nat) : Prop where
  own : OwnM W w.heap.size hi ms v
  bu : Bu (· = B) w W
  box : BoxS W B [.int .i64 (N : Int)]
  row : W.ownsRow w.heap.size 3 1 hv here.length (ints here)
theorem RM.al {w W : World} {hi B N : Nat} {hv v : Value} {here : List Nat} {ms : List Mk} (h : RM w hi B hv here W ms v N) (hh : hi ≤ w.heap.size) (o : Obj) : RM w hi B hv here (W.alloc o) ms v N :=
  ⟨h.own.kept ((Kept.refl W).al o) (Nat.le_trans hh h.bu.size), h.bu.al o, h.box.kept ((Kept.refl W).al o), h.row.alloc o⟩
theorem RM.grew {w W w' : World} {hi B N : Nat} {hv v v' : Value} {here : List Nat} {ms qs : List Mk} (h : RM w hi B hv here W ms v N) (hh : hi ≤ w.heap.size) (hB : B < w.heap.size) (hq : ∀ m ∈ qs, m.InD W w.heap.size hi) (hG : Grew W w.heap.size 68 13 v ms.length (mkCells ms) qs.length (mkCells qs) v' w') : RM w hi B hv here w' (ms ++ qs) v' N := by
  have h2 := rm_app (Nat.le_refl _) hh h.own h.bu hq hG
  exact ⟨h2.1, h2.2, rm_box h.box h.own.row hB hG, rm_row h.row h.own.row (by decide) hG⟩
theorem RM.past {w W w' : World} {hi B N N' : Nat} {hv v : Value} {here : List Nat} {ms : List Mk} (h : RM w hi B hv here W ms v N) (hh : hi ≤ B) (hB : B < w.heap.size) (b : Bu (· = B) W w') (bx : BoxS w' B [.int .i64 (N' : Int)]) : RM w hi B hv here w' ms v N' :=
  ⟨h.own.bu b hh hB, h.bu.then b, bx, h.row.kept b.grown (.inr fun e => by have := (h.row.lt B e).1; omega)⟩
theorem RM.stays {w W : World} {hi B N : Nat} {hv v : Value} {here : List Nat} {ms : List Mk} (h : RM w hi B hv here W ms v N) (hh : hi ≤ B) (hB : B < w.heap.size) : StaysD (Rng 0 hi) w W :=
  h.bu.stays fun j hj => ⟨by have := hj.2; omega, fun c => by have := hj.2; omega⟩
theorem stays_between {w W W' : World} {D : Nat → Prop} (h : StaysD D w W) (h' : StaysD D w W') : StaysD D W W' := fun k hk => (h' k hk).trans (h k hk).symm
theorem St.nbs_take (l : List St) (k : Nat) (h : k < l.length) : St.nbs (l.take (k + 1)) = St.nbs (l.take k) + (2 + (St.nbs l[k].body + St.nbs l[k].els)) := by
  rw [List.take_succ_eq_append_getElem h, St.nbs_append]
  simp [St.nbs, St.nb_eq]
theorem St.nbs_take_le (l : List St) (k : Nat) : St.nbs (l.take k) ≤ St.nbs l := by
  have := St.nbs_append (l.take k) (l.drop k)
  rw [List.take_append_drop] at this; omega
theorem ints_one (l : List Nat) : ∀ u ∈ ints l, u.oneCell' = true := fun u hu => by
  obtain ⟨i, -, rfl⟩ := List.mem_map.1 hu
  rfl
theorem OwnRow.past {W W' : World} {b1 b2 e1 e2 s1 s2 n1 n2 m : Nat} {v v1 v' : Value} {xs ys news : List Value} (h : W.ownsRow b1 e1 s1 v1 n1 ys) (hG : Grew W b2 e2 s2 v n2 xs m news v' W') (hne : v1.ownBlock ≠ v.ownBlock) : W'.ownsRow b1 e1 s1 v1 n1 ys := World.ownsRow.kept h hG.grown (.inr hne)
theorem own_empty (w : World) (base e size : Nat) (hb : base ≤ w.heap.size) : (w.alloc (.cells #[] e)).ownsRow base e size (.slice (some ⟨w.heap.size, 0, none⟩) 0 0) 0 [] := World.ownsRow_lit w #[] 0 hb (by unfold maxLen; omega) (by simp)
theorem own_empty1 (w : World) (o : Obj) (base e size : Nat) (hb : base ≤ w.heap.size) : ((w.alloc o).alloc (.cells #[] e)).ownsRow base e size (.slice (some ⟨w.heap.size + 1, 0, none⟩) 0 0) 0 [] := by
  have h := own_empty (w.alloc o) base e size (by simp; omega)
  have hz : (w.alloc o).heap.size = w.heap.size + 1 := by simp
  rw [hz] at h; exact h
theorem own_lit1 (w : World) (o : Obj) (base e size : Nat) (cs : Array Value) (hs : cs.size = size) (hb : base ≤ w.heap.size) : ((w.alloc o).alloc (.cells cs e)).ownsRow base e size (.slice (some ⟨w.heap.size + 1, 0, none⟩) 1 1) 1 cs.toList := by
  have h := own_lit (w := w.alloc o) base e size cs hs (by simp; omega)
  have hz : (w.alloc o).heap.size = w.heap.size + 1 := by simp
  rw [hz] at h; exact h
theorem mb_cell {W W' : World} {base e s n m B : Nat} {v v' x : Value} {xs news : List Value} (h : Grew W base e s v n xs m news v' W') (hown : W.ownsRow base e s v n xs) (hB : B < base) (c : W.cell? ⟨B, 0, none⟩ = some x) : W'.cell? ⟨B, 0, none⟩ = some x :=
  h.grown.cell c fun e => by have := (hown.lt B e.symm).1; omega
theorem mb_end {W1 w wb : World} {n : Nat} {ad : Option Addr} {cp : Nat} {around : List Nat} (hz : W1.heap.size = w.heap.size) (ho : wb.ownsRow W1.heap.size 3 1 (.slice ad (around.length + 1) cp) (around.length + 1) (ints around ++ [.int .i64 ((n : Int) + 1)])) (k : Kept W1 wb) :
    ∃ g cp', Value.slice ad (around.length + 1) cp = .slice (some ⟨g, 0, none⟩) (around.length + 1) cp' ∧ Hid (wb.ownsRow w.heap.size 3 1 (.slice (some ⟨g, 0, none⟩) (around.length + 1) cp') (around.length + 1) (ints (around ++ [n + 1])) ∧ Kept W1 wb) := by
  rw [hz] at ho
  obtain ⟨g, cap, e, h1, h2⟩ := ho.form (by omega)
  refine ⟨g, cap, e, ?_, k⟩
  rw [← e, show ints (around ++ [n + 1]) = ints around ++ [.int .i64 ((n : Int) + 1)] from by simp [ints]]
  exact ho
def PMk (l : List St) : Prop := ∀ (w : World) (hi B ab : Nat) (bv av : Value) (around : List Nat) (f thr n p : Nat), hi ≤ B → StsIn w 0 hi l bv → BoxS w B [.int .i64 (n : Int)] → w.ownsRow ab 3 1 av around.length (ints around) → B < ab → n + 1 + St.nbs l ≤ 1073741824 → around.length ≤ n → St.sizes l ≤ 1073741824 →
  Calls Try.prog 45 #[bv, av, .int .i64 (thr : Int), .pointer (some ⟨B, 0, none⟩)] w fun r w' => ∃ v' ms, r = .returned v' ∧ OwnM w' w.heap.size hi ms v' ∧ ms.map Mk.said = (many l (around ++ [n + 1]) f thr (n + 1) p).map An.said ∧ Bu (· = B) w w' ∧ BoxS w' B [.int .i64 ((n + 1 + St.nbs l : Nat) : Int)]
set_option maxRecDepth 100000 in
set_option maxHeartbeats 1000000 in
theorem marks_of (l : List St) (H : ∀ x ∈ l, PMk x.body ∧ PMk x.els) : PMk l := by
  intro w hi B ab bv av around f thr n p hhB hb hbx ha hab hn har hsz
  have HA : Hid _ := hb
  have HH : Hid (∀ x ∈ l, PMk x.body ∧ PMk x.els) := H
  have HAR : Hid (w.ownsRow ab 3 1 av around.length (ints around)) := ha
  have HBX : Hid _ := hbx
  have HN : Hid (hi ≤ B ∧ B < w.heap.size ∧ n + 1 + St.nbs l ≤ 1073741824 ∧ around.length ≤ n ∧ St.sizes l ≤ 1073741824) := ⟨hhB, hbx.lt, hn, har, hsz⟩
  obtain ⟨a, cap, rfl, hl, hl2, hcap⟩ := hb.open
  obtain ⟨aa, acap, rfl, has⟩ := own_slice ha
  have c0 := hbx.cell 0 rfl
  have cl := hbx.lt
  have cf := hbx.fz 0
  clear hb H ha hbx
  go_enter Try.func45, Try.ntmps45
  have hwr : IntKind.i64.wrap ((n : Int) + 1) = (n : Int) + 1 := by rw [IntKind.wrap_i64]; omega
  go_upto_region 2 with fail
  have hb1 : BoxS (w.setCell ⟨B, 0, none⟩ (.int .i64 ((n : Int) + 1))) B [.int .i64 ((n : Int) + 1)] := HBX.out.set 0 [_] (by simp)
  have hu1 : Bu (· = B) w (w.setCell ⟨B, 0, none⟩ (.int .i64 ((n : Int) + 1))) := Bu.set (M := (· = B)) (B := B) (Bu.refl _ _) (.inl rfl) 0 _
  obtain ⟨W1, hW1⟩ : ∃ W, w.setCell ⟨B, 0, none⟩ (.int .i64 ((n : Int) + 1)) = W := ⟨_, rfl⟩
  have HSZ1 : Hid (W1.heap.size = w.heap.size) := by rw [← hW1]; show _ = _; rw [setCell_size]
  rw [hW1] at hb1 hu1 ⊢
  clear hW1 c0 cl cf hwr
  have HB1 : Hid _ := hb1
  have HU1 : Hid _ := hu1
  have c0 := hb1.cell 0 rfl
  have hnl : around.length + 1 ≤ 1073741825 := by omega
  have HAR1 : Hid (W1.ownsRow ab 3 1 (.slice aa around.length acap) around.length (ints around)) := HAR.out.kept hu1.grown (.inr fun e => by have := (HAR.out.lt B e).1; omega)
  clear hb1 hu1
  go_cut [9] (fun t9 wc => ∃ g cp, t9 = .slice (some ⟨g, 0, none⟩) (around.length + 1) cp ∧ Hid (wc.ownsRow w.heap.size 3 1 (.slice (some ⟨g, 0, none⟩) (around.length + 1) cp) (around.length + 1) (ints (around ++ [n + 1])) ∧ Kept W1 wc))
  case first =>
    refine wp_region_held_drew (S := (fun w' => w'.cell? ⟨B, 0, none⟩ = some (.int .i64 ((n : Int) + 1)))) (by kernel_rfl) (by go_keep) (fun hHeld => ?_)
    (refine tkY (i := 1) (v := ?_) rfl (by kernel_rfl) (by rfl) ?_ ?_; rotate_left; · (intro w hSw; (try dsimp only at hSw); go_simp; try with_reducible rfl))
    simp only [List.getElem_toArray, List.getElem_cons_succ, List.getElem_cons_zero, Act.put, List.setIfInBounds_toArray, List.set_cons_zero, List.set_cons_succ]
    (refine tkY (i := 3) (v := ?_) rfl (by kernel_rfl) (by rfl) ?_ ?_; rotate_left; · (intro w hSw; (try dsimp only at hSw); go_simp; try with_reducible rfl))
    simp only [List.getElem_toArray, List.getElem_cons_succ, List.getElem_cons_zero, Act.put, List.setIfInBounds_toArray, List.set_cons_zero, List.set_cons_succ]
    (refine tkY (i := 4) (v := ?_) rfl (by kernel_rfl) (by rfl) ?_ ?_; rotate_left; · (intro w hSw; (try dsimp only at hSw); go_simp; try with_reducible rfl))
    simp only [List.getElem_toArray, List.getElem_cons_succ, List.getElem_cons_zero, Act.put, List.setIfInBounds_toArray, List.set_cons_zero, List.set_cons_succ]
    (refine tkY (i := 5) (v := ?_) rfl (by kernel_rfl) (by rfl) ?_ ?_; rotate_left; · (intro w hSw; (try dsimp only at hSw); go_simp; try with_reducible rfl))
    simp only [List.getElem_toArray, List.getElem_cons_succ, List.getElem_cons_zero, Act.put, List.setIfInBounds_toArray, List.set_cons_zero, List.set_cons_succ]
    refine wpAnyH_ready (rs := [0, 6]) (by kernel_rfl) (by simp) ?_
    refine AllReadyH.cons rfl (fun K hK => ?_) ?_
    · go_simp
      refine hK.out _ _ (by first | assumption | go_keep | simp [*]) (fun hH1 => ?_)
      clear hK K
      try simp only [List.getElem_toArray, List.getElem_cons_succ, List.getElem_cons_zero, Act.put, List.setIfInBounds_toArray, List.set_cons_zero, List.set_cons_succ, Nat.zero_add]
      refine wpAnyH_ready (rs := [2, 6]) (by kernel_rfl) (by simp) ?_
      refine AllReadyH.cons rfl (fun K hK => ?_) ?_
      · have HO1 := (own_empty W1 W1.heap.size 3 1 (Nat.le_refl _))
        refine step_append_rows (base := W1.heap.size) (n := 0) (xs := []) (by rfl) _ _ _ (by rfl) elemInt (by rfl) HO1 (by rfl) (HAR1.out.alloc _) (ints_one around) (by omega) (by unfold maxLen; omega) (((Kept.refl W1).al _).dr).size ?_
        intro ad cp wa HG
        have hH2 := mb_cell HG.out HO1 HB1.out.lt hH1
        have kp2 : Kept W1 wa := HG.out.below HO1 (Nat.le_refl _) (((Kept.refl W1).al _).dr).size (((Kept.refl W1).al _).dr)
        have ho2 : wa.ownsRow W1.heap.size 3 1 (.slice ad around.length cp) around.length (ints around) := by simpa only [Nat.zero_add, List.nil_append] using HG.out.own
        clear HO1 HG
        refine hK.out _ _ (by first | assumption | go_keep | simp [*]) (fun _ => ?_)
        clear hK K
        try simp only [List.getElem_toArray, List.getElem_cons_succ, List.getElem_cons_zero, Act.put, List.setIfInBounds_toArray, List.set_cons_zero, List.set_cons_succ, Nat.zero_add]
        refine wpAnyH_ready (rs := [6]) (by kernel_rfl) (by simp) ?_
        refine AllReadyH.cons rfl (fun K hK => ?_) ?_
        rotate_left
        · exact AllReadyH.nil
        go_simp
        refine hK.out _ _ (by first | assumption | go_keep | simp [*]) (fun hH4 => ?_)
        clear hK K
        try simp only [List.getElem_toArray, List.getElem_cons_succ, List.getElem_cons_zero, Act.put, List.setIfInBounds_toArray, List.set_cons_zero, List.set_cons_succ, Nat.zero_add]
        refine wpAnyH_ready (rs := [7]) (by kernel_rfl) (by simp) ?_
        refine AllReadyH.cons rfl (fun K hK => ?_) ?_
        rotate_left
        · exact AllReadyH.nil
        have HO2 := (ho2.alloc (.cells #[.int .i64 ((n : Int) + 1)] 3))
        refine step_append_rows (base := W1.heap.size) (n := around.length) (xs := ints around) (by rfl) _ _ _ (by rfl) elemInt (by rfl) HO2 (by rfl) (own_lit 0 3 1 _ (by rfl) (Nat.zero_le _)) (by simp [Value.oneCell']) (by omega) (by unfold maxLen; omega) ((kp2.al (.cells #[.int .i64 ((n : Int) + 1)] 3))).size ?_
        intro ad2 cp2 wb HG2
        have hH3 := mb_cell HG2.out HO2 HB1.out.lt hH4
        have kp3 : Kept W1 wb := HG2.out.below HO2 (Nat.le_refl _) ((kp2.al (.cells #[.int .i64 ((n : Int) + 1)] 3))).size ((kp2.al (.cells #[.int .i64 ((n : Int) + 1)] 3)))
        have ho3 : wb.ownsRow W1.heap.size 3 1 (.slice ad2 (around.length + 1) cp2) (around.length + 1) (ints around ++ [.int .i64 ((n : Int) + 1)]) := HG2.out.own
        clear HO2 HG2
        refine hK.out _ _ (by first | assumption | go_keep | simp [*]) (fun _ => ?_)
        clear hK K
        try simp only [List.getElem_toArray, List.getElem_cons_succ, List.getElem_cons_zero, Act.put, List.setIfInBounds_toArray, List.set_cons_zero, List.set_cons_succ]
        (refine tkY (i := 8) (v := ?_) rfl (by kernel_rfl) (by rfl) ?_ ?_; rotate_left; · (intro w hSw; (try dsimp only at hSw); go_simp; try with_reducible rfl))
        simp only [List.getElem_toArray, List.getElem_cons_succ, List.getElem_cons_zero, Act.put, List.setIfInBounds_toArray, List.set_cons_zero, List.set_cons_succ]
        refine wpAnyH_done (by kernel_rfl) ?_ _
        go_wp2_with fail
        go_meet
        exact mb_end HSZ1.out ho3 kp3
      · refine AllReadyH.cons rfl (fun K hK => ?_) ?_
        rotate_left
        · exact AllReadyH.nil
        go_simp
        refine hK.out _ _ (by first | assumption | go_keep | simp [*]) (fun hH5 => ?_)
        clear hK K
        try simp only [List.getElem_toArray, List.getElem_cons_succ, List.getElem_cons_zero, Act.put, List.setIfInBounds_toArray, List.set_cons_zero, List.set_cons_succ, Nat.zero_add]
        refine wpAnyH_ready (rs := [2]) (by kernel_rfl) (by simp) ?_
        refine AllReadyH.cons rfl (fun K hK => ?_) ?_
        rotate_left
        · exact AllReadyH.nil
        have HO1 := (World.ownsRow.alloc (own_empty W1 W1.heap.size 3 1 (Nat.le_refl _)) (.cells #[.int .i64 ((n : Int) + 1)] 3))
        refine step_append_rows (base := W1.heap.size) (n := 0) (xs := []) (by rfl) _ _ _ (by rfl) elemInt (by rfl) HO1 (by rfl) ((HAR1.out.alloc _).alloc _) (ints_one around) (by omega) (by unfold maxLen; omega) ((((Kept.refl W1).al _).al _).dr).size ?_
        intro ad cp wa HG
        have hH2 := mb_cell HG.out HO1 HB1.out.lt hH5
        have kp2 : Kept W1 wa := HG.out.below HO1 (Nat.le_refl _) ((((Kept.refl W1).al _).al _).dr).size ((((Kept.refl W1).al _).al _).dr)
        have ho2 : wa.ownsRow W1.heap.size 3 1 (.slice ad around.length cp) around.length (ints around) := by simpa only [Nat.zero_add, List.nil_append] using HG.out.own
        have HL2 := OwnRow.past (World.ownsRow.drew (own_lit1 W1 (.cells #[] 3) 0 3 1 #[.int .i64 ((n : Int) + 1)] (by rfl) (Nat.zero_le _))) HG.out (by simp [Value.ownBlock])
        clear HO1 HG
        refine hK.out _ _ (by first | assumption | go_keep | simp [*]) (fun _ => ?_)
        clear hK K
        try simp only [List.getElem_toArray, List.getElem_cons_succ, List.getElem_cons_zero, Act.put, List.setIfInBounds_toArray, List.set_cons_zero, List.set_cons_succ, Nat.zero_add]
        refine wpAnyH_ready (rs := [7]) (by kernel_rfl) (by simp) ?_
        refine AllReadyH.cons rfl (fun K hK => ?_) ?_
        rotate_left
        · exact AllReadyH.nil
        have HO2 := ho2
        refine step_append_rows (base := W1.heap.size) (n := around.length) (xs := ints around) (by rfl) _ _ _ (by rfl) elemInt (by rfl) HO2 (by rfl) HL2 (by simp [Value.oneCell']) (by omega) (by unfold maxLen; omega) (kp2).size ?_
        intro ad2 cp2 wb HG2
        have hH3 := mb_cell HG2.out HO2 HB1.out.lt hH2
        have kp3 : Kept W1 wb := HG2.out.below HO2 (Nat.le_refl _) (kp2).size (kp2)
        have ho3 : wb.ownsRow W1.heap.size 3 1 (.slice ad2 (around.length + 1) cp2) (around.length + 1) (ints around ++ [.int .i64 ((n : Int) + 1)]) := HG2.out.own
        clear HO2 HG2
        refine hK.out _ _ (by first | assumption | go_keep | simp [*]) (fun _ => ?_)
        clear hK K
        try simp only [List.getElem_toArray, List.getElem_cons_succ, List.getElem_cons_zero, Act.put, List.setIfInBounds_toArray, List.set_cons_zero, List.set_cons_succ]
        (refine tkY (i := 8) (v := ?_) rfl (by kernel_rfl) (by rfl) ?_ ?_; rotate_left; · (intro w hSw; (try dsimp only at hSw); go_simp; try with_reducible rfl))
        simp only [List.getElem_toArray, List.getElem_cons_succ, List.getElem_cons_zero, Act.put, List.setIfInBounds_toArray, List.set_cons_zero, List.set_cons_succ]
        refine wpAnyH_done (by kernel_rfl) ?_ _
        go_wp2_with fail
        go_meet
        exact mb_end HSZ1.out ho3 kp3
    · refine AllReadyH.cons rfl (fun K hK => ?_) ?_
      rotate_left
      · exact AllReadyH.nil
      go_simp
      refine hK.out _ _ (by first | assumption | go_keep | simp [*]) (fun hH1 => ?_)
      clear hK K
      try simp only [List.getElem_toArray, List.getElem_cons_succ, List.getElem_cons_zero, Act.put, List.setIfInBounds_toArray, List.set_cons_zero, List.set_cons_succ, Nat.zero_add]
      refine wpAnyH_ready (rs := [0]) (by kernel_rfl) (by simp) ?_
      refine AllReadyH.cons rfl (fun K hK => ?_) ?_
      rotate_left
      · exact AllReadyH.nil
      go_simp
      refine hK.out _ _ (by first | assumption | go_keep | simp [*]) (fun hH5 => ?_)
      clear hK K
      try simp only [List.getElem_toArray, List.getElem_cons_succ, List.getElem_cons_zero, Act.put, List.setIfInBounds_toArray, List.set_cons_zero, List.set_cons_succ, Nat.zero_add]
      refine wpAnyH_ready (rs := [2]) (by kernel_rfl) (by simp) ?_
      refine AllReadyH.cons rfl (fun K hK => ?_) ?_
      rotate_left
      · exact AllReadyH.nil
      have HO1 := (own_empty1 W1 (.cells #[.int .i64 ((n : Int) + 1)] 3) W1.heap.size 3 1 (Nat.le_refl _))
      refine step_append_rows (base := W1.heap.size) (n := 0) (xs := []) (by rfl) _ _ _ (by rfl) elemInt (by rfl) HO1 (by rfl) ((HAR1.out.alloc _).alloc _) (ints_one around) (by omega) (by unfold maxLen; omega) ((((Kept.refl W1).al _).al _).dr).size ?_
      intro ad cp wa HG
      have hH2 := mb_cell HG.out HO1 HB1.out.lt hH5
      have kp2 : Kept W1 wa := HG.out.below HO1 (Nat.le_refl _) ((((Kept.refl W1).al _).al _).dr).size ((((Kept.refl W1).al _).al _).dr)
      have ho2 : wa.ownsRow W1.heap.size 3 1 (.slice ad around.length cp) around.length (ints around) := by simpa only [Nat.zero_add, List.nil_append] using HG.out.own
      have HL2 := OwnRow.past (World.ownsRow.drew (World.ownsRow.alloc (own_lit (w := W1) 0 3 1 #[.int .i64 ((n : Int) + 1)] (by rfl) (Nat.zero_le _)) (.cells #[] 3))) HG.out (by simp [Value.ownBlock])
      clear HO1 HG
      refine hK.out _ _ (by first | assumption | go_keep | simp [*]) (fun _ => ?_)
      clear hK K
      try simp only [List.getElem_toArray, List.getElem_cons_succ, List.getElem_cons_zero, Act.put, List.setIfInBounds_toArray, List.set_cons_zero, List.set_cons_succ, Nat.zero_add]
      refine wpAnyH_ready (rs := [7]) (by kernel_rfl) (by simp) ?_
      refine AllReadyH.cons rfl (fun K hK => ?_) ?_
      rotate_left
      · exact AllReadyH.nil
      have HO2 := ho2
      refine step_append_rows (base := W1.heap.size) (n := around.length) (xs := ints around) (by rfl) _ _ _ (by rfl) elemInt (by rfl) HO2 (by rfl) HL2 (by simp [Value.oneCell']) (by omega) (by unfold maxLen; omega) (kp2).size ?_
      intro ad2 cp2 wb HG2
      have hH3 := mb_cell HG2.out HO2 HB1.out.lt hH2
      have kp3 : Kept W1 wb := HG2.out.below HO2 (Nat.le_refl _) (kp2).size (kp2)
      have ho3 : wb.ownsRow W1.heap.size 3 1 (.slice ad2 (around.length + 1) cp2) (around.length + 1) (ints around ++ [.int .i64 ((n : Int) + 1)]) := HG2.out.own
      clear HO2 HG2
      refine hK.out _ _ (by first | assumption | go_keep | simp [*]) (fun _ => ?_)
      clear hK K
      try simp only [List.getElem_toArray, List.getElem_cons_succ, List.getElem_cons_zero, Act.put, List.setIfInBounds_toArray, List.set_cons_zero, List.set_cons_succ]
      (refine tkY (i := 8) (v := ?_) rfl (by kernel_rfl) (by rfl) ?_ ?_; rotate_left; · (intro w hSw; (try dsimp only at hSw); go_simp; try with_reducible rfl))
      simp only [List.getElem_toArray, List.getElem_cons_succ, List.getElem_cons_zero, Act.put, List.setIfInBounds_toArray, List.set_cons_zero, List.set_cons_succ]
      refine wpAnyH_done (by kernel_rfl) ?_ _
      go_wp2_with fail
      go_meet
      exact mb_end HSZ1.out ho3 kp3
  case rest =>
    obtain ⟨g, hcp, rfl, HHR⟩ := hcut
    clear HAR HAR1 c0 has
    obtain ⟨here, hhere⟩ : ∃ here, around ++ [n + 1] = here := ⟨_, rfl⟩
    have hhl : around.length + 1 = here.length := by rw [← hhere]; simp
    rw [hhere, hhl] at HHR
    rw [hhl]
    have HHL : Hid (here.length = around.length + 1 ∧ around ++ [n + 1] = here) := ⟨hhl.symm, hhere⟩
    have HB2 : Hid (Bu (· = B) w wc) := HU1.out.then (Bu.of HHR.out.2)
    have HX2 : Hid (BoxS wc B [.int .i64 ((n + 1 + St.nbs (l.take 0) : Nat) : Int)]) := by
      have h := HB1.out.kept HHR.out.2
      have e : ((n : Int) + 1) = ((n + 1 + St.nbs (l.take 0) : Nat) : Int) := by simp [St.nbs]
      rw [e] at h
      exact h
    clear hhere hhl hhB hab hn har hsz HBX HB1 HU1 HSZ1 hnl
    go_wp2_with fail
    go_loopw [10, 11] (fun list i wr => ∃ (k : Nat) (a1 : Option Addr) (n1 q1 : Nat) (ms1 : List Mk), list = .slice a1 n1 q1 ∧ i = .int .i64 (k : Int) ∧ k ≤ l.length ∧ Hid (RM w hi B (.slice (some ⟨g, 0, none⟩) here.length hcp) here wr ms1 (.slice a1 n1 q1) (n + 1 + St.nbs (l.take k))) ∧ Hid (ms1.map Mk.said = (many (l.take k) here f thr (n + 1) p).map An.said)) (fun _ i _ => l.length - (intOf i).toNat)
    case atStart => exact ⟨0, _, _, _, [], rfl, rfl, Nat.zero_le _, ⟨OwnM.nil _ _ _ HB2.out.size, HB2.out, HX2.out, HHR.out.1⟩, rfl⟩
    case round =>
      obtain ⟨k, ax, nx, qx, ms1, rfl, rfl, hk, HI, HS⟩ := hrel
      by_cases hlt : k < l.length
      · have hki : (k : Int) < (l.length : Int) := by omega
        have hNN := HN.out
        have st : StaysD (Rng 0 hi) w wr := HI.out.stays hNN.1 hNN.2.1
        obtain ⟨b, o, a1, n1, q1, a2, n2, q2, a3, n3, q3, rfl, _, hb, _, c0, c1, c2, c3, c4, c5, c6, c7, c8, c9, c10, k1, k2, k3⟩ := HA.out.item st k hlt
        have K : Hid (Item.InD wr (Rng 0 hi) ⟨l[k], .slice a1 n1 q1, .slice a2 n2 q2, .slice a3 n3 q3⟩) := ⟨k1, k2, k3⟩
        have hzw := HI.out.bu.size
        have hlen1 : ms1.length = St.sizes (l.take k) := by
          have := congrArg List.length HS.out
          rwa [List.length_map, List.length_map, many_len] at this
        have hst := St.sizes_take l k hlt
        have hstl := St.sizes_take_le l (k + 1)
        have hnt := St.nbs_take l k hlt
        have hntl := St.nbs_take_le l (k + 1)
        have HSTEP : Hid (many (l.take (k + 1)) here f thr (n + 1) p = many (l.take k) here f thr (n + 1) p ++ one l[k] here f thr (n + 1 + St.nbs (l.take k)) (p + St.sizes (l.take k))) := many_take l k hlt here f thr (n + 1) p
        have HK : Hid (ms1.length + 1 + (St.sizes l[k].body + St.sizes l[k].els) ≤ 1073741824 ∧ n + 1 + St.nbs (l.take (k + 1)) = n + 1 + St.nbs (l.take k) + 1 + St.nbs l[k].body + 1 + St.nbs l[k].els ∧ n + 1 + St.nbs (l.take k) + 1 + St.nbs l[k].body + 1 + St.nbs l[k].els ≤ 1073741824) := ⟨by omega, by omega, by omega⟩
        have hpl : ms1.length ≤ 1073741823 := by omega
        have HB1 : Hid (PMk l[k].body ∧ PMk l[k].els) := HH.out _ (List.getElem_mem hlt)
        obtain ⟨N, hN⟩ : ∃ N, n + 1 + St.nbs (l.take k) = N := ⟨_, rfl⟩
        obtain ⟨P, hP⟩ : ∃ P, p + St.sizes (l.take k) = P := ⟨_, rfl⟩
        rw [hN] at HI HK
        rw [hN, hP] at HSTEP
        have HNP : Hid (around.length + 1 ≤ N) := by have := hNN.2.2.2.1; show _ ≤ _; omega
        generalize hs : l[k] = s at *
        have hzb : b < wr.heap.size := by omega
        clear k1 k2 k3 hlen1 hst hstl hnt hntl st hNN hN hP
        have HOW : Hid (RM w hi B (.slice (some ⟨g, 0, none⟩) here.length hcp) here (wr.alloc (.cells #[.int .i64 s.kind, .string s.name, .string s.other, .int .i64 s.n, .int .i64 s.e.kind, .int .i64 s.e.n, .string s.e.name, .slice a1 n1 q1, .slice a2 n2 q2, .slice a3 n3 q3, .complex .f64 s.re s.im, .slice (some ⟨g, 0, none⟩) here.length hcp, .int .i64 (thr : Int)] 68)) ms1 (.slice ax nx qx) N) := HI.out.al (by have := HN.out; omega) _
        go_wp2_with (at_builtin; refine wpList_append_rows (base := w.heap.size) (n := ms1.length) (xs := mkCells ms1) (by rfl) _ _ _ (by rfl) elemM (by rfl) HOW.out.own.row (by rfl) (own_lit 0 68 13 _ (by rfl) (Nat.zero_le _)) ?one (by omega) ?len HOW.out.own.le ?_)
        case one => exact ⟨rfl, rfl, rfl, rfl, rfl, rfl, rfl, rfl, rfl, rfl, rfl, rfl, rfl⟩
        case len => unfold maxLen; omega
        intro ad2 cap2 w2 HG
        have h2 := HOW.out.grew (qs := [⟨⟨s, .slice a1 n1 q1, .slice a2 n2 q2, .slice a3 n3 q3⟩, here, thr, .slice (some ⟨g, 0, none⟩) here.length hcp⟩]) (by have := HN.out; omega) HN.out.2.1 (fun m hm => by
          obtain rfl : m = _ := by simpa using hm
          exact ⟨K.out.stays (((Kept.refl wr).al _).stays (by have := HN.out; omega)), HOW.out.row⟩) (by rw [mkCells_one]; exact HG.out)
        obtain ⟨ms2, hms2⟩ : ∃ ms2, ms1 ++ [(⟨⟨s, .slice a1 n1 q1, .slice a2 n2 q2, .slice a3 n3 q3⟩, here, thr, (.slice (some ⟨g, 0, none⟩) here.length hcp)⟩ : Mk)] = ms2 := ⟨_, rfl⟩
        rw [hms2] at h2
        have hl2' : ms2.length = ms1.length + 1 := by rw [← hms2]; simp
        have HM2 : Hid (ms2.map Mk.said = ms1.map Mk.said ++ [(s, here, thr)]) := by show _ = _; rw [← hms2]; simp [Mk.said]
        have H2 : Hid (RM w hi B (.slice (some ⟨g, 0, none⟩) here.length hcp) here w2 ms2 (.slice ad2 (ms1.length + 1) cap2) N) := h2
        have HL2 : Hid (ms2.length = ms1.length + 1) := hl2'
        have st2 : StaysD (Rng 0 hi) wr w2 := stays_between (HI.out.stays HN.out.1 HN.out.2.1) (H2.out.stays HN.out.1 HN.out.2.1)
        have e8 : w2.cell? ⟨b, o + k * 11 + 8, none⟩ = some (.slice a2 n2 q2) := (World.cell?_of_block (st2 b ⟨Nat.zero_le _, hb⟩)).trans c8
        have hz2 := H2.out.bu.size
        have P2 : Hid (Calls Try.prog 45 #[.slice a2 n2 q2, (.slice (some ⟨g, 0, none⟩) here.length hcp), .int .i64 (thr : Int), .pointer (some ⟨B, 0, none⟩)] w2 fun r w' => ∃ a7 n7 q7 ms', r = .returned (.slice a7 n7 q7) ∧ Hid (OwnM w' w2.heap.size hi ms' (.slice a7 n7 q7) ∧ ms'.map Mk.said = (many s.body (here ++ [N + 1]) (P + 1) thr (N + 1) (P + 1)).map An.said ∧ Bu (· = B) w2 w' ∧ BoxS w' B [.int .i64 ((N + 1 + St.nbs s.body : Nat) : Int)])) := by
          refine (HB1.out.1 w2 hi B w.heap.size _ _ here (P + 1) thr (N) (P + 1) HN.out.1 (K.out.b.stays st2) H2.out.box H2.out.row HN.out.2.1 (by have := HK.out; omega) (by have := HNP.out; have := HHL.out.1; omega) (by have := HK.out; omega)).mono ?_
          rintro r w9 ⟨v9, ms9, rfl, ho9, hm9, hb9, hx9⟩
          obtain ⟨a7, q7, rfl, -⟩ := own_slice ho9.row
          exact ⟨a7, _, q7, ms9, rfl, ho9, hm9, hb9, hx9⟩
        have HZ2 : Hid (w.heap.size ≤ w2.heap.size ∧ b < w2.heap.size) := ⟨hz2, by have := HN.out; omega⟩
        have hzb2 : b < w2.heap.size := HZ2.out.2
        clear h2 hms2 HG HOW hl2' st2 hz2
        go_wp2_with fail
        refine Calls.mono P2.out ?_
        rintro r w3 ⟨a7, n7, q7, ms3, rfl, HS3⟩
        have hl3 : ms3.length = St.sizes s.body := by
          have := congrArg List.length HS3.out.2.1
          rwa [List.length_map, List.length_map, many_len] at this
        have H3 : Hid (RM w hi B (.slice (some ⟨g, 0, none⟩) here.length hcp) here w3 ms2 (.slice ad2 (ms1.length + 1) cap2) (N + 1 + St.nbs s.body)) := H2.out.past HN.out.1 HN.out.2.1 HS3.out.2.2.1 HS3.out.2.2.2
        have hb3 : ms2.length + ms3.length ≤ 1073741824 := by have := HK.out; have := HL2.out; omega
        have HL3 : Hid (ms3.length = St.sizes s.body) := hl3
        clear hl3
        go_wp2_with (at_builtin; refine wpList_append_rows (base := w.heap.size) (n := ms2.length) (xs := mkCells ms2) (by rfl) _ _ _ (by rfl) elemM (by rfl) H3.out.own.row (by rfl) HS3.out.1.row HS3.out.1.one (by omega) ?len H3.out.own.le ?_)
        case len => unfold maxLen; omega
        intro ad4 cap4 w4 HG4
        have h4 := H3.out.grew (qs := ms3) (by have := HN.out; omega) HN.out.2.1 (fun m hm => (HS3.out.1.kids m hm).low HZ2.out.1) HG4.out
        obtain ⟨ms4, hms4⟩ : ∃ ms4, ms2 ++ ms3 = ms4 := ⟨_, rfl⟩
        rw [hms4] at h4
        have HM4 : Hid (ms4.map Mk.said = ms2.map Mk.said ++ (many s.body (here ++ [N + 1]) (P + 1) thr (N + 1) (P + 1)).map An.said) := by show _ = _; rw [← hms4, List.map_append, HS3.out.2.1]
        have HL4 : Hid (ms4.length = ms2.length + ms3.length) := by show _ = _; rw [← hms4, List.length_append]
        have H4 : Hid (RM w hi B (.slice (some ⟨g, 0, none⟩) here.length hcp) here w4 ms4 (.slice ad4 (ms2.length + ms3.length) cap4) (N + 1 + St.nbs s.body)) := h4
        have st4 : StaysD (Rng 0 hi) wr w4 := stays_between (HI.out.stays HN.out.1 HN.out.2.1) (H4.out.stays HN.out.1 HN.out.2.1)
        have e9 : w4.cell? ⟨b, o + k * 11 + 9, none⟩ = some (.slice a3 n3 q3) := (World.cell?_of_block (st4 b ⟨Nat.zero_le _, hb⟩)).trans c9
        have hz4 := H4.out.bu.size
        have P4 : Hid (Calls Try.prog 45 #[.slice a3 n3 q3, (.slice (some ⟨g, 0, none⟩) here.length hcp), .int .i64 (thr : Int), .pointer (some ⟨B, 0, none⟩)] w4 fun r w' => ∃ a7 n7 q7 ms', r = .returned (.slice a7 n7 q7) ∧ Hid (OwnM w' w4.heap.size hi ms' (.slice a7 n7 q7) ∧ ms'.map Mk.said = (many s.els (here ++ [N + 1 + St.nbs s.body + 1]) (P + 1 + St.sizes s.body) thr (N + 1 + St.nbs s.body + 1) (P + 1 + St.sizes s.body)).map An.said ∧ Bu (· = B) w4 w' ∧ BoxS w' B [.int .i64 ((N + 1 + St.nbs s.body + 1 + St.nbs s.els : Nat) : Int)])) := by
          refine (HB1.out.2 w4 hi B w.heap.size _ _ here (P + 1 + St.sizes s.body) thr (N + 1 + St.nbs s.body) (P + 1 + St.sizes s.body) HN.out.1 (K.out.l.stays st4) H4.out.box H4.out.row HN.out.2.1 (by have := HK.out; omega) (by have := HNP.out; have := HHL.out.1; omega) (by have := HK.out; omega)).mono ?_
          rintro r w9 ⟨v9, ms9, rfl, ho9, hm9, hb9, hx9⟩
          obtain ⟨a7, q7, rfl, -⟩ := own_slice ho9.row
          exact ⟨a7, _, q7, ms9, rfl, ho9, hm9, hb9, hx9⟩
        have HZ4 : Hid (w.heap.size ≤ w4.heap.size ∧ b < w4.heap.size) := ⟨hz4, by have := HN.out; omega⟩
        have hzb4 : b < w4.heap.size := HZ4.out.2
        clear h4 hms4 HG4 hb3 st4 hz4
        go_wp2_with fail
        refine Calls.mono P4.out ?_
        rintro r w5 ⟨a9, n9, q9, ms5, rfl, HS5⟩
        have hl5 : ms5.length = St.sizes s.els := by
          have := congrArg List.length HS5.out.2.1
          rwa [List.length_map, List.length_map, many_len] at this
        have H5 : Hid (RM w hi B (.slice (some ⟨g, 0, none⟩) here.length hcp) here w5 ms4 (.slice ad4 (ms2.length + ms3.length) cap4) (N + 1 + St.nbs s.body + 1 + St.nbs s.els)) := H4.out.past HN.out.1 HN.out.2.1 HS5.out.2.2.1 HS5.out.2.2.2
        have hb5 : ms4.length + ms5.length ≤ 1073741824 := by have := HK.out; have := HL2.out; have := HL3.out; have := HL4.out; omega
        have HL5 : Hid (ms4.length = ms2.length + ms3.length) := HL4.out
        clear hl5
        go_wp2_with (at_builtin; refine wpList_append_rows (base := w.heap.size) (n := ms4.length) (xs := mkCells ms4) (by rfl) _ _ _ (by rfl) elemM (by rfl) H5.out.own.row (by rfl) HS5.out.1.row HS5.out.1.one (by omega) ?len H5.out.own.le ?_)
        case len => unfold maxLen; omega
        intro ad6 cap6 w6 HG6
        have H6 : Hid (RM w hi B (.slice (some ⟨g, 0, none⟩) here.length hcp) here w6 (ms4 ++ ms5) (.slice ad6 (ms4.length + ms5.length) cap6) (n + 1 + St.nbs (l.take (k + 1)))) := by
          have := H5.out.grew (qs := ms5) (by have := HN.out; omega) HN.out.2.1 (fun m hm => (HS5.out.1.kids m hm).low HZ4.out.1) HG6.out
          rw [HK.out.2.1]
          exact this
        have HM6 : Hid ((ms4 ++ ms5).map Mk.said = (many (l.take (k + 1)) here f thr (n + 1) p).map An.said) := by
          show _ = _
          rw [List.map_append, HM4.out, HM2.out, HS.out, HS5.out.2.1, HSTEP.out, one_eq, show N + 2 + St.nbs s.body = N + 1 + St.nbs s.body + 1 from by omega]
          simp [An.said]
        clear HG6 hb5
        go_wp2_with fail
        go_roundw
        case rel => exact ⟨k + 1, _, _, _, ms4 ++ ms5, rfl, by go_num, by omega, H6.out, HM6.out⟩
        case measure => simp [intOf]; omega
      · have hki : ¬ (k : Int) < (l.length : Int) := by omega
        have HE : Hid (OwnM wr w.heap.size hi ms1 (.slice ax nx qx) ∧ ms1.map Mk.said = (many l (around ++ [n + 1]) f thr (n + 1) p).map An.said ∧ Bu (· = B) w wr ∧ BoxS wr B [.int .i64 ((n + 1 + St.nbs l : Nat) : Int)]) := by
          have h1 := HI.out
          have h2 := HS.out
          rw [List.take_of_length_le (by omega)] at h1 h2
          rw [HHL.out.2]
          exact ⟨h1.own, h2, h1.bu, h1.box⟩
        go_wp2_with fail
        go_ret
        exact ⟨_, rfl, ms1, HE.out⟩
theorem marks_any (l : List St) : PMk l :=
  marks_of l fun x _ => St.ind (P := fun x => PMk x.body ∧ PMk x.els) (fun s hb hl => ⟨marks_of s.body hb, marks_of s.els hl⟩) x
end Go.Proofs.Ytnfkjmafhaecgaa
