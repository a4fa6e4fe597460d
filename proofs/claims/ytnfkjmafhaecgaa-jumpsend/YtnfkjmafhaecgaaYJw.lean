/- Jw -/
import Derived.Test.YtnfkjmafhaecgaaYJq
import Derived.Test.YtnfkjmafhaecgaaYPaC
import Derived.Deep.RegionLaw
import Derived.Deep.CutBlock
import Derived.Deep.DeepCutAuto

namespace Go.Proofs.Ytnfkjmafhaecgaa
open Go.RowKit Jf
attribute [local go_sem] run_store_complex
theorem tkY {P : Program} {md : Region.Mode} {ops : Array Oper} {Q : Exit → Act → World → Prop} {S : World → Prop} {i : Nat} {oi : Oper} {v : Value} {fuel : Nat} {listed : Array Bool} {a : Act} {w : World} (hi : ops[i]? = some oi) (hs : (Region.noSelect ops && (Region.free md ops listed i && (Region.ready md ops listed).contains i)) = true) (hw : Region.wanted oi (yielded ops a.tmps) = true)
    (hy : ∀ w, S w → (execOp a.eval oi).run P w = .ok (.value v) w) (h : wpAnyH P md ops Q S fuel (listed.setIfInBounds i true) (a.put oi.dst v) w) (hQ : ∀ c a w, Q (.panic c) (a.put oi.dst v) w → Q (.panic c) a w := by exact fun _ _ _ h => h) (hS : S w := by assumption) : wpAnyH P md ops Q S (fuel + 1) listed a w := by
  simp only [Bool.and_eq_true] at hs
  exact wpAnyH_take hi hs.1 hs.2.1 hs.2.2 hQ (.inl ⟨hw, hy⟩) hS h
theorem spm_len_of (l : List St) (H : ∀ s ∈ l, (∀ f thr p, (spm s.body f thr p).length ≤ St.sizes s.body) ∧ (∀ f thr p, (spm s.els f thr p).length ≤ St.sizes s.els)) : ∀ f thr p, (spm l f thr p).length ≤ St.sizes l := by
  induction l with
  | nil => intro f thr p; simp [spm]
  | cons s l ih =>
    intro f thr p
    rw [spm, spo_eq, St.sizes, St.size_eq]
    have h1 := (H s List.mem_cons_self).1 (p + 1) thr (p + 1)
    have h2 := (H s List.mem_cons_self).2 (p + 1 + St.sizes s.body) thr (p + 1 + St.sizes s.body)
    have h3 := ih (fun y hy => H y (List.mem_cons_of_mem _ hy)) f thr (p + s.size)
    have h4 : (sph s f thr p).length ≤ 1 := by unfold sph; split <;> simp
    simp only [List.length_append, St.size_eq] at *
    omega
theorem spm_len (l : List St) : ∀ f thr p, (spm l f thr p).length ≤ St.sizes l := spm_len_of l fun s _ => St.ind (P := fun s => (∀ f thr p, (spm s.body f thr p).length ≤ St.sizes s.body) ∧ (∀ f thr p, (spm s.els f thr p).length ≤ St.sizes s.els)) (fun s hb hl => ⟨spm_len_of s.body hb, spm_len_of s.els hl⟩) s
/-- Behind the append of one, and its store into the walker's box. -/
theorem Th.grew {w wr W wa : World} {B base : Nat} {sl v v' : Value} {l : List Sp} {thr n : Nat} {x : Sp} (h : Th w B base sl wr l thr n v) (hB : B < base) (k : Kept wr W) (hG : Grew W base 64 6 v l.length (spc l) 1 x.cells v' wa) :
    Th w B base sl (wa.setCell ⟨B, 2, none⟩ v') (l ++ [x]) thr n v' ∧ Bu (fun j => j = B ∨ v.ownBlock = some j) W (wa.setCell ⟨B, 2, none⟩ v') ∧ BoxS wa B [.int .i64 (thr : Int), .int .i64 (n : Int), v] ∧ ∀ D cs, wr.heap.size ≤ D → BoxS W D cs → BoxS wa D cs ∧ v'.ownBlock ≠ some D := by
  have hvb : ∀ j, v.ownBlock = some j → base ≤ j := fun j e => (h.own.row.lt j e).1
  have hown0 : ∀ j, v.ownBlock = some j → j < wr.heap.size := fun j e => (h.own.row.lt j e).2
  have hBr : B < wr.heap.size := h.box.lt
  have hBW : B < W.heap.size := Nat.lt_of_lt_of_le hBr k.size
  have hbW : wa.heap[B]? = W.heap[B]? := hG.grown.block B hBW (fun e => by have := hvb B e.symm; omega)
  have hbx : BoxS wa B [.int .i64 (thr : Int), .int .i64 (n : Int), v] := (h.box.kept k).off hbW hG.grown.size
  have b1 : Bu (fun j => j = B ∨ v.ownBlock = some j) W wa := ⟨hG.grown.os, hG.grown.tape, hG.grown.output, hG.grown.size, fun i hi hn => hG.grown.block i hi fun e => hn (.inr e.symm)⟩
  have b2 : Bu (fun j => j = B ∨ v.ownBlock = some j) W (wa.setCell ⟨B, 2, none⟩ v') := b1.set (B := B) (.inl (.inl rfl)) 2 v'
  have hown : OwnJ wa base (l ++ [x]) v' := ⟨by rw [spc_snoc, List.length_append]; exact hG.own, Nat.le_trans h.own.le (Nat.le_trans k.size hG.grown.size)⟩
  have hlies : v'.ownBlock = v.ownBlock ∨ v'.ownBlock = some W.heap.size := hG.lies
  refine ⟨⟨hbx.set 2 [v'] (by simp), hown.bu (M := (· = B)) (Bu.set (M := (· = B)) (B := B) (Bu.refl _ _) (.inl rfl) 2 v') (fun j e c => ?_), ⟨b2.os.trans (k.os.trans h.bu.os), b2.tape.trans (k.tape.trans h.bu.tape), b2.output.trans (k.output.trans h.bu.output), Nat.le_trans h.bu.size (Nat.le_trans k.size b2.size), fun i hi hn => ?_⟩, ?_⟩, b2, hbx, fun D cs hD h => ⟨h.off (hG.grown.block D h.lt (fun e => by have h9 := (hown0 D e.symm); omega)) hG.grown.size, fun e => by
    have := h.lt
    rcases hlies with h1 | h1
    · rw [h1] at e; have := hown0 D e; omega
    · rw [h1] at e; injection e with e; omega⟩⟩
  · have := (hown.row.lt j e).1; omega
  · have hir : i < wr.heap.size := Nat.lt_of_lt_of_le hi h.bu.size
    refine (b2.block i (Nat.lt_of_lt_of_le hir k.size) fun c => hn (c.imp id fun e => ?_)).trans ((k.block i hir).trans (h.bu.block i hi hn))
    rcases h.lies with h1 | ⟨j, h1, h2⟩
    · rw [← h1]; exact e
    · rw [h1] at e; injection e with e; omega
  · rcases hlies with h1 | h1
    · rcases h.lies with h2 | ⟨j, h2, h3⟩
      · exact .inl (h1.trans h2)
      · exact .inr ⟨j, h1.trans h2, h3⟩
    · exact .inr ⟨_, h1, Nat.le_trans h.bu.size k.size⟩
/-- The number goes on by one. -/
theorem Th.inc {w wr : World} {B base : Nat} {sl v : Value} {l : List Sp} {thr n : Nat} (h : Th w B base sl wr l thr n v) (hB : B < base) : Th w B base sl (wr.setCell ⟨B, 1, none⟩ (.int .i64 ((n : Int) + 1))) l thr (n + 1) v := by
  refine ⟨h.box.set 1 [.int .i64 ((n : Int) + 1)] (by simp), h.own.bu (M := (· = B)) (Bu.set (M := (· = B)) (B := B) (Bu.refl _ _) (.inl rfl) 1 _) (fun j e c => ?_), h.bu.set (B := B) (.inl (.inl rfl)) 1 _, h.lies⟩
  have := (h.own.row.lt j e).1; omega
def PTh (l : List St) : Prop := ∀ (w : World) (hi B base : Nat) (bv sl : Value) (L : List Sp) (thr n : Nat), hi ≤ B → B < base → base ≤ w.heap.size → StsIn w 0 hi l bv → BoxS w B [.int .i64 (thr : Int), .int .i64 (n : Int), sl] → OwnJ w base L sl → n + St.sizes l ≤ 1073741824 → L.length ≤ n →
  Calls Try.prog 43 #[.pointer (some ⟨B, 0, none⟩), bv] w fun r w' => (∃ v, r = .returned v) ∧ ∃ v', Hid (Th w B base sl w' (L ++ spm l n thr n) thr (n + St.sizes l) v')
set_option maxRecDepth 100000 in
set_option maxHeartbeats 1000000 in
theorem through_of (l : List St) (H : ∀ x ∈ l, PTh x.body ∧ PTh x.els) : PTh l := by
  intro w hi B base bv sl L thr n hhB hB hbase hb hbx ho hn hL
  have HA : Hid _ := hb
  have HH : Hid (∀ x ∈ l, PTh x.body ∧ PTh x.els) := H
  have HT0 : Hid (Th w B base sl w (L ++ spm (l.take 0) n thr n) thr (n + St.sizes (l.take 0)) sl) := by
    have h : Th w B base sl w (L ++ spm (l.take 0) n thr n) thr (n + St.sizes (l.take 0)) sl := by simpa [spm, St.sizes] using Th.refl hbx ho
    exact h
  have HN : Hid (n + St.sizes l ≤ 1073741824 ∧ L.length ≤ n ∧ hi ≤ B ∧ B < base ∧ base ≤ w.heap.size) := ⟨hn, hL, hhB, hB, hbase⟩
  have HSB : Hid (∀ j, sl.ownBlock = some j → base ≤ j) := fun j e => (ho.row.lt j e).1
  obtain ⟨a, cap, rfl, hl, hl2, hcap⟩ := hb.open
  have c0 := hbx.cell 0 rfl
  have c1 := hbx.cell 1 rfl
  have cl := hbx.lt
  clear hb H hbx ho hn hL hhB hB hbase
  go_enter Try.func43, Try.ntmps43
  go_wp2_with fail
  clear c0 c1 cl
  go_loopw [13] (fun i wr => ∃ (k : Nat) (v : Value), i = .int .i64 (k : Int) ∧ k ≤ l.length ∧ Hid (Th w B base sl wr (L ++ spm (l.take k) n thr n) thr (n + St.sizes (l.take k)) v)) (fun i _ => l.length - (intOf i).toNat)
  case atStart => exact ⟨0, sl, rfl, Nat.zero_le _, HT0⟩
  case round =>
    obtain ⟨k, v, rfl, hk, HI⟩ := hrel
    by_cases hlt : k < l.length
    · have hki : (k : Int) < (l.length : Int) := by omega
      have st : StaysD (Rng 0 hi) w wr := HI.out.bu.stays fun j hj => ⟨by have := hj.2; have := HN.out; omega, fun c => by
        rcases c with c | c
        · have := hj.2; have := HN.out; omega
        · have := HSB.out j c; have := hj.2; have := HN.out; omega⟩
      obtain ⟨b, o, a1, n1, q1, a2, n2, q2, a3, n3, q3, rfl, _, hb, _, c0, c1, c2, c3, c4, c5, c6, c7, c8, c9, c10, k1, k2, k3⟩ := HA.out.item st k hlt
      have K : Hid (StsIn wr 0 hi l[k].body (.slice a2 n2 q2) ∧ StsIn wr 0 hi l[k].els (.slice a3 n3 q3)) := ⟨k2, k3⟩
      have hsz := St.sizes_take l k hlt
      have hst := St.sizes_take_le l (k + 1)
      have hse := St.size_eq l[k]
      have HZ : Hid (St.sizes (l.take (k + 1)) = St.sizes (l.take k) + (1 + (St.sizes l[k].body + St.sizes l[k].els)) ∧ St.sizes (l.take (k + 1)) ≤ St.sizes l) := ⟨by show _ = _; omega, hst⟩
      have HSP : Hid (spm (l.take (k + 1)) n thr n = spm (l.take k) n thr n ++ (sph l[k] n thr (n + St.sizes (l.take k)) ++ (spm l[k].body (n + St.sizes (l.take k) + 1) thr (n + St.sizes (l.take k) + 1) ++ spm l[k].els (n + St.sizes (l.take k) + 1 + St.sizes l[k].body) thr (n + St.sizes (l.take k) + 1 + St.sizes l[k].body)))) := by show _ = _; rw [spm_take l k hlt, spo_eq]
      have HB1 : Hid (PTh l[k].body ∧ PTh l[k].els) := HH.out _ (List.getElem_mem hlt)
      have HLL : Hid ((L ++ spm (l.take k) n thr n).length ≤ n + St.sizes (l.take k)) := by show _ ≤ _; rw [List.length_append]; have := spm_len (l.take k) n thr n; have := HN.out; omega
      have HSZ : Hid (St.sizes (l.take k) + n ≤ 1073741823) := by have := HN.out; have := HZ.out; show _ ≤ _; omega
      have hkd : (l[k].kind = 9 ∨ l[k].kind = 10) → sph l[k] n thr (n + St.sizes (l.take k)) = [⟨l[k].kind == 10, l[k].name, n + St.sizes (l.take k), n, thr, l[k].re, l[k].im⟩] := fun h => by unfold sph; rw [if_pos h]
      have hkn : ¬ (l[k].kind = 9 ∨ l[k].kind = 10) → sph l[k] n thr (n + St.sizes (l.take k)) = [] := fun h => by unfold sph; rw [if_neg h]
      have HKD : Hid _ := hkd
      have HKN : Hid _ := hkn
      clear k1 k2 k3 hsz hst hse st hkd hkn
      obtain ⟨L1, hL1⟩ : ∃ L1, L ++ spm (l.take k) n thr n = L1 := ⟨_, rfl⟩
      obtain ⟨m, hm⟩ : ∃ m, n + St.sizes (l.take k) = m := ⟨_, rfl⟩
      rw [hL1, hm] at HI
      rw [hL1, hm] at HLL
      rw [hm] at HKD HKN HSP
      obtain ⟨av, qv, rfl, hv1, hv2, hv3⟩ := HI.out.own.open
      generalize hs : l[k] = s at *
      clear hv3
      have HMM : Hid (m ≤ 1073741823) := by have := HSZ.out; show _ ≤ _; omega
      have HL1 : Hid (L ++ spm (l.take k) n thr n = L1) := hL1
      have HM0 : Hid (n + St.sizes (l.take k) = m ∧ m + (1 + (St.sizes s.body + St.sizes s.els)) ≤ 1073741824) := ⟨hm, by have := HZ.out; have := HN.out; omega⟩
      clear hv1 hv2 hL1 hm
      go_upto_region 4 with fail
      obtain ⟨W1, hW1⟩ : ∃ W, wr.alloc (.cells #[.int .i64 s.kind, .string s.name, .string s.other, .int .i64 s.n, .int .i64 s.e.kind, .int .i64 s.e.n, .string s.e.name, .slice a1 n1 q1, .slice a2 n2 q2, .slice a3 n3 q3, .complex .f64 s.re s.im] 46) = W := ⟨_, rfl⟩
      obtain ⟨D, hD⟩ : ∃ D, wr.heap.size = D := ⟨_, rfl⟩
      have K1 : Hid (Kept wr W1) := by rw [← hW1]; exact (Kept.refl _).al _
      have HD : Hid (BoxS W1 D [.int .i64 s.kind, .string s.name, .string s.other, .int .i64 s.n, .int .i64 s.e.kind, .int .i64 s.e.n, .string s.e.name, .slice a1 n1 q1, .slice a2 n2 q2, .slice a3 n3 q3, .complex .f64 s.re s.im]) := by rw [← hW1, ← hD]; exact box_newQ _ _ _
      have HDW : Hid (wr.heap.size = D) := hD
      rw [hW1, hD]
      clear hW1 hD
      have bx := HI.out.box.kept K1.out
      have x0 := bx.cell 0 rfl
      have x1 := bx.cell 1 rfl
      have x2 := bx.cell 2 rfl
      have xf2 := bx.fz 2
      have xl := bx.lt
      have bd := HD.out
      have d0 := bd.cell 0 rfl
      have d1 := bd.cell 1 rfl
      have d10 := bd.cell 10 rfl
      have dl := bd.lt
      clear bx bd c0 c1 c2 c3 c4 c5 c6 c7 c8 c9 c10
      go_cut [24] (fun t24 wc => t24 = .bool (decide (s.kind = 9 ∨ s.kind = 10)) ∧ W1 = wc)
      case first =>
        by_cases h9 : s.kind = 9
        · go_wp2_with fail
          go_meet
          exact ⟨by simp [h9], rfl⟩
        · have h9' : (s.kind == 9) = false := by simpa using h9
          by_cases h10 : s.kind = 10
          · go_wp2_with fail
            go_meet
            exact ⟨by simp [h10], rfl⟩
          · have h10' : (s.kind == 10) = false := by simpa using h10
            go_wp2_with fail
            go_meet
            exact ⟨by simp [h9, h10], rfl⟩
      case rest =>
      obtain ⟨rfl, rfl⟩ := hcut
      obtain ⟨bb, hbb⟩ : ∃ bb, decide (s.kind = 9 ∨ s.kind = 10) = bb := ⟨_, rfl⟩
      rw [hbb]
      have HBB : Hid _ := hbb
      clear hbb
      go_upto_if 24 with fail
      go_cut [] (fun wc => ∃ v2 : Value, Hid (Th w B base sl wc (L1 ++ sph s n thr m) thr m v2 ∧ BoxS wc D [.int .i64 s.kind, .string s.name, .string s.other, .int .i64 s.n, .int .i64 s.e.kind, .int .i64 s.e.n, .string s.e.name, .slice a1 n1 q1, .slice a2 n2 q2, .slice a3 n3 q3, .complex .f64 s.re s.im] ∧ v2.ownBlock ≠ some D))
      case first =>
        by_cases hj : s.kind = 9 ∨ s.kind = 10
        · have HSH : Hid (sph s n thr m = [⟨s.kind == 10, s.name, m, n, thr, s.re, s.im⟩]) := HKD.out hj
          have HOW : Hid (OwnJ (W1.alloc (.cells #[.bool (s.kind == 10), .string s.name, .int .i64 (m : Int), .int .i64 (n : Int), .int .i64 (thr : Int), .complex .f64 s.re s.im] 64)) base L1 (.slice av L1.length qv)) := HI.out.own.kept (K1.out.al _)
          have HLM : Hid (L1.length ≤ 1073741823) := by have := HLL.out; have := HMM.out; show _ ≤ _; omega
          obtain rfl : true = bb := by rw [← HBB.out, decide_eq_true hj]
          go_wp2_with fail
          have hDB : D ≠ B := fun e => by have := HDW.out; have := HI.out.box.lt; omega
          have n0 := World.new_ne W1 ⟨B, 0, none⟩ x0
          have n1' := World.new_ne W1 ⟨B, 1, none⟩ x1
          have n2' := World.new_ne W1 ⟨B, 2, none⟩ x2
          have n3' := World.new_ne W1 ⟨D, 0, none⟩ d0
          have n4' := World.new_ne W1 ⟨D, 1, none⟩ d1
          have n5' := World.new_ne W1 ⟨D, 10, none⟩ d10
          refine wp_region_held_drew (S := (fun w' => w'.cell? ⟨B, 0, none⟩ = some (.int .i64 (thr : Int)) ∧ w'.cell? ⟨B, 1, none⟩ = some (.int .i64 (m : Int)) ∧ w'.cell? ⟨D, 0, none⟩ = some (.int .i64 s.kind) ∧ w'.cell? ⟨D, 1, none⟩ = some (.string s.name) ∧ w'.cell? ⟨D, 10, none⟩ = some (.complex .f64 s.re s.im))) (by kernel_rfl) (by go_keep) (fun hHeld => ?_)
          (refine tkY (i := 0) (v := ?_) rfl (by kernel_rfl) (by rfl) ?_ ?_; rotate_left; · (intro w hSw; (try dsimp only at hSw); go_simp; try with_reducible rfl))
          simp only [List.getElem_toArray, List.getElem_cons_zero, Act.put, List.setIfInBounds_toArray, List.set_cons_zero, List.set_cons_succ]
          (refine tkY (i := 1) (v := ?_) rfl (by kernel_rfl) (by rfl) ?_ ?_; rotate_left; · (intro w hSw; (try dsimp only at hSw); go_simp; try with_reducible rfl))
          simp only [List.getElem_toArray, List.getElem_cons_succ, List.getElem_cons_zero, Act.put, List.setIfInBounds_toArray, List.set_cons_zero, List.set_cons_succ]
          (refine tkY (i := 2) (v := ?_) rfl (by kernel_rfl) (by rfl) ?_ ?_; rotate_left; · (intro w hSw; (try dsimp only at hSw); go_simp; try with_reducible rfl))
          simp only [List.getElem_toArray, List.getElem_cons_succ, List.getElem_cons_zero, Act.put, List.setIfInBounds_toArray, List.set_cons_zero, List.set_cons_succ]
          (refine tkY (i := 3) (v := ?_) rfl (by kernel_rfl) (by rfl) ?_ ?_; rotate_left; · (intro w hSw; (try dsimp only at hSw); go_simp; try with_reducible rfl))
          simp only [List.getElem_toArray, List.getElem_cons_succ, List.getElem_cons_zero, Act.put, List.setIfInBounds_toArray, List.set_cons_zero, List.set_cons_succ]
          (refine tkY (i := 5) (v := ?_) rfl (by kernel_rfl) (by rfl) ?_ ?_; rotate_left; · (intro w hSw; (try dsimp only at hSw); go_simp; try with_reducible rfl))
          simp only [List.getElem_toArray, List.getElem_cons_succ, List.getElem_cons_zero, Act.put, List.setIfInBounds_toArray, List.set_cons_zero, List.set_cons_succ]
          (refine tkY (i := 6) (v := ?_) rfl (by kernel_rfl) (by rfl) ?_ ?_; rotate_left; · (intro w hSw; (try dsimp only at hSw); go_simp; try with_reducible rfl))
          simp only [List.getElem_toArray, List.getElem_cons_succ, List.getElem_cons_zero, Act.put, List.setIfInBounds_toArray, List.set_cons_zero, List.set_cons_succ]
          (refine tkY (i := 7) (v := ?_) rfl (by kernel_rfl) (by rfl) ?_ ?_; rotate_left; · (intro w hSw; (try dsimp only at hSw); go_simp; try with_reducible rfl))
          simp only [List.getElem_toArray, List.getElem_cons_succ, List.getElem_cons_zero, Act.put, List.setIfInBounds_toArray, List.set_cons_zero, List.set_cons_succ]
          (refine tkY (i := 8) (v := ?_) rfl (by kernel_rfl) (by rfl) ?_ ?_; rotate_left; · (intro w hSw; (try dsimp only at hSw); go_simp; try with_reducible rfl))
          simp only [List.getElem_toArray, List.getElem_cons_succ, List.getElem_cons_zero, Act.put, List.setIfInBounds_toArray, List.set_cons_zero, List.set_cons_succ]
          (refine tkY (i := 9) (v := ?_) rfl (by kernel_rfl) (by rfl) ?_ ?_; rotate_left; · (intro w hSw; (try dsimp only at hSw); go_simp; try with_reducible rfl))
          simp only [List.getElem_toArray, List.getElem_cons_succ, List.getElem_cons_zero, Act.put, List.setIfInBounds_toArray, List.set_cons_zero, List.set_cons_succ]
          (refine tkY (i := 10) (v := ?_) rfl (by kernel_rfl) (by rfl) ?_ ?_; rotate_left; · (intro w hSw; (try dsimp only at hSw); go_simp; try with_reducible rfl))
          simp only [List.getElem_toArray, List.getElem_cons_succ, List.getElem_cons_zero, Act.put, List.setIfInBounds_toArray, List.set_cons_zero, List.set_cons_succ]
          (refine tkY (i := 11) (v := ?_) rfl (by kernel_rfl) (by rfl) ?_ ?_; rotate_left; · (intro w hSw; (try dsimp only at hSw); go_simp; try with_reducible rfl))
          simp only [List.getElem_toArray, List.getElem_cons_succ, List.getElem_cons_zero, Act.put, List.setIfInBounds_toArray, List.set_cons_zero, List.set_cons_succ]
          (refine tkY (i := 12) (v := ?_) rfl (by kernel_rfl) (by rfl) ?_ ?_; rotate_left; · (intro w hSw; (try dsimp only at hSw); go_simp; try with_reducible rfl))
          simp only [List.getElem_toArray, List.getElem_cons_succ, List.getElem_cons_zero, Act.put, List.setIfInBounds_toArray, List.set_cons_zero, List.set_cons_succ]
          (refine tkY (i := 13) (v := ?_) rfl (by kernel_rfl) (by rfl) ?_ ?_; rotate_left; · (intro w hSw; (try dsimp only at hSw); go_simp; try with_reducible rfl))
          simp only [List.getElem_toArray, List.getElem_cons_succ, List.getElem_cons_zero, Act.put, List.setIfInBounds_toArray, List.set_cons_zero, List.set_cons_succ]
          (refine tkY (i := 14) (v := ?_) rfl (by kernel_rfl) (by rfl) ?_ ?_; rotate_left; · (intro w hSw; (try dsimp only at hSw); go_simp; try with_reducible rfl))
          simp only [List.getElem_toArray, List.getElem_cons_succ, List.getElem_cons_zero, Act.put, List.setIfInBounds_toArray, List.set_cons_zero, List.set_cons_succ]
          (refine tkY (i := 15) (v := ?_) rfl (by kernel_rfl) (by rfl) ?_ ?_; rotate_left; · (intro w hSw; (try dsimp only at hSw); go_simp; try with_reducible rfl))
          simp only [List.getElem_toArray, List.getElem_cons_succ, List.getElem_cons_zero, Act.put, List.setIfInBounds_toArray, List.set_cons_zero, List.set_cons_succ]
          (refine tkY (i := 16) (v := ?_) rfl (by kernel_rfl) (by rfl) ?_ ?_; rotate_left; · (intro w hSw; (try dsimp only at hSw); go_simp; try with_reducible rfl))
          simp only [List.getElem_toArray, List.getElem_cons_succ, List.getElem_cons_zero, Act.put, List.setIfInBounds_toArray, List.set_cons_zero, List.set_cons_succ]
          (refine tkY (i := 17) (v := ?_) rfl (by kernel_rfl) (by rfl) ?_ ?_; rotate_left; · (intro w hSw; (try dsimp only at hSw); go_simp; try with_reducible rfl))
          simp only [List.getElem_toArray, List.getElem_cons_succ, List.getElem_cons_zero, Act.put, List.setIfInBounds_toArray, List.set_cons_zero, List.set_cons_succ]
          (refine tkY (i := 18) (v := ?_) rfl (by kernel_rfl) (by rfl) ?_ ?_; rotate_left; · (intro w hSw; (try dsimp only at hSw); go_simp; try with_reducible rfl))
          simp only [List.getElem_toArray, List.getElem_cons_succ, List.getElem_cons_zero, Act.put, List.setIfInBounds_toArray, List.set_cons_zero, List.set_cons_succ]
          (refine tkY (i := 19) (v := ?_) rfl (by kernel_rfl) (by rfl) ?_ ?_; rotate_left; · (intro w hSw; (try dsimp only at hSw); go_simp; try with_reducible rfl))
          simp only [List.getElem_toArray, List.getElem_cons_succ, List.getElem_cons_zero, Act.put, List.setIfInBounds_toArray, List.set_cons_zero, List.set_cons_succ]
          (refine tkY (i := 20) (v := ?_) rfl (by kernel_rfl) (by rfl) ?_ ?_; rotate_left; · (intro w hSw; (try dsimp only at hSw); go_simp; try with_reducible rfl))
          simp only [List.getElem_toArray, List.getElem_cons_succ, List.getElem_cons_zero, Act.put, List.setIfInBounds_toArray, List.set_cons_zero, List.set_cons_succ]
          (refine tkY (i := 21) (v := ?_) rfl (by kernel_rfl) (by rfl) ?_ ?_; rotate_left; · (intro w hSw; (try dsimp only at hSw); go_simp; try with_reducible rfl))
          simp only [List.getElem_toArray, List.getElem_cons_succ, List.getElem_cons_zero, Act.put, List.setIfInBounds_toArray, List.set_cons_zero, List.set_cons_succ]
          refine wpAnyH_ready (rs := [4, 22]) (by kernel_rfl) (by simp) ?_
          refine AllReadyH.cons rfl (fun K hK => ?_) ?_
          · go_simp
            refine hK.out _ _ (by first | assumption | go_keep | (simp [*, World.cell?_setCell_other])) (fun hHeld1 => ?_)
            clear hK K
            try simp only [Act.put, List.setIfInBounds_toArray, List.set_cons_zero, List.set_cons_succ]
            refine wpAnyH_ready (rs := [22]) (by kernel_rfl) (by simp) ?_
            refine AllReadyH.cons rfl (fun K hK => ?_) ?_
            rotate_left
            · exact AllReadyH.nil
            go_simp
            refine hK.out _ _ (by first | assumption | go_keep | (simp [*, World.cell?_setCell_other])) (fun hHeld2 => ?_)
            clear hK K
            try simp only [Act.put, List.setIfInBounds_toArray, List.set_cons_zero, List.set_cons_succ]
            refine wpAnyH_ready (rs := [23]) (by kernel_rfl) (by simp) ?_
            refine AllReadyH.cons rfl (fun K hK => ?_) ?_
            rotate_left
            · exact AllReadyH.nil
            refine step_append_rows (base := base) (n := L1.length) (xs := spc L1) (by rfl) _ _ _ (by rfl) elemJ (by rfl) HOW.out.row (by rfl) (own_lit 0 64 6 _ (by rfl) (Nat.zero_le _)) (by exact cells_one ⟨s.kind == 10, s.name, m, n, thr, s.re, s.im⟩) (by have := HLM.out; omega) (by have := HLM.out; unfold maxLen; omega) HOW.out.le ?_
            intro ad cp wa HG
            have hx := HI.out.grew (x := ⟨s.kind == 10, s.name, m, n, thr, s.re, s.im⟩) HN.out.2.2.2.1 (K1.out.al _).dr HG.out
            have HX : Hid _ := hx
            have yb := hx.2.2.1
            obtain ⟨yd, hvd⟩ := hx.2.2.2 D _ (Nat.le_of_eq HDW.out) (HD.out.kept ((Kept.refl _).al _).dr)
            have HVD : Hid _ := hvd
            have HYD : Hid _ := yd
            have y0 := yb.cell 0 rfl
            have y1 := yb.cell 1 rfl
            have y2 := yb.cell 2 rfl
            have yf := yb.fz 2
            have yl := yb.lt
            have z0 := yd.cell 0 rfl
            have z1 := yd.cell 1 rfl
            have z10 := yd.cell 10 rfl
            have zl := yd.lt
            clear hx yb yd hvd
            refine hK.out _ _ (by first | assumption | go_keep | (simp [*, World.cell?_setCell_other])) (fun hHeld3 => ?_)
            clear hK K
            (refine tkY (i := 24) (v := ?_) rfl (by kernel_rfl) (by rfl) ?_ ?_; rotate_left; · (intro w hSw; (try dsimp only at hSw); go_simp; try with_reducible rfl))
            simp only [List.getElem_toArray, List.getElem_cons_succ, List.getElem_cons_zero, Act.put, List.setIfInBounds_toArray, List.set_cons_zero, List.set_cons_succ]
            (refine tkY (i := 25) (v := ?_) rfl (by kernel_rfl) (by rfl) ?_ ?_; rotate_left; · (intro w hSw; (try dsimp only at hSw); go_simp; try with_reducible rfl))
            simp only [List.getElem_toArray, List.getElem_cons_succ, List.getElem_cons_zero, Act.put, List.setIfInBounds_toArray, List.set_cons_zero, List.set_cons_succ]
            refine wpAnyH_ready (rs := [26]) (by kernel_rfl) (by simp) ?_
            refine AllReadyH.cons rfl (fun K hK => ?_) ?_
            rotate_left
            · exact AllReadyH.nil
            go_simp
            refine hK.out _ _ (by first | assumption | go_keep | (simp [*, World.cell?_setCell_other])) (fun hHeld4 => ?_)
            clear hK K
            try simp only [Act.put]
            refine wpAnyH_done (by kernel_rfl) ?_ _
            go_wp2_with fail
            go_meet
            refine ⟨.slice ad (L1.length + 1) cp, ?_⟩
            rw [HSH.out]
            exact ⟨HX.out.1, HYD.out.off (heap_setCells B [_] 2 wa D hDB) (by rw [setCell_size]; exact Nat.le_refl _), HVD.out⟩
          refine AllReadyH.cons rfl (fun K hK => ?_) AllReadyH.nil
          go_simp
          refine hK.out _ _ (by first | assumption | go_keep | (simp [*, World.cell?_setCell_other])) (fun hHeld1 => ?_)
          clear hK K
          try simp only [Act.put, List.setIfInBounds_toArray, List.set_cons_zero, List.set_cons_succ]
          refine wpAnyH_ready (rs := [4]) (by kernel_rfl) (by simp) ?_
          refine AllReadyH.cons rfl (fun K hK => ?_) ?_
          rotate_left
          · exact AllReadyH.nil
          go_simp
          refine hK.out _ _ (by first | assumption | go_keep | (simp [*, World.cell?_setCell_other])) (fun hHeld2 => ?_)
          clear hK K
          try simp only [Act.put, List.setIfInBounds_toArray, List.set_cons_zero, List.set_cons_succ]
          refine wpAnyH_ready (rs := [23]) (by kernel_rfl) (by simp) ?_
          refine AllReadyH.cons rfl (fun K hK => ?_) ?_
          rotate_left
          · exact AllReadyH.nil
          refine step_append_rows (base := base) (n := L1.length) (xs := spc L1) (by rfl) _ _ _ (by rfl) elemJ (by rfl) HOW.out.row (by rfl) (own_lit 0 64 6 _ (by rfl) (Nat.zero_le _)) (by exact cells_one ⟨s.kind == 10, s.name, m, n, thr, s.re, s.im⟩) (by have := HLM.out; omega) (by have := HLM.out; unfold maxLen; omega) HOW.out.le ?_
          intro ad cp wa HG
          have hx := HI.out.grew (x := ⟨s.kind == 10, s.name, m, n, thr, s.re, s.im⟩) HN.out.2.2.2.1 (K1.out.al _).dr HG.out
          have HX : Hid _ := hx
          have yb := hx.2.2.1
          obtain ⟨yd, hvd⟩ := hx.2.2.2 D _ (Nat.le_of_eq HDW.out) (HD.out.kept ((Kept.refl _).al _).dr)
          have HVD : Hid _ := hvd
          have HYD : Hid _ := yd
          have y0 := yb.cell 0 rfl
          have y1 := yb.cell 1 rfl
          have y2 := yb.cell 2 rfl
          have yf := yb.fz 2
          have yl := yb.lt
          have z0 := yd.cell 0 rfl
          have z1 := yd.cell 1 rfl
          have z10 := yd.cell 10 rfl
          have zl := yd.lt
          clear hx yb yd hvd
          refine hK.out _ _ (by first | assumption | go_keep | (simp [*, World.cell?_setCell_other])) (fun hHeld3 => ?_)
          clear hK K
          (refine tkY (i := 24) (v := ?_) rfl (by kernel_rfl) (by rfl) ?_ ?_; rotate_left; · (intro w hSw; (try dsimp only at hSw); go_simp; try with_reducible rfl))
          simp only [List.getElem_toArray, List.getElem_cons_succ, List.getElem_cons_zero, Act.put, List.setIfInBounds_toArray, List.set_cons_zero, List.set_cons_succ]
          (refine tkY (i := 25) (v := ?_) rfl (by kernel_rfl) (by rfl) ?_ ?_; rotate_left; · (intro w hSw; (try dsimp only at hSw); go_simp; try with_reducible rfl))
          simp only [List.getElem_toArray, List.getElem_cons_succ, List.getElem_cons_zero, Act.put, List.setIfInBounds_toArray, List.set_cons_zero, List.set_cons_succ]
          refine wpAnyH_ready (rs := [26]) (by kernel_rfl) (by simp) ?_
          refine AllReadyH.cons rfl (fun K hK => ?_) ?_
          rotate_left
          · exact AllReadyH.nil
          go_simp
          refine hK.out _ _ (by first | assumption | go_keep | (simp [*, World.cell?_setCell_other])) (fun hHeld4 => ?_)
          clear hK K
          try simp only [Act.put]
          refine wpAnyH_done (by kernel_rfl) ?_ _
          go_wp2_with fail
          go_meet
          refine ⟨.slice ad (L1.length + 1) cp, ?_⟩
          rw [HSH.out]
          exact ⟨HX.out.1, HYD.out.off (heap_setCells B [_] 2 wa D hDB) (by rw [setCell_size]; exact Nat.le_refl _), HVD.out⟩
        · have HSH : Hid (sph s n thr m = []) := HKN.out hj
          obtain rfl : false = bb := by rw [← HBB.out, decide_eq_false hj]
          go_wp2_with fail
          go_meet
          refine ⟨.slice av L1.length qv, ?_⟩
          rw [HSH.out, List.append_nil]
          exact ⟨HI.out.kept K1.out, HD.out, fun e => by have := (HI.out.own.row.lt D e).2; have := HDW.out; omega⟩
      case rest =>
        obtain ⟨v2, HC⟩ := hcut
        have HI0 : Hid _ := HI
        clear x0 x1 x2 xf2 xl d0 d1 d10 dl HD HI
        have bx := HC.out.1.box
        have x1 := bx.cell 1 rfl
        have xf1 := bx.fz 1
        have xl := bx.lt
        have hwm : IntKind.i64.wrap ((m : Int) + 1) = (m : Int) + 1 := by have := HMM.out; rw [IntKind.wrap_i64]; omega
        have hDB : B ≠ D := fun e => by have := HDW.out; have := HI0.out.box.lt; omega
        have bd := HC.out.2.1
        have d8 := bd.cell 8 rfl
        have dl := bd.lt
        have HIN : Hid (Th w B base sl (wc.setCell ⟨B, 1, none⟩ (.int .i64 ((m : Int) + 1))) (L1 ++ sph s n thr m) thr (m + 1) v2) := HC.out.1.inc HN.out.2.2.2.1
        have hbd1 : BoxS (wc.setCell ⟨B, 1, none⟩ (.int .i64 ((m : Int) + 1))) D [.int .i64 s.kind, .string s.name, .string s.other, .int .i64 s.n, .int .i64 s.e.kind, .int .i64 s.e.n, .string s.e.name, .slice a1 n1 q1, .slice a2 n2 q2, .slice a3 n3 q3, .complex .f64 s.re s.im] := bd.off (heap_setCells B [_] 1 wc D (fun e => hDB e.symm)) (by rw [setCell_size]; exact Nat.le_refl _)
        have HBD1 : Hid _ := hbd1
        clear bx bd hbd1 hDB
        go_upto_region 7 with fail
        obtain ⟨W2, hW2⟩ : ∃ W, wc.setCell ⟨B, 1, none⟩ (.int .i64 ((m : Int) + 1)) = W := ⟨_, rfl⟩
        rw [hW2] at HIN HBD1 ⊢
        clear hW2 x1 xf1 xl d8 dl hwm
        have hD2 : D < W2.heap.size := HBD1.out.lt
        have st2 : StaysD (Rng 0 hi) wr W2 := fun j hj => by
          have hn : ¬ (j = B ∨ sl.ownBlock = some j) := fun c => by
            rcases c with c | c
            · have := hj.2; have := HN.out; omega
            · have := HSB.out j c; have := hj.2; have := HN.out; omega
          have hjw : j < w.heap.size := by have := hj.2; have := HN.out; omega
          exact (HIN.out.bu.block j hjw hn).trans (HI0.out.bu.block j hjw hn).symm
        have HSLEN : Hid ((L1 ++ sph s n thr m).length ≤ m + 1) := by
          have h4 : (sph s n thr m).length ≤ 1 := by unfold sph; split <;> simp
          show _ ≤ _; rw [List.length_append]; have := HLL.out; omega
        have hz := HZ.out
        have hNN := HN.out
        have P7 := HB1.out.1 W2 hi B base (.slice a2 n2 q2) v2 (L1 ++ sph s n thr m) thr (m + 1) hNN.2.2.1 hNN.2.2.2.1 HIN.out.own.le (K.out.1.stays st2) HIN.out.box HIN.out.own (by have := HM0.out; omega) HSLEN.out
        have P7 : Hid _ := P7
        have d8 := HBD1.out.cell 8 rfl
        have HV2 : Hid (v2.ownBlock ≠ some D) := HC.out.2.2
        have HST2 : Hid (StaysD (Rng 0 hi) wr W2) := st2
        have HD2 : Hid (D < W2.heap.size ∧ D ≠ B) := ⟨hD2, fun e => by have := HDW.out; have := HI0.out.box.lt; omega⟩
        clear st2 hz hNN HC hD2
        go_wp2_with fail
        refine Calls.mono P7.out ?_
        rintro r w3 ⟨⟨v, rfl⟩, v3, H3⟩
        have hb3 : BoxS w3 D [.int .i64 s.kind, .string s.name, .string s.other, .int .i64 s.n, .int .i64 s.e.kind, .int .i64 s.e.n, .string s.e.name, .slice a1 n1 q1, .slice a2 n2 q2, .slice a3 n3 q3, .complex .f64 s.re s.im] := HBD1.out.off (H3.out.bu.block D HD2.out.1 (fun c => c.elim HD2.out.2 HV2.out)) H3.out.bu.size
        have d9 := hb3.cell 9 rfl
        have dl := hb3.lt
        have st3 : StaysD (Rng 0 hi) wr w3 := fun j hj => by
          have hn : ¬ (j = B ∨ v2.ownBlock = some j) := fun c => by
            rcases c with c | c
            · have := hj.2; have := HN.out; omega
            · have := (HIN.out.own.row.lt j c).1; have := hj.2; have := HN.out; omega
          exact (H3.out.bu.block j (by have := hj.2; have := HN.out; have := HIN.out.bu.size; omega) hn).trans (HST2.out j hj)
        have hz := HZ.out
        have hNN := HN.out
        have P8 := HB1.out.2 w3 hi B base (.slice a3 n3 q3) v3 ((L1 ++ sph s n thr m) ++ spm s.body (m + 1) thr (m + 1)) thr (m + 1 + St.sizes s.body) hNN.2.2.1 hNN.2.2.2.1 H3.out.own.le (K.out.2.stays st3) H3.out.box H3.out.own (by have := HM0.out; omega) (by rw [List.length_append]; have := HSLEN.out; have := spm_len s.body (m + 1) thr (m + 1); omega)
        have P8 : Hid _ := P8
        clear d8 P7 hb3 st3 hz hNN HST2 HBD1
        go_wp2_with fail
        refine Calls.mono P8.out ?_
        rintro r w4 ⟨⟨v, rfl⟩, v4, H4⟩
        have h4 := (HIN.out.then H3.out).then H4.out
        have hlist : L1 ++ sph s n thr m ++ spm s.body (m + 1) thr (m + 1) ++ spm s.els (m + 1 + St.sizes s.body) thr (m + 1 + St.sizes s.body) = L ++ spm (l.take (k + 1)) n thr n := by
          rw [HSP.out, ← HL1.out]; simp only [List.append_assoc]
        have hnum : m + 1 + St.sizes s.body + St.sizes s.els = n + St.sizes (l.take (k + 1)) := by have := HZ.out; have := HM0.out; omega
        rw [hlist, hnum] at h4
        have HR : Hid (Th w B base sl w4 (L ++ spm (l.take (k + 1)) n thr n) thr (n + St.sizes (l.take (k + 1))) v4) := h4
        clear h4 hlist hnum d9 dl
        go_wp2_with fail
        go_roundw
        case rel => exact ⟨k + 1, v4, by go_num, by omega, HR⟩
        case measure => simp [intOf]; omega
    · have hki : ¬ (k : Int) < (l.length : Int) := by omega
      have HE : Hid (Th w B base sl wr (L ++ spm l n thr n) thr (n + St.sizes l) v) := by
        have h := HI.out
        rw [List.take_of_length_le (by omega)] at h
        exact h
      go_wp2_with fail
      refine bodyPost_end (v := .tuple #[]) (by simp [results, Try.results43, go_sem]) rfl ?_
      exact ⟨⟨_, rfl⟩, v, HE⟩
theorem through_any (l : List St) : PTh l :=
  through_of l fun x _ => St.ind (P := fun x => PTh x.body ∧ PTh x.els) (fun s hb hl => ⟨through_of s.body hb, through_of s.els hl⟩) x
end Go.Proofs.Ytnfkjmafhaecgaa
