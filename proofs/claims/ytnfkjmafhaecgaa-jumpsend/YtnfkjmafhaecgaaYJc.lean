/- Nj Jc -/
import Derived.Test.YtnfkjmafhaecgaaYNh
import Derived.Deep.LoopGhost
import Derived.Test.YtnfkjmafhaecgaaYJn

namespace Go.Proofs.Ytnfkjmafhaecgaa
open Go.RowKit Go.Maps Go.WideMaps
attribute [local go_sem] run_store_complex
theorem KM.made (w : World) : KM (w.alloc (.map #[] 0)) w.heap.size [] := by
  refine ⟨0, .map [], World.ownsMap_made .., Nat.le_refl _, fun x => ?_, fun x => ?_⟩
  · exact atKey_of_not_has (by rfl) _
  · rfl
end Go.Proofs.Ytnfkjmafhaecgaa

namespace Go.Proofs.Ytnfkjmafhaecgaa
open Go.RowKit Jf Go.Maps Go.WideMaps
attribute [local go_sem] run_store_complex
theorem spm_names_of (l : List St) (H : ∀ s ∈ l, (∀ f thr p, ∀ x ∈ spm s.body f thr p, ∃ y ∈ St.flats s.body, x.name = y.name) ∧ (∀ f thr p, ∀ x ∈ spm s.els f thr p, ∃ y ∈ St.flats s.els, x.name = y.name)) : ∀ f thr p, ∀ x ∈ spm l f thr p, ∃ y ∈ St.flats l, x.name = y.name := by
  induction l with
  | nil => intro f thr p x hx; simp [spm] at hx
  | cons s l ih =>
    intro f thr p x hx
    rw [spm, spo_eq] at hx
    rw [St.flats, St.flat_eq]
    rcases List.mem_append.1 hx with hx | hx
    · rcases List.mem_append.1 hx with hx | hx
      · unfold sph at hx
        split at hx
        · rw [List.mem_singleton.1 hx]; exact ⟨s, by simp, rfl⟩
        · cases hx
      · rcases List.mem_append.1 hx with hx | hx
        · obtain ⟨y, h1, h2⟩ := (H s List.mem_cons_self).1 _ _ _ x hx
          exact ⟨y, by simp [h1], h2⟩
        · obtain ⟨y, h1, h2⟩ := (H s List.mem_cons_self).2 _ _ _ x hx
          exact ⟨y, by simp [h1], h2⟩
    · obtain ⟨y, h1, h2⟩ := ih (fun y hy => H y (List.mem_cons_of_mem _ hy)) _ _ _ x hx
      exact ⟨y, by simp [h1], h2⟩
theorem spm_names (l : List St) : ∀ f thr p, ∀ x ∈ spm l f thr p, ∃ y ∈ St.flats l, x.name = y.name := spm_names_of l fun s _ => St.ind (P := fun s => (∀ f thr p, ∀ x ∈ spm s.body f thr p, ∃ y ∈ St.flats s.body, x.name = y.name) ∧ (∀ f thr p, ∀ x ∈ spm s.els f thr p, ∃ y ∈ St.flats s.els, x.name = y.name)) (fun s hb hl => ⟨spm_names_of s.body hb, spm_names_of s.els hl⟩) s
theorem spt_names (t : List (List St)) : ∀ thr p, ∀ x ∈ spt t thr p, ∃ y ∈ flatTs t, x.name = y.name := by
  induction t with
  | nil => intro thr p x hx; simp [spt] at hx
  | cons b t ih =>
    intro thr p x hx
    rw [spt] at hx
    rw [flatTs]
    rcases List.mem_append.1 hx with hx | hx
    · obtain ⟨y, h1, h2⟩ := spm_names b _ _ _ x hx; exact ⟨y, List.mem_append_left _ h1, h2⟩
    · obtain ⟨y, h1, h2⟩ := ih _ _ x hx; exact ⟨y, List.mem_append_right _ h1, h2⟩
theorem spt_thr (t : List (List St)) : (spt t 0 0).Pairwise fun a b => a.thr ≤ b.thr := by
  rw [← sps_all t 0 0 0]
  refine List.Pairwise.filterMap sp (R := fun a b => VisT a b) (fun a b h x hx y hy => ?_) (visT t 0 0 0)
  unfold sp at hx hy
  split at hx
  · split at hy
    · injection hx with hx; injection hy with hy; rw [← hx, ← hy]; exact h.2.2.2
    · cases hy
  · cases hx
set_option maxRecDepth 100000 in
set_option maxHeartbeats 1000000 in
theorem jcheck_any (d : List Dc) (t : List (List St)) (w : World) (dv tv : Value) (hd : DsIn w 0 w.heap.size d dv) (ht : TsIn w 0 w.heap.size t tv) (hn : tsz t ≤ 1073741824) (hnm : ∀ s ∈ flatTs t, s.name.size ≤ maxLen) : Calls Try.prog 10 #[.agg #[dv, tv]] w fun e w' => e = .returned (Jf.told (chk (spt t 0 0))) ∧ Kept w w' := by
  have SP : Hid (∀ W, Kept w W → Calls Try.prog 30 #[.agg #[dv, tv]] W fun e w' => ∃ v, e = .returned v ∧ Hid (OwnJ w' W.heap.size (spt t 0 0) v ∧ Kept W w')) := fun W hW => spots_any d t W dv tv (hd.up (Nat.le_refl _) hW) (ht.up (Nat.le_refl _) hW) hn
  obtain ⟨ad, capd, rfl, -⟩ := hd.open
  obtain ⟨a, cap, rfl, -⟩ := ht.open
  have HLN : Hid ((spt t 0 0).length ≤ 1073741824) := Nat.le_trans (spt_len _ _ _) hn
  have HTH : Hid ((spt t 0 0).Pairwise fun a b => a.thr ≤ b.thr) := spt_thr t
  have HNM : Hid (∀ x ∈ spt t 0 0, x.name.size ≤ maxLen) := fun x hx => by
    obtain ⟨y, h1, h2⟩ := spt_names t 0 0 x hx
    rw [h2]; exact hnm y h1
  obtain ⟨L, hL⟩ : ∃ L, spt t 0 0 = L := ⟨_, rfl⟩
  rw [hL] at SP HLN HTH HNM ⊢
  clear hd ht hn hnm hL
  go_enter Try.func10, Try.ntmps10
  go_wp2_with fail
  refine Calls.mono (SP.out _ ((Kept.refl _).al _)) ?_
  rintro e w1 ⟨v, rfl, H1⟩
  have HJ : Hid (JsD w1 L v) := H1.out.1.js
  have K1 : Hid (Kept w w1) := ((Kept.refl w).al _).then H1.out.2
  obtain ⟨sa, scap, rfl, hsl, hsc⟩ := HJ.out.open
  clear SP H1 hsl hsc
  have F1 : Hid (∀ W, Kept w1 W → Calls Try.prog 31 #[.slice sa L.length scap] W fun e w' => e = .returned (.int .i64 (ftw [] L : Int)) ∧ Kept W w') := fun W hW => firstTwice_any L W _ (HJ.out.kept hW) HTH.out HNM.out HLN.out
  have F2 : Hid (∀ W, Kept w1 W → Calls Try.prog 32 #[.slice sa L.length scap] W fun e w' => e = .returned (.int .i64 (flo 0 L : Int)) ∧ Kept W w') := fun W hW => firstLost_any L W _ (HJ.out.kept hW) HNM.out HLN.out
  have HC : Hid (chk L = L[min (ftw [] L) (flo 0 L)]?.map fun s => (s.re, s.im)) := by show _ = _; unfold chk; rfl
  have hA : ftw [] L ≤ L.length := by have := ftw_le L []; simpa using this
  have hB : flo 0 L ≤ L.length := by have := flo_le L 0; simpa using this
  obtain ⟨x, hx⟩ : ∃ x, ftw [] L = x := ⟨_, rfl⟩
  obtain ⟨y, hy⟩ : ∃ y, flo 0 L = y := ⟨_, rfl⟩
  rw [hx] at F1 HC hA
  rw [hy] at F2 HC hB
  have HAB : Hid (x ≤ L.length ∧ y ≤ L.length) := ⟨hA, hB⟩
  clear hx hy hA hB
  go_wp2_with fail
  refine (F1.out _ (Kept.refl _)).mono ?_
  rintro e w2 ⟨rfl, k2⟩
  have K2 : Hid (Kept w1 w2) := k2
  clear k2
  go_wp2_with fail
  refine (F2.out _ K2.out).mono ?_
  rintro e w3 ⟨rfl, k3⟩
  have K3 : Hid (Kept w1 w3) := K2.out.then k3
  clear k3
  have HIT : Hid (∀ m, m < L.length → ∃ b o, sa = some ⟨b, o, none⟩ ∧ w3.cell? ⟨b, o + m * 6 + 5, none⟩ = some (.complex .f64 (L.getD m sp0).re (L.getD m sp0).im) ∧ b < w3.heap.size) := fun m hm => by
    obtain ⟨b, o, e, _, _, _, _, _, c5, cl⟩ := (HJ.out.kept K3.out).item m hm
    refine ⟨b, o, e, ?_, cl⟩
    rw [c5]
    simp [List.getD_eq_getElem?_getD, hm]
  have HCG : Hid (∀ m, m < L.length → (L[m]?.map fun s => (s.re, s.im)) = some ((L.getD m sp0).re, (L.getD m sp0).im)) := fun m hm => by
    simp [List.getD_eq_getElem?_getD, hm]
  have HKW : Hid (Kept w w3) := K1.out.then K3.out
  have hll : (L.length : Int) ≤ 1073741824 := by have := HLN.out; omega
  by_cases hyx : y < x
  · have hmin : min x y = y := by omega
    rw [hmin] at HC
    by_cases hl : y = L.length
    · have hle : ((y : Int) == (L.length : Int)) = true := by simp [hl]
      have HE : Hid (chk L = none) := by show _ = _; rw [HC.out, hl]; simp
      clear hmin HC HIT HCG hl
      go_wp2_with fail
      go_ret2
      exact ⟨by rw [HE.out]; rfl, HKW.out⟩
    · have hle : ((y : Int) == (L.length : Int)) = false := by simp; omega
      have hlt : y < L.length := by have := HAB.out; omega
      have hki : (y : Int) < (L.length : Int) := by omega
      have HE : Hid (chk L = some ((L.getD y sp0).re, (L.getD y sp0).im)) := HC.out.trans (HCG.out y hlt)
      obtain ⟨b, o, rfl, c5, cl⟩ := HIT.out y hlt
      clear hmin HC HIT HCG hl hlt
      go_wp2_with fail
      go_ret2
      exact ⟨by rw [HE.out]; rfl, HKW.out⟩
  · have hmin : min x y = x := by omega
    rw [hmin] at HC
    by_cases hl : x = L.length
    · have hle : ((x : Int) == (L.length : Int)) = true := by simp [hl]
      have HE : Hid (chk L = none) := by show _ = _; rw [HC.out, hl]; simp
      clear hmin HC HIT HCG hl
      go_wp2_with fail
      go_ret2
      exact ⟨by rw [HE.out]; rfl, HKW.out⟩
    · have hle : ((x : Int) == (L.length : Int)) = false := by simp; omega
      have hlt : x < L.length := by have := HAB.out; omega
      have hki : (x : Int) < (L.length : Int) := by omega
      have HE : Hid (chk L = some ((L.getD x sp0).re, (L.getD x sp0).im)) := HC.out.trans (HCG.out x hlt)
      obtain ⟨b, o, rfl, c5, cl⟩ := HIT.out x hlt
      clear hmin HC HIT HCG hl hlt
      go_wp2_with fail
      go_ret2
      exact ⟨by rw [HE.out]; rfl, HKW.out⟩
end Go.Proofs.Ytnfkjmafhaecgaa
