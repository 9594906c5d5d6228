/-
  Contract of eid.Parse: the name whose text it is, or the error. Conditions: the text has at most a thousand bytes; the library's variables lie as the program's text lays them.
-/
import Derived.Test.YtmbmhblogjkflaaDoorDod
namespace Go.Proofs.YtmbmhblogjkflaaDoor
namespace Eid
open Go.ChangeShapes Go.WideShapes Go.ChangeAt Go.RowKit
set_option linter.unusedVariables false
set_option linter.unusedSimpArgs false
set_option maxRecDepth 100000

/-- What Parse answers. -/
def ParseR (s : ByteArray) (r : Nm) (c : Int) : Prop := (Right r ∧ txtB r = s ∧ c = 0) ∨ ((¬ ∃ e, Right e ∧ txtB e = s) ∧ r = zeroE ∧ c = 2)
theorem txtB_inj {e f : Nm} (he : Right e) (hf : Right f) (h : txtB e = txtB f) : e = f := by
  apply txt_inj he hf
  rw [← nb_txtB he, ← nb_txtB hf, h]
theorem parse_one {s : ByteArray} {r q : Nm} {c d : Int} (h : ParseR s r c) (k : ParseR s q d) : r = q ∧ c = d := by
  rcases h with ⟨h1, h2, rfl⟩ | ⟨h1, rfl, rfl⟩ <;> rcases k with ⟨k1, k2, rfl⟩ | ⟨k1, rfl, rfl⟩
  · exact ⟨txtB_inj h1 k1 (h2.trans k2.symm), rfl⟩
  · exact absurd ⟨r, h1, h2⟩ k1
  · exact absurd ⟨q, k1, k2⟩ h1
  · exact ⟨rfl, rfl⟩

set_option maxHeartbeats 16000000 in
theorem parse_any (s : ByteArray) (hs : s.size ≤ 1000) (w : World) (hk : Kon w) : Calls Tryd.prog 18 #[.string s] w fun r w' => ∃ e c, r = .returned (.tuple #[eV e, .int .i64 c]) ∧ ParseR s e c ∧ Below w.heap.size w w' := by
  have hz := EB.box1 w zeroE (Below.refl _ _)
  generalize hW : w.alloc (.cells (eCells zeroE) 24 (0, 0)) = w1 at hz
  obtain ⟨P, hP, hg⟩ := guess_any s hs w1 (hk.below hz.2)
  have HG := Lib.hid hg
  have HP := Lib.hid hP
  have HK := Lib.hid (hk.below hz.2)
  have HZ := Lib.hid hz
  clear hg hP hk hz hs
  simp only [eCells, zeroE, Int.cast_ofNat_Int] at hW
  go_enter Tryd.func18, Tryd.ntmps18
  go_upto_region 1 with fail
  clear hW
  go_wp2_with fail
  refine HG.out.mono ?_
  rintro r w2 ⟨⟨e0, e1, e2, e3⟩, rfl, hpe, hb2⟩
  simp only [eV]
  obtain ⟨hez, hgd⟩ := HP.out _ hpe
  have hk2 := HK.out.below hb2
  have hz2 := HZ.out.1.below hb2 HZ.out.1.lt
  have hbl2 := HZ.out.2.trans (hb2.mono HZ.out.2.size)
  have he3 := EB.new w2 ⟨e0, e1, e2, e3⟩
  have hz3 := hz2.alloc (.cells (eCells ⟨e0, e1, e2, e3⟩) 24 (0, 0))
  have hbl3 := hbl2.alloc hbl2.size (.cells (eCells ⟨e0, e1, e2, e3⟩) 24 (0, 0))
  have hk3 := hk2.below ((Below.refl w2.heap.size w2).alloc (Nat.le_refl _) (.cells (eCells ⟨e0, e1, e2, e3⟩) 24 (0, 0)))
  generalize hF : w2.alloc (.cells (eCells ⟨e0, e1, e2, e3⟩) 24 (0, 0)) = w3 at he3 hz3 hbl3 hk3
  have HGD := Lib.hid hgd
  have H3 := Lib.hid (And.intro he3 (And.intro hz3 (And.intro hbl3 hk3)))
  clear hb2 hk2 hz2 hbl2 hz3 hbl3 hk3 hgd hpe HG HP HK HZ
  by_cases hr : Right ⟨e0, e1, e2, e3⟩
  · have HT := Lib.hid (fun w (hk : Kon w) => text_any' ⟨e0, e1, e2, e3⟩ hr w hk.toKonT)
    obtain ⟨tb, htb⟩ : ∃ tb, tb = txtB ⟨e0, e1, e2, e3⟩ := ⟨_, rfl⟩
    rw [← htb] at HT
    obtain ⟨c0, c1, c2, c3⟩ := he3.cells
    have HR := Lib.hid (And.intro hr htb); clear hr htb he3
    simp only [eV, eCells] at HT hF
    go_upto_region 2 with fail
    clear hF
    go_wp2_with fail
    refine (HT.out _ H3.out.2.2.2).mono ?_
    rintro r w4 ⟨rfl, hb4⟩
    have he4 := H3.out.1.below hb4 H3.out.1.lt
    have hz4 := H3.out.2.1.below hb4 H3.out.2.1.lt
    have hbl4 := H3.out.2.2.1.trans (hb4.mono H3.out.2.2.1.size)
    clear c0 c1 c2 c3 hb4
    obtain ⟨c0, c1, c2, c3⟩ := he4.cells
    obtain ⟨r0, r1, r2, r3⟩ := hz4.cells
    have rf := hz4.free
    have H4 := Lib.hid (And.intro hz4 hbl4); clear he4 hz4 hbl4
    simp only [zeroE, Int.cast_ofNat_Int] at r0 r1 r2 r3 c0 c1 c2 c3
    by_cases heq : tb = s
    · have q1 : (tb.toList == s.toList) = true := by rw [text_beq]; exact decide_eq_true heq
      have q2 : (tb.toList != s.toList) = false := by rw [bne, q1]; rfl
      have HQ := Lib.hid heq; clear heq
      go_wp2
      generalize hF : ((((w4.setCell ⟨w.heap.size, 0, none⟩ (.int .i64 e0)).setCell ⟨w.heap.size, 1, none⟩ (.string e1)).setCell ⟨w.heap.size, 2, none⟩ (.int .u64 (e2 : Nat))).setCell ⟨w.heap.size, 3, none⟩ (.int .u64 (e3 : Nat))) = F
      obtain ⟨h1, h2, -⟩ := H4.out.1.set_end (f := ⟨e0, e1, e2, e3⟩) (B := w.heap.size) (Nat.le_refl _) F hF
      obtain ⟨f0, f1, f2, f3⟩ := h1.cells
      clear hF
      exact bodyPost_ret (v := .tuple #[eV ⟨e0, e1, e2, e3⟩, .int .i64 0]) (by simp [results, Tryd.results18, go_sem, f0, f1, f2, f3, eV]) rfl ⟨⟨e0, e1, e2, e3⟩, 0, rfl, .inl ⟨HR.out.1, HR.out.2.symm.trans HQ.out, rfl⟩, H4.out.2.trans h2⟩
    · have q1 : (tb.toList == s.toList) = false := by rw [text_beq]; exact decide_eq_false heq
      have q2 : (tb.toList != s.toList) = true := by rw [bne, q1]; rfl
      have hno : ¬ ∃ f, Right f ∧ txtB f = s := by
        rintro ⟨f, hf, ht⟩
        have := HGD.out f hf ht
        apply heq
        rw [HR.out.2, this]; exact ht
      have HNO := Lib.hid hno; clear heq hno
      go_wp2
      generalize hF : ((((w4.setCell ⟨w.heap.size, 0, none⟩ (.int .i64 0)).setCell ⟨w.heap.size, 1, none⟩ (.string ⟨#[]⟩)).setCell ⟨w.heap.size, 2, none⟩ (.int .u64 0)).setCell ⟨w.heap.size, 3, none⟩ (.int .u64 0)) = F
      obtain ⟨h1, h2, -⟩ := H4.out.1.set_end (f := zeroE) (B := w.heap.size) (Nat.le_refl _) F hF
      obtain ⟨f0, f1, f2, f3⟩ := h1.cells
      clear hF
      exact bodyPost_ret (v := .tuple #[eV zeroE, .int .i64 2]) (by simp [results, Tryd.results18, go_sem, f0, f1, f2, f3, eV, zeroE]) rfl ⟨zeroE, 2, rfl, .inr ⟨HNO.out, rfl, rfl⟩, H4.out.2.trans h2⟩
  · have HT := Lib.hid (fun w => text_not ⟨e0, e1, e2, e3⟩ hr hez w)
    have hno : ¬ ∃ f, Right f ∧ txtB f = s := by
      rintro ⟨f, hf, ht⟩
      have := HGD.out f hf ht
      exact hr (this ▸ hf)
    obtain ⟨c0, c1, c2, c3⟩ := he3.cells
    have HNO := Lib.hid hno; clear hr hno he3 HGD
    simp only [eV, eCells] at HT hF
    go_upto_region 2 with fail
    clear hF
    go_wp2_with fail
    refine (HT.out _).mono ?_
    rintro r w4 ⟨rfl, hb4⟩
    have hz4 := H3.out.2.1.below hb4 H3.out.2.1.lt
    have hbl4 := H3.out.2.2.1.trans (hb4.mono H3.out.2.2.1.size)
    clear c0 c1 c2 c3 hb4
    obtain ⟨r0, r1, r2, r3⟩ := hz4.cells
    have rf := hz4.free
    have H4 := Lib.hid (And.intro hz4 hbl4); clear hz4 hbl4
    simp only [zeroE, Int.cast_ofNat_Int] at r0 r1 r2 r3
    go_wp2
    generalize hF : ((((w4.setCell ⟨w.heap.size, 0, none⟩ (.int .i64 0)).setCell ⟨w.heap.size, 1, none⟩ (.string ⟨#[]⟩)).setCell ⟨w.heap.size, 2, none⟩ (.int .u64 0)).setCell ⟨w.heap.size, 3, none⟩ (.int .u64 0)) = F
    obtain ⟨h1, h2, -⟩ := H4.out.1.set_end (f := zeroE) (B := w.heap.size) (Nat.le_refl _) F hF
    obtain ⟨f0, f1, f2, f3⟩ := h1.cells
    clear hF
    exact bodyPost_ret (v := .tuple #[eV zeroE, .int .i64 2]) (by simp [results, Tryd.results18, go_sem, f0, f1, f2, f3, eV, zeroE]) rfl ⟨zeroE, 2, rfl, .inr ⟨HNO.out, rfl, rfl⟩, H4.out.2.trans h2⟩
end Eid
end Go.Proofs.YtmbmhblogjkflaaDoor
