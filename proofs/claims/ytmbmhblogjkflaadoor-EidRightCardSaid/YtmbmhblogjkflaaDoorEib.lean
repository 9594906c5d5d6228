/-
  Contract of dromondref10.Right. Conditions: the name has at most two to the forty bytes.
-/
import Derived.Test.YtmbmhblogjkflaaDoorEia
namespace Go.Proofs.YtmbmhblogjkflaaDoor
namespace Eid
open Go.ChangeShapes Go.WideShapes Go.ChangeAt Go.RowKit
set_option linter.unusedVariables false
set_option maxRecDepth 100000

/-- A name as a value. -/
def eV (e : Nm) : Value := .agg #[.int .i64 e.scheme, .string e.name, .int .u64 (e.node : Nat), .int .u64 (e.service : Nat)]

theorem text_beq (a b : ByteArray) : (a.toList == b.toList) = decide (a = b) := by
  by_cases h : a = b
  · subst h; simp
  · have : ¬ a.toList = b.toList := fun e => h (by
      rw [ByteArray.toList_eq, ByteArray.toList_eq] at e
      exact ByteArray.ext (Array.toList_inj.1 e))
    simp [h, this]
theorem text_beq_no {a b : ByteArray} (h : a ≠ b) : (a.toList == b.toList) = false := by rw [text_beq]; exact decide_eq_false h

theorem extract_two (b : ByteArray) : b.extract 0 2 = ⟨#[47, 47]⟩ ↔ (nb b).take 2 = [47, 47] := by
  have e : nb (b.extract 0 2) = (nb b).take 2 := by
    unfold nb
    rw [ByteArray.data_extract, Array.toList_extract, List.extract_eq_take_drop]
    simp [List.map_take]
  constructor
  · intro h
    rw [← e, h]; rfl
  · intro h
    exact nb_inj (by rw [e, h]; rfl)

set_option maxHeartbeats 40000000 in
theorem rright_all (e : Nm) (b : Bool) (hb : b = true ↔ Right e) (w : World) : Calls Tryd.prog 8 #[eV e] w fun r w' => r = .returned (.bool b) ∧ Below w.heap.size w w' := by
  obtain ⟨s, nm, nd, sv⟩ := e
  unfold eV
  dsimp only at *
  go_enter Tryd.func8, Tryd.ntmps8
  have hR : Right ⟨s, nm, nd, sv⟩ ↔ (s = 2 ∧ nm = ⟨#[]⟩ ∧ nd ≤ 4294967295 ∧ sv ≤ 4294967295) ∨ (s = 1 ∧ nd = 0 ∧ sv = 0 ∧ nm.size ≤ 60 ∧ (nb nm = noneL ∨ ∃ a b, Full (nb nm) a b)) := Iff.rfl
  rw [hR] at hb
  clear hR
  by_cases h2 : s = 2
  · subst h2
    by_cases hn : nm = ⟨#[]⟩
    · by_cases h3 : nd ≤ 4294967295
      · have hbv : b = decide ((sv : Int) ≤ 4294967295) := by
          rw [Bool.eq_iff_iff, hb]; simp [hn, h3]; omega
        have q1 : decide ((nd : Int) ≤ 4294967295) = true := by simp; omega
        have HB := Lib.hid hbv; clear hbv hb
        go_wp2
        go_ret
        exact ⟨by rw [HB.out]; rfl, (Below.refl _ _).alloc (Nat.le_refl _) _⟩
      · have hbv : b = false := by
          rw [Bool.eq_iff_iff, hb]; simp [h3]
        have q1 : decide ((nd : Int) ≤ 4294967295) = false := by simp; omega
        have HB := Lib.hid hbv; clear hbv hb
        go_wp2
        go_ret
        exact ⟨by rw [HB.out]; rfl, (Below.refl _ _).alloc (Nat.le_refl _) _⟩
    · have hbv : b = false := by
        rw [Bool.eq_iff_iff, hb]; simp [hn]
      have q0 := text_beq_no hn
      rw [ByteArray.toList_eq (bs := ⟨#[]⟩)] at q0
      have q1 : nm.toList.isEmpty = false := by
        cases h : nm.toList with
        | nil => rw [h] at q0; cases q0
        | cons a l => rfl
      have q2 : ¬ nm.toList = [] := fun e => by rw [e] at q1; cases q1
      clear q0
      have HB := Lib.hid hbv; clear hbv hb
      go_wp2
      go_ret
      exact ⟨by rw [HB.out]; rfl, (Below.refl _ _).alloc (Nat.le_refl _) _⟩
  · have e2 : decide (s = 2) = false := decide_eq_false h2
    by_cases h1 : s = 1
    · subst h1
      by_cases hnd : nd = 0
      · subst hnd
        by_cases hsv : sv = 0
        · subst hsv
          by_cases h60 : nm.size ≤ 60
          · have q60 : decide ((60 : Int) < (nm.size : Int)) = false := by simp; omega
            by_cases hno : nm = ⟨#[110, 111, 110, 101]⟩
            · have hbv : b = true := by
                rw [hb, hno]; exact .inr ⟨rfl, rfl, rfl, by decide, .inl rfl⟩
              subst hno
              have HB := Lib.hid hbv; clear hbv hb
              go_wp2
              go_ret
              exact ⟨by rw [HB.out]; rfl, (Below.refl _ _).alloc (Nat.le_refl _) _⟩
            · have qno : (nm.toList == ([110, 111, 110, 101] : List UInt8)) = false := by
                have h := text_beq_no hno
                rw [ByteArray.toList_eq (bs := ⟨#[110, 111, 110, 101]⟩)] at h
                exact h
              have HSL := Lib.hid (fun w => rslash nm (by omega) w)
              go_wp2_with fail
              refine (HSL.out _).mono ?_
              rintro e w' ⟨rfl, rfl⟩
              have hbF : b = true ↔ ∃ a b, Full (nb nm) a b := by
                rw [hb]
                constructor
                · rintro (⟨h, -⟩ | ⟨-, -, -, -, h | h⟩)
                  · exact absurd h (by decide)
                  · exact absurd (nb_inj (h.trans (show noneL = nb ⟨#[110, 111, 110, 101]⟩ from rfl))) hno
                  · exact h
                · intro h
                  exact .inr ⟨trivial, trivial, trivial, h60, .inr h⟩
              obtain ⟨k, hk⟩ : ∃ k, k = slashOf (nb nm) := ⟨_, rfl⟩
              rw [← hk]
              by_cases h3 : k < 3
              · have hbv : b = false := by
                  rw [Bool.eq_false_iff, ne_eq, hbF]
                  rintro ⟨a, b, h⟩
                  have := (full_slash h).2.2
                  omega
                have q3 : decide ((k : Int) < 3) = true := by simp; omega
                have HB := Lib.hid hbv; clear hbv hb hbF hk
                go_wp2
                go_ret
                exact ⟨by rw [HB.out]; rfl, (Below.refl _ _).alloc (Nat.le_refl _) _⟩
              · have q3 : decide ((k : Int) < 3) = false := by simp; omega
                have hkn : nm.size ≥ 3 := by
                  obtain ⟨s1, s2, -⟩ := slashOf_spec (l := nb nm) (by omega)
                  have := (List.getElem?_eq_some_iff.1 s2).1
                  rw [nb_length] at this; omega
                have q4 : (2 : Int) ≤ (nm.size : Int) := by omega
                by_cases hp : nm.extract 0 2 = ⟨#[47, 47]⟩
                · have qp : ((nm.extract 0 2).toList == ([47, 47] : List UInt8)) = true := by
                    have h : ((nm.extract 0 2).toList == (⟨#[47, 47]⟩ : ByteArray).toList) = true := by rw [text_beq]; exact decide_eq_true hp
                    rw [ByteArray.toList_eq (bs := ⟨#[47, 47]⟩)] at h
                    exact h
                  have hfi := full_iff ((extract_two nm).1 hp) (by omega : 3 ≤ slashOf (nb nm))
                  rw [← hk] at hfi
                  have hbL := hbF.trans hfi
                  have HNO := Lib.hid hbL; clear hb hbF hk hno hp hfi hbL
                  have HLT := Lib.hid (fun (c : Nat) (hc : c < 256) (w : World) => rletter c hc w)
                  go_wp2_with fail
                  go_loopw [4] (fun i wr => ∃ m : Nat, 2 ≤ m ∧ m ≤ nm.size ∧ i = .int .i64 (m : Nat) ∧ wr = w.alloc (.cells #[.int .i64 1, .string nm, .int .u64 0, .int .u64 0] 24) ∧ ∀ (j c : Nat), 2 ≤ j → j < m → (nb nm)[j]? = some c → (j < k → isLetter c) ∧ (k < j → 33 ≤ c ∧ c ≤ 126)) (fun i _ => nm.size - (intOf i).toNat)
                  case atStart => exact ⟨2, Nat.le_refl _, by omega, rfl, rfl, fun j c h2 hj => by omega⟩
                  case round =>
                    obtain ⟨m, hm2, hmn, rfl, rfl, hall⟩ := hrel
                    by_cases hlt : m < nm.size
                    · obtain ⟨x, hx⟩ : ∃ x, x = nm[m].toNat := ⟨_, rfl⟩
                      have hxe : (nb nm)[m]? = some x := by rw [nb_get nm m hlt, hx]
                      have xa : (nm[m].toNat : Int) = (x : Int) := by rw [hx]
                      have hxl : x < 256 := nb_lt nm x (List.mem_of_getElem? hxe)
                      have hkI : (m : Int) < (nm.size : Int) := by omega
                      have hj1 : IntKind.i64.wrap ((m : Int) + 1) = ((m + 1 : Nat) : Int) := by rw [IntKind.wrap_i64]; omega
                      have hnext : ((m < k → isLetter x) ∧ (k < m → 33 ≤ x ∧ x ≤ 126)) → ∀ (j c : Nat), 2 ≤ j → j < m + 1 → (nb nm)[j]? = some c → (j < k → isLetter c) ∧ (k < j → 33 ≤ c ∧ c ≤ 126) := fun hx1 j c h2 hj hc => by
                        rcases Nat.lt_or_ge j m with h | h
                        · exact hall j c h2 h hc
                        · obtain rfl : j = m := by omega
                          rw [hxe] at hc
                          obtain rfl := Option.some.inj hc
                          exact hx1
                      have hbad : ¬ ((m < k → isLetter x) ∧ (k < m → 33 ≤ x ∧ x ≤ 126)) → b = false := fun hn => by
                        rw [Bool.eq_false_iff, ne_eq, HNO.out]
                        exact fun h => hn (h m x hm2 hxe)
                      clear hall hx hxe
                      rcases Nat.lt_trichotomy m k with hmk | hmk | hmk
                      · have g1 : decide ((m : Int) < (k : Int)) = true := by simp; omega
                        have g2 : decide ((k : Int) < (m : Int)) = false := by simp; omega
                        by_cases hle : isLetter x
                        · have HN := Lib.hid (hnext ⟨fun _ => hle, fun h => absurd h (by omega)⟩)
                          have HL := Lib.hid (fun w => HLT.out x hxl w)
                          have hdl : decide (isLetter x) = true := decide_eq_true hle
                          rw [hdl] at HL
                          clear hnext hbad
                          go_wp2_with fail
                          refine (HL.out _).mono ?_
                          rintro e w' ⟨rfl, rfl⟩
                          go_wp2
                          go_roundw
                          case rel => exact ⟨m + 1, by omega, by omega, rfl, trivial, HN.out⟩
                          case measure => simp [intOf]; omega
                        · have HB := Lib.hid (hbad fun h => hle (h.1 hmk))
                          have HL := Lib.hid (fun w => HLT.out x hxl w)
                          have hdl : decide (isLetter x) = false := decide_eq_false hle
                          rw [hdl] at HL
                          clear hnext hbad
                          go_wp2_with fail
                          refine (HL.out _).mono ?_
                          rintro e w' ⟨rfl, rfl⟩
                          go_wp2
                          go_ret
                          exact ⟨by rw [HB.out]; rfl, (Below.refl _ _).alloc (Nat.le_refl _) _⟩
                      · subst hmk
                        have g1 : decide ((m : Int) < (m : Int)) = false := by simp
                        have HN := Lib.hid (hnext ⟨fun h => absurd h (by omega), fun h => absurd h (by omega)⟩)
                        clear hnext hbad
                        go_wp2
                        go_roundw
                        case rel => exact ⟨m + 1, by omega, by omega, rfl, trivial, HN.out⟩
                        case measure => simp [intOf]; omega
                      · have g1 : decide ((m : Int) < (k : Int)) = false := by simp; omega
                        have g2 : decide ((k : Int) < (m : Int)) = true := by simp; omega
                        by_cases h33 : x < 33
                        · have HB := Lib.hid (hbad fun h => by have := h.2 hmk; omega)
                          have g3 : decide ((x : Int) < 33) = true := by simp; omega
                          clear hnext hbad
                          go_wp2
                          go_ret
                          exact ⟨by rw [HB.out]; rfl, (Below.refl _ _).alloc (Nat.le_refl _) _⟩
                        · have g3 : decide ((x : Int) < 33) = false := by simp; omega
                          by_cases h126 : x ≤ 126
                          · have HN := Lib.hid (hnext ⟨fun h => absurd h (by omega), fun _ => ⟨by omega, h126⟩⟩)
                            have g4 : decide ((126 : Int) < (x : Int)) = false := by simp; omega
                            clear hnext hbad
                            go_wp2
                            go_roundw
                            case rel => exact ⟨m + 1, by omega, by omega, rfl, trivial, HN.out⟩
                            case measure => simp [intOf]; omega
                          · have HB := Lib.hid (hbad fun h => by have := h.2 hmk; omega)
                            have g4 : decide ((126 : Int) < (x : Int)) = true := by simp; omega
                            clear hnext hbad
                            go_wp2
                            go_ret
                            exact ⟨by rw [HB.out]; rfl, (Below.refl _ _).alloc (Nat.le_refl _) _⟩
                    · obtain rfl : m = nm.size := by omega
                      have hbv : b = true := HNO.out.2 fun i c hi hc => hall i c hi (by
                        have := (List.getElem?_eq_some_iff.1 hc).1
                        rwa [nb_length] at this) hc
                      have HB := Lib.hid hbv
                      clear hall hbv
                      go_wp2
                      go_ret
                      exact ⟨by rw [HB.out]; rfl, (Below.refl _ _).alloc (Nat.le_refl _) _⟩
                · have qp : ((nm.extract 0 2).toList == ([47, 47] : List UInt8)) = false := by
                    have h := text_beq_no hp
                    rw [ByteArray.toList_eq (bs := ⟨#[47, 47]⟩)] at h
                    exact h
                  have hbv : b = false := by
                    rw [Bool.eq_false_iff, ne_eq, hbF]
                    rintro ⟨a, b, h⟩
                    exact hp ((extract_two nm).2 (full_slash h).1)
                  have HB := Lib.hid hbv; clear hbv hb hbF hk hno
                  go_wp2
                  go_ret
                  exact ⟨by rw [HB.out]; rfl, (Below.refl _ _).alloc (Nat.le_refl _) _⟩
          · have q60 : decide ((60 : Int) < (nm.size : Int)) = true := by simp; omega
            have hbv : b = false := by
              rw [Bool.eq_iff_iff, hb]; simp [h60]
            have HB := Lib.hid hbv; clear hbv hb
            go_wp2
            go_ret
            exact ⟨by rw [HB.out]; rfl, (Below.refl _ _).alloc (Nat.le_refl _) _⟩
        · have hbv : b = false := by
            rw [Bool.eq_iff_iff, hb]; simp [hsv]
          have q1 : decide ((sv : Int) = 0) = false := by simp; omega
          have HB := Lib.hid hbv; clear hbv hb
          go_wp2
          go_ret
          exact ⟨by rw [HB.out]; rfl, (Below.refl _ _).alloc (Nat.le_refl _) _⟩
      · have hbv : b = false := by
          rw [Bool.eq_iff_iff, hb]; simp [hnd]
        have q1 : decide ((nd : Int) = 0) = false := by simp; omega
        have HB := Lib.hid hbv; clear hbv hb
        go_wp2
        go_ret
        exact ⟨by rw [HB.out]; rfl, (Below.refl _ _).alloc (Nat.le_refl _) _⟩
    · have hbv : b = false := by
        rw [Bool.eq_iff_iff, hb]; simp [h1, h2]
      have q1 : decide (s = 1) = false := decide_eq_false h1
      have HB := Lib.hid hbv; clear hbv hb
      go_wp2
      go_ret
      exact ⟨by rw [HB.out]; rfl, (Below.refl _ _).alloc (Nat.le_refl _) _⟩
theorem rright (e : Nm) (b : Bool) (hb : b = true ↔ Right e) (hs : e.name.size ≤ 1099511627776) (w : World) : Calls Tryd.prog 8 #[eV e] w fun r w' => r = .returned (.bool b) ∧ Below w.heap.size w w' := rright_all e b hb w
end Eid
end Go.Proofs.YtmbmhblogjkflaaDoor
