/- NoteOf: the walk. -/
import Derived.Test.YtakbbabmbhencaaDoorNoteOfs
import Derived.Test.YtakbbabmbhencaaDoorNoteRows
import Derived.Test.YtakbbabmbhencaaDoorNoteRT
import Derived.Test.YtakbbabmbhencaaDoorNoteArg
import Derived.Test.YtakbbabmbhencaaDoorTab
import Derived.Deep.RegionHeld3
namespace Go.Proofs.YtakbbabmbhencaaDoor
open Go.RowKit Go.ChangeShapes Go.WideShapes Go.Deep
set_option linter.unusedVariables false
set_option linter.unusedSimpArgs false
/-- The notes that came in. -/
def IsNotes (w : World) (A : Option Addr) (len : Nat) : Prop := ∃ zs : List Nt, zs.length = len ∧ Notes w A zs
theorem isNotes_of {H : Type} {enc : TypeId × Value → H} {w : World} {base : Nat} {spare : Nat → Bool} {held : Bool} {fuel len cap : Nat} {A : Option Addr} {x : DataW H × List MemPlace}
    (h : DataW.trod enc Tryd.prog w base spare held fuel 35 [.slice A len cap] = some x) : IsNotes w A len := by
  have hall : ∀ i, i < len → ∃ b o n, A = some ⟨b, o, none⟩ ∧ b < w.heap.size ∧ At4 w b (o + i * 4) n := by
    intro i hi
    obtain ⟨b, o, hA, hb, hf⟩ := open_tab Tryd.underlying35 Tryd.underlying23 (by kernel_rfl) (by kernel_rfl) (by decide) h i hi
    obtain ⟨v0, n0, y0, c0, t0⟩ := hf 0 _ rfl
    obtain ⟨v1, n1, y1, c1, t1⟩ := hf 1 _ rfl
    obtain ⟨v2, n2, y2, c2, t2⟩ := hf 2 _ rfl
    obtain ⟨v3, n3, y3, c3, t3⟩ := hf 3 _ rfl
    obtain ⟨a0, rfl, _⟩ := field_int Tryd.underlying3 rfl rfl t0
    obtain ⟨a1, rfl, _⟩ := field_int Tryd.underlying3 rfl rfl t1
    obtain ⟨a2, rfl, _⟩ := field_int Tryd.underlying3 rfl rfl t2
    obtain ⟨a3, rfl, _⟩ := field_int Tryd.underlying3 rfl rfl t3
    exact ⟨b, o, ⟨a0, a1, a2, a3⟩, hA, hb, ⟨c0, c1, c2, c3⟩⟩
  clear h
  rcases Nat.eq_zero_or_pos len with rfl | h0
  · exact ⟨[], rfl, fun h => absurd h (by simp)⟩
  · obtain ⟨b, o, n0, rfl, hb, _⟩ := hall 0 h0
    have hex : ∀ i, i < len → ∃ n, At4 w b (o + i * 4) n := fun i hi => by
      obtain ⟨b', o', n, he, _, h4⟩ := hall i hi
      injection he with he
      injection he with h1 h2
      subst h1 h2
      exact ⟨n, h4⟩
    have hlist : ∀ k, k ≤ len → ∃ zs : List Nt, zs.length = k ∧ ∀ (i : Nat) (n : Nt), zs[i]? = some n → At4 w b (o + i * 4) n := by
      intro k
      induction k with
      | zero => exact fun _ => ⟨[], rfl, fun i n h => by simp at h⟩
      | succ k ih =>
        intro hk
        obtain ⟨zs, hl, hz⟩ := ih (by omega)
        obtain ⟨n, hn⟩ := hex k (by omega)
        refine ⟨zs ++ [n], by simp [hl], fun i m hi => ?_⟩
        rcases Nat.lt_or_ge i zs.length with h | h
        · rw [List.getElem?_append_left h] at hi
          exact hz i m hi
        · rw [List.getElem?_append_right h] at hi
          have hik : i = k := by
            have := (List.getElem?_eq_some_iff.1 hi).1
            simp at this
            omega
          subst hik
          rw [hl, Nat.sub_self] at hi
          simp only [List.getElem?_cons_zero, Option.some.injEq] at hi
          subst hi
          exact hn
    obtain ⟨zs, hl, hz⟩ := hlist len (Nat.le_refl _)
    exact ⟨zs, hl, fun _ => ⟨b, o, rfl, hb, hz⟩⟩
set_option maxRecDepth 100000 in
set_option maxHeartbeats 1000000 in
theorem of_main (A : Option Addr) (m cap : Nat) (zs : List Nt) (task : Int) (A2 : Option Addr) (n cap2 : Nat) (xs : List Int) (w : World) (hz : zs.length = m) (hN : Notes w A zs) (hm1 : m ≤ 100) (hx : IsRow .i64 w A2 n cap2 xs) (hm : n ≤ 20) :
    Calls Tryd.prog 5 #[.slice A m cap, .int .i64 task, .slice A2 n cap2] w fun e w' => e = .returned (.bool true) ∧ Only Nil w w' := by
  have HZ := Lib.hid hz
  have HN := Lib.hid hN
  have HOF := Lib.hid (fun W (ho : Only Nil w W) => of_note A m cap zs task A2 n cap2 xs W hz (hN.only ho) hm1 hx.len_ ((hx.ints.only ho (Nat.le_refl _) (fun _ _ => id)).more ho.size) (by omega))
  have HRO := Lib.hid (fun W (ho : Only Nil w W) => of_ref A m cap zs task A2 n cap2 xs W hz (hN.only ho) hm1 hx.len_ ((hx.ints.only ho (Nat.le_refl _) (fun _ _ => id)).more ho.size) (by omega))
  have HRW := Lib.hid (rows_any A m cap zs w hz hN hm1)
  have HPL := Lib.hid (picks_len task xs zs m)
  clear hz hN hx
  go_enter Tryd.func5, Tryd.ntmps5
  go_wp2_with fail
  refine HRW.out.mono ?_
  rintro e w1 ⟨rfl, ht, hO⟩
  have HT := Lib.hid ht
  have HO1 := Lib.hid hO
  clear ht hO HRW
  generalize w.heap.size = g at *
  go_wp2
  go_loopw [8] (fun i wr => ∃ k : Nat, k ≤ m ∧ i = .int .i64 k ∧ Hid (Only Nil w1 wr)) (fun i _ => m - (intOf i).toNat)
  case atStart => exact ⟨0, Nat.zero_le _, rfl, Lib.hid (Only.refl _ _)⟩
  case round =>
    obtain ⟨k, hk, rfl, HO⟩ := hrel
    by_cases hlt : k < m
    · obtain ⟨z, hzk⟩ : ∃ z, zs[k]? = some z := ⟨_, List.getElem?_eq_getElem (by rw [HZ.out]; exact hlt)⟩
      obtain ⟨b, q, rfl, hb, hat⟩ := (HN.out.only (HO1.out.trans HO.out)) (by rw [HZ.out]; omega)
      obtain ⟨f0, f1, f2, f3⟩ := hat k z hzk
      have e0 : wr.cell? ⟨g, k, none⟩ = some (.string (txOf z)) := by
        obtain ⟨cs, hr, hs, hc⟩ := HT.out.only HO.out
        exact hr.cell_ (hc k z hlt hzk)
      have HRT := Lib.hid (fun W => refText_any z.t z.w z.o z.a W)
      rw [show txB z.t z.w z.o z.a = txOf z from rfl] at HRT
      generalize txOf z = X at *
      have hxx : (X.toList == X.toList) = true := by simp
      clear hat hzk
      go_wp2_with fail
      go_region_held3 (fun w' => w'.cell? ⟨g, k, none⟩ = some (.string X) ∧ w'.cell? ⟨b, q + k * 4, none⟩ = some (.int .i64 z.t) ∧ w'.cell? ⟨b, q + k * 4 + 1, none⟩ = some (.int .i64 z.w) ∧ w'.cell? ⟨b, q + k * 4 + 2, none⟩ = some (.int .i64 z.o) ∧ w'.cell? ⟨b, q + k * 4 + 3, none⟩ = some (.int .i64 z.a) ∧ Only Nil wr w')
        (first
          | exact ⟨e0, f0, f1, f2, f3, (Only.refl _ _).drew⟩
          | (go_keep; done)
          | (go_split_ands
             refine ⟨?_, ?_, ?_, ?_, ?_, ?_⟩
             all_goals first
               | exact Only.trans (by assumption) hO
               | (rw [hO.cell (World.block_lt_of_cell? _ _ (by assumption)) id]; assumption)))
        ((first
          | (go_at_call 10; refine (HRT.out _).mono ?_; rintro e w' ⟨rfl, hO⟩)))
      rename_i hH
      have HO2 := Lib.hid (HO.out.trans hH.2.2.2.2.2)
      clear hH hO e0 f0 f1 f2 f3
      go_wp2
      exact ⟨⟨k + 1, by omega, by go_num, HO2⟩, by simp [intOf]; omega⟩
    · obtain rfl : k = m := by omega
      clear hlt hk
      go_wp2_with fail
      refine (HOF.out _ (HO1.out.trans HO.out)).mono ?_
      rintro e w2 ⟨v2, rfl, hl, hO⟩
      have HL2 := Lib.hid hl
      have HO2 := Lib.hid ((HO1.out.trans HO.out).trans hO)
      clear hl hO
      go_wp2_with fail
      refine (HRO.out _ HO2.out).mono ?_
      rintro e w3 ⟨v3, rfl, hl, hO⟩
      have HL3 := Lib.hid hl
      have HO3 := Lib.hid (HO2.out.trans hO)
      have HL23 := Lib.hid (HL2.out.only hO)
      clear hl hO
      go_wp2_with fail
      refine (same_any _ _ _ _ HL23.out HL3.out (Nat.le_trans HPL.out hm1)).mono ?_
      rintro e w4 ⟨rfl, hO⟩
      have HO4 := Lib.hid (HO3.out.trans hO)
      clear hO
      go_wp2_with fail
      refine (awake_any _).mono ?_
      rintro e w5 ⟨rfl, hO⟩
      have HO5 := Lib.hid (HO4.out.trans hO)
      clear hO
      go_wp2
      go_ret
      exact ⟨rfl, HO5.out⟩
theorem of_long (A : Option Addr) (m cap : Nat) (task : Int) (A2 : Option Addr) (n cap2 : Nat) (w : World) (h : 100 < m) :
    Calls Tryd.prog 5 #[.slice A m cap, .int .i64 task, .slice A2 n cap2] w fun e w' => e = .returned (.bool true) ∧ Only Nil w w' := by
  have h' : (100 : Int) < m := by omega
  go_enter Tryd.func5, Tryd.ntmps5
  go_wp2_with fail
  refine (awake_any _).mono ?_
  rintro e w2 ⟨rfl, hO⟩
  have HO := Lib.hid hO
  clear hO
  go_wp2
  go_ret
  exact ⟨rfl, HO.out⟩
theorem of_many (A : Option Addr) (m cap : Nat) (task : Int) (A2 : Option Addr) (n cap2 : Nat) (w : World) (h0 : m ≤ 100) (h : 20 < n) :
    Calls Tryd.prog 5 #[.slice A m cap, .int .i64 task, .slice A2 n cap2] w fun e w' => e = .returned (.bool true) ∧ Only Nil w w' := by
  have h0' : ¬ (100 : Int) < m := by omega
  have h' : (20 : Int) < n := by omega
  go_enter Tryd.func5, Tryd.ntmps5
  go_wp2_with fail
  refine (awake_any _).mono ?_
  rintro e w2 ⟨rfl, hO⟩
  have HO := Lib.hid hO
  clear hO
  go_wp2
  go_ret
  exact ⟨rfl, HO.out⟩
theorem walk_noteOf (A : Option Addr) (m cap : Nat) (task : Int) (A2 : Option Addr) (n cap2 : Nat) (xs : List Int) (w : World) (hN : IsNotes w A m) (_ : (Lit.int .i64 task).wf = true) (hx : IsRow .i64 w A2 n cap2 xs) :
    Calls Tryd.prog 5 #[.slice A m cap, .int .i64 task, .slice A2 n cap2] w fun e w' => e = .returned (.bool true) ∧ Only Nil w w' := by
  by_cases h1 : m ≤ 100
  · by_cases h2 : n ≤ 20
    · obtain ⟨zs, hz, hN⟩ := hN
      exact of_main A m cap zs task A2 n cap2 xs w hz hN h1 hx h2
    · exact of_many A m cap task A2 n cap2 w h1 (by omega)
  · exact of_long A m cap task A2 n cap2 w (by omega)
end Go.Proofs.YtakbbabmbhencaaDoor
