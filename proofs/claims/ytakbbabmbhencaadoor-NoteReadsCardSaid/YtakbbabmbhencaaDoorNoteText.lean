/- A note's text: note.Text; the document's example. -/
import Derived.Test.YtakbbabmbhencaaDoorNoteRight
import Derived.Test.YtakbbabmbhencaaDoorNotePick
import Derived.Test.YtakbbabmbhencaaDoorItoa
import Derived.Deep.RegionHeld3
namespace Go.Proofs.YtakbbabmbhencaaDoor
open Go.RowKit
set_option linter.unusedVariables false
set_option linter.unusedSimpArgs false

theorem itoa_small (t : Int) (w : World) (h0 : 0 ≤ t) (h1 : t < 64) : Calls Tryd.prog 22 #[.int .i64 t] w fun e w' => e = .returned (.string (bs (decL t))) ∧ w = w' := by
  obtain ⟨i, rfl⟩ : ∃ i : Nat, t = i := ⟨t.toNat, by omega⟩
  exact (Tryd.strconv_Itoa_small i (by omega) w).mono fun e w' ⟨he, hw⟩ => ⟨he, hw.symm⟩
/-- The text as told. -/
def txB (t q o a : Int) : ByteArray := bs (txtN t q o a)
theorem txB_yes {t q o a : Int} (h : rightN t q o a = true) : txB t q o a = bs (glue (partsN t q o a)) := by unfold txB txtN; rw [if_pos h]; rfl
theorem txB_no {t q o a : Int} (h : rightN t q o a = false) : txB t q o a = ⟨#[]⟩ := by unfold txB txtN; rw [h]; rfl

theorem text_no (t q o a : Int) (w : World) (h : rightN t q o a = false) : Calls Tryd.prog 7 #[.agg #[.int .i64 t, .int .i64 q, .int .i64 o, .int .i64 a]] w fun e w' => e = .returned (.string ⟨#[]⟩) ∧ Only Nil w w' := by
  have HR := Lib.hid (right_note t q o a)
  have HB := Lib.hid h
  have HO0 := Lib.hid ((Only.refl Nil w).alloc (.cells #[.int .i64 t, .int .i64 q, .int .i64 o, .int .i64 a] 23))
  clear h
  go_enter Tryd.func7, Tryd.ntmps7
  go_wp2_with fail
  refine (HR.out _).mono ?_
  rw [HB.out]
  rintro e w1 ⟨rfl, hO⟩
  have HO := Lib.hid (HO0.out.trans hO)
  clear hO
  go_wp2
  go_ret
  exact ⟨rfl, HO.out⟩
theorem word_size (ws : List Bs) (x : Int) (n : Nat) (h : ∀ l ∈ ws, l.length ≤ n) : (wordI ws x).length ≤ n := by
  unfold wordI
  split
  · simp
  · rw [List.getD_eq_getElem?_getD]
    cases hg : ws[x.toNat]? with
    | none => simp
    | some l => exact h l (List.mem_of_getElem? hg)
theorem rest_len (w o a : Int) : ∀ l ∈ restL w o a, l.length ≤ 9 := by
  intro l hl
  unfold restL at hl
  have hm := (List.mem_filter.1 hl).1
  simp only [List.mem_cons, List.not_mem_nil, or_false] at hm
  rcases hm with rfl | rfl | rfl
  · exact word_size _ _ _ (by decide)
  · refine word_size _ _ _ ?_
    unfold opOf
    split
    · decide
    · simp
  · refine word_size _ _ _ ?_
    unfold argOf
    split
    · decide
    · split
      · decide
      · simp
theorem glue_short : ∀ (ws : List Bs) (n : Nat), (∀ l ∈ ws, l.length ≤ n) → (glue ws).length ≤ ws.length * (n + 1)
  | [], n, _ => by simp [glue]
  | [x], n, h => by simp only [glue, List.length_singleton]; have := h x (by simp); omega
  | x :: y :: r, n, h => by
    have ih := glue_short (y :: r) n (fun l hl => h l (List.mem_cons_of_mem _ hl))
    have h1 := h x (by simp)
    rw [glue_cons x (by simp)]
    simp only [List.length_append, List.length_cons] at ih ⊢
    rw [Nat.add_mul] at ih ⊢
    rw [Nat.add_mul]
    omega
theorem text_len {t q o a : Int} (h : rightN t q o a = true) : (glue (partsN t q o a)).length ≤ 40 := by
  obtain ⟨t0, t1, h3⟩ := right_in h
  obtain ⟨_, _, _, _, _, h6⟩ := good h3
  refine Nat.le_trans (glue_short _ 9 ?_) ?_
  · rw [partsN_cons]
    intro l hl
    rcases List.mem_cons.1 hl with rfl | hl
    · exact dec_len (k := 9) (by omega) (by omega)
    · exact rest_len _ _ _ l hl
  · rw [partsN_cons, List.length_cons]
    omega
theorem txB_size (t q o a : Int) : (txB t q o a).size ≤ 40 := by
  cases h : rightN t q o a with
  | true => rw [txB_yes h, bs_size]; exact text_len h
  | false => rw [txB_no h]; decide

set_option maxHeartbeats 1000000 in
set_option maxRecDepth 100000 in
theorem text_yes (t q o a : Int) (w : World) (h : rightN t q o a = true) : Calls Tryd.prog 7 #[.agg #[.int .i64 t, .int .i64 q, .int .i64 o, .int .i64 a]] w fun e w' => e = .returned (.string (bs (glue (partsN t q o a)))) ∧ Only Nil w w' := by
  have HR := Lib.hid (right_note t q o a)
  have HB := Lib.hid h
  have hob := (Only.refl Nil w).alloc (.cells #[.int .i64 t, .int .i64 q, .int .i64 o, .int .i64 a] 23)
  have HOB := Lib.hid hob
  have HR0 := Lib.hid (Row.new w 23 #[.int .i64 t, .int .i64 q, .int .i64 o, .int .i64 a])
  have HI := Lib.hid (fun W => itoa_small t W (right_in h).1 (right_in h).2.1)
  have HPN := Lib.hid (show kept [decL t, wordI whWs q, wordI (opOf q) o, wordI (argOf q) a] 4 = (partsN t q o a).map bs from rfl)
  clear h hob
  go_enter Tryd.func7, Tryd.ntmps7
  go_wp2_with fail
  generalize w.alloc (.cells #[.int .i64 t, .int .i64 q, .int .i64 o, .int .i64 a] 23) = wb at *
  generalize w.heap.size = g at *
  refine (HR.out _).mono ?_
  rw [HB.out]
  rintro e w0 ⟨rfl, hO⟩
  have HO0 := Lib.hid hO
  clear hO
  have c0 : w0.cell? ⟨g, 0, none⟩ = some (.int .i64 t) := (HR0.out.only HO0.out id).cell_ (i := 0) rfl
  have c1 : w0.cell? ⟨g, 1, none⟩ = some (.int .i64 q) := (HR0.out.only HO0.out id).cell_ (i := 1) rfl
  have c2 : w0.cell? ⟨g, 2, none⟩ = some (.int .i64 o) := (HR0.out.only HO0.out id).cell_ (i := 2) rfl
  have c3 : w0.cell? ⟨g, 3, none⟩ = some (.int .i64 a) := (HR0.out.only HO0.out id).cell_ (i := 3) rfl
  go_wp2_with fail
  go_region_held3 (fun w' => w'.cell? ⟨g, 0, none⟩ = some (.int .i64 t) ∧ w'.cell? ⟨g, 1, none⟩ = some (.int .i64 q) ∧ w'.cell? ⟨g, 2, none⟩ = some (.int .i64 o) ∧ w'.cell? ⟨g, 3, none⟩ = some (.int .i64 a) ∧ Only Nil w0 w')
    (first
      | exact ⟨c0, c1, c2, c3, (Only.refl _ _).drew⟩
      | (go_keep; done)
      | (go_split_ands
         refine ⟨?_, ?_, ?_, ?_, ?_⟩
         · rw [hO.cell (World.block_lt_of_cell? _ _ (by assumption)) id]; assumption
         · rw [hO.cell (World.block_lt_of_cell? _ _ (by assumption)) id]; assumption
         · rw [hO.cell (World.block_lt_of_cell? _ _ (by assumption)) id]; assumption
         · rw [hO.cell (World.block_lt_of_cell? _ _ (by assumption)) id]; assumption
         · exact Only.trans (by assumption) hO)
      | (go_split_ands
         refine ⟨?_, ?_, ?_, ?_, ?_⟩
         · (go_keep; done)
         · (go_keep; done)
         · (go_keep; done)
         · (go_keep; done)
         · exact Only.alloc (by assumption) _))
    ((first
      | (go_at_call 22; refine (HI.out _).mono ?_; rintro e w' ⟨rfl, rfl⟩)
      | (go_at_call 24; refine (whatWords_any _).mono ?_; rintro e w1 ⟨v1, rfl, hs1, hO⟩)
      | (go_at_call 25; refine (opOf_any q _).mono ?_; rintro e w2 ⟨v2, rfl, hs2, hO⟩)
      | (go_at_call 26; refine (argOf_any q _).mono ?_; rintro e w3 ⟨v3, rfl, hs3, hO⟩)
      | (go_at_call 23; first
          | (refine (word_any _ _ _ _ hs3).mono ?_; rintro e w' ⟨rfl, rfl⟩)
          | (refine (word_any _ _ _ _ hs2).mono ?_; rintro e w' ⟨rfl, rfl⟩)
          | (refine (word_any _ _ _ _ hs1).mono ?_; rintro e w' ⟨rfl, rfl⟩))))
  rename_i hH
  have HO4 := Lib.hid (HOB.out.trans (HO0.out.trans hH.2.2.2.2))
  have HS4 : Hid (Strs (w3.alloc (.cells #[.string (bs (decL t)), .string (bs (wordI whWs q)), .string (bs (wordI (opOf q) o)), .string (bs (wordI (argOf q) a))] 9)) (.slice (some ⟨w3.heap.size, 0, none⟩) 4 4) [decL t, wordI whWs q, wordI (opOf q) o, wordI (argOf q) a]) :=
    Lib.hid (strs_new w3 [decL t, wordI whWs q, wordI (opOf q) o, wordI (argOf q) a])
  have HLN := Lib.hid (show (partsN t q o a).length ≤ 4 ∧ partsN t q o a ≠ [] by
    refine ⟨?_, by rw [partsN_cons]; simp⟩
    unfold partsN
    exact Nat.le_trans (List.length_filter_le _ _) (by simp))
  have HGL := Lib.hid (text_len HB.out)
  clear hH hO c0 c1 c2 c3 hs1 hs2 hs3
  generalize decL t = l0 at *
  generalize wordI whWs q = l1 at *
  generalize wordI (opOf q) o = l2 at *
  generalize wordI (argOf q) a = l3 at *
  generalize w3.alloc (.cells #[.string (bs l0), .string (bs l1), .string (bs l2), .string (bs l3)] 9) = w4 at *
  generalize hps : partsN t q o a = ps at *
  have HPS := Lib.hid hps
  clear hps
  go_wp2_with fail
  refine (pick_words _ _ _ HS4.out (by simp) (by simp)).mono ?_
  rintro e w5 ⟨v5, rfl, hown, hO⟩
  have HO5 := Lib.hid (HO4.out.trans hO)
  have HW5 := Lib.hid (show OwnS w4.heap.size w5 v5 (ps.map bs) by rw [← HPN.out]; exact hown)
  clear hown hO
  go_wp2_with fail
  refine (join_any _ ps _ _ HW5.out HLN.out.2 (by have := HLN.out.1; omega) (by have := HGL.out; omega)).mono ?_
  rintro e w6 ⟨rfl, hO⟩
  have HO6 := Lib.hid (HO5.out.trans hO)
  clear hO
  go_wp2
  go_ret
  exact ⟨by rw [HPS.out]; rfl, HO6.out⟩
theorem text_note (t q o a : Int) (w : World) : Calls Tryd.prog 7 #[.agg #[.int .i64 t, .int .i64 q, .int .i64 o, .int .i64 a]] w fun e w' => e = .returned (.string (txB t q o a)) ∧ Only Nil w w' := by
  cases h : rightN t q o a with
  | false => rw [txB_no h]; exact text_no t q o a w h
  | true => rw [txB_yes h]; exact text_yes t q o a w h
theorem example_text : txB 3 11 6 1 = ⟨#[51, 32, 114, 101, 116, 117, 114, 110, 32, 116, 114, 121, 108, 111, 99, 107, 32, 102, 97, 108, 115, 101]⟩ := by
  rw [txB_yes (by decide), partsN_cons, show decL 3 = [51] by unfold decL; rw [show (3 : Int).toNat = 3 from rfl, Lib.decDigits_one (by decide)]; rfl]
  rfl
theorem awake_any (w : World) : Calls Tryd.prog 16 #[] w fun e w' => e = .returned (.bool true) ∧ Only Nil w w' := by
  have HT := Lib.hid (fun W => text_note 3 11 6 1 W)
  have HE := Lib.hid example_text
  go_enter Tryd.func16, Tryd.ntmps16
  go_wp2_with fail
  refine (HT.out _).mono ?_
  rw [HE.out]
  rintro e w1 ⟨rfl, hO⟩
  have HO := Lib.hid hO
  clear hO
  go_wp2
  go_ret
  exact ⟨rfl, HO.out⟩
end Go.Proofs.YtakbbabmbhencaaDoor
