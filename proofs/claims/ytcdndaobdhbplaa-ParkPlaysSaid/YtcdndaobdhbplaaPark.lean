/- Contracts of package park. -/
import Derived.Test.YtcdndaobdhbplaaDoAny
import Derived.Test.YtcdndaobdhbplaaPermit
set_option linter.unusedVariables false
set_option linter.unusedSimpArgs false
namespace Go.Proofs.Ytcdndaobdhbplaa
open Go.RowKit

/-- A task's permit's cell. -/
def pc (n i : Int) : Int := cellI n 3 i
/-- Is the permit there? -/
def hasP (xs : List Int) (n i : Int) : Bool := wordAt xs (pc n i) != 0

/-- A struct of five cells stored into a block. -/
theorem five {w : World} {g : Nat} {t : TypeId} {a0 a1 a2 a3 a4 : Value} (h : Row w g t #[a0, a1, a2, a3, a4]) (v0 v1 v2 v3 v4 : Value) :
    Row (((((w.setCell ⟨g, 0, none⟩ v0).setCell ⟨g, 1, none⟩ v1).setCell ⟨g, 2, none⟩ v2).setCell ⟨g, 3, none⟩ v3).setCell ⟨g, 4, none⟩ v4) g t #[v0, v1, v2, v3, v4] := by
  simpa using ((((h.set 0 v0).set 1 v1).set 2 v2).set 3 v3).set 4 v4
theorem five_only {S : Nat → Prop} {w w' : World} (h : Only S w w') {g : Nat} (hg : w.heap.size ≤ g ∨ S g) (v0 v1 v2 v3 v4 : Value) :
    Only S w (((((w'.setCell ⟨g, 0, none⟩ v0).setCell ⟨g, 1, none⟩ v1).setCell ⟨g, 2, none⟩ v2).setCell ⟨g, 3, none⟩ v3).setCell ⟨g, 4, none⟩ v4) :=
  ((((h.setCell (p := ⟨g, 0, none⟩) hg v0).setCell (p := ⟨g, 1, none⟩) hg v1).setCell (p := ⟨g, 2, none⟩) hg v2).setCell (p := ⟨g, 3, none⟩) hg v3).setCell (p := ⟨g, 4, none⟩) hg v4

/-- A memory, or none. -/
def Memo (w : World) (p A : Option Addr) (cp : Nat) (xs : List Int) : Prop := (p = none ∧ xs = [] ∧ A = none) ∨ ∃ b, p = some ⟨b, 0, none⟩ ∧ Mem w b A cp xs
theorem Memo.of {w : World} {b : Nat} {A : Option Addr} {cp : Nat} {xs : List Int} (h : Mem w b A cp xs) : Memo w (some ⟨b, 0, none⟩) A cp xs := .inr ⟨b, rfl, h⟩
theorem Memo.far {w w' : World} {p A : Option Addr} {cp : Nat} {xs : List Int} {S : Nat → Prop} (h : Memo w p A cp xs) (ho : Only S w w') (hS : ∀ j, At p j ∨ At A j → ¬ S j) : Memo w' p A cp xs := by
  rcases h with h | ⟨b, rfl, h⟩
  · exact .inl h
  · exact .inr ⟨b, rfl, h.only ho (hS b (.inl ⟨_, rfl, rfl⟩)) (fun j hj => hS j (.inr hj))⟩
theorem Memo.keep {w w' : World} {p A : Option Addr} {cp : Nat} {xs : List Int} (h : Memo w p A cp xs) (ho : Only Nil w w') : Memo w' p A cp xs := h.far ho (fun _ _ => id)
theorem Memo.lt {w : World} {p A : Option Addr} {cp : Nat} {xs : List Int} (h : Memo w p A cp xs) : ∀ j, At p j ∨ At A j → j < w.heap.size := by
  rcases h with ⟨rfl, _, rfl⟩ | ⟨b, rfl, h⟩
  · rintro j (⟨a, h, _⟩ | ⟨a, h, _⟩) <;> cases h
  · rintro j (⟨a, h2, rfl⟩ | h2)
    · cases h2; exact h.hdr.lt
    · exact h.own.lt j h2
theorem do_memo (p A : Option Addr) (cp : Nat) (xs : List Int) (k c x y o : Int) (w : World) (h : Memo w p A cp xs) :
    Calls Try.prog 21 #[.pointer p, .agg #[.int .i64 k, .int .i64 c, .int .u32 x, .int .u32 y, .int .u32 o]] w fun e w' =>
      e = .returned (.tuple #[doVal xs k c x y, .bool (doOk xs k c)]) ∧ Only (At A) w w' ∧ Memo w' p A cp (doNew xs k c x y) := by
  rcases h with ⟨rfl, rfl, rfl⟩ | ⟨b, rfl, h⟩
  · have ht : there [] c = false := by
      have : ¬ (0 ≤ c ∧ c < ((0 : Nat) : Int)) := by omega
      simp only [there, List.length_nil, decide_eq_false_iff_not]; exact this
    have hok : doOk [] k c = false := by simp [doOk, ht]
    refine (do_nil k c x y o w).mono fun e w' ⟨he, hO⟩ => ⟨by rw [he]; simp [doVal, hok, accOf], hO.mono (fun _ _ h => h.elim), .inl ⟨rfl, by simp [doNew, hok], rfl⟩⟩
  · exact (do_any b A cp xs k c x y o w h).mono fun e w' ⟨he, hO, hM⟩ => ⟨he, hO, .inr ⟨b, rfl, hM⟩⟩

theorem on_any (p A : Option Addr) (cp : Nat) (xs : List Int) (n i k c x y o : Int) (w : World) (h : Memo w p A cp xs) :
    Calls Try.prog 20 #[.func (.func 21) #[.pointer p] #[], .agg #[.int .i64 n], .int .i64 i, .agg #[.int .i64 k, .int .i64 c, .int .u32 x, .int .u32 y, .int .u32 o]] w fun e w' =>
      e = .returned (.tuple #[doVal xs k (pc n i) x y, .bool (doOk xs k (pc n i))]) ∧ Only (At A) w w' ∧ Memo w' p A cp (doNew xs k (pc n i) x y) := by
  have HH := Lib.hid h
  clear h
  go_enter Try.func20, Try.ntmps20
  go_wp2_with fail
  refine (permit_any n i _).mono ?_
  rintro e w1 ⟨rfl, hO⟩
  have R7 : Row w1 (w.heap.size + 1) 36 #[.int .i64 k, .int .i64 c, .int .u32 x, .int .u32 y, .int .u32 o] := ((Row.new2 w _ _ _).alloc _).only hO id
  have R8 : Row w1 (w.heap.size + 1 + 1) 36 #[.int .i64 0, .int .i64 0, .int .u32 0, .int .u32 0, .int .u32 0] := by
    refine Row.only ?_ hO id
    have e := Row.new2 (w.alloc (Obj.cells #[Value.int IntKind.i64 n] 30)) (Obj.cells #[Value.int IntKind.i64 k, Value.int IntKind.i64 c, Value.int IntKind.u32 x, Value.int IntKind.u32 y, Value.int IntKind.u32 o] 36) 36 #[.int .i64 0, .int .i64 0, .int .u32 0, .int .u32 0, .int .u32 0]
    simpa using e
  have HO1 : Hid (Only Nil w w1) := Lib.hid (((((Only.refl Nil w).alloc _).alloc _).alloc _).trans hO)
  have hM : Memo w1 p A cp xs := HH.out.keep HO1.out
  have c70 : w1.cell? ⟨w.heap.size + 1, 0, none⟩ = some (.int .i64 k) := R7.cell_ (i := 0) rfl
  have c71 : w1.cell? ⟨w.heap.size + 1, 1, none⟩ = some (.int .i64 c) := R7.cell_ (i := 1) rfl
  have c72 : w1.cell? ⟨w.heap.size + 1, 2, none⟩ = some (.int .u32 x) := R7.cell_ (i := 2) rfl
  have c73 : w1.cell? ⟨w.heap.size + 1, 3, none⟩ = some (.int .u32 y) := R7.cell_ (i := 3) rfl
  have c74 : w1.cell? ⟨w.heap.size + 1, 4, none⟩ = some (.int .u32 o) := R7.cell_ (i := 4) rfl
  have f70 : w1.frozen? ⟨w.heap.size + 1, 0, none⟩ = false := R7.frozen 0
  have f71 : w1.frozen? ⟨w.heap.size + 1, 1, none⟩ = false := R7.frozen 1
  have f72 : w1.frozen? ⟨w.heap.size + 1, 2, none⟩ = false := R7.frozen 2
  have f73 : w1.frozen? ⟨w.heap.size + 1, 3, none⟩ = false := R7.frozen 3
  have f74 : w1.frozen? ⟨w.heap.size + 1, 4, none⟩ = false := R7.frozen 4
  have HR7 := Lib.hid R7
  have HR8 := Lib.hid R8
  have HM := Lib.hid hM
  clear hO R7 R8 hM
  show _
  have hpc : cellI n 3 i = pc n i := rfl
  rw [hpc]
  clear hpc
  go_wp2_with fail
  have ha : ∀ j, At p j ∨ At A j → j < w.heap.size := HH.out.lt
  have e1 : Only (· = w.heap.size + 1) w1 (w1.setCell ⟨w.heap.size + 1, 1, none⟩ (.int .i64 (pc n i))) := (Only.refl (· = w.heap.size + 1) w1).setCell (p := ⟨w.heap.size + 1, 1, none⟩) (.inr rfl) _
  refine (do_memo p A cp xs k (pc n i) x y o _ (HM.out.far e1 (fun j hj h => by have := ha j hj; omega))).mono ?_
  obtain ⟨k', c', x', y', hv⟩ := doVal_form xs k (pc n i) x y
  rw [hv]
  rintro e w2 ⟨rfl, hO, hM⟩
  have hS : Only (At A) w w2 := ((HO1.out.mono (fun _ _ h => h.elim)).setCell (p := ⟨w.heap.size + 1, 1, none⟩) (.inl (by simp)) (.int .i64 (pc n i))).trans hO
  have R8 := (HR8.out.far (p := ⟨w.heap.size + 1, 1, none⟩) (by simp) (.int .i64 (pc n i))).only hO (fun h => by have := ha _ (.inr h); omega)
  have c80 : w2.cell? ⟨w.heap.size + 1 + 1, 0, none⟩ = some (.int .i64 0) := R8.cell_ (i := 0) rfl
  have c81 : w2.cell? ⟨w.heap.size + 1 + 1, 1, none⟩ = some (.int .i64 0) := R8.cell_ (i := 1) rfl
  have c82 : w2.cell? ⟨w.heap.size + 1 + 1, 2, none⟩ = some (.int .u32 0) := R8.cell_ (i := 2) rfl
  have c83 : w2.cell? ⟨w.heap.size + 1 + 1, 3, none⟩ = some (.int .u32 0) := R8.cell_ (i := 3) rfl
  have c84 : w2.cell? ⟨w.heap.size + 1 + 1, 4, none⟩ = some (.int .u32 0) := R8.cell_ (i := 4) rfl
  have f80 : w2.frozen? ⟨w.heap.size + 1 + 1, 0, none⟩ = false := R8.frozen 0
  have f81 : w2.frozen? ⟨w.heap.size + 1 + 1, 1, none⟩ = false := R8.frozen 1
  have f82 : w2.frozen? ⟨w.heap.size + 1 + 1, 2, none⟩ = false := R8.frozen 2
  have f83 : w2.frozen? ⟨w.heap.size + 1 + 1, 3, none⟩ = false := R8.frozen 3
  have f84 : w2.frozen? ⟨w.heap.size + 1 + 1, 4, none⟩ = false := R8.frozen 4
  have HR9 := Lib.hid R8
  have HS := Lib.hid hS
  have HM2 := Lib.hid hM
  have HA := Lib.hid ha
  generalize (if doOk xs k (pc n i) then wordAt xs (pc n i) else 0) = o' at hv
  generalize hok : doOk xs k (pc n i) = ok at hv
  have HV := Lib.hid hv
  have HOK := Lib.hid hok
  clear hO R8 hS hM c70 c71 c72 c73 c74 f70 f71 f72 f73 f74 e1 hv ha hok
  go_wp2
  refine post_row_tmp (P := Try.prog) Try.results20 (t := 36) (g := w.heap.size + 1 + 1) (cs := #[.int .i64 k', .int .i64 c', .int .u32 x', .int .u32 y', .int .u32 o']) rfl (five HR9.out _ _ _ _ _) Try.underlying36 rfl (by kernel_rfl) rfl ⟨?_, five_only HS.out (.inl (by omega)) _ _ _ _ _, ?_⟩
  · rw [HV.out, HOK.out]; rfl
  · exact HM2.out.far (five_only (Only.refl (· = w.heap.size + 1 + 1) w2) (.inr rfl) _ _ _ _ _) (fun j hj h => by have := HA.out j hj; omega)

theorem give_any (p A : Option Addr) (cp : Nat) (xs : List Int) (n i : Int) (w : World) (h : Memo w p A cp xs) :
    Calls Try.prog 9 #[.pointer p, .agg #[.int .i64 n], .int .i64 i] w fun e w' =>
      e = .returned (.tuple #[doVal xs 2 (pc n i) 1 0, .bool (there xs (pc n i))]) ∧ Only (At A) w w' ∧ Memo w' p A cp (st xs (pc n i) 1) := by
  have hok0 : doOk xs 2 (pc n i) = there xs (pc n i) := by simp [doOk, isKind]
  have hst : doNew xs 2 (pc n i) 1 0 = st xs (pc n i) 1 := by rw [doNew_st xs 2 _ 1 0 rfl]; rfl
  have HH := Lib.hid h
  have ha : ∀ j, At p j ∨ At A j → j < w.heap.size := HH.out.lt
  have HA := Lib.hid ha
  clear h ha
  go_enter Try.func9, Try.ntmps9
  go_wp2_with fail
  have e0 := ((Only.refl Nil w).alloc (Obj.cells #[Value.int IntKind.i64 n] 30)).alloc (Obj.cells #[Value.int IntKind.i64 0, Value.int IntKind.i64 0, Value.int IntKind.u32 0, Value.int IntKind.u32 0, Value.int IntKind.u32 0] 36)
  refine (on_any p A cp xs n i 2 0 1 0 0 _ (HH.out.keep e0)).mono ?_
  obtain ⟨k', c', x', y', hv⟩ := doVal_form xs 2 (pc n i) 1 0
  rw [hv, hok0, hst]
  rw [hok0] at hv
  rintro e w2 ⟨rfl, hO, hM⟩
  have hS : Only (At A) w w2 := (e0.mono (fun _ _ h => h.elim)).trans hO
  have R8 : Row w2 (w.heap.size + 1) 36 #[.int .i64 0, .int .i64 0, .int .u32 0, .int .u32 0, .int .u32 0] := (Row.new2 w _ _ _).only hO (fun h => by have := HA.out _ (.inr h); omega)
  have c80 : w2.cell? ⟨w.heap.size + 1, 0, none⟩ = some (.int .i64 0) := R8.cell_ (i := 0) rfl
  have c81 : w2.cell? ⟨w.heap.size + 1, 1, none⟩ = some (.int .i64 0) := R8.cell_ (i := 1) rfl
  have c82 : w2.cell? ⟨w.heap.size + 1, 2, none⟩ = some (.int .u32 0) := R8.cell_ (i := 2) rfl
  have c83 : w2.cell? ⟨w.heap.size + 1, 3, none⟩ = some (.int .u32 0) := R8.cell_ (i := 3) rfl
  have c84 : w2.cell? ⟨w.heap.size + 1, 4, none⟩ = some (.int .u32 0) := R8.cell_ (i := 4) rfl
  have f80 : w2.frozen? ⟨w.heap.size + 1, 0, none⟩ = false := R8.frozen 0
  have f81 : w2.frozen? ⟨w.heap.size + 1, 1, none⟩ = false := R8.frozen 1
  have f82 : w2.frozen? ⟨w.heap.size + 1, 2, none⟩ = false := R8.frozen 2
  have f83 : w2.frozen? ⟨w.heap.size + 1, 3, none⟩ = false := R8.frozen 3
  have f84 : w2.frozen? ⟨w.heap.size + 1, 4, none⟩ = false := R8.frozen 4
  have HR9 := Lib.hid R8
  have HS := Lib.hid hS
  have HM2 := Lib.hid hM
  generalize (if there xs (pc n i) then wordAt xs (pc n i) else 0) = o' at hv
  generalize hok : there xs (pc n i) = ok at hv
  have HV := Lib.hid hv
  have HOK := Lib.hid hok
  clear hO R8 hS hM e0 hv hok hok0 hst
  go_wp2
  refine post_row_tmp (P := Try.prog) Try.results9 (t := 36) (g := w.heap.size + 1) (cs := #[.int .i64 k', .int .i64 c', .int .u32 x', .int .u32 y', .int .u32 o']) rfl (five HR9.out _ _ _ _ _) Try.underlying36 rfl (by kernel_rfl) rfl ⟨?_, five_only HS.out (.inl (by omega)) _ _ _ _ _, ?_⟩
  · rw [HV.out, HOK.out]; rfl
  · exact HM2.out.far (five_only (Only.refl (· = w.heap.size + 1) w2) (.inr rfl) _ _ _ _ _) (fun j hj h => by have := HA.out j hj; omega)

theorem has_any (p A : Option Addr) (cp : Nat) (xs : List Int) (n i : Int) (w : World) (h : Memo w p A cp xs) :
    Calls Try.prog 13 #[.pointer p, .agg #[.int .i64 n], .int .i64 i] w fun e w' =>
      e = .returned (.bool (hasP xs n i)) ∧ Only (At A) w w' ∧ Memo w' p A cp xs := by
  have hok0 : doOk xs 1 (pc n i) = there xs (pc n i) := by simp [doOk, isKind]
  have hst : doNew xs 1 (pc n i) 0 0 = xs := doNew_load xs _ _ _
  have HH := Lib.hid h
  have ha : ∀ j, At p j ∨ At A j → j < w.heap.size := HH.out.lt
  have HA := Lib.hid ha
  clear h ha
  go_enter Try.func13, Try.ntmps13
  go_wp2_with fail
  have e0 := (Only.refl Nil w).alloc (Obj.cells #[Value.int IntKind.i64 n] 30)
  refine (on_any p A cp xs n i 1 0 0 0 0 _ (HH.out.keep e0)).mono ?_
  obtain ⟨k', c', x', y', hv⟩ := doVal_form xs 1 (pc n i) 0 0
  rw [hv, hok0, hst]
  rintro e w2 ⟨rfl, hO, hM⟩
  have hS : Only (At A) w w2 := (e0.mono (fun _ _ h => h.elim)).trans hO
  have HS := Lib.hid hS
  have HM2 := Lib.hid hM
  clear hO hS hM e0 hv hok0 hst
  have hp : hasP xs n i = (there xs (pc n i) && (wordAt xs (pc n i) != 0)) := by
    unfold hasP wordAt
    cases there xs (pc n i) <;> simp
  cases ht : there xs (pc n i)
  · rw [ht] at hp
    have HP := Lib.hid hp
    clear ht hp
    go_wp2
    go_ret
    exact ⟨by rw [HP.out]; rfl, HS.out.alloc _, HM2.out.keep ((Only.refl Nil w2).alloc _)⟩
  · rw [ht] at hp
    generalize wordAt xs (pc n i) = v at *
    have HP := Lib.hid hp
    clear ht hp
    go_wp2
    go_ret
    exact ⟨by rw [HP.out, Bool.true_and]; rfl, HS.out.alloc _, HM2.out.keep ((Only.refl Nil w2).alloc _)⟩

/-- The access that a permit is taken by. -/
def takeVal (xs : List Int) (n i : Int) : Value := if hasP xs n i then accOf 4 (pc n i) 0 0 (wordAt xs (pc n i)) else accOf 0 0 0 0 0
theorem hasP_there {xs : List Int} {n i : Int} (h : hasP xs n i = true) : there xs (pc n i) = true := by
  unfold hasP wordAt at h
  cases ht : there xs (pc n i)
  · rw [ht] at h; simp at h
  · rfl
theorem st_none {xs : List Int} {n i : Int} (h : hasP xs n i = false) : st xs (pc n i) 0 = xs := by
  have hw : wordAt xs (pc n i) = 0 := by simpa [hasP] using h
  have := st_word xs (pc n i)
  rwa [hw] at this

theorem take_any (p A : Option Addr) (cp : Nat) (xs : List Int) (n i : Int) (w : World) (h : Memo w p A cp xs) :
    Calls Try.prog 11 #[.pointer p, .agg #[.int .i64 n], .int .i64 i] w fun e w' =>
      e = .returned (.tuple #[takeVal xs n i, .bool (hasP xs n i)]) ∧ Only (At A) w w' ∧ Memo w' p A cp (st xs (pc n i) 0) := by
  have HH := Lib.hid h
  have ha : ∀ j, At p j ∨ At A j → j < w.heap.size := HH.out.lt
  have HA := Lib.hid ha
  clear h ha
  go_enter Try.func11, Try.ntmps11
  go_wp2_with fail
  have e0 := ((Only.refl Nil w).alloc (Obj.cells #[Value.int IntKind.i64 n] 30)).alloc (Obj.cells #[Value.int IntKind.i64 0, Value.int IntKind.i64 0, Value.int IntKind.u32 0, Value.int IntKind.u32 0, Value.int IntKind.u32 0] 36)
  refine (has_any p A cp xs n i _ (HH.out.keep e0)).mono ?_
  rintro e w2 ⟨rfl, hO, hM⟩
  have hS : Only (At A) w w2 := (e0.mono (fun _ _ h => h.elim)).trans hO
  have R4 : Row w2 w.heap.size 30 #[.int .i64 n] := ((Row.new w _ _).alloc _).only hO (fun h => by have := HA.out _ (.inr h); omega)
  have R8 : Row w2 (w.heap.size + 1) 36 #[.int .i64 0, .int .i64 0, .int .u32 0, .int .u32 0, .int .u32 0] := (Row.new2 w _ _ _).only hO (fun h => by have := HA.out _ (.inr h); omega)
  have c40 : w2.cell? ⟨w.heap.size, 0, none⟩ = some (.int .i64 n) := R4.cell_ (i := 0) rfl
  have HR9 := Lib.hid R8
  have HS := Lib.hid hS
  have HM2 := Lib.hid hM
  clear hO R8 hS hM e0 R4
  cases hp : hasP xs n i
  · have HP := Lib.hid hp
    have c80 : w2.cell? ⟨w.heap.size + 1, 0, none⟩ = some (.int .i64 0) := HR9.out.cell_ (i := 0) rfl
    have c81 : w2.cell? ⟨w.heap.size + 1, 1, none⟩ = some (.int .i64 0) := HR9.out.cell_ (i := 1) rfl
    have c82 : w2.cell? ⟨w.heap.size + 1, 2, none⟩ = some (.int .u32 0) := HR9.out.cell_ (i := 2) rfl
    have c83 : w2.cell? ⟨w.heap.size + 1, 3, none⟩ = some (.int .u32 0) := HR9.out.cell_ (i := 3) rfl
    have c84 : w2.cell? ⟨w.heap.size + 1, 4, none⟩ = some (.int .u32 0) := HR9.out.cell_ (i := 4) rfl
    have f80 : w2.frozen? ⟨w.heap.size + 1, 0, none⟩ = false := HR9.out.frozen 0
    have f81 : w2.frozen? ⟨w.heap.size + 1, 1, none⟩ = false := HR9.out.frozen 1
    have f82 : w2.frozen? ⟨w.heap.size + 1, 2, none⟩ = false := HR9.out.frozen 2
    have f83 : w2.frozen? ⟨w.heap.size + 1, 3, none⟩ = false := HR9.out.frozen 3
    have f84 : w2.frozen? ⟨w.heap.size + 1, 4, none⟩ = false := HR9.out.frozen 4
    clear hp
    go_wp2
    refine post_row_tmp (P := Try.prog) Try.results11 (t := 36) (g := w.heap.size + 1) (cs := #[.int .i64 0, .int .i64 0, .int .u32 0, .int .u32 0, .int .u32 0]) rfl (five HR9.out _ _ _ _ _) Try.underlying36 rfl (by kernel_rfl) rfl ⟨?_, five_only HS.out (.inl (by omega)) _ _ _ _ _, ?_⟩
    · simp only [takeVal, HP.out]; rfl
    · rw [st_none HP.out]
      exact HM2.out.far (five_only (Only.refl (· = w.heap.size + 1) w2) (.inr rfl) _ _ _ _ _) (fun j hj h => by have := HA.out j hj; omega)
  · have HP := Lib.hid hp
    have ht := hasP_there hp
    have hok0 : doOk xs 4 (pc n i) = true := by simp [doOk, isKind, ht]
    have hv : doVal xs 4 (pc n i) 0 0 = .agg #[.int .i64 4, .int .i64 (pc n i), .int .u32 0, .int .u32 0, .int .u32 (wordAt xs (pc n i))] := by simp [doVal, hok0, accOf]
    have hst : doNew xs 4 (pc n i) 0 0 = st xs (pc n i) 0 := by rw [doNew_st xs 4 _ 0 0 rfl]; rfl
    have HT := Lib.hid ht
    have HK := Lib.hid hok0
    have HV := Lib.hid hv
    have HST := Lib.hid hst
    clear hp ht hok0 hv hst
    go_wp2_with fail
    refine (on_any p A cp xs n i 4 0 0 0 0 _ HM2.out).mono ?_
    rw [HV.out, HK.out, HST.out]
    rintro e w3 ⟨rfl, hO, hM⟩
    have R8 : Row w3 (w.heap.size + 1) 36 #[.int .i64 0, .int .i64 0, .int .u32 0, .int .u32 0, .int .u32 0] := HR9.out.only hO (fun h => by have := HA.out _ (.inr h); omega)
    have c80 : w3.cell? ⟨w.heap.size + 1, 0, none⟩ = some (.int .i64 0) := R8.cell_ (i := 0) rfl
    have c81 : w3.cell? ⟨w.heap.size + 1, 1, none⟩ = some (.int .i64 0) := R8.cell_ (i := 1) rfl
    have c82 : w3.cell? ⟨w.heap.size + 1, 2, none⟩ = some (.int .u32 0) := R8.cell_ (i := 2) rfl
    have c83 : w3.cell? ⟨w.heap.size + 1, 3, none⟩ = some (.int .u32 0) := R8.cell_ (i := 3) rfl
    have c84 : w3.cell? ⟨w.heap.size + 1, 4, none⟩ = some (.int .u32 0) := R8.cell_ (i := 4) rfl
    have f80 : w3.frozen? ⟨w.heap.size + 1, 0, none⟩ = false := R8.frozen 0
    have f81 : w3.frozen? ⟨w.heap.size + 1, 1, none⟩ = false := R8.frozen 1
    have f82 : w3.frozen? ⟨w.heap.size + 1, 2, none⟩ = false := R8.frozen 2
    have f83 : w3.frozen? ⟨w.heap.size + 1, 3, none⟩ = false := R8.frozen 3
    have f84 : w3.frozen? ⟨w.heap.size + 1, 4, none⟩ = false := R8.frozen 4
    have HR3 := Lib.hid R8
    have HS3 := Lib.hid (HS.out.trans hO)
    have HM3 := Lib.hid hM
    clear hO R8 hM
    generalize hw : wordAt xs (pc n i) = v at *
    have HW := Lib.hid hw
    clear hw
    go_wp2
    refine post_row_tmp (P := Try.prog) Try.results11 (t := 36) (g := w.heap.size + 1) (cs := #[.int .i64 4, .int .i64 (pc n i), .int .u32 0, .int .u32 0, .int .u32 v]) rfl (five HR3.out _ _ _ _ _) Try.underlying36 rfl (by kernel_rfl) rfl ⟨?_, five_only HS3.out (.inl (by omega)) _ _ _ _ _, ?_⟩
    · simp only [takeVal, HP.out, HW.out]; rfl
    · exact HM3.out.far (five_only (Only.refl (· = w.heap.size + 1) w3) (.inr rfl) _ _ _ _ _) (fun j hj h => by have := HA.out j hj; omega)

/-- A law's lock: its memory, made since w0, ahead of block B, which holds the map. -/
structure Lk (w0 : World) (B : Nat) (p A : Option Addr) (cp : Nat) (n : Int) (w : World) (xs : List Int) : Prop where
  only : Only Nil w0 w
  memo : Memo w p A cp xs
  map : Row w B 30 #[.int .i64 n]
  far : ∀ j, At p j ∨ At A j → w0.heap.size ≤ j ∧ j < B
theorem Lk.keep {w0 w w' : World} {B : Nat} {p A : Option Addr} {cp : Nat} {n : Int} {xs : List Int} (h : Lk w0 B p A cp n w xs) (ho : Only Nil w w') : Lk w0 B p A cp n w' xs :=
  ⟨h.only.trans ho, h.memo.keep ho, h.map.only ho id, h.far⟩
theorem Lk.alloc {w0 w : World} {B : Nat} {p A : Option Addr} {cp : Nat} {n : Int} {xs : List Int} (h : Lk w0 B p A cp n w xs) (o : Obj) : Lk w0 B p A cp n (w.alloc o) xs := h.keep ((Only.refl Nil w).alloc o)
theorem Lk.call {w0 w w' : World} {B : Nat} {p A : Option Addr} {cp : Nat} {n : Int} {xs ys : List Int} (h : Lk w0 B p A cp n w xs) (ho : Only (At A) w w') (hm : Memo w' p A cp ys) : Lk w0 B p A cp n w' ys :=
  ⟨h.only.step ho (fun i hi hA => by have := (h.far i (.inr hA)).1; omega), hm, h.map.only ho (fun hA => by have := (h.far _ (.inr hA)).2; omega), h.far⟩

theorem Memo.mem {w : World} {b : Nat} {A : Option Addr} {cp : Nat} {xs : List Int} (h : Memo w (some ⟨b, 0, none⟩) A cp xs) : Mem w b A cp xs := by
  rcases h with ⟨h, _⟩ | ⟨b', hb, h⟩
  · cases h
  · cases hb; exact h
theorem pc_of {n i : Int} (hn : 1 ≤ n ∧ n ≤ 64) (hi : 0 ≤ i ∧ i < n) : pc n i = 8 + 3 * n + i := if_pos ⟨hn.1, hn.2, hi.1, hi.2⟩
theorem pc_none {n i : Int} (h : ¬ (1 ≤ n ∧ n ≤ 64 ∧ 0 ≤ i ∧ i < n)) : pc n i = -1 := if_neg h
theorem hasP_st {xs : List Int} {n i : Int} (u : Int) (h : there xs (pc n i) = true) : hasP (st xs (pc n i) u) n i = (u != 0) := by
  unfold hasP
  rw [word_st, h]
  rfl
theorem word_far {xs : List Int} {c d : Int} (u : Int) (h : c ≠ d) : wordAt (st xs c u) d = wordAt xs d := by
  unfold wordAt
  rw [there_st]
  cases hd : there xs d
  · rfl
  · unfold st
    cases hc : there xs c
    · rfl
    · simp only [there, decide_eq_true_eq] at hd hc
      simp only [if_true, List.getD]
      rw [List.getElem?_set_ne (by omega)]
theorem hasP_far {xs : List Int} {n i j : Int} (u : Int) (h : pc n i ≠ pc n j) : hasP (st xs (pc n i) u) n j = hasP xs n j := by
  unfold hasP
  rw [word_far u h]
end Go.Proofs.Ytcdndaobdhbplaa
