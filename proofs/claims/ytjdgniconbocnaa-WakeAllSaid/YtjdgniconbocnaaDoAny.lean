/- (*Memory).Do over any memory; the plain functions of its words. -/
import Derived.Test.YtjdgniconbocnaaClone
namespace Go.Proofs.Ytjdgniconbocnaa
open Go.RowKit


def there (xs : List Int) (c : Int) : Bool := decide (0 ≤ c ∧ c < xs.length)
def wordAt (xs : List Int) (c : Int) : Int := if there xs c then xs.getD c.toNat 0 else 0
def doOk (xs : List Int) (k c : Int) : Bool := there xs c && isKind k
def accOf (k c x y o : Int) : Value := .agg #[.int .i64 k, .int .i64 c, .int .u32 x, .int .u32 y, .int .u32 o]
def doVal (xs : List Int) (k c x y : Int) : Value := if doOk xs k c then accOf k c x y (wordAt xs c) else accOf 0 0 0 0 0
def doNew (xs : List Int) (k c x y : Int) : List Int := if doOk xs k c then xs.set c.toNat (leftOf k x y (wordAt xs c)) else xs

theorem doNew_len (xs : List Int) (k c x y : Int) : (doNew xs k c x y).length = xs.length := by
  unfold doNew; split <;> simp

theorem own_set {w' : World} {base g n cap i : Nat} {e : TypeId} {cur : Array Value} {xs : List Int} {u : Int} (h : Row w' g e (cur.setIfInBounds i (.int .u32 u))) (hb : base ≤ g) (hn : n ≤ cap) (hcap : cap ≤ maxLen) (hs : cur.size = cap) (hx : xs.length = n)
    (ht : cur.toList.take n = xs.map (.int .u32)) : w'.ownsRow base e 1 (.slice (some ⟨g, 0, none⟩) n cap) n ((xs.set i u).map (.int .u32)) := by
  refine ⟨by simp [hx], .inr ⟨g, cap, _, rfl, hb, h, hn, hcap, by simp [hs], ?_⟩⟩
  rw [Nat.mul_one, List.map_set, ← ht, Array.toList_setIfInBounds, List.take_set]

/-- Any access at any memory. -/
theorem do_any (b : Nat) (A : Option Addr) (cp : Nat) (xs : List Int) (k c x y o : Int) (w : World) (h : Mem w b A cp xs) :
    Calls Try.prog 27 #[.pointer (some ⟨b, 0, none⟩), .agg #[.int .i64 k, .int .i64 c, .int .u32 x, .int .u32 y, .int .u32 o]] w fun e w' =>
      e = .returned (.tuple #[doVal xs k c x y, .bool (doOk xs k c)]) ∧ Only (At A) w w' ∧ Mem w' b A cp (doNew xs k c x y) := by
  by_cases hc : there xs c = true
  · have hc' := hc
    simp only [there, decide_eq_true_eq] at hc'
    obtain ⟨i, rfl⟩ := Int.eq_ofNat_of_zero_le hc'.1
    have hi : i < xs.length := by omega
    obtain ⟨hdr, own, len⟩ := h
    have hown := own.own
    rcases hown.2 with ⟨_, h0⟩ | ⟨g, cap, cur, hv, hg0, hg, hn, hcap, hsz, ht⟩
    · omega
    · injection hv with h1 h2 h3
      subst h1 h3
      have hr : Row w g 31 cur := hg
      have hcv : cur[i]? = some (.int .u32 (wordAt xs i)) := by
        have e1 : (cur.toList.take (xs.length * 1))[i]? = (xs.map (Value.int .u32))[i]? := by rw [ht]
        rw [List.getElem?_take, if_pos (by omega), List.getElem?_map, List.getElem?_eq_getElem hi] at e1
        simp only [Option.map_some, Array.getElem?_toList] at e1
        rw [e1]
        simp [wordAt, hc, List.getD, List.getElem?_eq_getElem hi]
      have hAt : ∀ j, At (some (⟨g, 0, none⟩ : Addr)) j ↔ j = g := fun j => ⟨fun ⟨a, ha, hj⟩ => by injection ha with ha; subst ha; exact hj.symm, fun hj => ⟨_, rfl, hj.symm⟩⟩
      have hbg : b ≠ g := by
        rintro rfl
        have := (hdr.same hr).1
        exact absurd this (by decide)
      cases hk : isKind k with
      | true =>
        refine (do_in b g xs.length cp i cur k x y o (wordAt xs i) w hdr hr hi hcv hk).mono fun e w' ⟨he, hO, hR⟩ => ?_
        have hok : doOk xs k i = true := by simp [doOk, hc, hk]
        refine ⟨by rw [he]; simp [doVal, hok, accOf], hO.mono (fun j _ hj => (hAt j).2 hj), ?_⟩
        have e2 : doNew xs k i x y = xs.set i (leftOf k x y (wordAt xs i)) := by simp [doNew, hok]
        rw [e2]
        refine ⟨?_, ⟨?_, (by rw [List.length_set]; exact own.nil), own.base⟩, by simpa using len⟩
        · rw [List.length_set]; exact hdr.only hO hbg
        · rw [List.length_set]; exact own_set hR (Nat.zero_le _) hn hcap (by omega) rfl (by rw [Nat.mul_one] at ht; exact ht)
      | false =>
        refine (do_bad b g xs.length cp i cur k x y o (wordAt xs i) w hdr hr hi hcv hk).mono fun e w' ⟨he, hO⟩ => ?_
        have hok : doOk xs k i = false := by simp [doOk, hk]
        refine ⟨by rw [he]; simp [doVal, hok, accOf], hO.mono (fun _ _ hj => hj.elim), ?_⟩
        rw [show doNew xs k i x y = xs by simp [doNew, hok]]
        exact Mem.only ⟨hdr, own, len⟩ hO id (fun _ _ => id)
  · have hc' := hc
    simp only [there, decide_eq_true_eq] at hc'
    have hok : doOk xs k c = false := by simp [doOk, hc]
    refine (do_out b A xs.length cp k c x y o w h.hdr (by omega)).mono fun e w' ⟨he, hO⟩ => ?_
    refine ⟨by rw [he]; simp [doVal, hok, accOf], hO.mono (fun _ _ hj => hj.elim), ?_⟩
    rw [show doNew xs k c x y = xs by simp [doNew, hok]]
    exact h.only hO id (fun _ _ => id)

/-- The access's Old: what was there; 0 where nothing is done. -/
theorem doVal_form (xs : List Int) (k c x y : Int) : ∃ k' c' x' y', doVal xs k c x y = .agg #[.int .i64 k', .int .i64 c', .int .u32 x', .int .u32 y', .int .u32 (if doOk xs k c then wordAt xs c else 0)] := by
  unfold doVal accOf
  split
  · exact ⟨k, c, x, y, rfl⟩
  · exact ⟨0, 0, 0, 0, rfl⟩

theorem oldAt (xs : List Int) (k c : Int) (hk : isKind k = true) : (if doOk xs k c then wordAt xs c else 0) = wordAt xs c := by
  unfold doOk wordAt
  cases h : there xs c <;> simp [hk]

theorem set_same {xs : List Int} {c : Int} : (if there xs c then xs.set c.toNat (wordAt xs c) else xs) = xs := by
  split
  · rename_i ht
    have ht' := ht
    simp only [there, decide_eq_true_eq] at ht'
    have hi : c.toNat < xs.length := by omega
    simp [wordAt, ht, List.getD, List.getElem?_eq_getElem hi]
  · rfl

theorem doNew_load (xs : List Int) (c x y : Int) : doNew xs 1 c x y = xs := by
  have e := set_same (xs := xs) (c := c)
  unfold doNew doOk
  simpa [isKind, leftOf] using e

/-- A word of an owned list: where it lies, and what a store into it leaves. -/
theorem Own.row {w : World} {base : Nat} {A : Option Addr} {c : Nat} {xs : List Int} (h : Own w base A c xs) {i : Nat} (hi : i < xs.length) :
    ∃ g cur, A = some ⟨g, 0, none⟩ ∧ base ≤ g ∧ Row w g 31 cur ∧ cur[i]? = some (.int .u32 (xs.getD i 0)) ∧
      ∀ (w' : World) (u : Int), Row w' g 31 (cur.setIfInBounds i (.int .u32 u)) → Own w' base A c (xs.set i u) := by
  obtain ⟨own, nil, bs⟩ := h
  rcases own.2 with ⟨_, h0⟩ | ⟨g, cap, cur, hv, hg0, hg, hn, hcap, hsz, ht⟩
  · omega
  · injection hv with h1 h2 h3
    subst h1 h3
    refine ⟨g, cur, rfl, hg0, hg, ?_, fun w' u hr => ⟨?_, (by rw [List.length_set]; exact nil), bs⟩⟩
    · have e1 : (cur.toList.take (xs.length * 1))[i]? = (xs.map (Value.int .u32))[i]? := by rw [ht]
      rw [List.getElem?_take, if_pos (by omega), List.getElem?_map, List.getElem?_eq_getElem hi] at e1
      simp only [Option.map_some, Array.getElem?_toList] at e1
      rw [e1]
      simp [List.getD, List.getElem?_eq_getElem hi]
    · rw [List.length_set]
      exact own_set hr hg0 hn hcap (by omega) rfl (by rw [Nat.mul_one] at ht; exact ht)


/-- A word put where there is a cell. -/
def st (xs : List Int) (c u : Int) : List Int := if there xs c then xs.set c.toNat u else xs
theorem there_st (xs : List Int) (c u d : Int) : there (st xs c u) d = there xs d := by unfold st there; split <;> simp
theorem st_len (xs : List Int) (c u : Int) : (st xs c u).length = xs.length := by unfold st; split <;> simp
theorem word_st (xs : List Int) (c u : Int) : wordAt (st xs c u) c = if there xs c then u else 0 := by
  unfold wordAt
  rw [there_st]
  split
  · rename_i h
    have h' := h
    simp only [there, decide_eq_true_eq] at h'
    simp only [st, h, if_true, List.getD]
    rw [List.getElem?_set_self (by omega)]
    rfl
  · rfl
theorem st_st (xs : List Int) (c u v : Int) : st (st xs c u) c v = st xs c v := by
  unfold st
  cases h : there xs c
  · simp [h]
  · have h2 : there (xs.set c.toNat u) c = true := by simpa [there] using h
    simp [h2]
theorem st_word (xs : List Int) (c : Int) : st xs c (wordAt xs c) = xs := set_same
theorem doNew_st (xs : List Int) (k c x y : Int) (hk : isKind k = true) : doNew xs k c x y = st xs c (leftOf k x y (wordAt xs c)) := by
  unfold doNew st doOk
  simp [hk]
theorem word_wf {xs : List Int} (h : ∀ n ∈ xs, (Lit.int .u32 n).wf = true) (c : Int) : 0 ≤ wordAt xs c ∧ wordAt xs c < 4294967296 := by
  unfold wordAt
  split
  · rename_i ht
    simp only [there, decide_eq_true_eq] at ht
    have hi : c.toNat < xs.length := by omega
    simp only [List.getD, List.getElem?_eq_getElem hi, Option.getD_some]
    exact wf_u32 (h _ (List.getElem_mem hi))
  · omega
theorem isRow_held {w : World} {A : Option Addr} {len cap : Nat} {zs : List Int} (h : IsRow .u32 w A len cap zs) : Held w A len cap zs := ⟨h.len_, h.nil, h.ints⟩
/-- A word of a list that came in, at a later world. -/
theorem isRow_cell {w w' : World} {A : Option Addr} {len cap : Nat} {zs : List Int} {c : Int} (h : IsRow .u32 w A len cap zs) (ho : Only Nil w w') (hc : there zs c = true) :
    ∃ b o, A = some ⟨b, o, none⟩ ∧ 0 ≤ c ∧ c < (len : Int) ∧ w'.cell? ⟨b, o + c.toNat, none⟩ = some (.int .u32 (wordAt zs c)) := by
  have hc' := hc
  simp only [there, decide_eq_true_eq] at hc'
  obtain ⟨i, rfl⟩ := Int.eq_ofNat_of_zero_le hc'.1
  obtain ⟨b, o, hA, hb, hcell⟩ := h.ints (by omega)
  refine ⟨b, o, hA, by omega, by have := h.len_; omega, ?_⟩
  rw [Int.toNat_natCast, ho.cell hb id, hcell i (by omega)]
  simp [wordAt, hc]
end Go.Proofs.Ytjdgniconbocnaa
