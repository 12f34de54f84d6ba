import Derived.Test.YtaeninikaalkjaaGreatChecked
import Derived.Test.YtaeninikaalkjaaGreatH5
import Derived.Test.YtaeninikaalkjaaGreatH1
namespace Go.Proofs.YtaeninikaalkjaaGreat
open Go.RowKit
def there (xs : List Int) (c : Int) : Bool := decide (0 ≤ c ∧ c < xs.length)
def wordAt (xs : List Int) (c : Int) : Int := if there xs c then xs.getD c.toNat 0 else 0
def doOk (xs : List Int) (k c : Int) : Bool := there xs c && isKind k
def accOf (k c x y o : Int) : Value := .agg #[.int .i64 k, .int .i64 c, .int .u32 x, .int .u32 y, .int .u32 o]
def doVal (xs : List Int) (k c x y : Int) : Value := if doOk xs k c then accOf k c x y (wordAt xs c) else accOf 0 0 0 0 0
def doNew (xs : List Int) (k c x y : Int) : List Int := if doOk xs k c then xs.set c.toNat (leftOf k x y (wordAt xs c)) else xs
theorem doNew_len (xs : List Int) (k c x y : Int) : (doNew xs k c x y).length = xs.length := by
  unfold doNew; split <;> simp
theorem own_set {w' : World} {base g n cap i : Nat} {e : TypeId} {cur : Array Value} {xs : List Int} {u : Int} (h : Row w' g e (cur.setIfInBounds i (.int .u32 u))) (hb : base ≤ g) (hn : n ≤ cap) (hcap : cap ≤ maxLen) (hs : cur.size = cap) (hx : xs.length = n)
    (ht : cur.toList.take n = xs.map (.int .u32)) : w'.ownsRow base e 1 (.slice (some ⟨g, 0, none⟩) n cap) n ((xs.set i u).map (.int .u32)) := by
  refine ⟨by simp [hx], .inr ⟨g, cap, _, rfl, hb, h, hn, hcap, by simp [hs], ?_⟩⟩
  rw [Nat.mul_one, List.map_set, ← ht, Array.toList_setIfInBounds, List.take_set]
theorem do_any (b : Nat) (A : Option Addr) (cp : Nat) (xs : List Int) (k c x y o : Int) (w : World) (h : Mem w b A cp xs) :
    Calls Tryz.prog 49 #[.pointer (some ⟨b, 0, none⟩), .agg #[.int .i64 k, .int .i64 c, .int .u32 x, .int .u32 y, .int .u32 o]] w fun e w' =>
      e = .returned (.tuple #[doVal xs k c x y, .bool (doOk xs k c)]) ∧ Only (At A) w w' ∧ Mem w' b A cp (doNew xs k c x y) := by
  by_cases hc : there xs c = true
  · have hc' := hc
    simp only [there, decide_eq_true_eq] at hc'
    obtain ⟨i, rfl⟩ := Int.eq_ofNat_of_zero_le hc'.1
    have hi : i < xs.length := by omega
    obtain ⟨hdr, own, len⟩ := h
    have hown := own.own
    rcases hown.2 with ⟨_, h0⟩ | ⟨g, cap, cur, hv, hg0, hg, hn, hcap, hsz, ht⟩
    · omega
    · injection hv with h1 h2 h3
      subst h1 h3
      have hr : Row w g 23 cur := hg
      have hcv : cur[i]? = some (.int .u32 (wordAt xs i)) := by
        have e1 : (cur.toList.take (xs.length * 1))[i]? = (xs.map (Value.int .u32))[i]? := by rw [ht]
        rw [List.getElem?_take, if_pos (by omega), List.getElem?_map, List.getElem?_eq_getElem hi] at e1
        simp only [Option.map_some, Array.getElem?_toList] at e1
        rw [e1]
        simp [wordAt, hc, List.getD, List.getElem?_eq_getElem hi]
      have hAt : ∀ j, At (some (⟨g, 0, none⟩ : Addr)) j ↔ j = g := fun j => ⟨fun ⟨a, ha, hj⟩ => by injection ha with ha; subst ha; exact hj.symm, fun hj => ⟨_, rfl, hj.symm⟩⟩
      have hbg : b ≠ g := by
        rintro rfl
        have := (hdr.same hr).1
        exact absurd this (by decide)
      cases hk : isKind k with
      | true =>
        refine (do_in b g xs.length cp i cur k x y o (wordAt xs i) w hdr hr hi hcv hk).mono fun e w' ⟨he, hO, hR⟩ => ?_
        have hok : doOk xs k i = true := by simp [doOk, hc, hk]
        refine ⟨by rw [he]; simp [doVal, hok, accOf], hO.mono (fun j _ hj => (hAt j).2 hj), ?_⟩
        have e2 : doNew xs k i x y = xs.set i (leftOf k x y (wordAt xs i)) := by simp [doNew, hok]
        rw [e2]
        refine ⟨?_, ⟨?_, (by rw [List.length_set]; exact own.nil), own.base⟩, by simpa using len⟩
        · rw [List.length_set]; exact hdr.only hO hbg
        · rw [List.length_set]; exact own_set hR (Nat.zero_le _) hn hcap (by omega) rfl (by rw [Nat.mul_one] at ht; exact ht)
      | false =>
        refine (do_bad b g xs.length cp i cur k x y o (wordAt xs i) w hdr hr hi hcv hk).mono fun e w' ⟨he, hO⟩ => ?_
        have hok : doOk xs k i = false := by simp [doOk, hk]
        refine ⟨by rw [he]; simp [doVal, hok, accOf], hO.mono (fun _ _ hj => hj.elim), ?_⟩
        rw [show doNew xs k i x y = xs by simp [doNew, hok]]
        exact Mem.only ⟨hdr, own, len⟩ hO id (fun _ _ => id)
  · have hc' := hc
    simp only [there, decide_eq_true_eq] at hc'
    have hok : doOk xs k c = false := by simp [doOk, hc]
    refine (do_out b A xs.length cp k c x y o w h.hdr (by omega)).mono fun e w' ⟨he, hO⟩ => ?_
    refine ⟨by rw [he]; simp [doVal, hok, accOf], hO.mono (fun _ _ hj => hj.elim), ?_⟩
    rw [show doNew xs k c x y = xs by simp [doNew, hok]]
    exact h.only hO id (fun _ _ => id)
theorem doVal_form (xs : List Int) (k c x y : Int) : ∃ k' c' x' y', doVal xs k c x y = .agg #[.int .i64 k', .int .i64 c', .int .u32 x', .int .u32 y', .int .u32 (if doOk xs k c then wordAt xs c else 0)] := by
  unfold doVal accOf
  split
  · exact ⟨k, c, x, y, rfl⟩
  · exact ⟨0, 0, 0, 0, rfl⟩
theorem oldAt (xs : List Int) (k c : Int) (hk : isKind k = true) : (if doOk xs k c then wordAt xs c else 0) = wordAt xs c := by
  unfold doOk wordAt
  cases h : there xs c <;> simp [hk]
theorem set_same {xs : List Int} {c : Int} : (if there xs c then xs.set c.toNat (wordAt xs c) else xs) = xs := by
  split
  · rename_i ht
    have ht' := ht
    simp only [there, decide_eq_true_eq] at ht'
    have hi : c.toNat < xs.length := by omega
    simp [wordAt, ht, List.getD, List.getElem?_eq_getElem hi]
  · rfl
theorem doNew_load (xs : List Int) (c x y : Int) : doNew xs 1 c x y = xs := by
  have e := set_same (xs := xs) (c := c)
  unfold doNew doOk
  simpa [isKind, leftOf] using e
theorem Own.row {w : World} {base : Nat} {A : Option Addr} {c : Nat} {xs : List Int} (h : Own w base A c xs) {i : Nat} (hi : i < xs.length) :
    ∃ g cur, A = some ⟨g, 0, none⟩ ∧ base ≤ g ∧ Row w g 23 cur ∧ cur[i]? = some (.int .u32 (xs.getD i 0)) ∧
      ∀ (w' : World) (u : Int), Row w' g 23 (cur.setIfInBounds i (.int .u32 u)) → Own w' base A c (xs.set i u) := by
  obtain ⟨own, nil, bs⟩ := h
  rcases own.2 with ⟨_, h0⟩ | ⟨g, cap, cur, hv, hg0, hg, hn, hcap, hsz, ht⟩
  · omega
  · injection hv with h1 h2 h3
    subst h1 h3
    refine ⟨g, cur, rfl, hg0, hg, ?_, fun w' u hr => ⟨?_, (by rw [List.length_set]; exact nil), bs⟩⟩
    · have e1 : (cur.toList.take (xs.length * 1))[i]? = (xs.map (Value.int .u32))[i]? := by rw [ht]
      rw [List.getElem?_take, if_pos (by omega), List.getElem?_map, List.getElem?_eq_getElem hi] at e1
      simp only [Option.map_some, Array.getElem?_toList] at e1
      rw [e1]
      simp [List.getD, List.getElem?_eq_getElem hi]
    · rw [List.length_set]
      exact own_set hr hg0 hn hcap (by omega) rfl (by rw [Nat.mul_one] at ht; exact ht)
def st (xs : List Int) (c u : Int) : List Int := if there xs c then xs.set c.toNat u else xs
theorem there_st (xs : List Int) (c u d : Int) : there (st xs c u) d = there xs d := by unfold st there; split <;> simp
theorem st_len (xs : List Int) (c u : Int) : (st xs c u).length = xs.length := by unfold st; split <;> simp
theorem word_st (xs : List Int) (c u : Int) : wordAt (st xs c u) c = if there xs c then u else 0 := by
  unfold wordAt
  rw [there_st]
  split
  · rename_i h
    have h' := h
    simp only [there, decide_eq_true_eq] at h'
    simp only [st, h, if_true, List.getD]
    rw [List.getElem?_set_self (by omega)]
    rfl
  · rfl
theorem st_word (xs : List Int) (c : Int) : st xs c (wordAt xs c) = xs := set_same
theorem doNew_st (xs : List Int) (k c x y : Int) (hk : isKind k = true) : doNew xs k c x y = st xs c (leftOf k x y (wordAt xs c)) := by
  unfold doNew st doOk
  simp [hk]
theorem word_wf {xs : List Int} (h : ∀ n ∈ xs, (Lit.int .u32 n).wf = true) (c : Int) : 0 ≤ wordAt xs c ∧ wordAt xs c < 4294967296 := by
  unfold wordAt
  split
  · rename_i ht
    simp only [there, decide_eq_true_eq] at ht
    have hi : c.toNat < xs.length := by omega
    simp only [List.getD, List.getElem?_eq_getElem hi, Option.getD_some]
    exact wf_u32 (h _ (List.getElem_mem hi))
  · omega
theorem isRow_held {w : World} {A : Option Addr} {len cap : Nat} {zs : List Int} (h : IsRow .u32 w A len cap zs) : Held w A len cap zs := ⟨h.len_, h.nil, h.ints⟩
end Go.Proofs.YtaeninikaalkjaaGreat
namespace Go.Proofs.YtaeninikaalkjaaGreat
open Go.RowKit
def okN (n : Int) : Bool := decide (1 ≤ n) && decide (n ≤ 64)
theorem okN_yes {n : Int} (h : 1 ≤ n ∧ n ≤ 64) : okN n = true := by simp [okN, h.1, h.2]
theorem okN_no {n : Int} (h : ¬ (1 ≤ n ∧ n ≤ 64)) : okN n = false := by
  simp only [okN, Bool.and_eq_false_iff, decide_eq_false_iff_not]; omega
def cellI (n row i : Int) : Int := if 1 ≤ n ∧ n ≤ 64 ∧ 0 ≤ i ∧ i < n then 8 + row * n + i else -1
def sizeI (n : Int) : Int := if 1 ≤ n ∧ n ≤ 64 then 8 + 4 * n else 0
theorem ret_int {k : IntKind} {a b : Int} (h : a = b) : Ending.returned (.int k a) = .returned (.int k b) := by rw [h]
theorem isCount_any (n : Int) (w : World) :
    Calls Tryz.prog 80 #[.int .i64 n] w fun e w' => e = .returned (.bool (okN n)) ∧ w = w' := by
  by_cases h1 : 1 ≤ n
  · by_cases h2 : n ≤ 64
    · rw [okN_yes ⟨h1, h2⟩]
      go_enter Tryz.func80, Tryz.ntmps80
      go_wp2
      go_ret
      exact ⟨rfl, rfl⟩
    · rw [okN_no (fun h => h2 h.2)]
      go_enter Tryz.func80, Tryz.ntmps80
      go_wp2
      go_ret
      exact ⟨rfl, rfl⟩
  · rw [okN_no (fun h => h1 h.1)]
    go_enter Tryz.func80, Tryz.ntmps80
    go_wp2
    go_ret
    exact ⟨rfl, rfl⟩
theorem cell_row (n row i : Int) (w : World) (hr : row = 0 ∨ row = 1 ∨ row = 2 ∨ row = 3) :
    Calls Tryz.prog 107 #[.agg #[.int .i64 n], .int .i64 row, .int .i64 i] w fun e w' => e = .returned (.int .i64 (cellI n row i)) ∧ Only Nil w w' := by
  by_cases hn : 1 ≤ n ∧ n ≤ 64
  · by_cases h0 : 0 ≤ i
    · by_cases h1 : i < n
      · have hc : cellI n row i = 8 + row * n + i := if_pos ⟨hn.1, hn.2, h0, h1⟩
        rw [hc]
        clear hc
        have HK := Lib.hid (okN_yes hn)
        obtain ⟨n1, n2⟩ := hn
        rcases hr with rfl | rfl | rfl | rfl
        all_goals
          go_enter Tryz.func107, Tryz.ntmps107
          go_wp2_with fail
          refine (isCount_any n _).mono ?_
          rw [HK.out]
          rintro e w1 ⟨rfl, rfl⟩
          go_wp2
          go_ret
          exact ⟨ret_int (by omega), by (repeat' (first | (with_reducible exact Only.refl _ _) | (with_reducible assumption) | (with_reducible refine Only.setCell ?_ ?_ _) | (with_reducible refine Only.drewN ?_ _) | (with_reducible refine Only.drew ?_) | (with_reducible refine Only.alloc ?_ _) | (left; simp; done) | (left; simp; omega) | (right; rfl)))⟩
      · have hc : cellI n row i = -1 := if_neg (fun h => h1 h.2.2.2)
        rw [hc]
        clear hc hr
        have HK := Lib.hid (okN_yes hn)
        clear hn
        go_enter Tryz.func107, Tryz.ntmps107
        go_wp2_with fail
        refine (isCount_any n _).mono ?_
        rw [HK.out]
        rintro e w1 ⟨rfl, rfl⟩
        go_wp2
        go_ret
        exact ⟨rfl, by (repeat' (first | (with_reducible exact Only.refl _ _) | (with_reducible assumption) | (with_reducible refine Only.setCell ?_ ?_ _) | (with_reducible refine Only.drewN ?_ _) | (with_reducible refine Only.drew ?_) | (with_reducible refine Only.alloc ?_ _) | (left; simp; done) | (left; simp; omega) | (right; rfl)))⟩
    · have hc : cellI n row i = -1 := if_neg (fun h => h0 h.2.2.1)
      rw [hc]
      clear hc hr
      have HK := Lib.hid (okN_yes hn)
      clear hn
      go_enter Tryz.func107, Tryz.ntmps107
      go_wp2_with fail
      refine (isCount_any n _).mono ?_
      rw [HK.out]
      rintro e w1 ⟨rfl, rfl⟩
      go_wp2
      go_ret
      exact ⟨rfl, by (repeat' (first | (with_reducible exact Only.refl _ _) | (with_reducible assumption) | (with_reducible refine Only.setCell ?_ ?_ _) | (with_reducible refine Only.drewN ?_ _) | (with_reducible refine Only.drew ?_) | (with_reducible refine Only.alloc ?_ _) | (left; simp; done) | (left; simp; omega) | (right; rfl)))⟩
  · have hc : cellI n row i = -1 := if_neg (fun h => hn ⟨h.1, h.2.1⟩)
    rw [hc]
    clear hc hr
    have HK := Lib.hid (okN_no hn)
    clear hn
    go_enter Tryz.func107, Tryz.ntmps107
    go_wp2_with fail
    refine (isCount_any n _).mono ?_
    rw [HK.out]
    rintro e w1 ⟨rfl, rfl⟩
    go_wp2
    go_ret
    exact ⟨rfl, by (repeat' (first | (with_reducible exact Only.refl _ _) | (with_reducible assumption) | (with_reducible refine Only.setCell ?_ ?_ _) | (with_reducible refine Only.drewN ?_ _) | (with_reducible refine Only.drew ?_) | (with_reducible refine Only.alloc ?_ _) | (left; simp; done) | (left; simp; omega) | (right; rfl)))⟩
end Go.Proofs.YtaeninikaalkjaaGreat
set_option linter.unusedVariables false
set_option linter.unusedSimpArgs false
namespace Go.Proofs.YtaeninikaalkjaaGreat
open Go.RowKit
def pc (n i : Int) : Int := cellI n 3 i
def hasP (xs : List Int) (n i : Int) : Bool := wordAt xs (pc n i) != 0
theorem five {w : World} {g : Nat} {t : TypeId} {a0 a1 a2 a3 a4 : Value} (h : Row w g t #[a0, a1, a2, a3, a4]) (v0 v1 v2 v3 v4 : Value) :
    Row (((((w.setCell ⟨g, 0, none⟩ v0).setCell ⟨g, 1, none⟩ v1).setCell ⟨g, 2, none⟩ v2).setCell ⟨g, 3, none⟩ v3).setCell ⟨g, 4, none⟩ v4) g t #[v0, v1, v2, v3, v4] := by
  simpa using ((((h.set 0 v0).set 1 v1).set 2 v2).set 3 v3).set 4 v4
theorem five_only {S : Nat → Prop} {w w' : World} (h : Only S w w') {g : Nat} (hg : w.heap.size ≤ g ∨ S g) (v0 v1 v2 v3 v4 : Value) :
    Only S w (((((w'.setCell ⟨g, 0, none⟩ v0).setCell ⟨g, 1, none⟩ v1).setCell ⟨g, 2, none⟩ v2).setCell ⟨g, 3, none⟩ v3).setCell ⟨g, 4, none⟩ v4) :=
  ((((h.setCell (p := ⟨g, 0, none⟩) hg v0).setCell (p := ⟨g, 1, none⟩) hg v1).setCell (p := ⟨g, 2, none⟩) hg v2).setCell (p := ⟨g, 3, none⟩) hg v3).setCell (p := ⟨g, 4, none⟩) hg v4
def Memo (w : World) (p A : Option Addr) (cp : Nat) (xs : List Int) : Prop := (p = none ∧ xs = [] ∧ A = none) ∨ ∃ b, p = some ⟨b, 0, none⟩ ∧ Mem w b A cp xs
theorem Memo.of {w : World} {b : Nat} {A : Option Addr} {cp : Nat} {xs : List Int} (h : Mem w b A cp xs) : Memo w (some ⟨b, 0, none⟩) A cp xs := .inr ⟨b, rfl, h⟩
theorem Memo.far {w w' : World} {p A : Option Addr} {cp : Nat} {xs : List Int} {S : Nat → Prop} (h : Memo w p A cp xs) (ho : Only S w w') (hS : ∀ j, At p j ∨ At A j → ¬ S j) : Memo w' p A cp xs := by
  rcases h with h | ⟨b, rfl, h⟩
  · exact .inl h
  · exact .inr ⟨b, rfl, h.only ho (hS b (.inl ⟨_, rfl, rfl⟩)) (fun j hj => hS j (.inr hj))⟩
theorem Memo.keep {w w' : World} {p A : Option Addr} {cp : Nat} {xs : List Int} (h : Memo w p A cp xs) (ho : Only Nil w w') : Memo w' p A cp xs := h.far ho (fun _ _ => id)
theorem Memo.lt {w : World} {p A : Option Addr} {cp : Nat} {xs : List Int} (h : Memo w p A cp xs) : ∀ j, At p j ∨ At A j → j < w.heap.size := by
  rcases h with ⟨rfl, _, rfl⟩ | ⟨b, rfl, h⟩
  · rintro j (⟨a, h, _⟩ | ⟨a, h, _⟩) <;> cases h
  · rintro j (⟨a, h2, rfl⟩ | h2)
    · cases h2; exact h.hdr.lt
    · exact h.own.lt j h2
theorem do_memo (p A : Option Addr) (cp : Nat) (xs : List Int) (k c x y o : Int) (w : World) (h : Memo w p A cp xs) :
    Calls Tryz.prog 49 #[.pointer p, .agg #[.int .i64 k, .int .i64 c, .int .u32 x, .int .u32 y, .int .u32 o]] w fun e w' =>
      e = .returned (.tuple #[doVal xs k c x y, .bool (doOk xs k c)]) ∧ Only (At A) w w' ∧ Memo w' p A cp (doNew xs k c x y) := by
  rcases h with ⟨rfl, rfl, rfl⟩ | ⟨b, rfl, h⟩
  · have ht : there [] c = false := by
      have : ¬ (0 ≤ c ∧ c < ((0 : Nat) : Int)) := by omega
      simp only [there, List.length_nil, decide_eq_false_iff_not]; exact this
    have hok : doOk [] k c = false := by simp [doOk, ht]
    refine (do_nil k c x y o w).mono fun e w' ⟨he, hO⟩ => ⟨by rw [he]; simp [doVal, hok, accOf], hO.mono (fun _ _ h => h.elim), .inl ⟨rfl, by simp [doNew, hok], rfl⟩⟩
  · exact (do_any b A cp xs k c x y o w h).mono fun e w' ⟨he, hO, hM⟩ => ⟨he, hO, .inr ⟨b, rfl, hM⟩⟩
def takeVal (xs : List Int) (n i : Int) : Value := if hasP xs n i then accOf 4 (pc n i) 0 0 (wordAt xs (pc n i)) else accOf 0 0 0 0 0
theorem hasP_there {xs : List Int} {n i : Int} (h : hasP xs n i = true) : there xs (pc n i) = true := by
  unfold hasP wordAt at h
  cases ht : there xs (pc n i)
  · rw [ht] at h; simp at h
  · rfl
theorem st_none {xs : List Int} {n i : Int} (h : hasP xs n i = false) : st xs (pc n i) 0 = xs := by
  have hw : wordAt xs (pc n i) = 0 := by simpa [hasP] using h
  have := st_word xs (pc n i)
  rwa [hw] at this
structure Lk (w0 : World) (B : Nat) (p A : Option Addr) (cp : Nat) (n : Int) (w : World) (xs : List Int) : Prop where
  only : Only Nil w0 w
  memo : Memo w p A cp xs
  map : Row w B 37 #[.int .i64 n]
  far : ∀ j, At p j ∨ At A j → w0.heap.size ≤ j ∧ j < B
theorem Lk.keep {w0 w w' : World} {B : Nat} {p A : Option Addr} {cp : Nat} {n : Int} {xs : List Int} (h : Lk w0 B p A cp n w xs) (ho : Only Nil w w') : Lk w0 B p A cp n w' xs :=
  ⟨h.only.trans ho, h.memo.keep ho, h.map.only ho id, h.far⟩
theorem Lk.alloc {w0 w : World} {B : Nat} {p A : Option Addr} {cp : Nat} {n : Int} {xs : List Int} (h : Lk w0 B p A cp n w xs) (o : Obj) : Lk w0 B p A cp n (w.alloc o) xs := h.keep ((Only.refl Nil w).alloc o)
theorem Lk.call {w0 w w' : World} {B : Nat} {p A : Option Addr} {cp : Nat} {n : Int} {xs ys : List Int} (h : Lk w0 B p A cp n w xs) (ho : Only (At A) w w') (hm : Memo w' p A cp ys) : Lk w0 B p A cp n w' ys :=
  ⟨h.only.step ho (fun i hi hA => by have := (h.far i (.inr hA)).1; omega), hm, h.map.only ho (fun hA => by have := (h.far _ (.inr hA)).2; omega), h.far⟩
theorem Memo.mem {w : World} {b : Nat} {A : Option Addr} {cp : Nat} {xs : List Int} (h : Memo w (some ⟨b, 0, none⟩) A cp xs) : Mem w b A cp xs := by
  rcases h with ⟨h, _⟩ | ⟨b', hb, h⟩
  · cases h
  · cases hb; exact h
theorem word_far {xs : List Int} {c d : Int} (u : Int) (h : c ≠ d) : wordAt (st xs c u) d = wordAt xs d := by
  unfold wordAt
  rw [there_st]
  cases hd : there xs d
  · rfl
  · unfold st
    cases hc : there xs c
    · rfl
    · simp only [there, decide_eq_true_eq] at hd hc
      simp only [if_true, List.getD]
      rw [List.getElem?_set_ne (by omega)]
theorem five_far {w : World} {g q : Nat} {t : TypeId} {cs : Array Value} (h : Row w q t cs) (hq : q ≠ g) (v0 v1 v2 v3 v4 : Value) :
    Row (((((w.setCell ⟨g, 0, none⟩ v0).setCell ⟨g, 1, none⟩ v1).setCell ⟨g, 2, none⟩ v2).setCell ⟨g, 3, none⟩ v3).setCell ⟨g, 4, none⟩ v4) q t cs :=
  h.only (five_only (Only.refl (· = g) w) (.inr rfl) v0 v1 v2 v3 v4) hq
theorem takeVal_form (xs : List Int) (n i : Int) : ∃ k c x y o, takeVal xs n i = .agg #[.int .i64 k, .int .i64 c, .int .u32 x, .int .u32 y, .int .u32 o] := by
  unfold takeVal accOf
  split
  · exact ⟨_, _, _, _, _, rfl⟩
  · exact ⟨_, _, _, _, _, rfl⟩
end Go.Proofs.YtaeninikaalkjaaGreat
set_option linter.unusedVariables false
set_option linter.unusedSimpArgs false
namespace Go.Proofs.YtaeninikaalkjaaGreat
open Go.RowKit
def wc (n i : Int) : Int := cellI n 2 i
def Words (xs : List Int) : Prop := ∀ n ∈ xs, (Lit.int .u32 n).wf = true
structure StepR where
  next : Int
  acc : Value
  seen : Bool
  done : Bool
  xs : List Int
def stepI (xs : List Int) (n mode i s c : Int) (q : Int → Bool) : StepR :=
  if mode ≠ 2 then ⟨0, doVal xs 1 c 0 0, q (wordAt xs c), q (wordAt xs c), xs⟩
  else if s = 1 then ⟨2, doVal xs 2 (wc n i) ((c + 1) % 4294967296) 0, false, false, st xs (wc n i) ((c + 1) % 4294967296)⟩
  else if s = 2 then ⟨if q (wordAt xs c) then 4 else 3, doVal xs 1 c 0 0, q (wordAt xs c), false, xs⟩
  else if s = 3 then ⟨if hasP xs n i then 2 else 3, takeVal xs n i, false, false, st xs (pc n i) 0⟩
  else if s = 4 then ⟨0, doVal xs 2 (wc n i) 0 0, false, true, st xs (wc n i) 0⟩
  else ⟨if q (wordAt xs c) then 0 else 1, doVal xs 1 c 0 0, q (wordAt xs c), q (wordAt xs c), xs⟩
def stuckB (xs : List Int) (n mode i s : Int) : Bool := (mode == 2) && (s == 3) && !hasP xs n i
section
variable {xs : List Int} {n mode i s c : Int} {q : Int → Bool}
theorem stepI_spin (h : mode ≠ 2) : stepI xs n mode i s c q = ⟨0, doVal xs 1 c 0 0, q (wordAt xs c), q (wordAt xs c), xs⟩ := if_pos h
theorem stepI_2 : stepI xs n 2 i 2 c q = ⟨if q (wordAt xs c) then 4 else 3, doVal xs 1 c 0 0, q (wordAt xs c), false, xs⟩ := rfl
theorem stepI_3 : stepI xs n 2 i 3 c q = ⟨if hasP xs n i then 2 else 3, takeVal xs n i, false, false, st xs (pc n i) 0⟩ := rfl
theorem stepI_0 (h1 : s ≠ 1) (h2 : s ≠ 2) (h3 : s ≠ 3) (h4 : s ≠ 4) : stepI xs n 2 i s c q = ⟨if q (wordAt xs c) then 0 else 1, doVal xs 1 c 0 0, q (wordAt xs c), q (wordAt xs c), xs⟩ := by
  unfold stepI
  rw [if_neg (by simp), if_neg h1, if_neg h2, if_neg h3, if_neg h4]
end
theorem post_two_tmps {P : Program} {fn : Func} {R : Ending → World → Prop} {a : Act} {w : World} {p q u v : Tmp} {ty ty' : TypeId} (h : fn.results = #[.cell p ty, .cell q ty', .tmp u, .tmp v]) {g g' : Nat} {t t' : TypeId} {cs cs' : Array Value} {d d' : TypeDesc}
    (hp : a.tmps.getD p undef = .pointer (some ⟨g, 0, none⟩)) (hg : Row w g t cs) (hu : P.underlying ty = some d) (hd : (match d with | .struct _ | .array _ _ => true | _ => false) = true) (hi : (P.info? ty).map (·.size) = some cs.size)
    (hq : a.tmps.getD q undef = .pointer (some ⟨g', 0, none⟩)) (hg' : Row w g' t' cs') (hu' : P.underlying ty' = some d') (hd' : (match d' with | .struct _ | .array _ _ => true | _ => false) = true) (hi' : (P.info? ty').map (·.size) = some cs'.size)
    (hf : a.defers = []) (hR : R (.returned (.tuple #[.agg cs, .agg cs', a.tmps.getD u undef, a.tmps.getD v undef])) w) : bodyPost P fn R .ret a w := by
  refine ⟨hf, _, ?_, hR⟩
  have hp' : a.tmps[p]?.getD undef = .pointer (some ⟨g, 0, none⟩) := by simpa using hp
  have hq' : a.tmps[q]?.getD undef = .pointer (some ⟨g', 0, none⟩) := by simpa using hq
  simp [results, h, hp', hq', asAddr, run_loadVar_row w g t ty cs (0, 0) d hg hu hd hi, run_loadVar_row w g' t' ty' cs' (0, 0) d' hg' hu' hd' hi']
end Go.Proofs.YtaeninikaalkjaaGreat
set_option linter.unusedVariables false
set_option linter.unusedSimpArgs false
namespace Go.Proofs.YtaeninikaalkjaaGreat
open Go.RowKit
structure Pr (w0 : World) (L M B C : Nat) (p A : Option Addr) (cp : Nat) (A2 : Option Addr) (c2 : Nat) (w : World) (xs ys : List Int) : Prop where
  only : Only Nil w0 w
  memo : Memo w p A cp xs
  own : Own w B A2 c2 ys
  far : ∀ j, At p j ∨ At A j → L ≤ j ∧ j < M
  lt : ∀ j, At A2 j → j < C
  mb : M ≤ B
  hw : w0.heap.size ≤ L
  hl : L ≤ M
section
variable {w0 w w' : World} {L M B C cp c2 g : Nat} {p A A2 : Option Addr} {xs ys zs : List Int} {S : Nat → Prop} {t : TypeId} {cs : Array Value}
theorem Pr.keep (h : Pr w0 L M B C p A cp A2 c2 w xs ys) (ho : Only Nil w w') : Pr w0 L M B C p A cp A2 c2 w' xs ys :=
  ⟨h.only.trans ho, h.memo.keep ho, h.own.only ho (fun _ _ => id), h.far, h.lt, h.mb, h.hw, h.hl⟩
theorem Pr.prog (h : Pr w0 L M B C p A cp A2 c2 w xs ys) (ho : Only (At A) w w') (hm : Memo w' p A cp zs) : Pr w0 L M B C p A cp A2 c2 w' zs ys :=
  ⟨h.only.step ho (fun i hi hA => by have := (h.far i (.inr hA)).1; have := h.hw; omega), hm, h.own.only ho (fun j hj hA => by have := (h.far j (.inr hA)).2; have := h.own.base j hj; have := h.mb; omega), h.far, h.lt, h.mb, h.hw, h.hl⟩
theorem Pr.answ (h : Pr w0 L M B C p A cp A2 c2 w xs ys) (ho : Only (At A2) w w') (hw : Own w' B A2 c2 zs) : Pr w0 L M B C p A cp A2 c2 w' xs zs :=
  ⟨h.only.step ho (fun i hi hA => by have := h.own.base i hA; have := h.mb; have := h.hw; have := h.hl; omega), h.memo.far ho (fun j hj hA => by have := (h.far j hj).2; have := h.own.base j hA; have := h.mb; omega), hw, h.far, h.lt, h.mb, h.hw, h.hl⟩
end
theorem step_access (xs : List Int) (n mode i s c : Int) (q : Int → Bool) : ∃ ka ca xa ya oa : Int, (stepI xs n mode i s c q).acc = .agg #[.int .i64 ka, .int .i64 ca, .int .u32 xa, .int .u32 ya, .int .u32 oa] ∧
    ((ka = 0 ∧ ca = 0 ∧ xa = 0 ∧ ya = 0 ∧ oa = 0 ∧ (stepI xs n mode i s c q).xs = xs) ∨
     (ka ≠ 0 ∧ doVal xs ka ca xa ya = .agg #[.int .i64 ka, .int .i64 ca, .int .u32 xa, .int .u32 ya, .int .u32 oa] ∧ doOk xs ka ca = true ∧ doNew xs ka ca xa ya = (stepI xs n mode i s c q).xs ∧ (ca = wc n i ∨ ca = pc n i ∨ (ka = 1 ∧ ca = c)))) := by
  have ld : ∀ r : StepR, r.acc = doVal xs 1 c 0 0 → r.xs = xs → ∃ ka ca xa ya oa : Int, r.acc = .agg #[.int .i64 ka, .int .i64 ca, .int .u32 xa, .int .u32 ya, .int .u32 oa] ∧
      ((ka = 0 ∧ ca = 0 ∧ xa = 0 ∧ ya = 0 ∧ oa = 0 ∧ r.xs = xs) ∨ (ka ≠ 0 ∧ doVal xs ka ca xa ya = .agg #[.int .i64 ka, .int .i64 ca, .int .u32 xa, .int .u32 ya, .int .u32 oa] ∧ doOk xs ka ca = true ∧ doNew xs ka ca xa ya = r.xs ∧ (ca = wc n i ∨ ca = pc n i ∨ (ka = 1 ∧ ca = c)))) := fun r h1 h2 => by
    cases hk : doOk xs 1 c
    · exact ⟨0, 0, 0, 0, 0, by rw [h1]; simp [doVal, hk, accOf], .inl ⟨rfl, rfl, rfl, rfl, rfl, h2⟩⟩
    · exact ⟨1, c, 0, 0, wordAt xs c, by rw [h1]; simp [doVal, hk, accOf], .inr ⟨by decide, by simp [doVal, hk, accOf], hk, by rw [doNew_load, h2], .inr (.inr ⟨rfl, rfl⟩)⟩⟩
  have sw : ∀ (r : StepR) (v : Int), r.acc = doVal xs 2 (wc n i) v 0 → r.xs = st xs (wc n i) v → ∃ ka ca xa ya oa : Int, r.acc = .agg #[.int .i64 ka, .int .i64 ca, .int .u32 xa, .int .u32 ya, .int .u32 oa] ∧
      ((ka = 0 ∧ ca = 0 ∧ xa = 0 ∧ ya = 0 ∧ oa = 0 ∧ r.xs = xs) ∨ (ka ≠ 0 ∧ doVal xs ka ca xa ya = .agg #[.int .i64 ka, .int .i64 ca, .int .u32 xa, .int .u32 ya, .int .u32 oa] ∧ doOk xs ka ca = true ∧ doNew xs ka ca xa ya = r.xs ∧ (ca = wc n i ∨ ca = pc n i ∨ (ka = 1 ∧ ca = c)))) := fun r v h1 h2 => by
    cases hk : doOk xs 2 (wc n i)
    · have ht : there xs (wc n i) = false := by simpa [doOk, isKind] using hk
      exact ⟨0, 0, 0, 0, 0, by rw [h1]; simp [doVal, hk, accOf], .inl ⟨rfl, rfl, rfl, rfl, rfl, by rw [h2]; simp [st, ht]⟩⟩
    · exact ⟨2, wc n i, v, 0, wordAt xs (wc n i), by rw [h1]; simp [doVal, hk, accOf], .inr ⟨by decide, by simp [doVal, hk, accOf], hk, by rw [h2, doNew_st xs 2 _ _ 0 rfl]; rfl, .inl rfl⟩⟩
  unfold stepI
  split
  · exact ld _ rfl rfl
  split
  · exact sw _ _ rfl rfl
  split
  · exact ld _ rfl rfl
  split
  · cases hp : hasP xs n i
    · exact ⟨0, 0, 0, 0, 0, by simp [takeVal, hp, accOf], .inl ⟨rfl, rfl, rfl, rfl, rfl, st_none hp⟩⟩
    · have ht := hasP_there hp
      have hok : doOk xs 4 (pc n i) = true := by simp [doOk, isKind, ht]
      exact ⟨4, pc n i, 0, 0, wordAt xs (pc n i), by simp [takeVal, hp, accOf], .inr ⟨by decide, by simp [doVal, hok, accOf], hok, by rw [doNew_st xs 4 _ _ 0 rfl]; rfl, .inr (.inl rfl)⟩⟩
  split
  · exact sw _ _ rfl rfl
  · exact ld _ rfl rfl
end Go.Proofs.YtaeninikaalkjaaGreat
set_option linter.unusedVariables false
set_option linter.unusedSimpArgs false
namespace Go.Proofs.YtaeninikaalkjaaGreat
open Go.RowKit
theorem wf_mk {n : Int} (h0 : 0 ≤ n) (h1 : n < 4294967296) : (Lit.int .u32 n).wf = true := by
  have e1 : IntKind.u32.min = 0 := rfl
  have e2 : IntKind.u32.max = 4294967295 := rfl
  simp only [Lit.wf, Bool.and_eq_true, decide_eq_true_eq]
  omega
theorem Words.st {xs : List Int} (h : Words xs) (c : Int) {u : Int} (h0 : 0 ≤ u) (h1 : u < 4294967296) : Words (Go.Proofs.YtaeninikaalkjaaGreat.st xs c u) := by
  unfold Go.Proofs.YtaeninikaalkjaaGreat.st
  split
  · intro n hn
    rcases List.mem_or_eq_of_mem_set hn with hn | rfl
    · exact h n hn
    · exact wf_mk h0 h1
  · exact h
theorem Words.step {xs : List Int} (h : Words xs) (n mode i s c : Int) (q : Int → Bool) : Words (stepI xs n mode i s c q).xs := by
  unfold stepI
  split
  · exact h
  split
  · exact h.st _ (by omega) (by omega)
  split
  · exact h
  split
  · exact h.st _ (by omega) (by omega)
  split
  · exact h.st _ (by omega) (by omega)
  · exact h
theorem step_len (xs : List Int) (n mode i s c : Int) (q : Int → Bool) : (stepI xs n mode i s c q).xs.length = xs.length := by
  unfold stepI
  split
  · rfl
  split
  · exact st_len _ _ _
  split
  · rfl
  split
  · exact st_len _ _ _
  split
  · exact st_len _ _ _
  · rfl
end Go.Proofs.YtaeninikaalkjaaGreat
set_option linter.unusedVariables false
set_option linter.unusedSimpArgs false
namespace Go.Proofs.YtaeninikaalkjaaGreat
open Go.RowKit
structure WkV where
  on : Bool
  c : Int
  i : Int
  hit : Bool
def WkV.v (k : WkV) : Value := .agg #[.bool k.on, .int .i64 k.c, .int .i64 k.i, .bool k.hit]
def wk0 : WkV := ⟨false, 0, 0, false⟩
structure WakeR where
  next : WkV
  acc : Value
  xs : List Int
def nextI (n c i : Int) : WkV := if i + 1 = n then wk0 else ⟨true, c, i + 1, false⟩
def restI (xs : List Int) : WakeR := ⟨wk0, accOf 0 0 0 0 0, xs⟩
def giveI (xs : List Int) (n c i : Int) : WakeR := if there xs (pc n i) then ⟨nextI n c i, doVal xs 2 (pc n i) 1 0, st xs (pc n i) 1⟩ else restI xs
def lookI (xs : List Int) (n c i : Int) : WakeR :=
  if there xs (wc n i) then
    (if wordAt xs (wc n i) = (c + 1) % 4294967296 then ⟨⟨true, c, i, true⟩, doVal xs 1 (wc n i) 0 0, xs⟩ else ⟨nextI n c i, doVal xs 1 (wc n i) 0 0, xs⟩)
  else restI xs
def wakeI (xs : List Int) (n : Int) (on : Bool) (c i : Int) (hit : Bool) : WakeR := if on then (if hit then giveI xs n c i else lookI xs n c i) else restI xs
theorem post_two {P : Program} {fn : Func} {R : Ending → World → Prop} {a : Act} {w : World} {p q : Tmp} {ty ty' : TypeId} (h : fn.results = #[.cell p ty, .cell q ty']) {g g' : Nat} {t t' : TypeId} {cs cs' : Array Value} {d d' : TypeDesc}
    (hp : a.tmps.getD p undef = .pointer (some ⟨g, 0, none⟩)) (hg : Row w g t cs) (hu : P.underlying ty = some d) (hd : (match d with | .struct _ | .array _ _ => true | _ => false) = true) (hi : (P.info? ty).map (·.size) = some cs.size)
    (hq : a.tmps.getD q undef = .pointer (some ⟨g', 0, none⟩)) (hg' : Row w g' t' cs') (hu' : P.underlying ty' = some d') (hd' : (match d' with | .struct _ | .array _ _ => true | _ => false) = true) (hi' : (P.info? ty').map (·.size) = some cs'.size)
    (hf : a.defers = []) (hR : R (.returned (.tuple #[.agg cs, .agg cs'])) w) : bodyPost P fn R .ret a w := by
  refine ⟨hf, _, ?_, hR⟩
  have hp' : a.tmps[p]?.getD undef = .pointer (some ⟨g, 0, none⟩) := by simpa using hp
  have hq' : a.tmps[q]?.getD undef = .pointer (some ⟨g', 0, none⟩) := by simpa using hq
  simp [results, h, hp', hq', asAddr, run_loadVar_row w g t ty cs (0, 0) d hg hu hd hi, run_loadVar_row w g' t' ty' cs' (0, 0) d' hg' hu' hd' hi']
theorem post_two_tmp {P : Program} {fn : Func} {R : Ending → World → Prop} {a : Act} {w : World} {p q u : Tmp} {ty ty' : TypeId} (h : fn.results = #[.cell p ty, .cell q ty', .tmp u]) {g g' : Nat} {t t' : TypeId} {cs cs' : Array Value} {d d' : TypeDesc}
    (hp : a.tmps.getD p undef = .pointer (some ⟨g, 0, none⟩)) (hg : Row w g t cs) (hu : P.underlying ty = some d) (hd : (match d with | .struct _ | .array _ _ => true | _ => false) = true) (hi : (P.info? ty).map (·.size) = some cs.size)
    (hq : a.tmps.getD q undef = .pointer (some ⟨g', 0, none⟩)) (hg' : Row w g' t' cs') (hu' : P.underlying ty' = some d') (hd' : (match d' with | .struct _ | .array _ _ => true | _ => false) = true) (hi' : (P.info? ty').map (·.size) = some cs'.size)
    (hf : a.defers = []) (hR : R (.returned (.tuple #[.agg cs, .agg cs', a.tmps.getD u undef])) w) : bodyPost P fn R .ret a w := by
  refine ⟨hf, _, ?_, hR⟩
  have hp' : a.tmps[p]?.getD undef = .pointer (some ⟨g, 0, none⟩) := by simpa using hp
  have hq' : a.tmps[q]?.getD undef = .pointer (some ⟨g', 0, none⟩) := by simpa using hq
  simp [results, h, hp', hq', asAddr, run_loadVar_row w g t ty cs (0, 0) d hg hu hd hi, run_loadVar_row w g' t' ty' cs' (0, 0) d' hg' hu' hd' hi']
theorem four {w : World} {g : Nat} {t : TypeId} {a0 a1 a2 a3 : Value} (h : Row w g t #[a0, a1, a2, a3]) (v0 v1 v2 v3 : Value) :
    Row ((((w.setCell ⟨g, 0, none⟩ v0).setCell ⟨g, 1, none⟩ v1).setCell ⟨g, 2, none⟩ v2).setCell ⟨g, 3, none⟩ v3) g t #[v0, v1, v2, v3] := by
  simpa using (((h.set 0 v0).set 1 v1).set 2 v2).set 3 v3
theorem four_only {S : Nat → Prop} {w w' : World} (h : Only S w w') {g : Nat} (hg : w.heap.size ≤ g ∨ S g) (v0 v1 v2 v3 : Value) :
    Only S w ((((w'.setCell ⟨g, 0, none⟩ v0).setCell ⟨g, 1, none⟩ v1).setCell ⟨g, 2, none⟩ v2).setCell ⟨g, 3, none⟩ v3) :=
  (((h.setCell (p := ⟨g, 0, none⟩) hg v0).setCell (p := ⟨g, 1, none⟩) hg v1).setCell (p := ⟨g, 2, none⟩) hg v2).setCell (p := ⟨g, 3, none⟩) hg v3
end Go.Proofs.YtaeninikaalkjaaGreat
set_option linter.unusedVariables false
set_option linter.unusedSimpArgs false
namespace Go.Proofs.YtaeninikaalkjaaGreat
open Go.RowKit
def beginI (mode c : Int) : WkV := if mode = 2 then ⟨true, c, 0, false⟩ else wk0
theorem beginI_2 (c : Int) : beginI 2 c = ⟨true, c, 0, false⟩ := rfl
theorem beginI_no {mode : Int} (h : mode ≠ 2) (c : Int) : beginI mode c = wk0 := if_neg h
theorem begin_any (mode c : Int) (w : World) : Calls Tryz.prog 89 #[.int .i64 mode, .int .i64 c] w fun e w' => e = .returned (beginI mode c).v ∧ Only Nil w w' := by
  by_cases hm : mode = 2
  · subst hm
    rw [beginI_2]
    go_enter Tryz.func89, Tryz.ntmps89
    go_wp2
    exact post_row (P := Tryz.prog) Tryz.results89 (t := 27) (by rfl) (Row.new _ _ _) Tryz.underlying27 rfl (by kernel_rfl) rfl ⟨rfl, (Only.refl _ _).alloc _⟩
  · rw [beginI_no hm]
    have h2 : (mode != 2) = true := bne_iff_ne.2 hm
    clear hm
    go_enter Tryz.func89, Tryz.ntmps89
    go_wp2
    exact post_row (P := Tryz.prog) Tryz.results89 (t := 27) (by rfl) (Row.new _ _ _) Tryz.underlying27 rfl (by kernel_rfl) rfl ⟨rfl, (Only.refl _ _).alloc _⟩
end Go.Proofs.YtaeninikaalkjaaGreat
namespace Go.Proofs.YtaeninikaalkjaaGreat
open Go.RowKit
structure Nt where
  t : Int
  w : Int
  o : Int
  a : Int
end Go.Proofs.YtaeninikaalkjaaGreat
