import Derived.Test.YtigdbokfapedcaaKeys
import Derived.Maps.Ext
import Derived.Lib.SlKeysI
import Derived.BigQuiet
import Derived.IntWalk
import Derived.Deep.Cut
import Derived.Test.YtigdbokfapedcaaChecked
import Derived.Deep.Slices
import Derived.Deep.Fields
import Derived.ChangeSame
import Derived.Test.YtigdbokfapedcaaG8
import Derived.Test.YtigdbokfapedcaaG2
import Derived.Test.YtigdbokfapedcaaG6
import Derived.Test.YtigdbokfapedcaaG3
import Derived.Test.YtigdbokfapedcaaG7
import Derived.Test.YtigdbokfapedcaaG1
set_option linter.unusedVariables false
set_option linter.unusedSimpArgs false
namespace Go.Proofs.Ytigdbokfapedcaa
open Go.RowKit
theorem owns_keys {w : World} {b n : Nat} {D : DataW Value} (h : w.ownsMap Try.prog 3 asIt b n D) : ∃ es, D = .map es ∧ es.Pairwise (fun p q => p.1 ≠ q.1) ∧ ∀ p ∈ es, ∃ x, p.1 = .int .i64 x := by
  obtain ⟨es, e, hp⟩ := h.tidy (Maps.int_keyed Try.underlying3)
  refine ⟨es, e, hp, fun p hpm => ?_⟩
  obtain ⟨es0, clock, _, F, _, e2⟩ := h
  rw [e] at e2
  injection e2 with e2
  rw [e2] at hpm
  obtain ⟨x, hx, rfl⟩ := List.mem_map.1 (Go.mem_sorted.1 hpm)
  obtain ⟨y, hy⟩ := F.reads x hx
  rw [Go.WideElems.rg_of hy]
  obtain ⟨z, _, hz, _⟩ := Maps.keyOf_i64 Try.underlying3 (Go.WideElems.rd_key hy)
  exact ⟨z, hz⟩
theorem rise_nodup {l : List Int} (h : Rise l) : l.Nodup := h.imp (fun {a b} hab e => by omega)
theorem rise_sort {l : List Int} (h : Rise l) : l.mergeSort (fun x y => decide (x ≤ y)) = l :=
  List.mergeSort_of_pairwise (h.imp (fun {a b} hab => by simp only [decide_eq_true_eq]; omega))
set_option maxRecDepth 100000 in
theorem rpending_any (A : Option Addr) (m cap : Nat) (l : List Nt) (w : World) (hl : l.length = m) (hN : Notes w A l) (hwf : ∀ x ∈ l, (Lit.int .i64 x.t).wf = true) (hm : m ≤ 2000) :
    Calls Try.prog 11 #[.slice A m cap] w fun e w' => ∃ v, e = .returned v ∧ OwnI w.heap.size w' v (pendL l) ∧ Only Nil w w' := by
  have HZ := Lib.hid hl
  have HN := Lib.hid hN
  have HWF := Lib.hid hwf
  have HM := Lib.hid hm
  have q0 : (m : Int) ≤ 9223372036854775806 := by omega
  have hmm := @run_makeMap Try.prog
  clear hl hN hwf hm
  go_enter Try.func11, Try.ntmps11
  go_wp2_with fail
  go_loopw [9] (fun i wr => ∃ k : Nat, k ≤ m ∧ i = .int .i64 k ∧ Hid ((∃ c, c ≤ k ∧ Mp wr w.heap.size c (vf (l.take k))) ∧ Only Nil w wr)) (fun i _ => m - (intOf i).toNat)
  case atStart => exact ⟨0, Nat.zero_le _, rfl, Lib.hid ⟨⟨0, Nat.le_refl _, mp_made w⟩, (Only.refl _ _).alloc _⟩⟩
  case round =>
    obtain ⟨k, hk, rfl, HI⟩ := hrel
    obtain ⟨⟨c, hc, hmp⟩, hO⟩ := HI.out
    clear HI
    by_cases hlt : k < m
    · obtain ⟨x, hx⟩ : ∃ x, l[k]? = some x := ⟨_, List.getElem?_eq_getElem (by rw [HZ.out]; exact hlt)⟩
      have ht1 : l.take (k + 1) = l.take k ++ [x] := by rw [List.take_add_one, hx]; rfl
      obtain ⟨b, q, rfl, hb, hat⟩ := (HN.out.only hO) (by rw [HZ.out]; omega)
      obtain ⟨f0, f1, f2, f3⟩ := hat k x hx
      have HWX := Lib.hid (HWF.out x (List.mem_of_getElem? hx))
      have e1 := (Only.refl Nil wr).alloc (.cells #[.int .i64 x.t, .int .i64 x.w, .int .i64 x.o, .int .i64 x.a] 41)
      have HR := Lib.hid (Row.new wr 41 #[.int .i64 x.t, .int .i64 x.w, .int .i64 x.o, .int .i64 x.a])
      have HMP := Lib.hid (hmp.only e1 id)
      have HO := Lib.hid (hO.trans e1)
      have HT := Lib.hid ht1
      have HKM := Lib.hid (And.intro hlt hc)
      have q5 : (k : Int) < m := by omega
      clear hat hx ht1 hmp hO e1 hk hc hlt
      go_upto_region 5 with (fail)
      clear f0 f1 f2 f3
      generalize wr.alloc _ = w1 at *
      generalize wr.heap.size = X at *
      have c0 : w1.cell? ⟨X, 0, none⟩ = some (.int .i64 x.t) := HR.out.cell_ (i := 0) rfl
      have c1 : w1.cell? ⟨X, 1, none⟩ = some (.int .i64 x.w) := HR.out.cell_ (i := 1) rfl
      have c2 : w1.cell? ⟨X, 2, none⟩ = some (.int .i64 x.o) := HR.out.cell_ (i := 2) rfl
      have c3 : w1.cell? ⟨X, 3, none⟩ = some (.int .i64 x.a) := HR.out.cell_ (i := 3) rfl
      go_wp2_with fail
      clear c0 c1 c2 c3
      refine (take_any w.heap.size c (l.take k) x.t x.w x.o x.a w1 HMP.out (by have h1 := HKM.out; have h2 := HM.out; omega) HWX.out).mono ?_
      rintro e w3 ⟨rfl, hm3, ho3⟩
      have HCI := Lib.hid (show (∃ c', c' ≤ k + 1 ∧ Mp w3 w.heap.size c' (vf (l.take (k + 1)))) ∧ Only Nil w w3 from ⟨⟨c + 1, by have := HKM.out; omega, by rw [HT.out]; exact hm3⟩, HO.out.step ho3 (fun i hi e => by omega)⟩)
      have HLT := Lib.hid HKM.out.1
      clear hm3 ho3 HMP HO HR
      go_wp2
      exact ⟨⟨k + 1, HLT.out, by go_num, HCI⟩, by have := HLT.out; simp [intOf]; omega⟩
    · obtain rfl : k = m := by omega
      rw [List.take_of_length_le (show l.length ≤ k by rw [HZ.out]; exact Nat.le_refl _)] at hmp
      have hlen := hmp
      obtain ⟨D, hD, hf⟩ := hmp
      obtain ⟨es, rfl, hpw, hkk⟩ := owns_keys hD
      have hper : (pendL l).Perm (intKeys (.map es)) := perm_intKeys hpw hkk (rise_nodup (pend_rise l)) (fun x => by
        rw [mem_pend, (hf x).1, ← mpF_some]
        unfold vf
        rw [Option.isSome_map])
      have HD := Lib.hid hD
      have HPE := Lib.hid hper
      have HO := Lib.hid hO
      have HSZ := Lib.hid (show Maps.size (DataW.map es) ≤ 2000 from Nat.le_trans hD.size_le (by have := HM.out; omega))
      clear hlen hD hf hpw hkk hper hO hlt hk hc
      go_wp2_with fail
      refine (Try.keysC (some w.heap.size) wr).mono ?_
      rintro e w1 ⟨rfl, rfl⟩
      go_wp2_with fail
      refine (Try.sortedC w.heap.size c (.map es) asIt wr HD.out (by have := HSZ.out; unfold maxLen; omega) (by have := HSZ.out; omega)).mono ?_
      rintro e w2 ⟨v, ss, rfl, hss, hrow, hnil, hb⟩
      have hs2 : ss.mergeSort (fun x y => decide (x ≤ y)) = pendL l := by
        have h1 := mergeSort_of_perm_i (hss.trans HPE.out.symm)
        exact h1.trans (rise_sort (pend_rise l))
      have hO2 : Only Nil w w2 := (HO.out.alloc _).trans (Only.of_below hb (fun k hk hk2 => absurd hk (by omega)))
      have HV := Lib.hid (show OwnI w.heap.size w2 v (pendL l) ∧ Only Nil w w2 from ⟨by
        rw [hs2] at hrow
        have hlen : (pendL l).length = ss.length := by rw [← hs2, List.length_mergeSort]
        rw [← hlen] at hrow
        obtain ⟨r1, r2⟩ := hrow
        have h9 : w.heap.size ≤ (wr.alloc (.cells #[.map (some w.heap.size)] 46)).heap.size := by
          have := HO.out.size
          simp; omega
        exact ⟨r1, r2.imp id (fun ⟨g', cap', cur', a1, a2, a3⟩ => ⟨g', cap', cur', a1, Nat.le_trans h9 a2, a3⟩)⟩, hO2⟩)
      clear hss hrow hnil hb hs2 hO2
      go_wp2
      go_ret
      exact ⟨_, rfl, HV.out.1, HV.out.2⟩
end Go.Proofs.Ytigdbokfapedcaa
set_option linter.unusedVariables false
set_option linter.unusedSimpArgs false
namespace Go.Proofs.Ytigdbokfapedcaa
open Go
def lastWN (t : Int) (a : Int) (x : Nt) : Int := if x.t = t then (if x.w = 1 then 1 else if x.w = 11 then 11 else a) else a
def lastW (l : List Nt) (t : Int) : Int := l.foldl (lastWN t) 0
theorem lastW_snoc (l : List Nt) (x : Nt) (t : Int) : lastW (l ++ [x]) t = lastWN t (lastW l t) x := by unfold lastW; rw [List.foldl_append]; rfl
theorem lastW_fold (t : Int) : ∀ (l : List Nt) (a : Int) (b : Bool), (a = 1 ↔ b = true) → (l.foldl (lastWN t) a = 1 ↔ l.foldl (lastN t) b = true)
  | [], _, _, h => h
  | x :: l, a, b, h => by
    rw [List.foldl_cons, List.foldl_cons]
    refine lastW_fold t l _ _ ?_
    unfold lastWN lastN
    by_cases ht : x.t = t
    · rw [if_pos ht, if_pos ht]
      by_cases h1 : x.w = 1
      · rw [if_pos h1, if_pos h1]; simp
      · rw [if_neg h1, if_neg h1]
        by_cases h11 : x.w = 11
        · rw [if_pos h11, if_pos h11]; simp
        · rw [if_neg h11, if_neg h11]; exact h
    · rw [if_neg ht, if_neg ht]; exact h
theorem lastW_one {l : List Nt} {t : Int} : lastW l t = 1 ↔ lastB l t = true := lastW_fold t l 0 false (by simp)
def insAt (k : Nat) (t : Int) (out : List Int) : List Int := out.take k ++ t :: out.drop k
theorem insAt_len (k : Nat) (t : Int) (out : List Int) (h : k ≤ out.length) : (insAt k t out).length = out.length + 1 := by
  unfold insAt
  rw [List.length_append, List.length_cons, List.length_take, List.length_drop]
  omega
theorem insAt_end (t : Int) (out : List Int) : insAt out.length t out = out ++ [t] := by unfold insAt; rw [List.take_length, List.drop_length]
theorem insAt_at {k : Nat} {t : Int} {out : List Int} (h : k ≤ out.length) : (insAt k t out)[k]? = some t := by
  unfold insAt
  rw [List.getElem?_append_right (by rw [List.length_take]; omega), List.length_take, Nat.min_eq_left h, Nat.sub_self]; rfl
theorem insAt_pre {k : Nat} {t : Int} {out : List Int} (h : k + 1 ≤ out.length) : (insAt (k + 1) t out)[k]? = out[k]? := by
  unfold insAt
  rw [List.getElem?_append_left (by rw [List.length_take]; omega), List.getElem?_take, if_pos (by omega)]
theorem insAt_swap {k : Nat} {t y : Int} {out : List Int} (h : out[k]? = some y) : ((insAt (k + 1) t out).set (k + 1) y).set k t = insAt k t out := by
  obtain ⟨hk, hy⟩ := List.getElem?_eq_some_iff.1 h
  refine List.ext_getElem? fun i => ?_
  have hl := insAt_len (k + 1) t out hk
  unfold insAt at *
  rcases Nat.lt_or_ge i k with hi | hi
  · rw [List.getElem?_set_ne (by omega), List.getElem?_set_ne (by omega), List.getElem?_append_left (by rw [List.length_take]; omega), List.getElem?_append_left (by rw [List.length_take]; omega), List.getElem?_take, List.getElem?_take, if_pos (by omega), if_pos hi]
  · by_cases e : i = k
    · subst e
      rw [List.getElem?_set_self (by rw [List.length_set, hl]; omega), List.getElem?_append_right (by rw [List.length_take]; omega), List.length_take, Nat.min_eq_left (by omega), Nat.sub_self]; rfl
    · by_cases e1 : i = k + 1
      · subst e1
        rw [List.getElem?_set_ne (by omega), List.getElem?_set_self (by rw [hl]; omega), List.getElem?_append_right (by rw [List.length_take]; omega), List.length_take, Nat.min_eq_left (by omega), show k + 1 - k = 1 by omega, List.getElem?_cons_succ, List.getElem?_drop, Nat.add_zero, h]
      · obtain ⟨j, rfl⟩ : ∃ j, i = k + 2 + j := ⟨i - (k + 2), by omega⟩
        rw [List.getElem?_set_ne (by omega), List.getElem?_set_ne (by omega), List.getElem?_append_right (by rw [List.length_take]; omega), List.getElem?_append_right (by rw [List.length_take]; omega), List.length_take, List.length_take, Nat.min_eq_left (by omega), Nat.min_eq_left (by omega),
          show k + 2 + j - (k + 1) = j + 1 by omega, show k + 2 + j - k = j + 1 + 1 by omega, List.getElem?_cons_succ, List.getElem?_cons_succ, List.getElem?_drop, List.getElem?_drop, show k + 1 + j = k + (j + 1) by omega]
theorem insAt_mem {k : Nat} {t z : Int} {out : List Int} : z ∈ insAt k t out ↔ z = t ∨ z ∈ out := by
  unfold insAt
  rw [List.mem_append, List.mem_cons]
  constructor
  · rintro (h | h | h)
    · exact .inr (List.mem_of_mem_take h)
    · exact .inl h
    · exact .inr (List.mem_of_mem_drop h)
  · rintro (h | h)
    · exact .inr (.inl h)
    · rw [← List.take_append_drop k out] at h
      rcases List.mem_append.1 h with h | h
      · exact .inl h
      · exact .inr (.inr h)
theorem insAt_put {k : Nat} {t : Int} {out : List Int} (hr : Rise out) (h2 : ∀ x ∈ out.drop k, t < x) (h1 : ∀ x ∈ out.take k, x < t) : insAt k t out = putR t out := by
  refine rise_ext ?_ (putR_rise hr) (fun z => by rw [insAt_mem, mem_putR])
  unfold insAt
  refine List.pairwise_append.2 ⟨hr.sublist (List.take_sublist _ _), List.pairwise_cons.2 ⟨h2, hr.sublist (List.drop_sublist _ _)⟩, fun a ha b hb => ?_⟩
  rcases List.mem_cons.1 hb with rfl | hb
  · exact h1 a ha
  · have := h1 a ha; have := h2 b hb; omega
theorem rise_take {k : Nat} {t y : Int} {out : List Int} (hr : Rise out) (h : out[k]? = some y) (hy : y < t) : ∀ x ∈ out.take (k + 1), x < t := fun x hx => by
  rw [List.take_add_one, h] at hx
  rcases List.mem_append.1 hx with hx | hx
  · obtain ⟨hk, e⟩ := List.getElem?_eq_some_iff.1 h
    have hp := List.pairwise_append.1 (show (out.take k ++ out.drop k).Pairwise (· < ·) by rw [List.take_append_drop]; exact hr)
    have := hp.2.2 x hx y (by rw [List.drop_eq_getElem_cons hk, e]; exact List.mem_cons_self)
    omega
  · rw [show x = y by simpa using hx]; exact hy
theorem drop_cons {k : Nat} {y : Int} {out : List Int} (h : out[k]? = some y) : out.drop k = y :: out.drop (k + 1) := by
  obtain ⟨hk, e⟩ := List.getElem?_eq_some_iff.1 h
  rw [List.drop_eq_getElem_cons hk, e]
theorem pendF_rise (l ts : List Nt) : Rise (pendF l ts) := (pendF_fold l ts [] List.Pairwise.nil).1
theorem pendF_snoc (l ts : List Nt) (x : Nt) : pendF l (ts ++ [x]) = if lastB l x.t then putR x.t (pendF l ts) else pendF l ts := by unfold pendF; rw [List.foldl_append]; rfl
theorem putR_there {t : Int} : ∀ {l : List Int}, Rise l → t ∈ l → putR t l = l := fun {l} hr h => rise_ext (putR_rise hr) hr (fun z => by
  rw [mem_putR]
  exact ⟨fun e => e.elim (fun e => e ▸ h) id, .inr⟩)
theorem putR_len {t : Int} : ∀ (l : List Int), (putR t l).length ≤ l.length + 1
  | [] => Nat.le_refl _
  | x :: l => by
    have ih := putR_len (t := t) l
    unfold putR
    split
    · simp
    · split
      · simp
      · simp only [List.length_cons]; omega
theorem pendF_len (l : List Nt) : ∀ ts : List Nt, (pendF l ts).length ≤ ts.length := fun ts => by
  suffices h : ∀ (ts : List Nt) (out : List Int), (ts.foldl (fun out x => if lastB l x.t then putR x.t out else out) out).length ≤ out.length + ts.length by
    have := h ts []
    simpa [pendF] using this
  intro ts
  induction ts with
  | nil => intro out; exact Nat.le_refl _
  | cons x ts ih =>
    intro out
    rw [List.foldl_cons, List.length_cons]
    refine Nat.le_trans (ih _) ?_
    by_cases h : lastB l x.t = true
    · rw [if_pos h]; have := putR_len (t := x.t) out; omega
    · rw [if_neg h]; omega
end Go.Proofs.Ytigdbokfapedcaa
set_option linter.unusedVariables false
set_option linter.unusedSimpArgs false
namespace Go.Proofs.Ytigdbokfapedcaa
open Go.RowKit
theorem ownI_set {base : Nat} {w : World} {v : Value} {xs : List Int} {g n c k : Nat} (h : OwnI base w v xs) (hv : v = .slice (some ⟨g, 0, none⟩) n c) (hk : k < xs.length) (x : Int) : OwnI base (w.setCell ⟨g, k, none⟩ (.int .i64 x)) v (xs.set k x) := by
  obtain ⟨hl, h2⟩ := h
  refine ⟨by rw [List.length_map, Nat.mul_one], ?_⟩
  rcases h2 with ⟨rfl, _⟩ | ⟨g', cap, cur, hv', hb, hg, hc, hm, hs, ht⟩
  · cases hv
  · rw [hv] at hv'
    injection hv' with e1 e2 e3
    injection e1 with e1
    injection e1 with e1
    subst e1 e3
    rw [List.length_set]
    refine .inr ⟨g, c, cur.setIfInBounds k (.int .i64 x), by rw [hv, e2], hb, Row.set hg _ _, hc, hm, by rw [Array.size_setIfInBounds]; exact hs, ?_⟩
    rw [List.map_set, ← ht, Array.toList_setIfInBounds, List.take_set]
theorem ownI_some {base : Nat} {w : World} {v : Value} {xs : List Int} (h : OwnI base w v xs) (h0 : 0 < xs.length) : ∃ g c, v = .slice (some ⟨g, 0, none⟩) xs.length c ∧ base ≤ g ∧ (∃ cur, Row w g 3 cur) ∧ ∀ (i : Nat) (x : Int), xs[i]? = some x → w.cell? ⟨g, i, none⟩ = some (.int .i64 x) := by
  rcases h.2 with ⟨_, h1⟩ | ⟨g, cap, cur, hv, hb, hg, _⟩
  · omega
  · refine ⟨g, cap, hv, hb, ⟨cur, hg⟩, fun i x hx => ?_⟩
    have := World.ownsRow.cells h (g := g) (by rw [hv]; rfl) i (.int .i64 x) (by rw [List.getElem?_map, hx]; rfl)
    rwa [add_at, Nat.zero_add] at this
set_option maxRecDepth 100000 in
set_option maxHeartbeats 4000000 in
theorem rfpending_any (A : Option Addr) (m cap : Nat) (l : List Nt) (w : World) (hl : l.length = m) (hN : Notes w A l) (hm : m ≤ 2000) :
    Calls Try.prog 12 #[.slice A m cap] w fun e w' => ∃ v, e = .returned v ∧ OwnI w.heap.size w' v (pendL l) ∧ Only Nil w w' := by
  have HZ := Lib.hid hl
  have HN := Lib.hid hN
  have HM := Lib.hid hm
  have q0 : (m : Int) ≤ 2000 := by omega
  clear hl hN hm
  go_enter Try.func12, Try.ntmps12
  go_wp2
  go_loopw [3, 4] (fun p iv wr => ∃ i : Nat, i ≤ m ∧ iv = .int .i64 i ∧ Hid (OwnI w.heap.size wr p (pendF l (l.take i)) ∧ Only Nil w wr)) (fun _ iv _ => m - (intOf iv).toNat)
  case atStart => exact ⟨0, Nat.zero_le _, rfl, Lib.hid ⟨ownI_nil _ _, Only.refl _ _⟩⟩
  case round =>
    rename_i p iv
    generalize wr = wo at *
    obtain ⟨i, hi, rfl, HI⟩ := hrel
    have hplen := pendF_len l (l.take i)
    rw [List.length_take] at hplen
    by_cases hlt : i < m
    · obtain ⟨x, hx⟩ : ∃ x, l[i]? = some x := ⟨_, List.getElem?_eq_getElem (by rw [HZ.out]; exact hlt)⟩
      have hps : pendF l (l.take (i + 1)) = if lastB l x.t then putR x.t (pendF l (l.take i)) else pendF l (l.take i) := by rw [List.take_add_one, hx]; exact pendF_snoc l _ x
      have HPS := Lib.hid hps
      have HPR := Lib.hid (pendF_rise l (l.take i))
      have HPL := Lib.hid (show (pendF l (l.take i)).length ≤ 2000 by omega)
      generalize hout : pendF l (l.take i) = out at *
      clear hout hps hplen
      generalize hout1 : pendF l (l.take (i + 1)) = out1 at *
      have HO1 := Lib.hid hout1
      clear hout1
      obtain ⟨A1, c1, rfl, _⟩ := ownI_form HI.out.1
      generalize hPN : out.length = PN at *
      have HPN := Lib.hid hPN
      clear hPN
      obtain ⟨b, q, rfl, hb, hat⟩ := (HN.out.only HI.out.2) (by rw [HZ.out]; omega)
      obtain ⟨f0, f1, f2, f3⟩ := hat i x hx
      have HLT := Lib.hid hlt
      have z5 : (i : Int) < m := by omega
      have z6 : (0 : Int) ≤ i := by omega
      have z7 : (i : Int).toNat = i := rfl
      clear hat hx hb hi hlt
      go_upto_region 8 with (fail)
      clear f0 f1 f2 f3
      generalize ht : x.t = t at *
      clear ht
      go_loopw [6, 7] (fun lv kv wq => ∃ k : Nat, k ≤ m ∧ kv = .int .i64 k ∧ lv = .int .i64 (lastW (l.take k) t) ∧ Hid (Drew wo wq)) (fun _ kv _ => m - (intOf kv).toNat)
      case atStart => exact ⟨0, Nat.zero_le _, rfl, rfl, Lib.hid (Drew.refl _)⟩
      case round =>
        rename_i lv kv
        obtain ⟨k, hk, rfl, rfl, HD⟩ := hrel
        by_cases hkm : k < m
        · obtain ⟨y, hy⟩ : ∃ y, l[k]? = some y := ⟨_, List.getElem?_eq_getElem (by rw [HZ.out]; exact hkm)⟩
          have HLW := Lib.hid (show lastW (l.take (k + 1)) t = lastWN t (lastW (l.take k) t) y by rw [List.take_add_one, hy]; exact lastW_snoc _ _ _)
          generalize lastW (l.take k) t = a at *
          obtain ⟨b2, q2, hb2, hbl, hat⟩ := (HN.out.only (HI.out.2.trans HD.out.only)) (by rw [HZ.out]; omega)
          injection hb2 with hb2
          injection hb2 with h1 h2
          subst h1 h2
          obtain ⟨d0, d1, d2, d3⟩ := hat k y hy
          have HKM := Lib.hid (show k + 1 ≤ m by omega)
          have y5 : (k : Int) < m := by omega
          have y6 : (0 : Int) ≤ k := by omega
          have y7 : (k : Int).toNat = k := rfl
          clear hat hbl hy hk hkm
          unfold lastWN at HLW
          by_cases ht : y.t = t
          · have ht1 : (y.t == t) = true := by simpa using ht
            rw [if_pos ht] at HLW
            by_cases h1 : y.w = 1
            · have b1 : (y.w == 1) = true := by simpa using h1
              rw [if_pos h1] at HLW
              obtain ⟨yt, yw, yo, ya⟩ := y
              dsimp only at h1 ht
              subst h1
              clear ht
              go_wp2
              go_roundw
              case rel => exact ⟨k + 1, HKM.out, by go_num, by rw [HLW.out], HD⟩
              case measure => have := HKM.out; simp [intOf]; omega
            · have b1 : (y.w == 1) = false := by simpa using h1
              rw [if_neg h1] at HLW
              by_cases h11 : y.w = 11
              · have b11 : (y.w == 11) = true := by simpa using h11
                rw [if_pos h11] at HLW
                obtain ⟨yt, yw, yo, ya⟩ := y
                dsimp only at h1 h11 ht
                subst h11
                clear ht h1
                go_wp2
                go_roundw
                case rel => exact ⟨k + 1, HKM.out, by go_num, by rw [HLW.out], HD⟩
                case measure => have := HKM.out; simp [intOf]; omega
              · have b11 : (y.w == 11) = false := by simpa using h11
                rw [if_neg h11] at HLW
                clear ht h1 h11
                go_wp2
                go_roundw
                case rel => exact ⟨k + 1, HKM.out, by go_num, by rw [HLW.out], HD⟩
                case measure => have := HKM.out; simp [intOf]; omega
          · have ht1 : (y.t == t) = false := by simpa using ht
            rw [if_neg ht] at HLW
            clear ht
            go_wp2
            go_roundw
            case rel => exact ⟨k + 1, HKM.out, by go_num, by rw [HLW.out], HD⟩
            case measure => have := HKM.out; simp [intOf]; omega
        · obtain rfl : m = k := by omega
          rw [List.take_of_length_le (show l.length ≤ m by rw [HZ.out]; exact Nat.le_refl _)]
          have HW := Lib.hid (show OwnI w.heap.size wr (.slice A1 PN c1) out ∧ Only Nil w wr from ⟨own_only HI.out.1 HD.out.only (fun _ _ => id), HI.out.2.trans HD.out.only⟩)
          clear HI HD hk hkm
          by_cases hlb : lastB l t = true
          · have hl1 : lastW l t = 1 := lastW_one.2 hlb
            rw [hl1]
            have HPT := Lib.hid (show out1 = putR t out by rw [HPS.out, if_pos hlb])
            clear hl1 hlb HPS
            go_upto_region 15 with (fail)
            generalize wr = w4 at *
            go_loopw [8, 9] (fun tv kv wq => ∃ k : Nat, k ≤ PN ∧ kv = .int .i64 k ∧ tv = .bool (decide (t ∈ out.take k)) ∧ Hid (Drew w4 wq)) (fun _ kv _ => PN - (intOf kv).toNat)
            case atStart => exact ⟨0, Nat.zero_le _, rfl, by simp, Lib.hid (Drew.refl _)⟩
            case round =>
              rename_i tv kv
              obtain ⟨k, hk, rfl, rfl, HD⟩ := hrel
              by_cases hkp : k < PN
              · obtain ⟨y, hy⟩ : ∃ y, out[k]? = some y := ⟨_, List.getElem?_eq_getElem (by rw [HPN.out]; exact hkp)⟩
                obtain ⟨g, c9, e9, _, _, hcell⟩ := ownI_some HW.out.1 (by rw [HPN.out]; omega)
                injection e9 with e9 e10 e11
                subst e9
                clear e10 e11
                have d0 : wr.cell? ⟨g, k, none⟩ = some (.int .i64 y) := (HD.out.cell _).trans (hcell k y hy)
                have HTK := Lib.hid (show decide (t ∈ out.take (k + 1)) = (decide (t ∈ out.take k) || (y == t)) by
                  rw [List.take_add_one, hy]
                  simp only [Option.toList_some, List.mem_append, List.mem_singleton, Bool.decide_or]
                  congr 1
                  by_cases e : t = y
                  · simp [e]
                  · rw [decide_eq_false e, beq_eq_false_iff_ne.2 (fun h => e h.symm)])
                have HKM := Lib.hid (show k + 1 ≤ PN by omega)
                have y5 : (k : Int) < PN := by omega
                have y6 : (0 : Int) ≤ k := by omega
                have y7 : (k : Int).toNat = k := rfl
                have y8 : (k : Int) ≤ 2000 := by have := HPL.out; omega
                clear hcell hy hk hkp
                generalize decide (t ∈ out.take k) = z at *
                generalize hz1 : decide (t ∈ out.take (k + 1)) = z1 at *
                have HZ1 := Lib.hid hz1
                clear hz1
                cases z
                · rw [Bool.false_or] at HTK
                  go_wp2
                  go_roundw
                  case rel => exact ⟨k + 1, HKM.out, by go_num, by rw [HZ1.out, HTK.out], Lib.hid HD.out⟩
                  case measure => have := HKM.out; simp [intOf]; omega
                · rw [Bool.true_or] at HTK
                  go_wp2
                  go_roundw
                  case rel => exact ⟨k + 1, HKM.out, by go_num, by rw [HZ1.out, HTK.out], Lib.hid HD.out⟩
                  case measure => have := HKM.out; simp [intOf]; omega
              · obtain rfl : PN = k := by omega
                rw [List.take_of_length_le (show out.length ≤ PN by rw [HPN.out]; exact Nat.le_refl _)]
                have HW2 := Lib.hid (show OwnI w.heap.size wr (.slice A1 PN c1) out ∧ Only Nil w wr from ⟨own_only HW.out.1 HD.out.only (fun _ _ => id), HW.out.2.trans HD.out.only⟩)
                clear HD hk hkp HW
                by_cases hth : t ∈ out
                · rw [decide_eq_true hth]
                  have HP2 := Lib.hid (show out1 = out by rw [HPT.out, putR_there HPR.out hth])
                  clear hth
                  go_wp2
                  exact ⟨⟨i + 1, HLT.out, by go_num, by rw [HO1.out, HP2.out]; exact HW2⟩, by have := HLT.out; simp [intOf]; omega⟩
                · rw [decide_eq_false hth]
                  have HNT := Lib.hid hth
                  clear hth
                  go_wp2_with (at_builtin; refine wp_appI rfl (.tmp 76) (.tmp 78) rfl w.heap.size _ out rfl (HW2.out.1.alloc _) _ t rfl (Row.new _ _ _) (by rw [HPN.out]; have := HPL.out; omega) (by have := HW2.out.2.size; simp; omega) ?_)
                  intro v4 w5 hown hg4 hn4
                  have ho4 := ((Only.refl (fun j => (Value.slice A1 PN c1).ownBlock = some j) wr).alloc (.cells #[.int .i64 t] 3)).grown hg4 (fun j hj => .inr hj)
                  have hoo : Only Nil w w5 := HW2.out.2.step ho4 (fun j hj e => by have := (HW2.out.1.lt j e).1; omega)
                  obtain ⟨g, c9, e9, hgb, _, _⟩ := ownI_some hown (by simp)
                  rw [List.length_append, List.length_singleton, HPN.out] at e9
                  obtain ⟨P1, hP1⟩ : ∃ P1, P1 = PN + 1 := ⟨_, rfl⟩
                  rw [← hP1] at e9
                  subst e9
                  have HIN := Lib.hid (show OwnI w.heap.size w5 (.slice (some ⟨g, 0, none⟩) P1 c9) (insAt PN t out) ∧ (∀ x ∈ out.drop PN, t < x) ∧ Only Nil w w5 from ⟨by rw [← HPN.out, insAt_end]; exact hown, by rw [← HPN.out, List.drop_length]; simp, hoo⟩)
                  have HGB := Lib.hid hgb
                  have HP1 := Lib.hid hP1
                  clear hown hg4 hn4 ho4 hoo hgb HW2 hP1
                  go_upto_region 21 with (fail)
                  go_loopw [10] (fun kv wq => ∃ k : Nat, k ≤ PN ∧ kv = .int .i64 k ∧ Hid (OwnI w.heap.size wq (.slice (some ⟨g, 0, none⟩) P1 c9) (insAt k t out) ∧ (∀ x ∈ out.drop k, t < x) ∧ Only Nil w wq)) (fun kv _ => (intOf kv).toNat)
                  case atStart => exact ⟨PN, Nat.le_refl _, rfl, HIN⟩
                  case round =>
                    clear HIN
                    obtain ⟨K, hK, rfl, HX⟩ := hrel
                    by_cases hK0 : K = 0
                    · subst hK0
                      have HE := Lib.hid (show OwnI w.heap.size wr (.slice (some ⟨g, 0, none⟩) P1 c9) out1 ∧ Only Nil w wr from ⟨by
                        rw [HPT.out, ← insAt_put HPR.out HX.out.2.1 (by simp)]; exact HX.out.1, HX.out.2.2⟩)
                      clear HX hK
                      have hk0 : decide (((0 : Nat) : Int) > 0) = false := rfl
                      go_upto_region 21 with (fail)
                      go_quiet (fail)
                      have HE2 := Lib.hid (fun n => (show OwnI w.heap.size (wr.drewN n) (.slice (some ⟨g, 0, none⟩) P1 c9) out1 ∧ Only Nil w (wr.drewN n) from ⟨own_only HE.out.1 ((Only.refl Nil wr).drewN n) (fun _ _ => id), HE.out.2.drewN n⟩))
                      go_wp2
                      exact ⟨⟨i + 1, HLT.out, by go_num, by rw [HO1.out]; exact Lib.hid (HE2.out _)⟩, by have := HLT.out; simp [intOf]; omega⟩
                    · obtain ⟨j, hj⟩ : ∃ j, K = j + 1 := ⟨K - 1, by omega⟩
                      obtain ⟨y, hy⟩ : ∃ y, out[j]? = some y := ⟨_, List.getElem?_eq_getElem (by rw [HPN.out]; omega)⟩
                      obtain ⟨g', c', e', _, ⟨cur, hrow⟩, hcell⟩ := ownI_some HX.out.1 (by rw [insAt_len _ _ _ (by rw [HPN.out]; omega)]; omega)
                      injection e' with e' e10 e11
                      injection e' with e'
                      injection e' with e'
                      subst e'
                      clear e10 e11
                      have dj : wr.cell? ⟨g, j, none⟩ = some (.int .i64 y) := hcell j y (by rw [hj, insAt_pre (by rw [HPN.out]; omega)]; exact hy)
                      have dK : wr.cell? ⟨g, K, none⟩ = some (.int .i64 t) := hcell K t (insAt_at (by rw [HPN.out]; omega))
                      have HJ := Lib.hid hj
                      have HY := Lib.hid hy
                      have HRW := Lib.hid (show Row wr g 3 cur from hrow)
                      have HKP := Lib.hid hK
                      have u1 : decide ((K : Int) > 0) = true := by simp; omega
                      have u10 : 0 < K := by omega
                      have u11 : decide (0 < K) = true := by simp; omega
                      have u9 : (0 : Int) < K := by omega
                      have u2 : IntKind.i64.wrap ((K : Int) - 1) = (j : Int) := by rw [show (K : Int) - 1 = j by omega]; exact IntWalk.i64_in _ (by have := HPL.out; omega)
                      have u3 : (K : Int) < P1 := by have := HP1.out; omega
                      have u4 : (j : Int) < P1 := by have := HP1.out; omega
                      have u5 : (0 : Int) ≤ K := by omega
                      have u6 : (0 : Int) ≤ j := by omega
                      have u7 : (K : Int).toNat = K := rfl
                      have u8 : (j : Int).toNat = j := rfl
                      clear hcell hj hy hK hK0 hrow
                      by_cases hty : y > t
                      · have ht1 : decide (y > t) = true := by simpa using hty
                        have HTY := Lib.hid hty
                        clear hty
                        go_upto_region 21 with (fail)
                        go_quiet (fail)
                        go_upto_region 22 with (fail)
                        generalize hw6 : wr.drewN _ = w6 at *
                        have e6 : Only Nil wr w6 := hw6 ▸ (Only.refl Nil wr).drewN _
                        have HX6 := Lib.hid (show OwnI w.heap.size w6 (.slice (some ⟨g, 0, none⟩) P1 c9) (insAt K t out) ∧ (∀ x ∈ out.drop K, t < x) ∧ Only Nil w w6 from ⟨own_only HX.out.1 e6 (fun _ _ => id), HX.out.2.1, HX.out.2.2.trans e6⟩)
                        have HR6 := Lib.hid (HRW.out.only e6 id)
                        have dj : w6.cell? ⟨g, j, none⟩ = some (.int .i64 y) := (e6.cell (World.block_lt_of_cell? wr _ dj) id).trans dj
                        have dK : w6.cell? ⟨g, K, none⟩ = some (.int .i64 t) := (e6.cell (World.block_lt_of_cell? wr _ dK) id).trans dK
                        have rK := HR6.out.frozen K
                        clear hw6 e6 HX HRW
                        refine wp_region_phase (n := 18) 15 (fun w' => w'.cell? ⟨g, j, none⟩ = some (.int .i64 y) ∧ w'.cell? ⟨g, K, none⟩ = some (.int .i64 t)) rfl (by kernel_rfl) ⟨dj, dK⟩ (fun hHeld => ?_)
                        refine zt 0 rfl ?_
                        refine zt 1 rfl ?_
                        refine za 2 rfl ?_
                        refine za 3 rfl ?_
                        refine za 4 rfl ?_
                        refine zt 5 rfl ?_
                        refine zt 6 rfl ?_
                        refine zt 7 rfl ?_
                        refine zt 8 rfl ?_
                        refine zt 9 rfl ?_
                        refine zt 10 rfl ?_
                        refine zt 11 rfl ?_
                        refine zt 12 rfl ?_
                        refine zt 13 rfl ?_
                        refine zt 14 rfl ?_
                        refine mpc 15 rfl (by kernel_rfl) (by rfl) (fun KK hKK => ?_)
                        go_simp
                        refine hKK.out _ _ (.inl (by kernel_rfl)) ?_
                        have hjK : j ≠ K := by have := HJ.out; omega
                        have hcj : cur[j]? = some (.int .i64 y) := (HR6.out.cell j).symm.trans dj
                        have HR7 := Lib.hid ((HR6.out.set K (.int .i64 y)).drew)
                        have HO7 := Lib.hid (show OwnI w.heap.size ((w6.setCell ⟨g, K, none⟩ (.int .i64 y)).drew) (.slice (some ⟨g, 0, none⟩) P1 c9) ((insAt K t out).set K y) ∧ Only Nil w ((w6.setCell ⟨g, K, none⟩ (.int .i64 y)).drew) from ⟨own_only (ownI_set HX6.out.1 rfl (by rw [insAt_len _ _ _ (by rw [HPN.out]; exact HKP.out)]; have h1 := HKP.out; have h2 := HPN.out; omega) y) ((Only.refl Nil _).drew) (fun _ _ => id), (HX6.out.2.2.setCell (p := ⟨g, K, none⟩) (.inl HGB.out) (.int .i64 y)).drew⟩)
                        have ej : ((w6.setCell ⟨g, K, none⟩ (.int .i64 y)).drew).cell? ⟨g, j, none⟩ = some (.int .i64 y) := HR7.out.cell_ (by rw [Array.getElem?_setIfInBounds_ne (Ne.symm hjK)]; exact hcj)
                        have rj := HR7.out.frozen j
                        have HDR := Lib.hid HX6.out.2.1
                        clear hKK KK hHeld dj dK rK hcj HX6 HR6
                        generalize (w6.setCell ⟨g, K, none⟩ (.int .i64 y)).drew = w7 at *
                        refine za 16 rfl ?_
                        refine mpc 17 rfl (by kernel_rfl) (by rfl) (fun KK hKK => ?_)
                        go_simp
                        refine hKK.out _ _ (.inl (by kernel_rfl)) ?_
                        have HEND := Lib.hid (show OwnI w.heap.size (w7.setCell ⟨g, j, none⟩ (.int .i64 t)) (.slice (some ⟨g, 0, none⟩) P1 c9) (insAt j t out) ∧ (∀ x ∈ out.drop j, t < x) ∧ Only Nil w (w7.setCell ⟨g, j, none⟩ (.int .i64 t)) from ⟨by
                          have h := ownI_set HO7.out.1 rfl (k := j) (by rw [List.length_set, insAt_len _ _ _ (by rw [HPN.out]; exact HKP.out)]; have h1 := HKP.out; have h2 := HPN.out; have h3 := HJ.out; omega) t
                          rw [HJ.out, insAt_swap HY.out] at h
                          exact h, fun z hz => by
                          rw [drop_cons HY.out] at hz
                          rcases List.mem_cons.1 hz with rfl | hz
                          · have := HTY.out; omega
                          · exact HDR.out z (by rw [HJ.out]; exact hz), HO7.out.2.setCell (p := ⟨g, j, none⟩) (.inl HGB.out) (.int .i64 t)⟩)
                        have HJP := Lib.hid (show j ≤ PN ∧ j < K by have h1 := HKP.out; have h3 := HJ.out; omega)
                        clear hKK KK ej rj HR7 HO7 HDR hjK
                        generalize w7.setCell ⟨g, j, none⟩ (.int .i64 t) = w8 at *
                        refine wpAnyP_done (by kernel_rfl) ?_ _
                        go_wp2
                        go_roundw
                        case rel => exact ⟨j, HJP.out.1, by go_num, HEND⟩
                        case measure => have := HJP.out.2; simp [intOf]; omega
                      · have ht1 : decide (y > t) = false := by simpa using hty
                        have HE := Lib.hid (show OwnI w.heap.size wr (.slice (some ⟨g, 0, none⟩) P1 c9) out1 ∧ Only Nil w wr from ⟨by
                          have hne : y ≠ t := fun e => HNT.out (e ▸ List.mem_of_getElem? HY.out)
                          rw [HPT.out, ← insAt_put HPR.out HX.out.2.1 (by rw [HJ.out]; exact rise_take HPR.out HY.out (by omega))]; exact HX.out.1, HX.out.2.2⟩)
                        have HE2 := Lib.hid (fun n => (show OwnI w.heap.size (wr.drewN n) (.slice (some ⟨g, 0, none⟩) P1 c9) out1 ∧ Only Nil w (wr.drewN n) from ⟨own_only HE.out.1 ((Only.refl Nil wr).drewN n) (fun _ _ => id), HE.out.2.drewN n⟩))
                        clear hty HX HE
                        go_upto_region 21 with (fail)
                        go_quiet (fail)
                        go_wp2
                        exact ⟨⟨i + 1, HLT.out, by go_num, by rw [HO1.out]; exact Lib.hid (HE2.out _)⟩, by have := HLT.out; simp [intOf]; omega⟩
          · have hl1 : lastW l t ≠ 1 := fun e => hlb (lastW_one.1 e)
            generalize lastW l t = a at *
            have b1 : (a != 1) = true := by simpa using hl1
            have HPT := Lib.hid (show out1 = out by rw [HPS.out, if_neg hlb])
            clear hl1 hlb HPS
            go_wp2
            exact ⟨⟨i + 1, HLT.out, by go_num, by rw [HO1.out, HPT.out]; exact HW⟩, by have := HLT.out; simp [intOf]; omega⟩
    · obtain rfl : i = m := by omega
      obtain ⟨A1, c1, rfl, _⟩ := ownI_form HI.out.1
      have HV := Lib.hid (show OwnI w.heap.size wo (.slice A1 (pendF l (l.take i)).length c1) (pendL l) ∧ Only Nil w wo from ⟨by
        have h := HI.out.1
        rw [List.take_of_length_le (show l.length ≤ i by rw [HZ.out]; exact Nat.le_refl _)] at h ⊢
        exact h, HI.out.2⟩)
      clear HI hlt hi hplen
      go_wp2
      go_ret
      exact ⟨_, rfl, HV.out.1, HV.out.2⟩
end Go.Proofs.Ytigdbokfapedcaa
set_option linter.unusedVariables false
set_option linter.unusedSimpArgs false
namespace Go.Proofs.Ytigdbokfapedcaa
open Go.RowKit
def exL : List Nt := [⟨0, 1, 1, 0⟩, ⟨0, 11, 1, 2⟩]
theorem exL_calls : callsF 0 exL = [⟨0, 1, 0, 1, 2, []⟩] := by simp [callsF, exL, callAt, retF]
set_option maxRecDepth 100000 in
theorem awake_any (w : World) : Calls Try.prog 6 #[] w fun e w' => e = .returned (.bool true) ∧ Only Nil w w' := by
  have hr := Row.new w 41 #[.int .i64 0, .int .i64 1, .int .i64 1, .int .i64 0, .int .i64 0, .int .i64 11, .int .i64 1, .int .i64 2]
  have e1 := (Only.refl Nil w).alloc (.cells #[.int .i64 0, .int .i64 1, .int .i64 1, .int .i64 0, .int .i64 0, .int .i64 11, .int .i64 1, .int .i64 2] 41)
  have HN := Lib.hid (show Notes (w.alloc (.cells #[.int .i64 0, .int .i64 1, .int .i64 1, .int .i64 0, .int .i64 0, .int .i64 11, .int .i64 1, .int .i64 2] 41)) (some ⟨w.heap.size, 0, none⟩) exL from fun _ => ⟨w.heap.size, 0, rfl, hr.lt, fun i n hi => by
    have hi2 : i < 2 := (List.getElem?_eq_some_iff.1 hi).1
    rcases (show i = 0 ∨ i = 1 by omega) with rfl | rfl
    · have e : (⟨0, 1, 1, 0⟩ : Nt) = n := by simpa [exL] using hi
      subst e
      exact ⟨hr.cell_ (i := 0) rfl, hr.cell_ (i := 1) rfl, hr.cell_ (i := 2) rfl, hr.cell_ (i := 3) rfl⟩
    · have e : (⟨0, 11, 1, 2⟩ : Nt) = n := by simpa [exL] using hi
      subst e
      exact ⟨hr.cell_ (i := 4) rfl, hr.cell_ (i := 5) rfl, hr.cell_ (i := 6) rfl, hr.cell_ (i := 7) rfl⟩⟩)
  have HO := Lib.hid e1
  clear hr e1
  go_enter Try.func6, Try.ntmps6
  go_wp2_with fail
  refine (rcCalls_any (some ⟨w.heap.size, 0, none⟩) 2 2 exL _ rfl HN.out (fun x hx => by
    rcases List.mem_cons.1 hx with rfl | hx
    · exact wfI (by decide)
    · rcases List.mem_cons.1 hx with rfl | hx
      · exact wfI (by decide)
      · simp at hx) (by decide)).mono ?_
  rintro e w1 ⟨cv, rfl, hc, hO⟩
  have HO1 := Lib.hid (HO.out.trans hO)
  rw [exL_calls] at hc
  obtain ⟨A, k, rfl, hcs⟩ := hc
  obtain ⟨b, q, rfl, hb, c0, c1, c2, c3, c4, _⟩ := hcs 0 _ rfl
  dsimp only [Nat.zero_mul, Nat.add_zero] at c0 c1 c2 c3 c4
  clear hO HO HN hcs
  go_wp2
  go_ret
  exact ⟨rfl, HO1.out⟩
end Go.Proofs.Ytigdbokfapedcaa
namespace Go.Proofs.Ytigdbokfapedcaa
open Go.RowKit Go.ChangeShapes Go.WideShapes Go.Deep
section
variable {H : Type} {enc : TypeId × Value → H} {w : World} {base : Nat} {spare : Nat → Bool} {held : Bool}
theorem field_int {k : IntKind} {t : TypeId} {n : Nat} {l : List Value} {v : Value} {o : Option (DataW H × List MemPlace)} {y : DataW H × List MemPlace} (ht : Try.prog.underlying t = some (.int k)) (hl : l = [v]) (ho : o = some y)
    (h : DataW.trod enc Try.prog w base spare held n t l = o) : ∃ a, v = .int k a ∧ (Lit.int k a).wf = true := by
  subst hl ho
  obtain ⟨a, hc, _, hw⟩ := DataW.trod_int ht h
  simp only [List.cons.injEq, and_true] at hc
  exact ⟨a, hc, hw⟩
end
end Go.Proofs.Ytigdbokfapedcaa
namespace Go.Proofs.Ytigdbokfapedcaa
open Go.RowKit Go.ChangeShapes Go.WideShapes Go.Deep
section
variable {H : Type} {enc : TypeId × Value → H} {P : Program} {w : World} {base : Nat} {spare : Nat → Bool} {held : Bool}
theorem open_tab {t e : TypeId} {fs : Array Field} {fuel len cap : Nat} {A : Option Addr} {x : DataW H × List MemPlace} (ht : P.underlying t = some (.slice e)) (he : P.underlying e = some (.struct fs))
    (hone : oneCellFields P fs = true) (hC : P.cellsOf e = fs.size) (h0 : 0 < fs.size) (h : DataW.trod enc P w base spare held fuel t [.slice A len cap] = some x) :
    ∀ i, i < len → ∃ b o, A = some ⟨b, o, none⟩ ∧ b < w.heap.size ∧ ∀ j f, fs[j]? = some f → ∃ v n y, w.cell? ⟨b, o + (i * fs.size + j), none⟩ = some v ∧ DataW.trod enc P w base spare held n f.type [v] = some y := by
  intro i hi
  rcases open_slice ht h with ⟨hcs, _⟩ | ⟨a, len', cap', m, n, D, Pl, hcs, _, hl, _, hmm, _, hrow⟩
  · simp only [List.cons.injEq, Value.slice.injEq] at hcs
    omega
  · simp only [List.cons.injEq, Value.slice.injEq, and_true] at hcs
    obtain ⟨rfl, rfl, rfl⟩ := hcs
    have him : i < m := by rw [hmm]; split <;> omega
    obtain ⟨cs, hc, hy⟩ := hrow i him
    rw [hC] at hc
    obtain ⟨_, hlen, hat⟩ := World.cells?_some hc
    obtain ⟨ys, k, _, _, _, hyl, hf⟩ := DataW.trod_struct he hy
    have hcell : ∀ j, j < fs.size → ∃ v, cs[j]? = some v ∧ w.cell? (a.add (i * fs.size + j)) = some v := by
      intro j hj
      have hv : cs[j]? = some (cs[j]'(by omega)) := List.getElem?_eq_getElem (by omega)
      exact ⟨_, hv, by rw [← Go.Deep.add_add, hat j hj, hv]⟩
    obtain ⟨b, o, spot⟩ := a
    have hspot : spot = none := by
      obtain ⟨cs0, hc0, _⟩ := hrow 0 (by omega)
      rw [hC] at hc0
      obtain ⟨_, hlen0, hat0⟩ := World.cells?_some hc0
      have e := hat0 0 h0
      have hv : cs0[0]? = some (cs0[0]'(by omega)) := List.getElem?_eq_getElem (by omega)
      rw [hv] at e
      simpa [Addr.add] using World.cell?_spot e
    subst hspot
    refine ⟨b, o, rfl, ?_, fun j f hj => ?_⟩
    · obtain ⟨v, _, hv⟩ := hcell 0 h0
      have := World.block_lt_of_cell? w _ hv
      rwa [add_block] at this
    · have hjl : j < fs.size := (Array.getElem?_eq_some_iff.1 hj).1
      obtain ⟨ho, hk⟩ := hone_of hone j f hj
      obtain ⟨v, hv, hcv⟩ := hcell j hjl
      have h1 := hf j f hj
      rw [ho, hk, List.drop_eq_getElem_cons (by omega)] at h1
      have hys : ys[j]? = some (ys[j]'(by omega)) := List.getElem?_eq_getElem (by omega)
      rw [List.getElem?_eq_getElem (by omega)] at hv
      injection hv with hv
      rw [hv] at h1
      refine ⟨v, k, _, by rw [← add_at]; exact hcv, h1.trans hys⟩
end
end Go.Proofs.Ytigdbokfapedcaa
namespace Go.Proofs.Ytigdbokfapedcaa
open Go.RowKit Go.ChangeShapes Go.WideShapes Go.Deep
set_option linter.unusedVariables false
set_option linter.unusedSimpArgs false
def IsNotesW (w : World) (A : Option Addr) (len : Nat) : Prop := ∃ zs : List Nt, zs.length = len ∧ Notes w A zs ∧ ∀ x ∈ zs, (Lit.int .i64 x.t).wf = true
theorem isNotesW_of {H : Type} {enc : TypeId × Value → H} {w : World} {base : Nat} {spare : Nat → Bool} {held : Bool} {fuel len cap : Nat} {A : Option Addr} {x : DataW H × List MemPlace}
    (h : DataW.trod enc Try.prog w base spare held fuel 22 [.slice A len cap] = some x) : IsNotesW w A len := by
  have hall : ∀ i, i < len → ∃ b o n, A = some ⟨b, o, none⟩ ∧ b < w.heap.size ∧ At4 w b (o + i * 4) n ∧ (Lit.int .i64 n.t).wf = true := by
    intro i hi
    obtain ⟨b, o, hA, hb, hf⟩ := open_tab Try.underlying22 Try.underlying41 (by kernel_rfl) (by kernel_rfl) (by decide) h i hi
    obtain ⟨v0, n0, y0, c0, t0⟩ := hf 0 _ rfl
    obtain ⟨v1, n1, y1, c1, t1⟩ := hf 1 _ rfl
    obtain ⟨v2, n2, y2, c2, t2⟩ := hf 2 _ rfl
    obtain ⟨v3, n3, y3, c3, t3⟩ := hf 3 _ rfl
    obtain ⟨a0, rfl, z0⟩ := field_int Try.underlying3 rfl rfl t0
    obtain ⟨a1, rfl, _⟩ := field_int Try.underlying3 rfl rfl t1
    obtain ⟨a2, rfl, _⟩ := field_int Try.underlying3 rfl rfl t2
    obtain ⟨a3, rfl, _⟩ := field_int Try.underlying3 rfl rfl t3
    exact ⟨b, o, ⟨a0, a1, a2, a3⟩, hA, hb, ⟨c0, c1, c2, c3⟩, z0⟩
  clear h
  rcases Nat.eq_zero_or_pos len with rfl | h0
  · exact ⟨[], rfl, (fun h => absurd h (by simp)), by simp⟩
  · obtain ⟨b, o, n0, rfl, hb, _⟩ := hall 0 h0
    have hex : ∀ i, i < len → ∃ n, At4 w b (o + i * 4) n ∧ (Lit.int .i64 n.t).wf = true := fun i hi => by
      obtain ⟨b', o', n, he, _, h4⟩ := hall i hi
      injection he with he
      injection he with h1 h2
      subst h1 h2
      exact ⟨n, h4⟩
    have hlist : ∀ k, k ≤ len → ∃ zs : List Nt, zs.length = k ∧ ∀ (i : Nat) (n : Nt), zs[i]? = some n → At4 w b (o + i * 4) n ∧ (Lit.int .i64 n.t).wf = true := by
      intro k
      induction k with
      | zero => exact fun _ => ⟨[], rfl, fun i n h => by simp at h⟩
      | succ k ih =>
        intro hk
        obtain ⟨zs, hl, hz⟩ := ih (by omega)
        obtain ⟨n, hn⟩ := hex k (by omega)
        refine ⟨zs ++ [n], by simp [hl], fun i m hi => ?_⟩
        rcases Nat.lt_or_ge i zs.length with h | h
        · rw [List.getElem?_append_left h] at hi
          exact hz i m hi
        · rw [List.getElem?_append_right h] at hi
          have hik : i = k := by
            have := (List.getElem?_eq_some_iff.1 hi).1
            simp at this
            omega
          subst hik
          rw [hl, Nat.sub_self] at hi
          simp only [List.getElem?_cons_zero, Option.some.injEq] at hi
          subst hi
          exact hn
    obtain ⟨zs, hl, hz⟩ := hlist len (Nat.le_refl _)
    exact ⟨zs, hl, (fun _ => ⟨b, o, rfl, hb, fun i n h => (hz i n h).1⟩), fun x hx => by
      obtain ⟨i, hi⟩ := List.getElem?_of_mem hx
      exact (hz i x hi).2⟩
end Go.Proofs.Ytigdbokfapedcaa
set_option linter.unusedVariables false
set_option linter.unusedSimpArgs false
namespace Go.Proofs.Ytigdbokfapedcaa
open Go.RowKit
set_option maxRecDepth 100000 in
theorem walk_recCalls (a0 : Option Addr) (len0 cap0 : Nat) (W : World) (w0 : IsNotesW W a0 len0) :
    Calls Try.prog 3 #[.slice a0 len0 cap0] W fun e w' => e = .returned (.bool true) ∧ Only Nil W w' := by
  obtain ⟨l, hl, hN, hwf⟩ := w0
  by_cases h200 : 200 < len0
  · have q1 : (200 : Int) < len0 := by omega
    clear h200 hN hl hwf
    go_enter Try.func3, Try.ntmps3
    go_wp2_with fail
    refine (awake_any _).mono ?_
    rintro e w2 ⟨rfl, hO⟩
    go_wp2
    go_ret
    exact ⟨rfl, hO⟩
  · have q1 : ¬ (200 : Int) < len0 := by omega
    have HL := Lib.hid (show len0 ≤ 200 by omega)
    have HC := Lib.hid (And.intro hl (And.intro hN hwf))
    clear h200 hN hl hwf
    go_enter Try.func3, Try.ntmps3
    go_wp2_with fail
    refine (rcCalls_any a0 len0 cap0 l W HC.out.1 HC.out.2.1 HC.out.2.2 (by have := HL.out; omega)).mono ?_
    rintro e w1 ⟨v1, rfl, hc, hO⟩
    have HO1 := Lib.hid hO
    have HV1 := Lib.hid hc
    clear hO hc
    go_wp2_with fail
    refine (rfCalls_any a0 len0 cap0 l w1 HC.out.1 (HC.out.2.1.only HO1.out) (by have := HL.out; omega)).mono ?_
    rintro e w2 ⟨v2, rfl, hc, hO⟩
    have HO2 := Lib.hid (HO1.out.trans hO)
    have HV2 := Lib.hid (And.intro (HV1.out.only hO) hc)
    clear hO hc HV1 HO1
    go_wp2_with fail
    refine (same_cals v1 v2 (callsF 0 l) w2 HV2.out.1 HV2.out.2 (by have h1 := callsF_len l 0; have h2 := HL.out; have h3 := HC.out.1; omega) (fun c hc => by have h1 := calls_pts l 0 hc; have h2 := HL.out; have h3 := HC.out.1; omega)).mono ?_
    rintro e w3 ⟨rfl, hO⟩
    have HO3 := Lib.hid (HO2.out.trans hO)
    clear hO HV2 HO2
    go_wp2_with fail
    refine (rpending_any a0 len0 cap0 l w3 HC.out.1 (HC.out.2.1.only HO3.out) HC.out.2.2 (by have := HL.out; omega)).mono ?_
    rintro e w4 ⟨v4, rfl, hv, hO⟩
    have HO4 := Lib.hid (HO3.out.trans hO)
    have HV4 := Lib.hid hv
    clear hO hv HO3
    go_wp2_with fail
    refine (rfpending_any a0 len0 cap0 l w4 HC.out.1 (HC.out.2.1.only HO4.out) (by have := HL.out; omega)).mono ?_
    rintro e w5 ⟨v5, rfl, hv, hO⟩
    have HO5 := Lib.hid (HO4.out.trans hO)
    have HV5 := Lib.hid (And.intro (own_only HV4.out hO (fun _ _ => id) : OwnI w3.heap.size w5 v4 (pendL l)) hv)
    clear hO hv HO4 HV4
    obtain ⟨A4, c4, rfl, h4⟩ := ownI_form HV5.out.1
    obtain ⟨A5, c5, rfl, h5⟩ := ownI_form HV5.out.2
    have H45 := Lib.hid (And.intro h4 h5)
    have HPL := Lib.hid (show (pendL l).length ≤ 1000000 by have h1 := pendF_len l l; have h2 := HL.out; have h3 := HC.out.1; unfold pendL; omega)
    clear h4 h5 HV5
    go_wp2_with fail
    refine (ints_same A4 A5 c4 c5 (pendL l).length (pendL l) w5 H45.out.1 H45.out.2 rfl HPL.out).mono ?_
    rintro e w6 ⟨rfl, hO⟩
    have HO6 := Lib.hid (HO5.out.trans hO)
    clear hO HO5 H45
    go_wp2_with fail
    refine (awake_any _).mono ?_
    rintro e w7 ⟨rfl, hO⟩
    have HO7 := Lib.hid (HO6.out.trans hO)
    go_wp2
    go_ret
    exact ⟨rfl, HO7.out⟩
end Go.Proofs.Ytigdbokfapedcaa
set_option linter.unusedVariables false
set_option linter.unusedSimpArgs false
namespace Go.Proofs.Ytigdbokfapedcaa
open Go.RowKit
structure CkI (n : Int) (w : World) (l : List Nt) (k : Nat) (wr : World) : Prop where
  m : ∃ c, c ≤ k ∧ Mp wr w.heap.size c (vf (l.take k))
  o : Only Nil w wr
  r : ∀ x ∈ l.take k, rightN x.t x.w x.o x.a = true
  c : chkL n l = chkF n (l.take k) (l.drop k)
set_option maxRecDepth 100000 in
set_option maxHeartbeats 2000000 in
theorem rcheck_any (n : Int) (A : Option Addr) (m cap : Nat) (l : List Nt) (w : World) (hl : l.length = m) (hN : Notes w A l) (hwf : ∀ x ∈ l, (Lit.int .i64 x.t).wf = true) (hm : m ≤ 2000) :
    Calls Try.prog 13 #[.int .i64 n, .slice A m cap] w fun e w' => e = .returned (.tuple #[.int .i64 (chkL n l).1, .int .i64 (chkL n l).2]) ∧ Only Nil w w' := by
  have HZ := Lib.hid hl
  have HN := Lib.hid hN
  have HWF := Lib.hid hwf
  have HM := Lib.hid hm
  have q0 : (m : Int) ≤ 9223372036854775806 := by omega
  have hmm := @run_makeMap Try.prog
  clear hl hN hwf hm
  go_enter Try.func13, Try.ntmps13
  go_wp2_with fail
  go_loopw [13] (fun i wr => ∃ k : Nat, k ≤ m ∧ i = .int .i64 k ∧ CkI n w l k wr) (fun i _ => m - (intOf i).toNat)
  case atStart => exact ⟨0, Nat.zero_le _, rfl, ⟨0, Nat.le_refl _, mp_made w⟩, (Only.refl _ _).alloc _, (fun x hx => by simp at hx), rfl⟩
  case round =>
    obtain ⟨k, hk, rfl, HI⟩ := hrel
    obtain ⟨c, hc, hmp⟩ := HI.m
    have hO := HI.o
    have hR := HI.r
    have hC := HI.c
    clear HI
    by_cases hlt : k < m
    · obtain ⟨x, hx⟩ : ∃ x, l[k]? = some x := ⟨_, List.getElem?_eq_getElem (by rw [HZ.out]; exact hlt)⟩
      have hd : l.drop k = x :: l.drop (k + 1) := by
        obtain ⟨h1, h2⟩ := List.getElem?_eq_some_iff.1 hx
        rw [List.drop_eq_getElem_cons h1, h2]
      have ht1 : l.take (k + 1) = l.take k ++ [x] := by rw [List.take_add_one, hx]; rfl
      have hln : (l.take k).length = k := by rw [List.length_take, HZ.out]; omega
      obtain ⟨b, q, rfl, hb, hat⟩ := (HN.out.only hO) (by rw [HZ.out]; omega)
      obtain ⟨f0, f1, f2, f3⟩ := hat k x hx
      have HWX := Lib.hid (HWF.out x (List.mem_of_getElem? hx))
      have e1 := (Only.refl Nil wr).alloc (.cells #[.int .i64 x.t, .int .i64 x.w, .int .i64 x.o, .int .i64 x.a] 41)
      have HR := Lib.hid (Row.new wr 41 #[.int .i64 x.t, .int .i64 x.w, .int .i64 x.o, .int .i64 x.a])
      have HMP := Lib.hid (hmp.only e1 id)
      have HO := Lib.hid (hO.trans e1)
      have HD := Lib.hid (And.intro hd (And.intro ht1 hln))
      have HRC := Lib.hid (And.intro hR hC)
      have HKM := Lib.hid (And.intro hlt hc)
      have hfw := fault_wrong (n := n) (o := mpF (l.take k) x.t) (x := x) (mpF_right x.t (l.take k) none hR (by simp))
      rw [mpF_op] at hfw
      have HFW := Lib.hid hfw
      have q5 : (k : Int) < m := by omega
      clear hat hx hd ht1 hln hmp hO hR hC e1 hk hc hfw hlt
      go_upto_region 5 with (fail)
      clear f0 f1 f2 f3
      generalize wr.alloc _ = w1 at *
      generalize wr.heap.size = X at *
      have c0 : w1.cell? ⟨X, 0, none⟩ = some (.int .i64 x.t) := HR.out.cell_ (i := 0) rfl
      have c1 : w1.cell? ⟨X, 1, none⟩ = some (.int .i64 x.w) := HR.out.cell_ (i := 1) rfl
      have c2 : w1.cell? ⟨X, 2, none⟩ = some (.int .i64 x.o) := HR.out.cell_ (i := 2) rfl
      have c3 : w1.cell? ⟨X, 3, none⟩ = some (.int .i64 x.a) := HR.out.cell_ (i := 3) rfl
      go_wp2_with fail
      clear c0 c1 c2 c3
      refine (fault_any w.heap.size c n (l.take k) x.t x.w x.o x.a w1 HMP.out HWX.out).mono ?_
      rw [show faultM n (mpF (l.take k) x.t) ⟨x.t, x.w, x.o, x.a⟩ = wrongN n (inOp (l.take k) x.t) x from HFW.out]
      rintro e w2 ⟨rfl, hO⟩
      have HO2 := Lib.hid (HO.out.trans hO)
      have HR2 := Lib.hid (HR.out.only hO id)
      have HM2 := Lib.hid (HMP.out.only hO id)
      clear hO HR HO HMP
      generalize hwr : wrongN n (inOp (l.take k) x.t) x = wr0 at *
      have HWR := Lib.hid hwr
      clear hwr
      by_cases h0 : wr0 = 0
      · subst h0
        have c0 : w2.cell? ⟨X, 0, none⟩ = some (.int .i64 x.t) := HR2.out.cell_ (i := 0) rfl
        have c1 : w2.cell? ⟨X, 1, none⟩ = some (.int .i64 x.w) := HR2.out.cell_ (i := 1) rfl
        have c2 : w2.cell? ⟨X, 2, none⟩ = some (.int .i64 x.o) := HR2.out.cell_ (i := 2) rfl
        have c3 : w2.cell? ⟨X, 3, none⟩ = some (.int .i64 x.a) := HR2.out.cell_ (i := 3) rfl
        go_wp2_with fail
        clear c0 c1 c2 c3
        refine (take_any w.heap.size c (l.take k) x.t x.w x.o x.a w2 HM2.out (by have h1 := HKM.out; have h2 := HM.out; omega) HWX.out).mono ?_
        rintro e w3 ⟨rfl, hm3, ho3⟩
        have HCI := Lib.hid (show CkI n w l (k + 1) w3 from ⟨⟨c + 1, by have := HKM.out; omega, by rw [HD.out.2.1]; exact hm3⟩, HO2.out.step ho3 (fun i hi e => by omega), fun y hy => by
          rw [HD.out.2.1] at hy
          rcases List.mem_append.1 hy with hy | hy
          · exact HRC.out.1 y hy
          · rw [List.mem_singleton.1 hy]; exact wrong_right HWR.out, by
          rw [HRC.out.2, HD.out.1, chkF, if_pos HWR.out, HD.out.2.1]⟩)
        have HLT := Lib.hid HKM.out.1
        clear hm3 ho3 HM2 HO2 HR2
        go_wp2
        exact ⟨⟨k + 1, HLT.out, by go_num, HCI.out⟩, by have := HLT.out; simp [intOf]; omega⟩
      · have HE := Lib.hid (show chkL n l = ((k : Int), wr0) by rw [HRC.out.2, HD.out.1, chkF, if_neg (by rw [HWR.out]; exact h0), HD.out.2.2, HWR.out])
        go_wp2
        go_ret2
        exact ⟨by rw [HE.out]; rfl, HO2.out⟩
    · obtain rfl : k = m := by omega
      have HE := Lib.hid (show chkL n l = (0, 0) by rw [hC, List.drop_of_length_le (by rw [HZ.out]; exact Nat.le_refl _)]; rfl)
      have HO := Lib.hid hO
      clear hmp hO hR hC hlt hk hc
      go_wp2
      go_ret2
      exact ⟨by rw [HE.out]; rfl, HO.out⟩
end Go.Proofs.Ytigdbokfapedcaa
