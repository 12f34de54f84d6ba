/- RcPend. -/
import Derived.Test.YtigdbokfapedcaaGreatKeys
import Derived.Maps.Ext
import Derived.Lib.SlKeysI
import Derived.Test.YtigdbokfapedcaaGreatB18
import Derived.Test.YtigdbokfapedcaaGreatB19
import Derived.Test.YtigdbokfapedcaaGreatB3
/- rec.Pending. -/
set_option linter.unusedVariables false
set_option linter.unusedSimpArgs false
namespace Go.Proofs.YtigdbokfapedcaaGreat
open Go.RowKit
theorem owns_keys {w : World} {b n : Nat} {D : DataW Value} (h : w.ownsMap Tryz.prog 3 asIt b n D) : ∃ es, D = .map es ∧ es.Pairwise (fun p q => p.1 ≠ q.1) ∧ ∀ p ∈ es, ∃ x, p.1 = .int .i64 x := by
  obtain ⟨es, e, hp⟩ := h.tidy (Maps.int_keyed Tryz.underlying3)
  refine ⟨es, e, hp, fun p hpm => ?_⟩
  obtain ⟨es0, clock, _, F, _, e2⟩ := h
  rw [e] at e2
  injection e2 with e2
  rw [e2] at hpm
  obtain ⟨x, hx, rfl⟩ := List.mem_map.1 (Go.mem_sorted.1 hpm)
  obtain ⟨y, hy⟩ := F.reads x hx
  rw [Go.WideElems.rg_of hy]
  obtain ⟨z, _, hz, _⟩ := Maps.keyOf_i64 Tryz.underlying3 (Go.WideElems.rd_key hy)
  exact ⟨z, hz⟩
theorem rise_nodup {l : List Int} (h : Rise l) : l.Nodup := h.imp (fun {a b} hab e => by omega)
theorem rise_sort {l : List Int} (h : Rise l) : l.mergeSort (fun x y => decide (x ≤ y)) = l :=
  List.mergeSort_of_pairwise (h.imp (fun {a b} hab => by simp only [decide_eq_true_eq]; omega))
set_option maxRecDepth 100000 in
theorem rpending_any (A : Option Addr) (m cap : Nat) (l : List Nt) (w : World) (hl : l.length = m) (hN : Notes w A l) (hwf : ∀ x ∈ l, (Lit.int .i64 x.t).wf = true) (hm : m ≤ 2000) :
    Calls Tryz.prog 10 #[.slice A m cap] w fun e w' => ∃ v, e = .returned v ∧ OwnI w.heap.size w' v (pendL l) ∧ Only Nil w w' := by
  have HZ := Lib.hid hl
  have HN := Lib.hid hN
  have HWF := Lib.hid hwf
  have HM := Lib.hid hm
  have q0 : (m : Int) ≤ 9223372036854775806 := by omega
  have hmm := @run_makeMap Tryz.prog
  clear hl hN hwf hm
  go_enter Tryz.func10, Tryz.ntmps10
  go_wp2_with fail
  go_loopw [9] (fun i wr => ∃ k : Nat, k ≤ m ∧ i = .int .i64 k ∧ Hid ((∃ c, c ≤ k ∧ Mp wr w.heap.size c (vf (l.take k))) ∧ Only Nil w wr)) (fun i _ => m - (intOf i).toNat)
  case atStart => exact ⟨0, Nat.zero_le _, rfl, Lib.hid ⟨⟨0, Nat.le_refl _, mp_made w⟩, (Only.refl _ _).alloc _⟩⟩
  case round =>
    obtain ⟨k, hk, rfl, HI⟩ := hrel
    obtain ⟨⟨c, hc, hmp⟩, hO⟩ := HI.out
    clear HI
    by_cases hlt : k < m
    · obtain ⟨x, hx⟩ : ∃ x, l[k]? = some x := ⟨_, List.getElem?_eq_getElem (by rw [HZ.out]; exact hlt)⟩
      have ht1 : l.take (k + 1) = l.take k ++ [x] := by rw [List.take_add_one, hx]; rfl
      obtain ⟨b, q, rfl, hb, hat⟩ := (HN.out.only hO) (by rw [HZ.out]; omega)
      obtain ⟨f0, f1, f2, f3⟩ := hat k x hx
      have HWX := Lib.hid (HWF.out x (List.mem_of_getElem? hx))
      have e1 := (Only.refl Nil wr).alloc (.cells #[.int .i64 x.t, .int .i64 x.w, .int .i64 x.o, .int .i64 x.a] 59)
      have HR := Lib.hid (Row.new wr 59 #[.int .i64 x.t, .int .i64 x.w, .int .i64 x.o, .int .i64 x.a])
      have HMP := Lib.hid (hmp.only e1 id)
      have HO := Lib.hid (hO.trans e1)
      have HT := Lib.hid ht1
      have HKM := Lib.hid (And.intro hlt hc)
      have q5 : (k : Int) < m := by omega
      clear hat hx ht1 hmp hO e1 hk hc hlt
      go_upto_region 5 with (fail)
      clear f0 f1 f2 f3
      generalize wr.alloc _ = w1 at *
      generalize wr.heap.size = X at *
      have c0 : w1.cell? ⟨X, 0, none⟩ = some (.int .i64 x.t) := HR.out.cell_ (i := 0) rfl
      have c1 : w1.cell? ⟨X, 1, none⟩ = some (.int .i64 x.w) := HR.out.cell_ (i := 1) rfl
      have c2 : w1.cell? ⟨X, 2, none⟩ = some (.int .i64 x.o) := HR.out.cell_ (i := 2) rfl
      have c3 : w1.cell? ⟨X, 3, none⟩ = some (.int .i64 x.a) := HR.out.cell_ (i := 3) rfl
      go_wp2_with fail
      clear c0 c1 c2 c3
      refine (opsTake_any w.heap.size c (l.take k) x.t x.w x.o x.a w1 HMP.out (by have h1 := HKM.out; have h2 := HM.out; omega) HWX.out).mono ?_
      rintro e w3 ⟨rfl, hm3, ho3⟩
      have HCI := Lib.hid (show (∃ c', c' ≤ k + 1 ∧ Mp w3 w.heap.size c' (vf (l.take (k + 1)))) ∧ Only Nil w w3 from ⟨⟨c + 1, by have := HKM.out; omega, by rw [HT.out]; exact hm3⟩, HO.out.step ho3 (fun i hi e => by omega)⟩)
      have HLT := Lib.hid HKM.out.1
      clear hm3 ho3 HMP HO HR
      go_wp2
      exact ⟨⟨k + 1, HLT.out, by go_num, HCI⟩, by have := HLT.out; simp [intOf]; omega⟩
    · obtain rfl : k = m := by omega
      rw [List.take_of_length_le (show l.length ≤ k by rw [HZ.out]; exact Nat.le_refl _)] at hmp
      have hlen := hmp
      obtain ⟨D, hD, hf⟩ := hmp
      obtain ⟨es, rfl, hpw, hkk⟩ := owns_keys hD
      have hper : (pendL l).Perm (intKeys (.map es)) := perm_intKeys hpw hkk (rise_nodup (pend_rise l)) (fun x => by
        rw [mem_pend, (hf x).1, ← mpF_some]
        unfold vf
        rw [Option.isSome_map])
      have HD := Lib.hid hD
      have HPE := Lib.hid hper
      have HO := Lib.hid hO
      have HSZ := Lib.hid (show Maps.size (DataW.map es) ≤ 2000 from Nat.le_trans hD.size_le (by have := HM.out; omega))
      clear hlen hD hf hpw hkk hper hO hlt hk hc
      go_wp2_with fail
      refine (Tryz.keysC (some w.heap.size) wr).mono ?_
      rintro e w1 ⟨rfl, rfl⟩
      go_wp2_with fail
      refine (Tryz.sortedC w.heap.size c (.map es) asIt wr HD.out (by have := HSZ.out; unfold maxLen; omega) (by have := HSZ.out; omega)).mono ?_
      rintro e w2 ⟨v, ss, rfl, hss, hrow, hnil, hb⟩
      have hs2 : ss.mergeSort (fun x y => decide (x ≤ y)) = pendL l := by
        have h1 := mergeSort_of_perm_i (hss.trans HPE.out.symm)
        exact h1.trans (rise_sort (pend_rise l))
      have hO2 : Only Nil w w2 := (HO.out.alloc _).trans (Only.of_below hb (fun k hk hk2 => absurd hk (by omega)))
      have HV := Lib.hid (show OwnI w.heap.size w2 v (pendL l) ∧ Only Nil w w2 from ⟨by
        rw [hs2] at hrow
        have hlen : (pendL l).length = ss.length := by rw [← hs2, List.length_mergeSort]
        rw [← hlen] at hrow
        obtain ⟨r1, r2⟩ := hrow
        have h9 : w.heap.size ≤ (wr.alloc (.cells #[.map (some w.heap.size)] 68)).heap.size := by
          have := HO.out.size
          simp; omega
        exact ⟨r1, r2.imp id (fun ⟨g', cap', cur', a1, a2, a3⟩ => ⟨g', cap', cur', a1, Nat.le_trans h9 a2, a3⟩)⟩, hO2⟩)
      clear hss hrow hnil hb hs2 hO2
      go_wp2
      go_ret
      exact ⟨_, rfl, HV.out.1, HV.out.2⟩
end Go.Proofs.YtigdbokfapedcaaGreat
