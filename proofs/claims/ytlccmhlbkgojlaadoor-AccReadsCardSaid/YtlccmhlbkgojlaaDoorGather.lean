/- Accesses read from texts: acc.gather. -/
import Derived.Test.YtlccmhlbkgojlaaDoorAccP
import Derived.Test.YtlccmhlbkgojlaaDoorAcc
import Derived.Test.YtlccmhlbkgojlaaDoorApp
namespace Go.Proofs.YtlccmhlbkgojlaaDoor
open Go.RowKit

/-- Some access; that of the parts. -/
def Gath (l : Bs) (w : World) (e : Ending) (w' : World) : Prop := ∃ k c x y o : Int, e = .returned (.agg #[.int .i64 k, .int .i64 c, .int .u32 x, .int .u32 y, .int .u32 o]) ∧ Only Nil w w' ∧ Acc.Fits ⟨k, c, x, y, o⟩ ∧ ∀ b, Has l b → b = ⟨k, c, x, y, o⟩
theorem nOps_cnt {k : Int} (h1 : 1 ≤ k) (h5 : k ≤ 5) : (cnt k : Int) = nOps k + 4 := by
  rcases kinds h1 h5 with rfl | rfl | rfl | rfl | rfl <;> decide
theorem nOps_cases (k : Int) : nOps k = 0 ∨ nOps k = 1 ∨ nOps k = 2 := by
  unfold nOps
  split
  · simp
  · split <;> simp
theorem head_kind {l : Bs} {a : Acc} {W0 : Bs} (h : Has l a) (h0 : (cut l)[0]? = some W0) : kindL W0 = a.k := by
  obtain ⟨⟨W, hW, hk⟩, _⟩ := has_facts h
  rw [h0] at hW
  injection hW with hW
  rw [hW]; exact hk

def IsHex (X : Bs) (v : Int) : Prop := ∀ x : Int, 0 ≤ x → x < 4294967296 → (bs X).data.toList = hex8 x → v = x
def IsDec (X : Bs) (v : Int) : Prop := ∀ c : Nat, c ≤ 1023 → (bs X).data.toList = Lib.decDigits c → v = c
theorem dec_of {l X : Bs} {v : Int} {b : Acc} (h : Has l b) (hX : (cut l)[1]? = some X) (hv : IsDec X v) : b.c = v := by
  have h1 := (has_facts h).2.2.2.1
  rw [hX] at h1
  injection h1 with h1
  have r := h.2.1
  have := hv b.c.toNat (by have := r.c1; omega) h1
  have := r.c0
  omega
theorem hex_of {l X : Bs} {v x : Int} {j : Nat} (hx : (cut l)[j]? = some (hex8 x)) (hX : (cut l)[j]? = some X) (h0 : 0 ≤ x) (h1 : x < 4294967296) (hv : IsHex X v) : x = v := by
  rw [hX] at hx
  injection hx with hx
  exact (hv x h0 h1 hx).symm
theorem kind_of_ops {l : Bs} {b : Acc} {kd N : Int} (h : Has l b) (hk : kd = b.k) (hN : nOps kd = N) : (N = 0 → b.k = 1) ∧ (N = 1 → b.k ≠ 1 ∧ b.k ≠ 5 ∧ cnt b.k = 5) ∧ (N = 2 → b.k = 5) := by
  have h1 := h.2.1.k1
  have h5 := h.2.1.k5
  subst hN hk
  rcases kinds h1 h5 with e | e | e | e | e <;> rw [e] <;> decide
theorem gath0 {l X1 X3 : Bs} {kd v o : Int} (hk : ∀ b, Has l b → kd = b.k) (hN : nOps kd = 0) (h1 : (cut l)[1]? = some X1) (h3 : (cut l)[3]? = some X3) (hv : IsDec X1 v) (ho : IsHex X3 o) : ∀ b, Has l b → b = ⟨kd, v, 0, 0, o⟩ := fun b hb => by
  have hk1 := (kind_of_ops hb (hk b hb) hN).1 rfl
  have f := hb.1
  obtain ⟨_, _, _, _, hoo, _, _⟩ := has_facts hb
  rw [show cnt b.k - 1 = 3 by rw [hk1]; rfl] at hoo
  exact Acc.ext_ (hk b hb).symm (dec_of hb h1 hv) (hb.2.1.x hk1) (hb.2.1.y (by omega)) (hex_of hoo h3 f.o0 f.o1 ho)
theorem gath1 {l X1 X2 X4 : Bs} {kd v x o : Int} (hk : ∀ b, Has l b → kd = b.k) (hN : nOps kd = 1) (h1 : (cut l)[1]? = some X1) (h2 : (cut l)[2]? = some X2) (h4 : (cut l)[4]? = some X4) (hv : IsDec X1 v) (hx : IsHex X2 x) (ho : IsHex X4 o) : ∀ b, Has l b → b = ⟨kd, v, x, 0, o⟩ := fun b hb => by
  obtain ⟨hk1, hk5, hc⟩ := (kind_of_ops hb (hk b hb) hN).2.1 rfl
  have f := hb.1
  obtain ⟨_, _, _, _, hoo, hxx, _⟩ := has_facts hb
  rw [show cnt b.k - 1 = 4 by rw [hc]] at hoo
  exact Acc.ext_ (hk b hb).symm (dec_of hb h1 hv) (hex_of (hxx hk1) h2 f.x0 f.x1 hx) (hb.2.1.y hk5) (hex_of hoo h4 f.o0 f.o1 ho)
theorem gath2 {l X1 X2 X3 X5 : Bs} {kd v x y o : Int} (hk : ∀ b, Has l b → kd = b.k) (hN : nOps kd = 2) (h1 : (cut l)[1]? = some X1) (h2 : (cut l)[2]? = some X2) (h3 : (cut l)[3]? = some X3) (h5 : (cut l)[5]? = some X5) (hv : IsDec X1 v) (hx : IsHex X2 x) (hy : IsHex X3 y) (ho : IsHex X5 o) : ∀ b, Has l b → b = ⟨kd, v, x, y, o⟩ := fun b hb => by
  have hk5 := (kind_of_ops hb (hk b hb) hN).2.2 rfl
  have f := hb.1
  obtain ⟨_, _, _, _, hoo, hxx, hyy⟩ := has_facts hb
  rw [show cnt b.k - 1 = 5 by rw [hk5]; rfl] at hoo
  exact Acc.ext_ (hk b hb).symm (dec_of hb h1 hv) (hex_of (hxx (by omega)) h2 f.x0 f.x1 hx) (hex_of (hyy hk5) h3 f.y0 f.y1 hy) (hex_of hoo h5 f.o0 f.o1 ho)

set_option maxHeartbeats 2000000 in
set_option maxRecDepth 100000 in
theorem gather_any (l : Bs) (gp n cp : Nat) (w : World) (hn : (cut l).length = n) (hgp : gp < w.heap.size) (hcells : ∀ (j : Nat) (x : Bs), (cut l)[j]? = some x → w.cell? ⟨gp, j, none⟩ = some (.string (bs x)))
    (hsz : ∀ (j : Nat) (x : Bs), (cut l)[j]? = some x → (bs x).size ≤ 900) (hcp : n ≤ 1000) (h : LiesP w) :
    Calls Tryd.prog 25 #[.slice (some ⟨gp, 0, none⟩) n cp] w (Gath l w) := by
  obtain ⟨W0, hW0⟩ : ∃ W0, (cut l)[0]? = some W0 := ⟨_, List.getElem?_eq_getElem (by have := cut_ne l; exact List.length_pos_iff.2 this)⟩
  have hn0 : 0 < n := by rw [← hn]; exact List.length_pos_iff.2 (cut_ne l)
  have hob := ((Only.refl Nil w).alloc (.cells #[.int .i64 0, .int .i64 0, .int .u32 0, .int .u32 0, .int .u32 0] 24)).alloc (.cells #[.int .i64 (kindL W0), .int .i64 0, .int .u32 0, .int .u32 0, .int .u32 0] 24)
  have HOB := Lib.hid hob
  have HRA := Lib.hid ((Row.new w 24 #[.int .i64 0, .int .i64 0, .int .u32 0, .int .u32 0, .int .u32 0]).alloc (.cells #[.int .i64 (kindL W0), .int .i64 0, .int .u32 0, .int .u32 0, .int .u32 0] 24))
  have HRB := Lib.hid (Row.new2 w (.cells #[.int .i64 0, .int .i64 0, .int .u32 0, .int .u32 0, .int .u32 0] 24) 24 #[.int .i64 (kindL W0), .int .i64 0, .int .u32 0, .int .u32 0, .int .u32 0])
  have hc0 := hcells 0 W0 hW0
  have hca : ∀ o, (w.alloc o).cell? ⟨gp, 0, none⟩ = some (.string (bs W0)) := fun o => (World.cell?_alloc_lt w o _ hgp).trans hc0
  have HKO := Lib.hid (fun o => kindOf_any (bs W0) (w.alloc o) (h.lies.only ((Only.refl Nil w).alloc o)))
  have HOPS := Lib.hid (fun W => operands_any (kindL W0) W)
  have HKL := Lib.hid (kindL_le W0)
  have HN := Lib.hid hn
  have HGP := Lib.hid hgp
  have HCE := Lib.hid hcells
  have HSZ := Lib.hid hsz
  have HL := Lib.hid h
  have HH := Lib.hid hW0
  clear hn hgp hcells hsz h hW0 hob hc0
  go_enter Tryd.func25, Tryd.ntmps25
  go_wp2_with fail
  refine (HKO.out _).mono ?_
  rintro e w1 ⟨rfl, rfl⟩
  rw [show kindL (bs W0).data.toList = kindL W0 from rfl]
  clear hca HKO
  go_wp2_with fail
  have HKB := Lib.hid (fun b (hb : Has l b) => head_kind hb HH.out)
  have HLE := Lib.hid (fun b (hb : Has l b) => (has_facts hb).2.1)
  generalize (w.alloc (.cells #[.int .i64 0, .int .i64 0, .int .u32 0, .int .u32 0, .int .u32 0] 24)).alloc (.cells #[.int .i64 (kindL W0), .int .i64 0, .int .u32 0, .int .u32 0, .int .u32 0] 24) = w0 at *
  have HGE := Lib.hid (Nat.le_refl w.heap.size)
  generalize hg : w.heap.size = g at *
  have HG := Lib.hid hg
  clear hg
  have HGP := Lib.hid (show gp < w.heap.size by have h1 := HGP.out; have h2 := HG.out; omega)
  generalize kindL W0 = kd at *
  refine (HOPS.out _).mono ?_
  rintro e w1 ⟨rfl, rfl⟩
  have HNC := Lib.hid (nOps_cases kd)
  have HCN := Lib.hid (fun b (hb : Has l b) => (show (n : Int) = nOps kd + 4 by rw [← HN.out, HLE.out b hb, nOps_cnt hb.2.1.k1 hb.2.1.k5, HKB.out b hb]))
  generalize hN : nOps kd = N at *
  have HNN := Lib.hid hN
  clear hN
  by_cases hln : (n : Int) = N + 4
  · have hgw := HG.out
    have hne1 : ¬ g + 1 = gp := by have := HGP.out; omega
    have hne2 : ¬ gp = g + 1 := by have := HGP.out; omega
    clear HOPS
    rcases HNC.out with rfl | rfl | rfl
    · obtain rfl : n = 4 := by omega
      clear hln HNC
      obtain ⟨X1, HJ1⟩ : ∃ x, Hid ((cut l)[1]? = some x) := ⟨_, Lib.hid (List.getElem?_eq_getElem (by rw [HN.out]; decide))⟩
      have hcw := (HOB.out.cell (p := ⟨gp, 1, none⟩) HGP.out id).trans (HCE.out 1 X1 HJ1.out)
      go_wp2_with fail
      refine (atoi_any (bs X1) w0 (HSZ.out 1 X1 HJ1.out) (HL.out.only HOB.out)).mono ?_
      rintro e w1 ⟨v1, er, rfl, hO, lo1, hi1, hx⟩
      have HF1 := Lib.hid (And.intro lo1 hi1)
      have HX1 := Lib.hid (show IsDec X1 v1 from hx)
      have HO1 := Lib.hid (HOB.out.trans hO)
      have HA1 := Lib.hid (HRA.out.only hO id)
      have HB1 := Lib.hid (HRB.out.only hO id)
      clear hO hx hcw lo1 hi1
      have hf1 : w1.cell? ⟨g + 1, 1, none⟩ = some (.int .i64 0) := (HB1.out.cell_ (i := 1) rfl)
      have hf2 := HB1.out.frozen 1
      obtain ⟨X3, HJ3⟩ : ∃ x, Hid ((cut l)[3]? = some x) := ⟨_, Lib.hid (List.getElem?_eq_getElem (by rw [HN.out]; decide))⟩
      have hcw := (HO1.out.cell (p := ⟨gp, 3, none⟩) HGP.out id).trans (HCE.out 3 X3 HJ3.out)
      go_wp2_with fail
      generalize hw : w1.setCell ⟨g + 1, 1, none⟩ (.int .i64 v1) = w2 at *
      have HO2 := Lib.hid (show Only Nil w w2 by rw [← hw]; exact HO1.out.setCell (.inl (by show w.heap.size ≤ g + 1; omega)) _)
      have HA2 := Lib.hid (show Row w2 g 24 #[.int .i64 0, .int .i64 0, .int .u32 0, .int .u32 0, .int .u32 0] by rw [← hw]; exact HA1.out.far (by simp) _)
      have HB2 := Lib.hid (show Row w2 (g + 1) 24 #[.int .i64 kd, .int .i64 v1, .int .u32 0, .int .u32 0, .int .u32 0] by rw [← hw]; exact HB1.out.set 1 _)
      clear hw hf1 hf2 hcw
      refine (unhex_any (bs X3) w2 (HSZ.out 3 X3 HJ3.out) (HL.out.only HO2.out)).mono ?_
      rintro e w3 ⟨v4, rfl, hO, lo1, hi1, hx⟩
      have HF4 := Lib.hid (And.intro lo1 hi1)
      have HX4 := Lib.hid (show IsHex X3 v4 from hx)
      have HO3 := Lib.hid (HO2.out.trans hO)
      have HA3 := Lib.hid (HA2.out.only hO id)
      have HB3 := Lib.hid (HB2.out.only hO id)
      clear hO hx lo1 hi1
      have hf1 : w3.cell? ⟨g + 1, 4, none⟩ = some (.int .u32 0) := (HB3.out.cell_ (i := 4) rfl)
      have hf2 := HB3.out.frozen 4
      have HFIT := Lib.hid (show Acc.Fits ⟨kd, v1, 0, 0, v4⟩ by have := HKL.out; exact ⟨by simp only; omega, by simp only; omega, HF1.out.1, HF1.out.2, by simp, by simp, by simp, by simp, HF4.out.1, HF4.out.2⟩)
      have HGAT := Lib.hid (gath0 (l := l) HKB.out HNN.out HJ1.out HJ3.out HX1.out HX4.out)
      have c0 : w3.cell? ⟨g + 1, 0, none⟩ = some (.int .i64 kd) := HB3.out.cell_ (i := 0) rfl
      have c1 : w3.cell? ⟨g + 1, 1, none⟩ = some (.int .i64 v1) := HB3.out.cell_ (i := 1) rfl
      have c2 : w3.cell? ⟨g + 1, 2, none⟩ = some (.int .u32 0) := HB3.out.cell_ (i := 2) rfl
      have c3 : w3.cell? ⟨g + 1, 3, none⟩ = some (.int .u32 0) := HB3.out.cell_ (i := 3) rfl
      have d0 : w3.cell? ⟨g, 0, none⟩ = some (.int .i64 0) := HA3.out.cell_ (i := 0) rfl
      have d1 : w3.cell? ⟨g, 1, none⟩ = some (.int .i64 0) := HA3.out.cell_ (i := 1) rfl
      have d2 : w3.cell? ⟨g, 2, none⟩ = some (.int .u32 0) := HA3.out.cell_ (i := 2) rfl
      have d3 : w3.cell? ⟨g, 3, none⟩ = some (.int .u32 0) := HA3.out.cell_ (i := 3) rfl
      have d4 : w3.cell? ⟨g, 4, none⟩ = some (.int .u32 0) := HA3.out.cell_ (i := 4) rfl
      have f0 : w3.frozen? ⟨g, 0, none⟩ = false := HA3.out.frozen 0
      have f1 : w3.frozen? ⟨g, 1, none⟩ = false := HA3.out.frozen 1
      have f2 : w3.frozen? ⟨g, 2, none⟩ = false := HA3.out.frozen 2
      have f3 : w3.frozen? ⟨g, 3, none⟩ = false := HA3.out.frozen 3
      have f4 : w3.frozen? ⟨g, 4, none⟩ = false := HA3.out.frozen 4
      go_wp2
      refine post_row Tryd.results25 (by rfl) ((((((HA3.out.far (p := ⟨g + 1, 4, none⟩) (by simp) _).set 0 _).set 1 _).set 2 _).set 3 _).set 4 _) Tryd.underlying24 rfl (by kernel_rfl) rfl ⟨kd, v1, 0, 0, v4, rfl, ?_, HFIT.out, HGAT.out⟩
      have hO := HO3.out
      (repeat' (first | (with_reducible exact Only.refl _ _) | (with_reducible assumption) | (with_reducible refine Only.setCell ?_ ?_ _) | (with_reducible refine Only.drewN ?_ _) | (with_reducible refine Only.drew ?_) | (with_reducible refine Only.alloc ?_ _) | (left; simp; done) | (left; simp; omega) | (right; rfl)))
    · obtain rfl : n = 5 := by omega
      clear hln HNC
      obtain ⟨X1, HJ1⟩ : ∃ x, Hid ((cut l)[1]? = some x) := ⟨_, Lib.hid (List.getElem?_eq_getElem (by rw [HN.out]; decide))⟩
      have hcw := (HOB.out.cell (p := ⟨gp, 1, none⟩) HGP.out id).trans (HCE.out 1 X1 HJ1.out)
      go_wp2_with fail
      refine (atoi_any (bs X1) w0 (HSZ.out 1 X1 HJ1.out) (HL.out.only HOB.out)).mono ?_
      rintro e w1 ⟨v1, er, rfl, hO, lo1, hi1, hx⟩
      have HF1 := Lib.hid (And.intro lo1 hi1)
      have HX1 := Lib.hid (show IsDec X1 v1 from hx)
      have HO1 := Lib.hid (HOB.out.trans hO)
      have HA1 := Lib.hid (HRA.out.only hO id)
      have HB1 := Lib.hid (HRB.out.only hO id)
      clear hO hx hcw lo1 hi1
      have hf1 : w1.cell? ⟨g + 1, 1, none⟩ = some (.int .i64 0) := (HB1.out.cell_ (i := 1) rfl)
      have hf2 := HB1.out.frozen 1
      obtain ⟨X2, HJ2⟩ : ∃ x, Hid ((cut l)[2]? = some x) := ⟨_, Lib.hid (List.getElem?_eq_getElem (by rw [HN.out]; decide))⟩
      have hcw := (HO1.out.cell (p := ⟨gp, 2, none⟩) HGP.out id).trans (HCE.out 2 X2 HJ2.out)
      go_wp2_with fail
      generalize hw : w1.setCell ⟨g + 1, 1, none⟩ (.int .i64 v1) = w2 at *
      have HO2 := Lib.hid (show Only Nil w w2 by rw [← hw]; exact HO1.out.setCell (.inl (by show w.heap.size ≤ g + 1; omega)) _)
      have HA2 := Lib.hid (show Row w2 g 24 #[.int .i64 0, .int .i64 0, .int .u32 0, .int .u32 0, .int .u32 0] by rw [← hw]; exact HA1.out.far (by simp) _)
      have HB2 := Lib.hid (show Row w2 (g + 1) 24 #[.int .i64 kd, .int .i64 v1, .int .u32 0, .int .u32 0, .int .u32 0] by rw [← hw]; exact HB1.out.set 1 _)
      clear hw hf1 hf2 hcw
      refine (unhex_any (bs X2) w2 (HSZ.out 2 X2 HJ2.out) (HL.out.only HO2.out)).mono ?_
      rintro e w3 ⟨v2, rfl, hO, lo1, hi1, hx⟩
      have HF2 := Lib.hid (And.intro lo1 hi1)
      have HX2 := Lib.hid (show IsHex X2 v2 from hx)
      have HO3 := Lib.hid (HO2.out.trans hO)
      have HA3 := Lib.hid (HA2.out.only hO id)
      have HB3 := Lib.hid (HB2.out.only hO id)
      clear hO hx lo1 hi1
      have hf1 : w3.cell? ⟨g + 1, 2, none⟩ = some (.int .u32 0) := (HB3.out.cell_ (i := 2) rfl)
      have hf2 := HB3.out.frozen 2
      obtain ⟨X4, HJ4⟩ : ∃ x, Hid ((cut l)[4]? = some x) := ⟨_, Lib.hid (List.getElem?_eq_getElem (by rw [HN.out]; decide))⟩
      have hcw := (HO3.out.cell (p := ⟨gp, 4, none⟩) HGP.out id).trans (HCE.out 4 X4 HJ4.out)
      go_wp2_with fail
      generalize hw : w3.setCell ⟨g + 1, 2, none⟩ (.int .u32 v2) = w4 at *
      have HO4 := Lib.hid (show Only Nil w w4 by rw [← hw]; exact HO3.out.setCell (.inl (by show w.heap.size ≤ g + 1; omega)) _)
      have HA4 := Lib.hid (show Row w4 g 24 #[.int .i64 0, .int .i64 0, .int .u32 0, .int .u32 0, .int .u32 0] by rw [← hw]; exact HA3.out.far (by simp) _)
      have HB4 := Lib.hid (show Row w4 (g + 1) 24 #[.int .i64 kd, .int .i64 v1, .int .u32 v2, .int .u32 0, .int .u32 0] by rw [← hw]; exact HB3.out.set 2 _)
      clear hw hf1 hf2 hcw
      refine (unhex_any (bs X4) w4 (HSZ.out 4 X4 HJ4.out) (HL.out.only HO4.out)).mono ?_
      rintro e w5 ⟨v4, rfl, hO, lo1, hi1, hx⟩
      have HF4 := Lib.hid (And.intro lo1 hi1)
      have HX4 := Lib.hid (show IsHex X4 v4 from hx)
      have HO5 := Lib.hid (HO4.out.trans hO)
      have HA5 := Lib.hid (HA4.out.only hO id)
      have HB5 := Lib.hid (HB4.out.only hO id)
      clear hO hx lo1 hi1
      have hf1 : w5.cell? ⟨g + 1, 4, none⟩ = some (.int .u32 0) := (HB5.out.cell_ (i := 4) rfl)
      have hf2 := HB5.out.frozen 4
      have HFIT := Lib.hid (show Acc.Fits ⟨kd, v1, v2, 0, v4⟩ by have := HKL.out; exact ⟨by simp only; omega, by simp only; omega, HF1.out.1, HF1.out.2, HF2.out.1, HF2.out.2, by simp, by simp, HF4.out.1, HF4.out.2⟩)
      have HGAT := Lib.hid (gath1 (l := l) HKB.out HNN.out HJ1.out HJ2.out HJ4.out HX1.out HX2.out HX4.out)
      have c0 : w5.cell? ⟨g + 1, 0, none⟩ = some (.int .i64 kd) := HB5.out.cell_ (i := 0) rfl
      have c1 : w5.cell? ⟨g + 1, 1, none⟩ = some (.int .i64 v1) := HB5.out.cell_ (i := 1) rfl
      have c2 : w5.cell? ⟨g + 1, 2, none⟩ = some (.int .u32 v2) := HB5.out.cell_ (i := 2) rfl
      have c3 : w5.cell? ⟨g + 1, 3, none⟩ = some (.int .u32 0) := HB5.out.cell_ (i := 3) rfl
      have d0 : w5.cell? ⟨g, 0, none⟩ = some (.int .i64 0) := HA5.out.cell_ (i := 0) rfl
      have d1 : w5.cell? ⟨g, 1, none⟩ = some (.int .i64 0) := HA5.out.cell_ (i := 1) rfl
      have d2 : w5.cell? ⟨g, 2, none⟩ = some (.int .u32 0) := HA5.out.cell_ (i := 2) rfl
      have d3 : w5.cell? ⟨g, 3, none⟩ = some (.int .u32 0) := HA5.out.cell_ (i := 3) rfl
      have d4 : w5.cell? ⟨g, 4, none⟩ = some (.int .u32 0) := HA5.out.cell_ (i := 4) rfl
      have f0 : w5.frozen? ⟨g, 0, none⟩ = false := HA5.out.frozen 0
      have f1 : w5.frozen? ⟨g, 1, none⟩ = false := HA5.out.frozen 1
      have f2 : w5.frozen? ⟨g, 2, none⟩ = false := HA5.out.frozen 2
      have f3 : w5.frozen? ⟨g, 3, none⟩ = false := HA5.out.frozen 3
      have f4 : w5.frozen? ⟨g, 4, none⟩ = false := HA5.out.frozen 4
      go_wp2
      refine post_row Tryd.results25 (by rfl) ((((((HA5.out.far (p := ⟨g + 1, 4, none⟩) (by simp) _).set 0 _).set 1 _).set 2 _).set 3 _).set 4 _) Tryd.underlying24 rfl (by kernel_rfl) rfl ⟨kd, v1, v2, 0, v4, rfl, ?_, HFIT.out, HGAT.out⟩
      have hO := HO5.out
      (repeat' (first | (with_reducible exact Only.refl _ _) | (with_reducible assumption) | (with_reducible refine Only.setCell ?_ ?_ _) | (with_reducible refine Only.drewN ?_ _) | (with_reducible refine Only.drew ?_) | (with_reducible refine Only.alloc ?_ _) | (left; simp; done) | (left; simp; omega) | (right; rfl)))
    · obtain rfl : n = 6 := by omega
      clear hln HNC
      obtain ⟨X1, HJ1⟩ : ∃ x, Hid ((cut l)[1]? = some x) := ⟨_, Lib.hid (List.getElem?_eq_getElem (by rw [HN.out]; decide))⟩
      have hcw := (HOB.out.cell (p := ⟨gp, 1, none⟩) HGP.out id).trans (HCE.out 1 X1 HJ1.out)
      go_wp2_with fail
      refine (atoi_any (bs X1) w0 (HSZ.out 1 X1 HJ1.out) (HL.out.only HOB.out)).mono ?_
      rintro e w1 ⟨v1, er, rfl, hO, lo1, hi1, hx⟩
      have HF1 := Lib.hid (And.intro lo1 hi1)
      have HX1 := Lib.hid (show IsDec X1 v1 from hx)
      have HO1 := Lib.hid (HOB.out.trans hO)
      have HA1 := Lib.hid (HRA.out.only hO id)
      have HB1 := Lib.hid (HRB.out.only hO id)
      clear hO hx hcw lo1 hi1
      have hf1 : w1.cell? ⟨g + 1, 1, none⟩ = some (.int .i64 0) := (HB1.out.cell_ (i := 1) rfl)
      have hf2 := HB1.out.frozen 1
      obtain ⟨X2, HJ2⟩ : ∃ x, Hid ((cut l)[2]? = some x) := ⟨_, Lib.hid (List.getElem?_eq_getElem (by rw [HN.out]; decide))⟩
      have hcw := (HO1.out.cell (p := ⟨gp, 2, none⟩) HGP.out id).trans (HCE.out 2 X2 HJ2.out)
      go_wp2_with fail
      generalize hw : w1.setCell ⟨g + 1, 1, none⟩ (.int .i64 v1) = w2 at *
      have HO2 := Lib.hid (show Only Nil w w2 by rw [← hw]; exact HO1.out.setCell (.inl (by show w.heap.size ≤ g + 1; omega)) _)
      have HA2 := Lib.hid (show Row w2 g 24 #[.int .i64 0, .int .i64 0, .int .u32 0, .int .u32 0, .int .u32 0] by rw [← hw]; exact HA1.out.far (by simp) _)
      have HB2 := Lib.hid (show Row w2 (g + 1) 24 #[.int .i64 kd, .int .i64 v1, .int .u32 0, .int .u32 0, .int .u32 0] by rw [← hw]; exact HB1.out.set 1 _)
      clear hw hf1 hf2 hcw
      refine (unhex_any (bs X2) w2 (HSZ.out 2 X2 HJ2.out) (HL.out.only HO2.out)).mono ?_
      rintro e w3 ⟨v2, rfl, hO, lo1, hi1, hx⟩
      have HF2 := Lib.hid (And.intro lo1 hi1)
      have HX2 := Lib.hid (show IsHex X2 v2 from hx)
      have HO3 := Lib.hid (HO2.out.trans hO)
      have HA3 := Lib.hid (HA2.out.only hO id)
      have HB3 := Lib.hid (HB2.out.only hO id)
      clear hO hx lo1 hi1
      have hf1 : w3.cell? ⟨g + 1, 2, none⟩ = some (.int .u32 0) := (HB3.out.cell_ (i := 2) rfl)
      have hf2 := HB3.out.frozen 2
      obtain ⟨X3, HJ3⟩ : ∃ x, Hid ((cut l)[3]? = some x) := ⟨_, Lib.hid (List.getElem?_eq_getElem (by rw [HN.out]; decide))⟩
      have hcw := (HO3.out.cell (p := ⟨gp, 3, none⟩) HGP.out id).trans (HCE.out 3 X3 HJ3.out)
      go_wp2_with fail
      generalize hw : w3.setCell ⟨g + 1, 2, none⟩ (.int .u32 v2) = w4 at *
      have HO4 := Lib.hid (show Only Nil w w4 by rw [← hw]; exact HO3.out.setCell (.inl (by show w.heap.size ≤ g + 1; omega)) _)
      have HA4 := Lib.hid (show Row w4 g 24 #[.int .i64 0, .int .i64 0, .int .u32 0, .int .u32 0, .int .u32 0] by rw [← hw]; exact HA3.out.far (by simp) _)
      have HB4 := Lib.hid (show Row w4 (g + 1) 24 #[.int .i64 kd, .int .i64 v1, .int .u32 v2, .int .u32 0, .int .u32 0] by rw [← hw]; exact HB3.out.set 2 _)
      clear hw hf1 hf2 hcw
      refine (unhex_any (bs X3) w4 (HSZ.out 3 X3 HJ3.out) (HL.out.only HO4.out)).mono ?_
      rintro e w5 ⟨v3, rfl, hO, lo1, hi1, hx⟩
      have HF3 := Lib.hid (And.intro lo1 hi1)
      have HX3 := Lib.hid (show IsHex X3 v3 from hx)
      have HO5 := Lib.hid (HO4.out.trans hO)
      have HA5 := Lib.hid (HA4.out.only hO id)
      have HB5 := Lib.hid (HB4.out.only hO id)
      clear hO hx lo1 hi1
      have hf1 : w5.cell? ⟨g + 1, 3, none⟩ = some (.int .u32 0) := (HB5.out.cell_ (i := 3) rfl)
      have hf2 := HB5.out.frozen 3
      obtain ⟨X5, HJ5⟩ : ∃ x, Hid ((cut l)[5]? = some x) := ⟨_, Lib.hid (List.getElem?_eq_getElem (by rw [HN.out]; decide))⟩
      have hcw := (HO5.out.cell (p := ⟨gp, 5, none⟩) HGP.out id).trans (HCE.out 5 X5 HJ5.out)
      go_wp2_with fail
      generalize hw : w5.setCell ⟨g + 1, 3, none⟩ (.int .u32 v3) = w6 at *
      have HO6 := Lib.hid (show Only Nil w w6 by rw [← hw]; exact HO5.out.setCell (.inl (by show w.heap.size ≤ g + 1; omega)) _)
      have HA6 := Lib.hid (show Row w6 g 24 #[.int .i64 0, .int .i64 0, .int .u32 0, .int .u32 0, .int .u32 0] by rw [← hw]; exact HA5.out.far (by simp) _)
      have HB6 := Lib.hid (show Row w6 (g + 1) 24 #[.int .i64 kd, .int .i64 v1, .int .u32 v2, .int .u32 v3, .int .u32 0] by rw [← hw]; exact HB5.out.set 3 _)
      clear hw hf1 hf2 hcw
      refine (unhex_any (bs X5) w6 (HSZ.out 5 X5 HJ5.out) (HL.out.only HO6.out)).mono ?_
      rintro e w7 ⟨v4, rfl, hO, lo1, hi1, hx⟩
      have HF4 := Lib.hid (And.intro lo1 hi1)
      have HX4 := Lib.hid (show IsHex X5 v4 from hx)
      have HO7 := Lib.hid (HO6.out.trans hO)
      have HA7 := Lib.hid (HA6.out.only hO id)
      have HB7 := Lib.hid (HB6.out.only hO id)
      clear hO hx lo1 hi1
      have hf1 : w7.cell? ⟨g + 1, 4, none⟩ = some (.int .u32 0) := (HB7.out.cell_ (i := 4) rfl)
      have hf2 := HB7.out.frozen 4
      have HFIT := Lib.hid (show Acc.Fits ⟨kd, v1, v2, v3, v4⟩ by have := HKL.out; exact ⟨by simp only; omega, by simp only; omega, HF1.out.1, HF1.out.2, HF2.out.1, HF2.out.2, HF3.out.1, HF3.out.2, HF4.out.1, HF4.out.2⟩)
      have HGAT := Lib.hid (gath2 (l := l) HKB.out HNN.out HJ1.out HJ2.out HJ3.out HJ5.out HX1.out HX2.out HX3.out HX4.out)
      have c0 : w7.cell? ⟨g + 1, 0, none⟩ = some (.int .i64 kd) := HB7.out.cell_ (i := 0) rfl
      have c1 : w7.cell? ⟨g + 1, 1, none⟩ = some (.int .i64 v1) := HB7.out.cell_ (i := 1) rfl
      have c2 : w7.cell? ⟨g + 1, 2, none⟩ = some (.int .u32 v2) := HB7.out.cell_ (i := 2) rfl
      have c3 : w7.cell? ⟨g + 1, 3, none⟩ = some (.int .u32 v3) := HB7.out.cell_ (i := 3) rfl
      have d0 : w7.cell? ⟨g, 0, none⟩ = some (.int .i64 0) := HA7.out.cell_ (i := 0) rfl
      have d1 : w7.cell? ⟨g, 1, none⟩ = some (.int .i64 0) := HA7.out.cell_ (i := 1) rfl
      have d2 : w7.cell? ⟨g, 2, none⟩ = some (.int .u32 0) := HA7.out.cell_ (i := 2) rfl
      have d3 : w7.cell? ⟨g, 3, none⟩ = some (.int .u32 0) := HA7.out.cell_ (i := 3) rfl
      have d4 : w7.cell? ⟨g, 4, none⟩ = some (.int .u32 0) := HA7.out.cell_ (i := 4) rfl
      have f0 : w7.frozen? ⟨g, 0, none⟩ = false := HA7.out.frozen 0
      have f1 : w7.frozen? ⟨g, 1, none⟩ = false := HA7.out.frozen 1
      have f2 : w7.frozen? ⟨g, 2, none⟩ = false := HA7.out.frozen 2
      have f3 : w7.frozen? ⟨g, 3, none⟩ = false := HA7.out.frozen 3
      have f4 : w7.frozen? ⟨g, 4, none⟩ = false := HA7.out.frozen 4
      go_wp2
      refine post_row Tryd.results25 (by rfl) ((((((HA7.out.far (p := ⟨g + 1, 4, none⟩) (by simp) _).set 0 _).set 1 _).set 2 _).set 3 _).set 4 _) Tryd.underlying24 rfl (by kernel_rfl) rfl ⟨kd, v1, v2, v3, v4, rfl, ?_, HFIT.out, HGAT.out⟩
      have hO := HO7.out
      (repeat' (first | (with_reducible exact Only.refl _ _) | (with_reducible assumption) | (with_reducible refine Only.setCell ?_ ?_ _) | (with_reducible refine Only.drewN ?_ _) | (with_reducible refine Only.drew ?_) | (with_reducible refine Only.alloc ?_ _) | (left; simp; done) | (left; simp; omega) | (right; rfl)))
  · have HNO := Lib.hid (show ∀ b, ¬ Has l b from fun b hb => hln (HCN.out b hb))
    have hlb : ((n : Int) == N + 4) = false := by simpa using hln
    have c0 : w0.cell? ⟨g, 0, none⟩ = some (.int .i64 0) := HRA.out.cell_ (i := 0) rfl
    have c1 : w0.cell? ⟨g, 1, none⟩ = some (.int .i64 0) := HRA.out.cell_ (i := 1) rfl
    have c2 : w0.cell? ⟨g, 2, none⟩ = some (.int .u32 0) := HRA.out.cell_ (i := 2) rfl
    have c3 : w0.cell? ⟨g, 3, none⟩ = some (.int .u32 0) := HRA.out.cell_ (i := 3) rfl
    have c4 : w0.cell? ⟨g, 4, none⟩ = some (.int .u32 0) := HRA.out.cell_ (i := 4) rfl
    have f0 : w0.frozen? ⟨g, 0, none⟩ = false := HRA.out.frozen 0
    have f1 : w0.frozen? ⟨g, 1, none⟩ = false := HRA.out.frozen 1
    have f2 : w0.frozen? ⟨g, 2, none⟩ = false := HRA.out.frozen 2
    have f3 : w0.frozen? ⟨g, 3, none⟩ = false := HRA.out.frozen 3
    have f4 : w0.frozen? ⟨g, 4, none⟩ = false := HRA.out.frozen 4
    have hN0 : -1 ≤ N := by rcases HNC.out with h | h | h <;> rw [h] <;> decide
    have hN1 : N ≤ 2 := by rcases HNC.out with h | h | h <;> rw [h] <;> decide
    clear HOPS
    go_wp2
    have hgw := HG.out
    refine post_row Tryd.results25 (by rfl) (((((HRA.out.set 0 _).set 1 _).set 2 _).set 3 _).set 4 _) Tryd.underlying24 rfl (by kernel_rfl) rfl ⟨0, 0, 0, 0, 0, rfl, ?_, ⟨by decide, by decide, by decide, by decide, by decide, by decide, by decide, by decide, by decide, by decide⟩, fun b hb => absurd hb (HNO.out b)⟩
    have hO := HOB.out
    (repeat' (first | (with_reducible exact Only.refl _ _) | (with_reducible assumption) | (with_reducible refine Only.setCell ?_ ?_ _) | (with_reducible refine Only.drewN ?_ _) | (with_reducible refine Only.drew ?_) | (with_reducible refine Only.alloc ?_ _) | (left; simp; done) | (left; simp; omega) | (right; rfl)))
end Go.Proofs.YtlccmhlbkgojlaaDoor
