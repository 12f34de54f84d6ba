/- The names of a kind's own cells: the reference's (a switch), the program's (a map of lists). -/
import Derived.Test.YtjdgniconbocnaaKit
import Derived.Test.YtjdgniconbocnaaChecked
import Derived.Maps.Own
namespace Go.Proofs.Ytjdgniconbocnaa
open Go.RowKit

def names1 : Array Value := #[.string ⟨#[117, 115, 101, 114, 115]⟩, .string ⟨#[114, 101, 97, 100, 115]⟩, .string ⟨#[119, 114, 105, 116, 101, 115]⟩]
def names2 : Array Value := #[.string ⟨#[114, 105, 110]⟩, .string ⟨#[114, 111, 117, 116]⟩, .string ⟨#[119, 105, 110]⟩, .string ⟨#[119, 111, 117, 116]⟩, .string ⟨#[112, 104, 97, 115, 101]⟩]
def names3 : Array Value := #[.string ⟨#[114, 105, 110]⟩, .string ⟨#[114, 111, 117, 116]⟩, .string ⟨#[116, 97, 105, 108]⟩, .string ⟨#[112, 104, 97, 115, 101]⟩]
def names4 : Array Value := #[.string ⟨#[116, 97, 105, 108]⟩, .string ⟨#[99, 111, 117, 110, 116]⟩]
def names5 : Array Value := #[.string ⟨#[119, 111, 114, 100]⟩]
def names6 : Array Value := #[.string ⟨#[119, 111, 114, 100]⟩]
/-- The names of a kind's own cells. -/
def ownV (k : Int) : Array Value := if k = 1 then names1 else if k = 2 then names2 else if k = 3 then names3 else if k = 4 then names4 else if k = 5 then names5 else if k = 6 then names6 else #[]
theorem ownV_none {k : Int} (h : ¬ (1 ≤ k ∧ k ≤ 6)) : ownV k = #[] := by
  unfold ownV
  repeat' (first | rfl | (rw [if_neg (by omega)]))
theorem kinds {k : Int} (h : 1 ≤ k ∧ k ≤ 6) : k = 1 ∨ k = 2 ∨ k = 3 ∨ k = 4 ∨ k = 5 ∨ k = 6 := by omega

theorem name_at (k : Int) (hk : 1 ≤ k ∧ k ≤ 6) (c : Nat) (hc : c < (ownV k).size) : ∃ s, (ownV k)[c]? = some (.string s) := by
  rcases kinds hk with rfl | rfl | rfl | rfl | rfl | rfl
  · rcases (show c = 0 ∨ c = 1 ∨ c = 2 by have : c < 3 := hc; omega) with rfl | rfl | rfl <;> exact ⟨_, rfl⟩
  · rcases (show c = 0 ∨ c = 1 ∨ c = 2 ∨ c = 3 ∨ c = 4 by have : c < 5 := hc; omega) with rfl | rfl | rfl | rfl | rfl <;> exact ⟨_, rfl⟩
  · rcases (show c = 0 ∨ c = 1 ∨ c = 2 ∨ c = 3 by have : c < 4 := hc; omega) with rfl | rfl | rfl | rfl <;> exact ⟨_, rfl⟩
  · rcases (show c = 0 ∨ c = 1 by have : c < 2 := hc; omega) with rfl | rfl <;> exact ⟨_, rfl⟩
  · rcases (show c = 0 by have : c < 1 := hc; omega) with rfl; exact ⟨_, rfl⟩
  · rcases (show c = 0 by have : c < 1 := hc; omega) with rfl; exact ⟨_, rfl⟩
theorem own_size (k : Int) (hk : 1 ≤ k ∧ k ≤ 6) : 1 ≤ (ownV k).size ∧ (ownV k).size ≤ 5 := by
  rcases kinds hk with rfl | rfl | rfl | rfl | rfl | rfl <;> exact ⟨by decide, by decide⟩

/-- A list of a kind's names of the call's own. -/
def NamesAt (k : Int) (w : World) (e : Ending) (w' : World) : Prop :=
  ∃ g, e = .returned (.slice (some ⟨g, 0, none⟩) (ownV k).size (ownV k).size) ∧ w.heap.size ≤ g ∧ Row w' g 9 (ownV k) ∧ Only Nil w w'

/-- An element of the map is read as itself. -/
def asIs (v : Value) : Option (DataW Value × List MemPlace) := some (.held v, [])
abbrev key (k : Int) : Lit := .int .i64 k

theorem wpList_insert_own {H : Type} {P : Program} (w : World) {ops : Array Oper} {rest : List Oper} {o : Oper} {a : Act} {Q : Exit → Act → World → Prop}
    (hg : o.guard = none) (m x v : Operand) (t : TypeId) (hop : o.op = Op.insert t m x v)
    (k e : TypeId) (K : Maps.Keyed P k) (ht : P.underlying t = some (.map k e)) (R : Value → Option (DataW H × List MemPlace)) (b n : Nat) (D : DataW H)
    (hm : a.eval m = .map (some b)) (hown : w.ownsMap P k R b n D) (hn : n < maxLen) (key val : Value) (kl : Lit) (hx : a.eval x = key) (hv : a.eval v = val) (hkey : keyOf P k key = some kl)
    (d : DataW H) (ps : List MemPlace) (hval : R val = some (d, ps))
    (hK : ∀ w', w'.ownsMap P k R b (n + 1) (D.put kl d) → w.grownBy w' (some b) → wpList P ops Q rest (a.put o.dst undef) w') :
    wpList P ops Q (o :: rest) a w := by
  refine wpList_plain hg fun K' hK' => ?_
  obtain ⟨w', hrun, r1, r2⟩ := hown.update K ht hn hkey hval
  unfold Oper.wp
  simp [execOp, hop, hm, hx, hv, hrun, Result.andThen]
  exact hK' _ _ (hK w' r1 r2)
-- OWN
theorem hkeyOf (n : Int) (h : (Lit.int .i64 n).wf = true) : keyOf Try.prog 3 (.int .i64 n) = some (key n) := Maps.keyOf_int_mk Try.underlying3 h

/-- A list is laid, and stored into the map. -/
theorem put_list {w : World} {B n : Nat} {D : DataW Value} (h : w.ownsMap Try.prog 3 asIs B n D) (hn : n < 100) (q : Int) (hq : (Lit.int .i64 q).wf = true) (cs : Array Value) (m : Nat) (g : Nat) (hg0 : w.heap.size = g) :
    ∃ w', (Instr.mapUpdate 71 (.map (some B)) (.int .i64 q) (.slice (some ⟨g, 0, none⟩) m m)).run Try.prog (w.alloc (.cells cs 9)) = .ok () w' ∧
      w'.ownsMap Try.prog 3 asIs B (n + 1) (D.put (key q) (.held (.slice (some ⟨g, 0, none⟩) m m))) ∧ Row w' g 9 cs ∧ g < w'.heap.size ∧ Only (fun i => i = B) w w' := by
  subst hg0
  obtain ⟨w', hrun, ho, hg⟩ := (h.alloc (.cells cs 9)).update (Maps.int_keyed Try.underlying3) Try.underlying71 (by unfold maxLen; omega) (hkeyOf q hq) (d := .held (.slice (some ⟨w.heap.size, 0, none⟩) m m)) (ps := []) rfl
  have hlt := h.lt
  have hsz := hg.size
  refine ⟨w', hrun, ho, ?_, by simp at hsz; omega, ((Only.refl _ _).alloc _).grown hg (fun k hk => by injection hk with hk; right; exact hk.symm)⟩
  exact (hg.block w.heap.size (by simp) (by simp; omega)).trans (Row.new w _ _)

theorem zero_list (w : World) : (zeroValue 57).run Try.prog w = .ok (.slice none 0 0) w := by kernel_rfl

def six (v1 v2 v3 v4 v5 v6 : Value) : DataW Value := ((((((DataW.map []).put (key 1) (.held v1)).put (key 2) (.held v2)).put (key 3) (.held v3)).put (key 4) (.held v4)).put (key 5) (.held v5)).put (key 6) (.held v6)
theorem six_is (v1 v2 v3 v4 v5 v6 : Value) : six v1 v2 v3 v4 v5 v6 = .map [(key 1, .held v1), (key 2, .held v2), (key 3, .held v3), (key 4, .held v4), (key 5, .held v5), (key 6, .held v6)] := by
  simp [six, DataW.put, DataW.insert, Lit.before, Lit.sameKey, key]
def pickV (k : Int) (v1 v2 v3 v4 v5 v6 : Value) : Value := if k = 1 then v1 else if k = 2 then v2 else if k = 3 then v3 else if k = 4 then v4 else if k = 5 then v5 else if k = 6 then v6 else .slice none 0 0
theorem six_at (k : Int) (v1 v2 v3 v4 v5 v6 : Value) : (six v1 v2 v3 v4 v5 v6).atKey (key k) (.held (.slice none 0 0)) = .held (pickV k v1 v2 v3 v4 v5 v6) := by
  rw [six_is]
  by_cases hk : 1 ≤ k ∧ k ≤ 6
  · rcases kinds hk with rfl | rfl | rfl | rfl | rfl | rfl <;> simp [DataW.atKey, pickV, Lit.sameKey, key]
  · have h1 : ¬ 1 = k := by omega
    have h2 : ¬ 2 = k := by omega
    have h3 : ¬ 3 = k := by omega
    have h4 : ¬ 4 = k := by omega
    have h5 : ¬ 5 = k := by omega
    have h6 : ¬ 6 = k := by omega
    simp [DataW.atKey, pickV, Lit.sameKey, key, h1, h2, h3, h4, h5, h6, Ne.symm h1, Ne.symm h2, Ne.symm h3, Ne.symm h4, Ne.symm h5, Ne.symm h6]

theorem get_list {w : World} {B n : Nat} {v1 v2 v3 v4 v5 v6 : Value} (h : w.ownsMap Try.prog 3 asIs B n (six v1 v2 v3 v4 v5 v6)) (k : Int) (hk : (Lit.int .i64 k).wf = true) :
    (Instr.lookup 71 (.map (some B)) (.int .i64 k) false).run Try.prog w = .ok (pickV k v1 v2 v3 v4 v5 v6) w := by
  obtain ⟨v, ps, hrun, hv⟩ := h.lookup (Maps.int_keyed Try.underlying3) Try.underlying71 (zero_list w) (zd := .held (.slice none 0 0)) (zp := []) rfl (hkeyOf k hk)
  rw [six_at] at hv
  simp only [asIs, Option.some.injEq, Prod.mk.injEq, DataW.held.injEq] at hv
  rw [hrun, hv.1]

/-- What the kind's list is: in a block of its own. -/
def NamesIn (k : Int) (w : World) (e : Ending) (w' : World) : Prop :=
  ∃ g1 g2 g3 g4 g5 g6, e = .returned (pickV k (.slice (some ⟨g1, 0, none⟩) 3 3) (.slice (some ⟨g2, 0, none⟩) 5 5) (.slice (some ⟨g3, 0, none⟩) 4 4) (.slice (some ⟨g4, 0, none⟩) 2 2) (.slice (some ⟨g5, 0, none⟩) 1 1) (.slice (some ⟨g6, 0, none⟩) 1 1)) ∧
    w.heap.size ≤ g1 ∧ w.heap.size ≤ g2 ∧ w.heap.size ≤ g3 ∧ w.heap.size ≤ g4 ∧ w.heap.size ≤ g5 ∧ w.heap.size ≤ g6 ∧
    Row w' g1 9 names1 ∧ Row w' g2 9 names2 ∧ Row w' g3 9 names3 ∧ Row w' g4 9 names4 ∧ Row w' g5 9 names5 ∧ Row w' g6 9 names6 ∧ Only Nil w w'

set_option maxHeartbeats 1000000 in
theorem ownNames_in (k : Int) (w : World) (hk : (Lit.int .i64 k).wf = true) : Calls Try.prog 23 #[.int .i64 k] w (NamesIn k w) := by
  have HK := Lib.hid hk
  clear hk
  have hmm := @run_makeMap Try.prog
  have HO0 := Lib.hid (World.ownsMap_made w Try.prog 3 asIs)
  go_enter Try.func23, Try.ntmps23
  go_wp2_with fail
  obtain ⟨wx1, hrun, ho, hR, hz, hO⟩ := put_list HO0.out (by omega) 1 rfl names1 3 (w.heap.size+1) (by simp)
  unfold names1 at hrun
  rw [hrun]
  have HO1 := Lib.hid ho
  have HR1 := Lib.hid hR
  have HZ1 := Lib.hid hz
  have HL1 := Lib.hid hO
  clear hrun ho hR hz hO
  go_wp2_with fail
  obtain ⟨wx2, hrun, ho, hR, hz, hO⟩ := put_list HO1.out (by omega) 2 rfl names2 5 wx1.heap.size (by simp)
  unfold names2 at hrun
  rw [hrun]
  have HO2 := Lib.hid ho
  have HR2 := Lib.hid hR
  have HZ2 := Lib.hid hz
  have HL2 := Lib.hid hO
  clear hrun ho hR hz hO
  go_wp2_with fail
  obtain ⟨wx3, hrun, ho, hR, hz, hO⟩ := put_list HO2.out (by omega) 3 rfl names3 4 wx2.heap.size (by simp)
  unfold names3 at hrun
  rw [hrun]
  have HO3 := Lib.hid ho
  have HR3 := Lib.hid hR
  have HZ3 := Lib.hid hz
  have HL3 := Lib.hid hO
  clear hrun ho hR hz hO
  go_wp2_with fail
  obtain ⟨wx4, hrun, ho, hR, hz, hO⟩ := put_list HO3.out (by omega) 4 rfl names4 2 wx3.heap.size (by simp)
  unfold names4 at hrun
  rw [hrun]
  have HO4 := Lib.hid ho
  have HR4 := Lib.hid hR
  have HZ4 := Lib.hid hz
  have HL4 := Lib.hid hO
  clear hrun ho hR hz hO
  go_wp2_with fail
  obtain ⟨wx5, hrun, ho, hR, hz, hO⟩ := put_list HO4.out (by omega) 5 rfl names5 1 wx4.heap.size (by simp)
  unfold names5 at hrun
  rw [hrun]
  have HO5 := Lib.hid ho
  have HR5 := Lib.hid hR
  have HZ5 := Lib.hid hz
  have HL5 := Lib.hid hO
  clear hrun ho hR hz hO
  go_wp2_with fail
  obtain ⟨wx6, hrun, ho, hR, hz, hO⟩ := put_list HO5.out (by omega) 6 rfl names6 1 wx5.heap.size (by simp)
  unfold names6 at hrun
  rw [hrun]
  have HO6 := Lib.hid ho
  have HR6 := Lib.hid hR
  have HZ6 := Lib.hid hz
  have HL6 := Lib.hid hO
  clear hrun ho hR hz hO
  have hs1 : w.heap.size + 1 < wx1.heap.size := HZ1.out
  have HS1 := Lib.hid hs1
  clear hs1
  have HGET := Lib.hid (get_list HO6.out k HK.out)
  have hget := HGET.out
  go_wp2
  go_ret
  have l2 := HL2.out
  have l3 := HL3.out
  have l4 := HL4.out
  have l5 := HL5.out
  have l6 := HL6.out
  have z1 := HS1.out
  have z2 := l2.size
  have z3 := l3.size
  have z4 := l4.size
  have z5 := l5.size
  have hq := HL1.out
  have q0 : Only Nil w (w.alloc (.map #[] 0)) := (Only.refl _ _).alloc _
  have q1 : Only Nil w wx6 := (((((q0.step hq (fun i hi h => by omega)).step l2 (fun i hi h => by omega)).step l3 (fun i hi h => by omega)).step l4 (fun i hi h => by omega)).step l5 (fun i hi h => by omega)).step l6 (fun i hi h => by omega)
  exact ⟨_, _, _, _, _, _, rfl, by omega, by omega, by omega, by omega, by omega, by omega,
    ((((HR1.out.only l2 (by omega)).only l3 (by omega)).only l4 (by omega)).only l5 (by omega)).only l6 (by omega),
    (((HR2.out.only l3 (by omega)).only l4 (by omega)).only l5 (by omega)).only l6 (by omega),
    ((HR3.out.only l4 (by omega)).only l5 (by omega)).only l6 (by omega),
    (HR4.out.only l5 (by omega)).only l6 (by omega), HR5.out.only l6 (by omega), HR6.out, q1⟩

theorem ownNames_yes (k : Int) (w : World) (hk : 1 ≤ k ∧ k ≤ 6) : Calls Try.prog 23 #[.int .i64 k] w (NamesAt k w) := by
  have hwf : (Lit.int .i64 k).wf = true := by rcases kinds hk with rfl | rfl | rfl | rfl | rfl | rfl <;> rfl
  refine (ownNames_in k w hwf).mono fun e w' ⟨g1, g2, g3, g4, g5, g6, he, b1, b2, b3, b4, b5, b6, r1, r2, r3, r4, r5, r6, hO⟩ => ?_
  rcases kinds hk with rfl | rfl | rfl | rfl | rfl | rfl
  · exact ⟨g1, he, b1, r1, hO⟩
  · exact ⟨g2, he, b2, r2, hO⟩
  · exact ⟨g3, he, b3, r3, hO⟩
  · exact ⟨g4, he, b4, r4, hO⟩
  · exact ⟨g5, he, b5, r5, hO⟩
  · exact ⟨g6, he, b6, r6, hO⟩

theorem ownNames_no (k : Int) (w : World) (hwf : (Lit.int .i64 k).wf = true) (hk : ¬ (1 ≤ k ∧ k ≤ 6)) : Calls Try.prog 23 #[.int .i64 k] w fun e w' => e = .returned (.slice none 0 0) ∧ Only Nil w w' := by
  refine (ownNames_in k w hwf).mono fun e w' ⟨g1, g2, g3, g4, g5, g6, he, b1, b2, b3, b4, b5, b6, r1, r2, r3, r4, r5, r6, hO⟩ => ⟨?_, hO⟩
  rw [he]
  unfold pickV
  rw [if_neg (by omega), if_neg (by omega), if_neg (by omega), if_neg (by omega), if_neg (by omega), if_neg (by omega)]
end Go.Proofs.Ytjdgniconbocnaa
