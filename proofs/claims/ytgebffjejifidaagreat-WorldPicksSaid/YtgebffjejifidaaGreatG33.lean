import Derived.Test.YtgebffjejifidaaGreatG1
import Derived.Test.YtgebffjejifidaaGreatG30
import Derived.Test.YtgebffjejifidaaGreatG9
set_option linter.unusedVariables false
set_option linter.unusedSimpArgs false
set_option maxHeartbeats 40000000
set_option maxRecDepth 100000
namespace Go.Proofs.YtgebffjejifidaaGreat
open Go.RowKit Tryz
theorem zao(B:Nat)(p A:Option Addr)(cp:Nat)(nv:Value)(r:LS)(w:World)(h:RunP w B p A cp nv r)(hl:r.ns.length<=900)(hx:Words r.xs)(ha:0<=r.a/\r.a<4294967296)(ho:r.op=6\/r.op=4):Calls prog 78 #[Value.pointer (some ⟨B,0,none⟩)] w (ClS [241, 243, 247, 242, 244, 250, 245, 249] B p A cp r r.fq w):=by
 have HQ:=zh ho;clear ho;obtain⟨ol,H1⟩:∃ol,Hid (r.op=ol):=⟨_,zh rfl⟩;obtain⟨ln,H2⟩:∃ln,Hid (r.line=ln):=⟨_,zh rfl⟩;have HX:=zh hx;have HL:=zh hl;have HA:=zh ha;have e0:=(Only.refl Nil w).alloc (.cells #[Value.pointer (some ⟨B,0,none⟩)] 110);have HP:=zh (h.keep e0);have HO:=zh e0;have HR:=zh (Row.new w 110 #[Value.pointer (some ⟨B,0,none⟩)]);clear h hl hx ha e0;go_enter func78, ntmps78
 go_upto_region 1 with(fail)
 generalize w.alloc (.cells #[Value.pointer (some ⟨B,0,none⟩)] 110)=w1 at *;generalize w.heap.size=gs at *;refine qb (n:=11) 10 (fun w=>w.cell? ⟨gs,0,none⟩=some (Value.pointer (some ⟨B,0,none⟩))/\w.cell? ⟨B,4,none⟩=some (.int .i64 ol)/\w.cell? ⟨B,5,none⟩=some (.int .i64 ln)) rfl kr ⟨HR.out.one,by rw[←H1.out];exact HP.out.row.cell_ (i:=4) rfl,by rw[←H2.out];exact HP.out.row.cell_ (i:=5) rfl⟩ (fun hHeld=> ?_);have HP1:=zh (HP.out.keep (Only.refl Nil w1).drew);have HR1:=zh HR.out.drew;have HO1:=zh HO.out.drew;clear HP HR HO;generalize w1.drew=w2 at *;refine zt 0 rfl ?_;refine za 1 rfl ?_;refine za 2 rfl ?_;refine za 3 rfl ?_;refine zt 4 rfl ?_;refine zt 5 rfl ?_;refine za 6 rfl ?_;refine za 7 rfl ?_;refine za 8 rfl ?_;refine zt 9 rfl ?_;refine mpc 10 rfl kr br (fun K hK=> ?_);go_simp;refine hK.out _ _ (.inl kr) ?_;clear hK K hHeld;refine qc kr ?_ _;have b0:w2.cell? ⟨gs,0,none⟩=some (Value.pointer (some ⟨B,0,none⟩)):=HR1.out.one
 by_cases o6:ol=6
 . rcases o6 with rfl
   by_cases g:ln=0\/ln=1
   . rcases g with rfl|rfl
     all_goals
      go_wp2_with fail;refine arm (FS:=[241, 243, 247, 242, 244, 250, 245, 249]) (r:=r) (r':=r.fq) (qff 2 2 HP1.out HL.out HX.out HA.out) HO1.out (by unfold LS.fq;rw[H1.out,H2.out];exact qib (by rw[H1.out];decide)) dc fun caps w3 H=> ?_;go_wp2;go_ret;exact H.out
   by_cases g:ln=2
   . rcases g with rfl;go_wp2_with fail;refine arm (FS:=[241, 243, 247, 242, 244, 250, 245, 249]) (r:=r) (r':=r.fq) (qer 149 qjv (fun r=>(r.note 4 0).fin true) ⟨qow⟩ 0 (g3:=gs) HP1.out HL.out HR1.out) HO1.out (by unfold LS.fq;rw[H1.out,H2.out];rfl) dc fun caps w3 H=> ?_;go_wp2;go_ret;exact H.out
   by_cases g:ln=6\/ln=7\/ln=8\/ln=9
   . rcases g with rfl|rfl|rfl|rfl
     all_goals
      go_wp2_with fail;refine arm (FS:=[241, 243, 247, 242, 244, 250, 245, 249]) (r:=r) (r':=r.fq) (xp 6 false (HP1.out.keep ((Only.refl Nil w2).alloc _)) HL.out HX.out HA.out (vz HP1.out 8) dc dc dc) (HO1.out.alloc _) (by unfold LS.fq;rw[H1.out,H2.out];rfl) dc fun caps w3 H=> ?_;go_wp2;go_ret;exact H.out
   go_wp2;go_ret;exact .inr ⟨rfl,HO1.out,by unfold LS.fq;rw[H1.out,H2.out,show qy 6 ln=11 from(by unfold qy;repeat (first|rw[if_neg om]|rw[if_pos om]))];exact qao (a:=6) (by rw[H2.out];omega) (by rw[H2.out];omega) (by rw[H2.out];omega) (by rw[H2.out];omega)⟩
 by_cases o4:ol=4
 . rcases o4 with rfl
   by_cases g:ln=0\/ln=1\/ln=2\/ln=3
   . rcases g with rfl|rfl|rfl|rfl
     all_goals
      go_wp2_with fail;refine arm (FS:=[241, 243, 247, 242, 244, 250, 245, 249]) (r:=r) (r':=r.fq) (xp 0 true (HP1.out.keep ((Only.refl Nil w2).alloc _)) HL.out HX.out HA.out (qie HP1.out 7 8) dc dc dc) (HO1.out.alloc _) (by unfold LS.fq;rw[H1.out,H2.out];rfl) dc fun caps w3 H=> ?_;go_wp2;go_ret;exact H.out
   go_wp2;go_ret;exact .inr ⟨rfl,HO1.out,by unfold LS.fq;rw[H1.out,H2.out,show qy 4 ln=7 from(by unfold qy;repeat (first|rw[if_neg om]|rw[if_pos om]))];exact qao (a:=0) (by rw[H2.out];omega) (by rw[H2.out];omega) (by rw[H2.out];omega) (by rw[H2.out];omega)⟩
 exact absurd HQ.out (by rw[H1.out];omega)
end Go.Proofs.YtgebffjejifidaaGreat
