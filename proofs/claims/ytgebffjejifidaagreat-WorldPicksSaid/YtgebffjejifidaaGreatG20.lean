import Derived.Test.YtgebffjejifidaaGreatG1
import Derived.Test.YtgebffjejifidaaGreatG19
import Derived.Test.YtgebffjejifidaaGreatG9
set_option linter.unusedVariables false
set_option linter.unusedSimpArgs false
set_option maxHeartbeats 40000000
set_option maxRecDepth 100000
namespace Go.Proofs.YtgebffjejifidaaGreat
open Go.RowKit Tryz
theorem qb7{r:LS}(h:vv r.op r.line=0):r.tf=r:=by unfold LS.tf;rw[h];rfl
theorem zc6(B:Nat)(p A:Option Addr)(cp:Nat)(nv:Value)(r:LS)(w:World)(h:RunP w B p A cp nv r)(hl:r.ns.length<=900)(hx:Words r.xs):Calls prog 62 #[Value.pointer (some ⟨B,0,none⟩)] w (ClS [207, 210, 212, 213, 217, 208, 211, 214, 216] B p A cp r r.tf w):=by
 obtain⟨ol,H1⟩:∃ol,Hid (r.op=ol):=⟨_,zh rfl⟩;obtain⟨ln,H2⟩:∃ln,Hid (r.line=ln):=⟨_,zh rfl⟩;have HX:=zh hx;have HL:=zh hl;have e0:=(Only.refl Nil w).alloc (.cells #[Value.pointer (some ⟨B,0,none⟩)] 110);have HP:=zh (h.keep e0);have HO:=zh e0;have HR:=zh (Row.new w 110 #[Value.pointer (some ⟨B,0,none⟩)]);clear h hl hx e0;go_enter func62, ntmps62
 go_upto_region 1 with(fail)
 generalize w.alloc (.cells #[Value.pointer (some ⟨B,0,none⟩)] 110)=w1 at *;generalize w.heap.size=gs at *;refine qb (n:=11) 10 (fun w=>w.cell? ⟨gs,0,none⟩=some (Value.pointer (some ⟨B,0,none⟩))/\w.cell? ⟨B,4,none⟩=some (.int .i64 ol)/\w.cell? ⟨B,5,none⟩=some (.int .i64 ln)) rfl kr ⟨HR.out.one,by rw[←H1.out];exact HP.out.row.cell_ (i:=4) rfl,by rw[←H2.out];exact HP.out.row.cell_ (i:=5) rfl⟩ (fun hHeld=> ?_);have HP1:=zh (HP.out.keep (Only.refl Nil w1).drew);have HR1:=zh HR.out.drew;have HO1:=zh HO.out.drew;clear HP HR HO;generalize w1.drew=w2 at *;refine zt 0 rfl ?_;refine za 1 rfl ?_;refine za 2 rfl ?_;refine za 3 rfl ?_;refine zt 4 rfl ?_;refine zt 5 rfl ?_;refine za 6 rfl ?_;refine za 7 rfl ?_;refine za 8 rfl ?_;refine zt 9 rfl ?_;refine mpc 10 rfl kr br (fun K hK=> ?_);go_simp;refine hK.out _ _ (.inl kr) ?_;clear hK K hHeld;refine qc kr ?_ _;have b0:w2.cell? ⟨gs,0,none⟩=some (Value.pointer (some ⟨B,0,none⟩)):=HR1.out.one
 by_cases o1:ol=1
 . rcases o1 with rfl
   by_cases g:ln=0
   . rcases g with rfl;go_wp2_with fail;refine arm (FS:=[207, 210, 212, 213, 217, 208, 211, 214, 216]) (r:=r) (r':=r.tf) (qha 1 HP1.out HL.out) HO1.out (by unfold LS.tf;rw[H1.out,H2.out];rfl) dc fun caps w3 H=> ?_;go_wp2;go_ret;exact H.out
   by_cases g:ln=1
   . rcases g with rfl;go_wp2_with fail;refine arm (FS:=[207, 210, 212, 213, 217, 208, 211, 214, 216]) (r:=r) (r':=r.tf) (qja HP1.out HL.out HX.out) HO1.out (by unfold LS.tf;rw[H1.out,H2.out];rfl) dc fun caps w3 H=> ?_;go_wp2;go_ret;exact H.out
   by_cases g:ln=2
   . rcases g with rfl;go_wp2_with fail;refine arm (FS:=[207, 210, 212, 213, 217, 208, 211, 214, 216]) (r:=r) (r':=r.tf) (qan 1 4 HP1.out HL.out) HO1.out (by unfold LS.tf;rw[H1.out,H2.out];rfl) dc fun caps w3 H=> ?_;go_wp2;go_ret;exact H.out
   go_wp2;go_ret;exact .inr ⟨rfl,HO1.out,qb7 (by rw[H1.out,H2.out];exact(by unfold vv;repeat (first|rw[if_neg om])))⟩
 by_cases o2:ol=2
 . rcases o2 with rfl
   by_cases g:ln=0
   . rcases g with rfl;go_wp2_with fail;refine arm (FS:=[207, 210, 212, 213, 217, 208, 211, 214, 216]) (r:=r) (r':=r.tf) (qan 2 6 HP1.out HL.out) HO1.out (by unfold LS.tf;rw[H1.out,H2.out];rfl) dc fun caps w3 H=> ?_;go_wp2;go_ret;exact H.out
   go_wp2;go_ret;exact .inr ⟨rfl,HO1.out,qb7 (by rw[H1.out,H2.out];exact(by unfold vv;repeat (first|rw[if_neg om])))⟩
 by_cases o3:ol=3
 . rcases o3 with rfl
   by_cases g:ln=0
   . rcases g with rfl;go_wp2_with fail;refine arm (FS:=[207, 210, 212, 213, 217, 208, 211, 214, 216]) (r:=r) (r':=r.tf) (qha 2 HP1.out HL.out) HO1.out (by unfold LS.tf;rw[H1.out,H2.out];rfl) dc fun caps w3 H=> ?_;go_wp2;go_ret;exact H.out
   by_cases g:ln=1
   . rcases g with rfl;go_wp2_with fail;refine arm (FS:=[207, 210, 212, 213, 217, 208, 211, 214, 216]) (r:=r) (r':=r.tf) (qjo HP1.out HL.out HX.out) HO1.out (by unfold LS.tf;rw[H1.out,H2.out];rfl) dc fun caps w3 H=> ?_;go_wp2;go_ret;exact H.out
   go_wp2;go_ret;exact .inr ⟨rfl,HO1.out,qb7 (by rw[H1.out,H2.out];exact(by unfold vv;repeat (first|rw[if_neg om])))⟩
 by_cases o4:ol=4
 . rcases o4 with rfl
   by_cases g:ln=0
   . rcases g with rfl;go_wp2_with fail;refine arm (FS:=[207, 210, 212, 213, 217, 208, 211, 214, 216]) (r:=r) (r':=r.tf) (qmw HP1.out HL.out) HO1.out (by unfold LS.tf;rw[H1.out,H2.out];rfl) dc fun caps w3 H=> ?_;go_wp2;go_ret;exact H.out
   by_cases g:ln=1
   . rcases g with rfl;go_wp2_with fail;refine arm (FS:=[207, 210, 212, 213, 217, 208, 211, 214, 216]) (r:=r) (r':=r.tf) (qan 2 8 HP1.out HL.out) HO1.out (by unfold LS.tf;rw[H1.out,H2.out];rfl) dc fun caps w3 H=> ?_;go_wp2;go_ret;exact H.out
   go_wp2;go_ret;exact .inr ⟨rfl,HO1.out,qb7 (by rw[H1.out,H2.out];exact(by unfold vv;repeat (first|rw[if_neg om])))⟩
 by_cases o5:ol=5
 . rcases o5 with rfl
   by_cases g:ln=0
   . rcases g with rfl;go_wp2_with fail;refine arm (FS:=[207, 210, 212, 213, 217, 208, 211, 214, 216]) (r:=r) (r':=r.tf) (qe3 HP1.out HL.out) HO1.out (by unfold LS.tf;rw[H1.out,H2.out];rfl) dc fun caps w3 H=> ?_;go_wp2;go_ret;exact H.out
   by_cases g:ln=1
   . rcases g with rfl;go_wp2_with fail;refine arm (FS:=[207, 210, 212, 213, 217, 208, 211, 214, 216]) (r:=r) (r':=r.tf) (qcr 1 0 HP1.out HL.out) HO1.out (by unfold LS.tf;rw[H1.out,H2.out];rfl) dc fun caps w3 H=> ?_;go_wp2;go_ret;exact H.out
   by_cases g:ln=2
   . rcases g with rfl;go_wp2_with fail;refine arm (FS:=[207, 210, 212, 213, 217, 208, 211, 214, 216]) (r:=r) (r':=r.tf) (qcv 110 qkp (fun r=>(r.note 2 1).go 3) ⟨qp0⟩ (g2:=gs) HP1.out HL.out HR1.out) HO1.out (by unfold LS.tf;rw[H1.out,H2.out];rfl) dc fun caps w3 H=> ?_;go_wp2;go_ret;exact H.out
   by_cases g:ln=3
   . rcases g with rfl;go_wp2_with fail;refine arm (FS:=[207, 210, 212, 213, 217, 208, 211, 214, 216]) (r:=r) (r':=r.tf) (qan 1 4 HP1.out HL.out) HO1.out (by unfold LS.tf;rw[H1.out,H2.out];rfl) dc fun caps w3 H=> ?_;go_wp2;go_ret;exact H.out
   go_wp2;go_ret;exact .inr ⟨rfl,HO1.out,qb7 (by rw[H1.out,H2.out];exact(by unfold vv;repeat (first|rw[if_neg om])))⟩
 by_cases o6:ol=6
 . rcases o6 with rfl
   by_cases g:ln=0
   . rcases g with rfl;go_wp2_with fail;refine arm (FS:=[207, 210, 212, 213, 217, 208, 211, 214, 216]) (r:=r) (r':=r.tf) (qe3 HP1.out HL.out) HO1.out (by unfold LS.tf;rw[H1.out,H2.out];rfl) dc fun caps w3 H=> ?_;go_wp2;go_ret;exact H.out
   by_cases g:ln=1
   . rcases g with rfl;go_wp2_with fail;refine arm (FS:=[207, 210, 212, 213, 217, 208, 211, 214, 216]) (r:=r) (r':=r.tf) (qcr 2 0 HP1.out HL.out) HO1.out (by unfold LS.tf;rw[H1.out,H2.out];rfl) dc fun caps w3 H=> ?_;go_wp2;go_ret;exact H.out
   by_cases g:ln=2
   . rcases g with rfl;go_wp2_with fail;refine arm (FS:=[207, 210, 212, 213, 217, 208, 211, 214, 216]) (r:=r) (r':=r.tf) (qcv 112 qjh (fun r=>((r.note 2 2).note 4 0).fin true) ⟨qpw⟩ (g2:=gs) HP1.out HL.out HR1.out) HO1.out (by unfold LS.tf;rw[H1.out,H2.out];rfl) dc fun caps w3 H=> ?_;go_wp2;go_ret;exact H.out
   go_wp2;go_ret;exact .inr ⟨rfl,HO1.out,qb7 (by rw[H1.out,H2.out];exact(by unfold vv;repeat (first|rw[if_neg om])))⟩
 by_cases o7:ol=7
 . rcases o7 with rfl
   by_cases g:ln=0
   . rcases g with rfl;go_wp2_with fail;refine arm (FS:=[207, 210, 212, 213, 217, 208, 211, 214, 216]) (r:=r) (r':=r.tf) (qe3 HP1.out HL.out) HO1.out (by unfold LS.tf;rw[H1.out,H2.out];rfl) dc fun caps w3 H=> ?_;go_wp2;go_ret;exact H.out
   by_cases g:ln=1
   . rcases g with rfl;go_wp2_with fail;refine arm (FS:=[207, 210, 212, 213, 217, 208, 211, 214, 216]) (r:=r) (r':=r.tf) (qcr 2 1 HP1.out HL.out) HO1.out (by unfold LS.tf;rw[H1.out,H2.out];rfl) dc fun caps w3 H=> ?_;go_wp2;go_ret;exact H.out
   by_cases g:ln=2
   . rcases g with rfl;go_wp2_with fail;refine arm (FS:=[207, 210, 212, 213, 217, 208, 211, 214, 216]) (r:=r) (r':=r.tf) (qcv 114 qjg (fun r=>(r.note 9 0).go 3) ⟨qof⟩ (g2:=gs) HP1.out HL.out HR1.out) HO1.out (by unfold LS.tf;rw[H1.out,H2.out];rfl) dc fun caps w3 H=> ?_;go_wp2;go_ret;exact H.out
   by_cases g:ln=3
   . rcases g with rfl;go_wp2_with fail;refine arm (FS:=[207, 210, 212, 213, 217, 208, 211, 214, 216]) (r:=r) (r':=r.tf) (qpo HP1.out HL.out) HO1.out (by unfold LS.tf;rw[H1.out,H2.out];rfl) dc fun caps w3 H=> ?_;go_wp2;go_ret;exact H.out
   go_wp2;go_ret;exact .inr ⟨rfl,HO1.out,qb7 (by rw[H1.out,H2.out];exact(by unfold vv;repeat (first|rw[if_neg om])))⟩
 by_cases o8:ol=8
 . rcases o8 with rfl
   by_cases g:ln=0
   . rcases g with rfl;go_wp2_with fail;refine arm (FS:=[207, 210, 212, 213, 217, 208, 211, 214, 216]) (r:=r) (r':=r.tf) (qan 1 10 HP1.out HL.out) HO1.out (by unfold LS.tf;rw[H1.out,H2.out];rfl) dc fun caps w3 H=> ?_;go_wp2;go_ret;exact H.out
   go_wp2;go_ret;exact .inr ⟨rfl,HO1.out,qb7 (by rw[H1.out,H2.out];exact(by unfold vv;repeat (first|rw[if_neg om])))⟩
 go_wp2;go_ret;exact .inr ⟨rfl,HO1.out,qb7 (by rw[H1.out,H2.out];exact(by unfold vv;repeat (first|rw[if_neg om])))⟩
end Go.Proofs.YtgebffjejifidaaGreat
