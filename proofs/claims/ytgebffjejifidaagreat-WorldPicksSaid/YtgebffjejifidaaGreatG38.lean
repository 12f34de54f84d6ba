import Derived.Test.YtgebffjejifidaaGreatG1
import Derived.Test.YtgebffjejifidaaGreatG37
import Derived.Test.YtgebffjejifidaaGreatG9
set_option linter.unusedVariables false
set_option linter.unusedSimpArgs false
set_option maxHeartbeats 40000000
set_option maxRecDepth 100000
namespace Go.Proofs.YtgebffjejifidaaGreat
open Go.RowKit Tryz
theorem qb2{r:LS}(h:vu r.op r.line=0):r.rf=r:=by unfold LS.rf;rw[h];rfl
theorem zc0(B:Nat)(p A:Option Addr)(cp:Nat)(nv:Value)(r:LS)(w:World)(h:RunP w B p A cp nv r)(hl:r.ns.length<=900)(hx:Words r.xs):Calls prog 79 #[Value.pointer (some ⟨B,0,none⟩)] w (ClS [251, 252, 254, 255, 256, 257, 259] B p A cp r r.rf w):=by
 obtain⟨ol,H1⟩:∃ol,Hid (r.op=ol):=⟨_,zh rfl⟩;obtain⟨ln,H2⟩:∃ln,Hid (r.line=ln):=⟨_,zh rfl⟩;have HX:=zh hx;have HL:=zh hl;have e0:=(Only.refl Nil w).alloc (.cells #[Value.pointer (some ⟨B,0,none⟩)] 110);have HP:=zh (h.keep e0);have HO:=zh e0;have HR:=zh (Row.new w 110 #[Value.pointer (some ⟨B,0,none⟩)]);clear h hl hx e0;go_enter func79, ntmps79
 go_upto_region 1 with(fail)
 generalize w.alloc (.cells #[Value.pointer (some ⟨B,0,none⟩)] 110)=w1 at *;generalize w.heap.size=gs at *;refine qb (n:=11) 10 (fun w=>w.cell? ⟨gs,0,none⟩=some (Value.pointer (some ⟨B,0,none⟩))/\w.cell? ⟨B,4,none⟩=some (.int .i64 ol)/\w.cell? ⟨B,5,none⟩=some (.int .i64 ln)) rfl kr ⟨HR.out.one,by rw[←H1.out];exact HP.out.row.cell_ (i:=4) rfl,by rw[←H2.out];exact HP.out.row.cell_ (i:=5) rfl⟩ (fun hHeld=> ?_);have HP1:=zh (HP.out.keep (Only.refl Nil w1).drew);have HR1:=zh HR.out.drew;have HO1:=zh HO.out.drew;clear HP HR HO;generalize w1.drew=w2 at *;refine zt 0 rfl ?_;refine za 1 rfl ?_;refine za 2 rfl ?_;refine za 3 rfl ?_;refine zt 4 rfl ?_;refine zt 5 rfl ?_;refine za 6 rfl ?_;refine za 7 rfl ?_;refine za 8 rfl ?_;refine zt 9 rfl ?_;refine mpc 10 rfl kr br (fun K hK=> ?_);go_simp;refine hK.out _ _ (.inl kr) ?_;clear hK K hHeld;refine qc kr ?_ _;have b0:w2.cell? ⟨gs,0,none⟩=some (Value.pointer (some ⟨B,0,none⟩)):=HR1.out.one
 by_cases o1:ol=1
 . rcases o1 with rfl
   by_cases g:ln=0
   . rcases g with rfl;go_wp2_with fail;refine arm (FS:=[251, 252, 254, 255, 256, 257, 259]) (r:=r) (r':=r.rf) (qpy B p A cp nv r _ HP1.out HL.out HX.out) HO1.out (qsg H1.out H2.out) dc fun caps w3 H=> ?_;go_wp2;go_ret;exact H.out
   by_cases g:ln=1
   . rcases g with rfl;go_wp2_with fail;refine arm (FS:=[251, 252, 254, 255, 256, 257, 259]) (r:=r) (r':=r.rf) (ql0 B p A cp nv r _ HP1.out HL.out HX.out) HO1.out (qqt H1.out H2.out) dc fun caps w3 H=> ?_;go_wp2;go_ret;exact H.out
   go_wp2;go_ret;exact .inr ⟨rfl,HO1.out,qb2 (by rw[H1.out,H2.out];exact(by unfold vu;repeat (first|rw[if_neg om])))⟩
 by_cases o2:ol=2
 . rcases o2 with rfl
   by_cases g:ln=0
   . rcases g with rfl;go_wp2_with fail;refine arm (FS:=[251, 252, 254, 255, 256, 257, 259]) (r:=r) (r':=r.rf) (qbb B p A cp nv r 4294967295 _ [6] _ (HP1.out.keep ((Only.refl Nil w2).alloc _)) HL.out (vz HP1.out 6) dc) (HO1.out.alloc _) (qup H1.out H2.out) dc fun caps w3 H=> ?_;go_wp2;go_ret;exact H.out
   go_wp2;go_ret;exact .inr ⟨rfl,HO1.out,qb2 (by rw[H1.out,H2.out];exact(by unfold vu;repeat (first|rw[if_neg om])))⟩
 by_cases o3:ol=3
 . rcases o3 with rfl
   by_cases g:ln=0
   . rcases g with rfl;go_wp2_with fail;refine arm (FS:=[251, 252, 254, 255, 256, 257, 259]) (r:=r) (r':=r.rf) (qq8 B p A cp nv r _ HP1.out HL.out HX.out) HO1.out (quy H1.out H2.out) dc fun caps w3 H=> ?_;go_wp2;go_ret;exact H.out
   by_cases g:ln=1
   . rcases g with rfl;go_wp2_with fail;refine arm (FS:=[251, 252, 254, 255, 256, 257, 259]) (r:=r) (r':=r.rf) (qaf 157 qo7 (fun r=>r.note 4 0) qvl B p A cp nv r (0) (65536) 2 gs _ HP1.out HL.out HR1.out) HO1.out (que H1.out H2.out) dc fun caps w3 H=> ?_;go_wp2;go_ret;exact H.out
   by_cases g:ln=2
   . rcases g with rfl;go_wp2_with fail;refine arm (FS:=[251, 252, 254, 255, 256, 257, 259]) (r:=r) (r':=r.rf) (qmb B p A cp nv r _ HP1.out HL.out HX.out) HO1.out (qun H1.out H2.out) dc fun caps w3 H=> ?_;go_wp2;go_ret;exact H.out
   go_wp2;go_ret;exact .inr ⟨rfl,HO1.out,qb2 (by rw[H1.out,H2.out];exact(by unfold vu;repeat (first|rw[if_neg om])))⟩
 by_cases o4:ol=4
 . rcases o4 with rfl
   by_cases g:ln=0
   . rcases g with rfl;go_wp2_with fail;refine arm (FS:=[251, 252, 254, 255, 256, 257, 259]) (r:=r) (r':=r.rf) (qbb B p A cp nv r 4294901760 _ [7,8] _ (HP1.out.keep ((Only.refl Nil w2).alloc _)) HL.out (qie HP1.out 7 8) dc) (HO1.out.alloc _) (qs6 H1.out H2.out) dc fun caps w3 H=> ?_;go_wp2;go_ret;exact H.out
   go_wp2;go_ret;exact .inr ⟨rfl,HO1.out,qb2 (by rw[H1.out,H2.out];exact(by unfold vu;repeat (first|rw[if_neg om])))⟩
 by_cases o5:ol=5
 . rcases o5 with rfl
   by_cases g:ln=0
   . rcases g with rfl;go_wp2_with fail;refine arm (FS:=[251, 252, 254, 255, 256, 257, 259]) (r:=r) (r':=r.rf) (qbw 160 qod ju qrc B p A cp nv r _ HP1.out HL.out HX.out) HO1.out (qua H1.out H2.out) dc fun caps w3 H=> ?_;go_wp2;go_ret;exact H.out
   by_cases g:ln=1
   . rcases g with rfl;have hx1:IntKind.u32.wrap (r.a+1)=(r.a+1)%4294967296:=rfl
     go_upto_region 19 with(fail)
     refine qb (n:=15) 13 (fun w=>w.cell? ⟨gs,0,none⟩=some (Value.pointer (some ⟨B,0,none⟩))/\w.cell? ⟨B,6,none⟩=some (.int .u32 r.a)) rfl kr ⟨b0,HP1.out.row.cell_ (i:=6) rfl⟩ (fun hHeld=> ?_);clear b0;have HP2:=zh (HP1.out.keep (Only.refl Nil w2).drew);have HR2:=zh HR1.out.drew;have HO2:=zh HO1.out.drew;clear HP1 HR1 HO1;generalize w2.drew=w3 at *;refine zt 0 rfl ?_;refine zt 1 rfl ?_;refine za 2 rfl ?_;refine za 3 rfl ?_;refine za 4 rfl ?_;refine zt 5 rfl ?_;refine zt 6 rfl ?_;refine za 7 rfl ?_;refine za 8 rfl ?_;refine za 9 rfl ?_;refine zt 10 rfl ?_;refine za 11 rfl ?_;refine za 12 rfl ?_;refine mpc 13 rfl kr br (fun K hK=> ?_);go_simp;refine arm (FS:=[251, 252, 254, 255, 256, 257, 259]) (r:=r) (r':=r.rf) (qaf 162 qqk (fun r=>(r.note 2 1).note 4 0) qv7 B p A cp nv r r.a ((r.a+1)%4294967296) 0 gs _ HP2.out HL.out HR2.out) HO2.out (qtp H1.out H2.out) dc fun caps w4 H=> ?_;refine hK.out _ _ (.inl kr) ?_;clear hK K hHeld;refine za 14 rfl ?_;refine qc kr ?_ _;go_wp2;go_ret;exact H.out
   go_wp2;go_ret;exact .inr ⟨rfl,HO1.out,qb2 (by rw[H1.out,H2.out];exact(by unfold vu;repeat (first|rw[if_neg om])))⟩
 by_cases o6:ol=6
 . rcases o6 with rfl
   by_cases g:ln=0
   . rcases g with rfl;go_wp2_with fail;refine arm (FS:=[251, 252, 254, 255, 256, 257, 259]) (r:=r) (r':=r.rf) (qbw 164 qpz (fun v=>v==0) qpm B p A cp nv r _ HP1.out HL.out HX.out) HO1.out (qrn H1.out H2.out) dc fun caps w3 H=> ?_;go_wp2;go_ret;exact H.out
   by_cases g:ln=1
   . rcases g with rfl;go_wp2_with fail;refine arm (FS:=[251, 252, 254, 255, 256, 257, 259]) (r:=r) (r':=r.rf) (qaf 165 qp2 (fun r=>(r.note 2 2).note 4 0) qwb B p A cp nv r (0) (65536) 0 gs _ HP1.out HL.out HR1.out) HO1.out (qqs H1.out H2.out) dc fun caps w3 H=> ?_;go_wp2;go_ret;exact H.out
   go_wp2;go_ret;exact .inr ⟨rfl,HO1.out,qb2 (by rw[H1.out,H2.out];exact(by unfold vu;repeat (first|rw[if_neg om])))⟩
 by_cases o7:ol=7
 . rcases o7 with rfl
   by_cases g:ln=0
   . rcases g with rfl;go_wp2_with fail;refine arm (FS:=[251, 252, 254, 255, 256, 257, 259]) (r:=r) (r':=r.rf) (qbw 166 qpd (fun v=>v==1) qrv B p A cp nv r _ HP1.out HL.out HX.out) HO1.out (qse H1.out H2.out) dc fun caps w3 H=> ?_;go_wp2;go_ret;exact H.out
   by_cases g:ln=1
   . rcases g with rfl;go_wp2_with fail;refine arm (FS:=[251, 252, 254, 255, 256, 257, 259]) (r:=r) (r':=r.rf) (qaf 167 qov (fun r=>r.note 9 0) qxy B p A cp nv r (1) (65536) 0 gs _ HP1.out HL.out HR1.out) HO1.out (qr4 H1.out H2.out) dc fun caps w3 H=> ?_;go_wp2;go_ret;exact H.out
   go_wp2;go_ret;exact .inr ⟨rfl,HO1.out,qb2 (by rw[H1.out,H2.out];exact(by unfold vu;repeat (first|rw[if_neg om])))⟩
 by_cases o8:ol=8
 . rcases o8 with rfl
   by_cases g:ln=0
   . rcases g with rfl;go_wp2_with fail;refine arm (FS:=[251, 252, 254, 255, 256, 257, 259]) (r:=r) (r':=r.rf) (qbb B p A cp nv r 4294901761 _ [10] _ (HP1.out.keep ((Only.refl Nil w2).alloc _)) HL.out (vz HP1.out 10) dc) (HO1.out.alloc _) (qsv H1.out H2.out) dc fun caps w3 H=> ?_;go_wp2;go_ret;exact H.out
   go_wp2;go_ret;exact .inr ⟨rfl,HO1.out,qb2 (by rw[H1.out,H2.out];exact(by unfold vu;repeat (first|rw[if_neg om])))⟩
 go_wp2;go_ret;exact .inr ⟨rfl,HO1.out,qb2 (by rw[H1.out,H2.out];exact(by unfold vu;repeat (first|rw[if_neg om])))⟩
end Go.Proofs.YtgebffjejifidaaGreat
