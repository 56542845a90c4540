import Derived.Test.YtiahkfoojjpaaaaGreatDoorU39
set_option maxRecDepth 100000
set_option maxHeartbeats 16000000
set_option linter.all false
namespace Go.Proofs.YtiahkfoojjpaaaaGreatDoor
open Go.RowKit
theorem Li {w:World} {p G:Nat} (h:w.cell? ⟨p,2,none⟩=some (.int .i64 G)):Calls Tryz.prog 141 #[.pointer (some ⟨p,0,none⟩)] w fun r w'=>r=.returned (.int .i64 G)/\w'=w:=by
 go_enter Tryz.func141,Tryz.ntmps141
 go_wp2_with fail;go_ret;exact ⟨rfl,rfl⟩
theorem CM {fs:List (Nat×Obj)} {cv cv4:List Value} {L:List AdrS} {rn:Nat} {nt:Bool} {p:Ptn} {v t hv:Value} {raw:ByteArray} {l:List UInt8} {H:List (Nat×Nat)} (hz:Cz cv) (hl:Cv cv) (h4:cv4=((((cv.set 11 v).set 12 t).set 13 (.string raw)).set 14 (.string (ba l))).set 15 hv) (hp:PtnV fs v t p) (hh:qW fs hv H) :
  fU fs cv4 { du L rn nt 115 with pat:=some p,new:=⟨raw,l⟩,dm:=H }:=by
 have rz:=dq (fs:=fs) hz L rn nt 115;obtain ⟨x0,x1,x2,x3,x4,x5,x6,x7,x8,x9,x10,x11,x12,x13,x14,x15,x16,x17,x18,x19,x20,x21,x22,rfl⟩:=dS hl.len;subst h4;exact ⟨rz.c4,rz.c5,rz.c6,rz.c7,rz.c8,rz.c9,rz.c10,⟨v,t,rfl,rfl,hp⟩,rfl,rfl,⟨hv,rfl,hh⟩,rz.c16,rz.c17,rz.c18,rz.c19,rz.c20,rz.c21,rz.c22⟩
section
variable {w0:World} {b k:Nat} {src:ByteArray} {σ:Sst} {r:RdS} {L:List AdrS} {rn:Nat} {nt:Bool}
theorem yP (hw0:Nm w0) (hr:Mp σ r):gK w0 97 b src k σ r (operE src k r (du L rn nt 115)):=by
 intro w cb cv hs hb hl hz hf hsl;have hlt:=hs.cur.lt;have hne:cb≠b:=fun e=>hf.bk 0 (by rw [e];rfl);have hsm:=hs.cur.small;have HF:=hid hf;have HR:=hid hr;have HZ:=hid hz;have HSL:=hid hsl;have PG:=oa hs.e (hs.nm hw0).1 (hs.nm hw0).2;obtain ⟨R,hR⟩:∃ R,R=operE src k r (du L rn nt 115):=⟨_,rfl⟩;rw [<-hR];obtain ⟨c0,hc0⟩:∃ c0,c0=du L rn nt 115:=⟨_,rfl⟩;have w115:c0.what=115:=by rw [hc0];rfl
 rw [<-hc0] at hR;unfold operE at hR;rw [w115,Nr (by omega),Nr (by omega),Nr (by omega),Nr (by omega),Nr (by omega),Ny rfl] at hR;have HC0:=hid hc0;clear hz hr hsl hc0 w115
 cases h1:patE src k with
 | error q=>
  obtain ⟨E,pl⟩:=q;rw [h1] at hR PG;have HRE:=hid hR;have HPG:=hid PG;clear hR PG;go_enter Tryz.func97,Tryz.ntmps97
  go_wp2_with fail;refine HPG.out.mono ?_;rintro q w1 ⟨rfl,m1⟩;go_wp2_with fail;refine ⟨rfl,?_⟩;rw [HRE.out];exact ⟨rfl,hs.qz m1⟩
 | ok q=>
 obtain ⟨e0,p⟩:=q;have hpe:=yO hsm h1;have hQ:∀ pb w,p.Q pb w->w.cell? ⟨pb,2,none⟩=some (.int .i64 p.G):=fun pb w h=>h.c2;have hG:=hpe.2.2.1.g;rw [h1] at hR PG;dsimp only at hR;have HQ:=hid hQ;have HPE:=hid hpe;have HRE:=hid hR;have HPG:=hid PG;clear hR PG h1 hQ hpe;have z11:cv[11]? = some (.pointer none):=by rw [show 11=4+7 from rfl,HZ.out.at_,HZ.out];rfl
 have z12:cv[12]? = some (.string ⟨#[]⟩):=by rw [show 12=4+8 from rfl,HZ.out.at_,HZ.out];rfl
 have z13:cv[13]? = some (.string ⟨#[]⟩):=by rw [show 13=4+9 from rfl,HZ.out.at_,HZ.out];rfl
 have z14:cv[14]? = some (.string ⟨#[]⟩):=by rw [show 14=4+10 from rfl,HZ.out.at_,HZ.out];rfl
 have z15:cv[15]? = some (.slice none 0 0):=by rw [show 15=4+11 from rfl,HZ.out.at_,HZ.out];rfl
 have hln:=hl.len;have HL:=hid hl;have HS:=hid hs;have HB:=hid hb;clear hs hb hl hf;go_enter Tryz.func97,Tryz.ntmps97
 go_wp2_with fail;refine HPG.out.mono ?_;rintro q w1 ⟨pb,gb,o1,o2,rfl,ho1,ho2,lpb,lgb,brs,c1,m1⟩;have c1:Cur w1 b src e0:=c1;have BRS:=hid brs;clear brs;have S1:=hid (HS.out.move m1 c1);have B1:=hid (HB.out.aj m1.kp (by simpa using hne));have d11:=B1.out.at_ 11 _ z11;have d12:=B1.out.at_ 12 _ z12;have f11:=B1.out.free 11;have f12:=B1.out.free 12;obtain ⟨txt,htx⟩:∃ txt,txt=p.txt:=⟨_,rfl⟩;rw [show ((e0,p):Nat×Ptn).2.txt=txt from htx.symm];have HTX:=hid htx;clear htx;obtain ⟨cv2,hcv2⟩:∃ cv2,cv2=(cv.set 11 (.pointer (some ⟨pb,0,none⟩))).set 12 (.string txt):=⟨_,rfl⟩;have B2:Hid (Bl ((w1.setCell ⟨cb,11,none⟩ (.pointer (some ⟨pb,0,none⟩))).setCell ⟨cb,12,none⟩ (.string txt)) cb cv2):=hid (by rw [hcv2];exact (B1.out.set 11 _ (by omega)).set 12 _ (by rw [N5];omega));have k2:Kp [cb] w1 ((w1.setCell ⟨cb,11,none⟩ (.pointer (some ⟨pb,0,none⟩))).setCell ⟨cb,12,none⟩ (.string txt)):=(Kp.setCell _ _ (by simp)).trans (Kp.setCell _ _ (by simp))
 have S2:=hid (S1.out.other k2 (fun y hy=>by simp at hy;rw [hy];exact HF.out));go_upto_region 1 with fail
 have hcbw:cb < w.heap.size:=HB.out.lt;have p1:pb < w1.heap.size:=lt_of_block ho1;have p2:gb < w1.heap.size:=lt_of_block ho2;have hpc:pb≠cb:=by omega
 have hgc:gb≠cb:=by omega
 have ho1:=(k2.block pb p1 (by simpa using hpc)).trans ho1;have ho2:=(k2.block gb p2 (by simpa using hgc)).trans ho2;have K2:=hid k2;generalize (w1.setCell ⟨cb,11,none⟩ (.pointer (some ⟨pb,0,none⟩))).setCell ⟨cb,12,none⟩ (.string txt)=w2 at *;have q11:cv2[11]? = some (.pointer (some ⟨pb,0,none⟩)):=by rw [hcv2,NL (by omega),NK (by omega)]
 have e11:=B2.out.at_ 11 _ q11;have cG:=HQ.out pb w2 (BRS.out w2 ho1 ho2);obtain ⟨G,hGe⟩:∃ G,G=p.G:=⟨_,rfl⟩;rw [<-hGe] at cG hG;have HGE:=hid hGe;clear d11 d12 f11 f12 k2 hGe;go_wp2_with fail;refine (Li cG).mono ?_;rintro q w2' ⟨rfl,rfl⟩;have NT:=G8 S2.out.e hG;have hRE:=HRE.out;rw [<-HGE.out] at hRE;clear HRE
 cases h2:newE src G (src.size+1) e0 [] [] with
 | error pl=>
  rw [h2] at hRE NT;have HRE:=hid hRE;have HNT:=hid NT;clear hRE NT h2;go_wp2_with fail;refine HNT.out.mono ?_;rintro q w3 ⟨rfl,m3⟩;go_wp2_with fail;refine ⟨rfl,?_⟩;rw [HRE.out];exact ⟨rfl,S2.out.qz m3⟩
 | ok q=>
 obtain ⟨e1,l,H⟩:=q;have hnle:=rZ h2 ⟨fun q hq=>(by cases hq),List.Pairwise.nil⟩;rw [h2] at hRE NT;dsimp only at hRE;have HRE:=hid hRE;have HNT:=hid NT;have HNL:=hid hnle;clear hRE NT h2 hnle;go_wp2_with fail;refine HNT.out.mono ?_;rintro q w3 ⟨v,rfl,own,c3,m3⟩;have c3:Cur w3 b src e1:=c3;replace own:w3.ownsRow w2'.heap.size 211 2 v H.length (lR H):=own;have S3:=hid (S2.out.move m3 c3);have B3:=hid (B2.out.aj m3.kp (by simpa using hne));have hpb:pb≠b:=by omega
 have hgb:gb≠b:=by omega
 have z2:=K2.out.size;have ho1:=(m3.kp.block pb (by omega) (by simpa using hpb)).trans ho1;have ho2:=(m3.kp.block gb (by omega) (by simpa using hgb)).trans ho2;have q13:cv2[13]? = some (.string ⟨#[]⟩):=by rw [hcv2,NL (by omega),NL (by omega)];exact z13
 have q14:cv2[14]? = some (.string ⟨#[]⟩):=by rw [hcv2,NL (by omega),NL (by omega)];exact z14
 have q15:cv2[15]? = some (.slice none 0 0):=by rw [hcv2,NL (by omega),NL (by omega)];exact z15
 have hln2:cv2.length=23:=by rw [hcv2];simp [hln]
 have OW:=hid own;obtain ⟨A,hc,rfl⟩:=oc own;clear own e11 cG;have d13:=B3.out.at_ 13 _ q13;have d14:=B3.out.at_ 14 _ q14;have d15:=B3.out.at_ 15 _ q15;have f13:=B3.out.free 13;have f14:=B3.out.free 14;have f15:=B3.out.free 15;dsimp only;obtain ⟨raw,hraw⟩:∃ raw,raw=src.extract e0 (e1 - 1):=⟨_,rfl⟩;rw [<-hraw];have HRAW:=hid hraw;clear hraw;obtain ⟨cv4,hcv4⟩:∃ cv4,cv4=((cv2.set 13 (.string raw)).set 14 (.string (ba l))).set 15 (.slice A H.length hc):=⟨_,rfl⟩
 have B4:Hid (Bl (((w3.setCell ⟨cb,13,none⟩ (.string raw)).setCell ⟨cb,14,none⟩ (.string (ba l))).setCell ⟨cb,15,none⟩ (.slice A H.length hc)) cb cv4):=hid (by
  rw [hcv4];exact ((B3.out.set 13 _ (by omega)).set 14 _ (by rw [N5];omega)).set 15 _ (by rw [N5,N5];omega))
 have k4:Kp [cb] w3 (((w3.setCell ⟨cb,13,none⟩ (.string raw)).setCell ⟨cb,14,none⟩ (.string (ba l))).setCell ⟨cb,15,none⟩ (.slice A H.length hc)):=(Kp.setCell _ _ (by simp)).trans ((Kp.setCell _ _ (by simp)).trans (Kp.setCell _ _ (by simp)));have S4:=hid (S3.out.other k4 (fun y hy=>by simp at hy;rw [hy];exact HF.out));go_upto_region 2 with fail
 have z3:=m3.kp.size;have ho1:=(k4.block pb (by omega) (by simpa using hpc)).trans ho1;have ho2:=(k4.block gb (by omega) (by simpa using hgc)).trans ho2;have OW4:=hid (ag OW.out (fun g hg=>k4.block g (az OW.out hg).2 (by rw [NI];have:=(az OW.out hg).1;omega)));have z4:=k4.size;generalize ((w3.setCell ⟨cb,13,none⟩ (.string raw)).setCell ⟨cb,14,none⟩ (.string (ba l))).setCell ⟨cb,15,none⟩ (.slice A H.length hc)=w4 at *;clear d13 d14 d15 f13 f14 f15 k4;have HL2:Cv cv2:=by rw [hcv2];exact (HL.out.set 11 rfl).set 12 rfl
 have HL4:Hid (Cv cv4):=hid (by rw [hcv4];exact ((HL2.set 13 rfl).set 14 rfl).set 15 rfl);obtain ⟨new,hnew,hfs⟩:∃ new:List (Nat×Obj),(∀ f∈new,w4.heap[f.1]? = some f.2/\w.heap.size<=f.1)/\∀ fs,(∀ f∈new,f∈fs)->(pb,o1)∈fs/\(gb,o2)∈fs/\qW fs (.slice A H.length hc) H:=by
  rcases OW4.out.2 with ⟨q1,q2⟩ | ⟨hb',cap,cur,q1,q2,q3,q4,q5,q6,q7⟩
  .refine ⟨[(pb,o1),(gb,o2)],fun f hf=>?_,fun fs h=>⟨h _ (by simp),h _ (by simp),A,hc,rfl,.inl (Og q2)⟩⟩;simp only [Oh,Oq,or_false] at hf;rcases hf with rfl | rfl
   .exact ⟨ho1,lpb⟩
   .exact ⟨ho2,lgb⟩
  .injection q1 with e1 e2 e3;refine ⟨[(pb,o1),(gb,o2),(hb',.cells cur 211 (0,0))],fun f hf=>?_,fun fs h=>⟨h _ (by simp),h _ (by simp),A,hc,rfl,.inr ⟨hb',cur,e1,h _ (by simp),q7⟩⟩⟩;simp only [Oh,Oq,or_false] at hf;rcases hf with rfl | rfl | rfl
   .exact ⟨ho1,lpb⟩
   .exact ⟨ho2,lgb⟩
   .exact ⟨q3,by have:=m1.kp.size;show w.heap.size<=hb';omega⟩
 have S5:=S4.out.ub new (fun f hf=>⟨(hnew f hf).1,(HS.out.dP (hnew f hf).2).lo,(HS.out.dP (hnew f hf).2).bk⟩)
 have F5:Sr.Far w0 b { σ with fs:=new++σ.fs } cb:=⟨HF.out.lo,HF.out.bk,fun f hf=>by
  rcases List.mem_append.1 hf with q | q
  .have:=(hnew f q).2;omega
  .exact HF.out.fx f q⟩
 obtain ⟨i1,i2,i3⟩:=hfs (new++σ.fs) (fun f hf=>O0 _ hf)
 have hrest:fU (new++σ.fs) cv4 { du L rn nt 115 with pat:=some p,new:=⟨raw,l⟩,dm:=H }:=
  CM (hv:=.slice A H.length hc) HZ.out HL.out (by rw [hcv4,hcv2]) ⟨pb,gb,o1,o2,rfl,by rw [HTX.out],i1,i2,BRS.out⟩ i3
 have hrel:jc σ r->jc { σ with fs:=new++σ.fs } r:=fun h=>h.mono (fun f hf=>OH _ hf);have hcc:FlC cv4 { du L rn nt 115 with pat:=some p,new:=⟨raw,l⟩,dm:=H }=cv4:=BU HL4.out hrest.c6 hrest.c7 hrest.c16 hrest.c17 hrest.c18;have FO:=hid (flags_o (cv:=cv4) (c:={ du L rn nt 115 with pat:=some p,new:=⟨raw,l⟩,dm:=H }) (r:=r) S5 (by rw [hcc];exact B4.out) HL4.out F5 ⟨HSL.out.ns,HSL.out.bs,HSL.out.gs⟩ ⟨HR.out.nm.ns,HR.out.nm.nm⟩ (by show (0:Nat)<=_;omega));have HX:=hid (And.intro hrest hrel);have hRE:=HRE.out;rw [HC0.out,<-HRAW.out] at hRE;clear HRE hfs hnew hrest hrel hcc i1 i2 i3
 have H4:Hid (cv4.take 4=cv.take 4):=hid (by
  rw [hcv4,hcv2];obtain ⟨x0,x1,x2,x3,x4,x5,x6,x7,x8,x9,x10,x11,x12,x13,x14,x15,x16,x17,x18,x19,x20,x21,x22,rfl⟩:=dS HL.out.len
  rfl)
 cases h3:flagsE src (src.size+1) e1 r { du L rn nt 115 with pat:=some p,new:=⟨raw,l⟩,dm:=H } with
 | error q=>
  obtain ⟨E,pl⟩:=q;rw [h3] at FO;have HRE:=hid (hRE.trans h3);clear hRE h3;go_wp2_with fail;refine FO.out.mono ?_;rintro q w5 ⟨rfl,k5⟩;go_wp2_with fail;refine ⟨rfl,?_⟩;rw [HRE.out];exact ⟨rfl,k5⟩
 | ok q=>
  obtain ⟨e2,r2,c2⟩:=q;have FK:=hid (gW HNL.out.2.1 h3);rw [h3] at FO;have HRE:=hid (hRE.trans h3);clear hRE h3;go_wp2_with fail;refine FO.out.mono ?_;rintro q w5 ⟨rfl,hq⟩;have HQ5:=hid hq;clear hq;go_wp2_with fail;refine bodyPost_ret (results_none rfl _ _ _) rfl ?_;rw [HRE.out];exact ⟨rfl,MU (w:=w) HQ5.out HL4.out HX.out.2 HX.out.1 FK.out H4.out ⟨rfl,rfl,fun f hf=>OH _ hf⟩⟩
end
theorem nJ (x:Nat):∀ (l:List (Nat×Nat)) (c i:Nat),l.find? (fun q=>x == q.1)=none->Instr.findNow (.int .u8) (.int .u8 x) (tabE c l) i=some none
 | [],_,_,_=>rfl
 | (y,f)::l,c,i,h=>by
  rw [OS] at h
  cases hxy:(x == y)
  .rw [hxy] at h;have hn:x≠y:=by simpa using hxy
   have hi:((x:Int) == (y:Int))=false:=by rw [Nz];omega
   rw [tabE];simpa [Instr.findNow,Instr.sameNow,hi,hn] using nJ x l (c+1) (i+1) h
  .rw [hxy] at h
   cases h
theorem nI (x:Nat):∀ (l:List (Nat×Nat)) (c i y f:Nat),l.find? (fun q=>x == q.1)=some (y,f)->∃ j,Instr.findNow (.int .u8) (.int .u8 x) (tabE c l) i=some (some (j,.func (.func f) #[] #[]))
 | [],_,_,_,_,h=>by cases h
 | (z,g)::l,c,i,y,f,h=>by
  rw [OS] at h;rw [tabE]
  cases hxy:(x == z)
  .rw [hxy] at h;have hn:x≠z:=by simpa using hxy
   have hi:((x:Int) == (z:Int))=false:=by rw [Nz];omega
   obtain ⟨j,q⟩:=nI x l (c+1) (i+1) y f h;exact ⟨j,by simpa [Instr.findNow,Instr.sameNow,hi,hn] using q⟩
  .rw [hxy] at h;injection h with h;injection h with h1 h2;subst h2;have hn:x=z:=by simpa using hxy
   subst hn;exact ⟨i,by simp [Instr.findNow,Instr.sameNow]⟩
theorem Gx {x:Nat} (h:jg.contains x=false):opsL.find? (fun q=>x == q.1)=none:=by
 rw [List.find?_eq_none];intro q hq e;have e:x=q.1:=by simpa using e
 have:∀ q∈opsL,jg.contains q.1=true:=by decide
 rw [e,this q hq] at h
 cases h
section
variable {w0 w:World} {b k:Nat} {src:ByteArray} {σ:Sst} {r:RdS} {L:List AdrS} {rn x:Nat} {nt:Bool}
theorem yU (h:x≠123/\x≠125/\x≠58/\¬ (x=98\/x=116)/\¬ (x=97\/x=105\/x=99)/\x≠115/\x≠121/\x≠113/\x≠119):operE src k r (du L rn nt x)=.ok (k,r,du L rn nt x):=by
 unfold operE;rw [show (du L rn nt x).what=x from rfl,Nr h.1,Nr h.2.1,Nr h.2.2.1,Nr h.2.2.2.1,Nr h.2.2.2.2.1,Nr h.2.2.2.2.2.1,Nr h.2.2.2.2.2.2.1,Nr h.2.2.2.2.2.2.2.1,Nr h.2.2.2.2.2.2.2.2]
def OperX (w0:World) (b:Nat) (src:ByteArray) (k:Nat) (r:RdS) (x:Nat) (R:OpE):Prop:=
 ∃ f i,Instr.findNow (.int .u8) (.int .u8 x) (tabE 0 opsL) 0=some (some (i,.func (.func f) #[] #[]))/\Enters f/\∀ σ,Mp σ r->gK w0 f b src k σ r R
theorem jV {f:Nat} {R:OpE} (hf:opsL.find? (fun q=>x == q.1)=some (x,f)) (he:Enters f) (ho:∀ σ,Mp σ r->gK w0 f b src k σ r R):OperX w0 b src k r x R:=by
 obtain ⟨j,hj⟩:=nI x opsL 0 0 x f hf;exact ⟨f,j,hj,he,ho⟩
theorem operN (hf:opsL.find? (fun q=>x == q.1)=some (x,101)) (h:x≠123/\x≠125/\x≠58/\¬ (x=98\/x=116)/\¬ (x=97\/x=105\/x=99)/\x≠115/\x≠121/\x≠113/\x≠119):OperX w0 b src k r x (operE src k r (du L rn nt x)):=
 jV hf (fun p q w=>by simp [go_sem]) (fun σ _=>by rw [yU h];exact yQ)
theorem oper_g (hw0:Nm w0) (hx:jg.contains x=true) (hk1:1<=k) (hk:k<=src.size) (hsz:src.size<=2000) (h8:r.blocks.length<=8) (hcs:r.aG.length<=2000) (hbl:∀ i∈r.blocks,i < r.aG.length):OperX w0 b src k r x (operE src k r (du L rn nt x)):=by
 have hm:x∈jg:=by simpa using hx
 simp only [jg,Oh,Oq,or_false] at hm;rcases hm with rfl | rfl | rfl | rfl | rfl | rfl | rfl | rfl | rfl | rfl | rfl | rfl | rfl | rfl | rfl | rfl | rfl | rfl | rfl | rfl | rfl | rfl | rfl | rfl | rfl
 .exact jV (f:=92) rfl (fun p q w=>by simp [go_sem]) (fun σ h=>Kg h hk1 h8 hcs)
 .exact jV (f:=93) rfl (fun p q w=>by simp [go_sem]) (fun σ h=>Kf h hk1 h8 hcs hbl)
 .exact jV (f:=94) rfl (fun p q w=>by simp [go_sem]) (fun σ h=>GN h hk hcs)
 .exact jV (f:=95) rfl (fun p q w=>by simp [go_sem]) (fun σ h=>qi (.inl rfl) h hk hsz hcs)
 .exact jV (f:=95) rfl (fun p q w=>by simp [go_sem]) (fun σ h=>qi (.inr rfl) h hk hsz hcs)
 .exact jV (f:=96) rfl (fun p q w=>by simp [go_sem]) (fun σ _=>rS (.inl rfl))
 .exact jV (f:=96) rfl (fun p q w=>by simp [go_sem]) (fun σ _=>rS (.inr (.inl rfl)))
 .exact jV (f:=96) rfl (fun p q w=>by simp [go_sem]) (fun σ _=>rS (.inr (.inr rfl)))
 .exact jV (f:=97) rfl (fun p q w=>by simp [go_sem]) (fun σ h=>yP hw0 h)
 .exact jV (f:=98) rfl (fun p q w=>by simp [go_sem]) (fun σ _=>uW)
 .exact jV (f:=99) rfl (fun p q w=>by simp [go_sem]) (fun σ _=>Dc hk)
 .exact jV (f:=100) rfl (fun p q w=>by simp [go_sem]) (fun σ h=>Kh h hk)
 all_goals exact operN rfl (by omega)
theorem Cp {e:Nat} {a:AdrS} (hk:k<=src.size) (h:adrE src k=.ok (e,a)):a.A.ok src k e:=by
 unfold adrE at h
 cases hd:isD src k
 .rw [hd,Nr (by simp)] at h
  cases h36:saw src k 36
  .rw [h36,Nr (by simp)] at h
   cases hp:patE src k with
   | error q=>rw [hp] at h;cases h
   | ok q=>
    obtain ⟨e1,p⟩:=q;rw [hp] at h;injection h with h;injection h with h1 h2;subst h1 h2;have h47:saw src k 47=true:=by
     cases h47:saw src k 47
     .unfold patE at hp;rw [h47,Nr (by simp)] at hp
      cases hp
     .rfl
    refine ⟨hd,h36,h47,fun w b hc hw hb hc2=>?_⟩;have:=oa ⟨hc,hc2⟩ hw hb;rw [hp] at this;exact this
  .rw [h36,Ny rfl] at h;injection h with h;injection h with h1 h2;subst h1 h2;exact ⟨hd,h36,rfl⟩
 .rw [hd,Ny rfl] at h
  cases hn:Jw src 1 1000000 k with
  | error q=>rw [hn] at h;cases h
  | ok q=>
   obtain ⟨e1,v⟩:=q;rw [hn] at h;injection h with h;injection h with h1 h2;subst h1 h2;exact ⟨hd,_,rV (by omega) hk hn⟩
theorem adrsE_A {e:Nat} {L:List AdrS} (hsz:src.size<=2000) (hk:k<=src.size) (h:adrsE src k=.ok (e,L)):qZ src k e (L.map AdrS.A):=by
 unfold adrsE at h
 cases hA:isA src k
 .rw [hA,Nr (by simp)] at h;injection h with h;injection h with h1 h2;subst h1 h2;exact ⟨hA,rfl⟩
 .rw [hA,Ny rfl] at h
  cases h1:adrE src k with
  | error q=>rw [h1] at h;cases h
  | ok q=>
   obtain ⟨e1,a⟩:=q;rw [h1] at h;dsimp only at h
   cases h44:saw src e1 44
   .rw [h44,Nr (by simp)] at h;injection h with h;injection h with h2 h3;subst h2 h3;exact ⟨Cp hk h1,h44⟩
   .rw [h44,Ny rfl] at h
    cases h2:adrE src (e1+1) with
    | error q=>rw [h2] at h;cases h
    | ok q=>
     obtain ⟨e2,a2⟩:=q;rw [h2] at h;injection h with h;injection h with h3 h4;subst h3 h4;exact ⟨e1,Cp hk h1,h44,Cp (by have:=aK h44;omega) h2⟩
theorem yc {E pl:Nat} (hr:qY w b src k) (hw:Nm w) (hbg:b≠4) (h:adrE src k=.error (E,pl)) :
  Calls Tryz.prog 168 #[.pointer (some ⟨b,0,none⟩)] w fun r w'=>r=gE E pl/\Mv b w w':=by
 unfold adrE at h;have hlt:=hr.cur.lt;have kA:=Kp.alloc [] w (.cells (iE 0 0).toArray 132);have mA:Mv b w (w.alloc (.cells (iE 0 0).toArray 132)):=Mv.alloc hlt _;have hA:=hid (hr.move mA (hr.cur.aj kA (by simp)));have HW:=hid hw;clear hw
 cases hd:isD src k
 .rw [hd,Nr (by simp)] at h
  cases h36:saw src k 36
  .rw [h36,Nr (by simp)] at h
   cases hp:patE src k with
   | ok q=>rw [hp] at h;cases h
   | error q=>
    rw [hp] at h;injection h with h;subst h;have HP:=hid hp;have HD:=hid hd;have H36:=hid h36;clear hp hd h36;go_enter Tryz.func168,Tryz.ntmps168
    go_wp2_with fail;refine (dA hA.out.cur HD.out).mono ?_;rintro r w1 ⟨rfl,h1,m1⟩;go_wp2_with fail;refine (aY 36 h1 H36.out).mono ?_;rintro r w2 ⟨rfl,h2,m2⟩;have h2:Cur w2 b src k:=h2;have PG:=oa (hA.out.move (m1.trans m2) h2) (HW.out.aj (mA.trans (m1.trans m2)).kp (by simpa using Ne.symm hbg)) hbg;rw [HP.out] at PG;have HPG:=hid PG;clear PG;go_wp2_with fail;refine HPG.out.mono ?_;rintro r w3 ⟨rfl,m3⟩;go_wp2_with fail;exact ⟨rfl,rfl,mA.trans (m1.trans (m2.trans m3))⟩
  .rw [h36,Ny rfl] at h
   cases h
 .rw [hd,Ny rfl] at h
  cases hn:Jw src 1 1000000 k with
  | ok q=>rw [hn] at h;cases h
  | error q=>
   rw [hn] at h;injection h with h;injection h with h1 h2;subst h1 h2;have HN:=hid hn;have HD:=hid hd;clear hn hd;go_enter Tryz.func168,Tryz.ntmps168
   go_wp2_with fail;refine (dA hA.out.cur HD.out).mono ?_;rintro r w1 ⟨rfl,h1,m1⟩;have NS:=num_s (lo:=1) (hi:=1000000) (by omega) (hA.out.move m1 h1);rw [HN.out] at NS;have HNS:=hid NS;clear NS;go_wp2_with fail;refine HNS.out.mono ?_;rintro r w3 ⟨rfl,m3⟩;go_wp2_with fail;exact ⟨rfl,rfl,mA.trans (m1.trans m3)⟩
theorem Ak {E pl:Nat} (hs:Sr w0 w b src k σ) (hw0:Nm w0) (h:adrsE src k=.error (E,pl)) :
  Calls Tryz.prog 151 #[.pointer (some ⟨b,0,none⟩)] w fun r w'=>r=gE E pl/\Kp [] w0 w':=by
 have hk:=hs.cur.le;have hbg:=(hs.nm hw0).2;have HW:=hid (hs.nm hw0).1;have hE:=hid hs.e;have HS:=hid hs;clear hs;unfold adrsE at h
 cases hA:isA src k
 .rw [hA,Nr (by simp)] at h
  cases h
 .rw [hA,Ny rfl] at h;have HA:=hid hA;clear hA
  cases h1:adrE src k with
  | error q=>
   rw [h1] at h;injection h with h;subst h;have H1:=hid h1;clear h1;go_enter Tryz.func151,Tryz.ntmps151
   go_wp2_with fail;refine (ew hE.out.cur HA.out).mono ?_;rintro r w1 ⟨rfl,h1,m1⟩;go_wp2_with fail;refine (yc (hE.out.move m1 h1) (HW.out.aj m1.kp (by simpa using Ne.symm hbg)) hbg H1.out).mono ?_;rintro r w2 ⟨rfl,m2⟩;go_wp2_with fail;exact ⟨rfl,rfl,HS.out.qz (m1.trans m2)⟩
  | ok q=>
   obtain ⟨e1,a⟩:=q;rw [h1] at h;dsimp only at h;have HOK:=hid (Cp hk h1);clear h1
   cases h44:saw src e1 44
   .rw [h44,Nr (by simp)] at h
    cases h
   .rw [h44,Ny rfl] at h;have H44:=hid h44;clear h44
    cases h2:adrE src (e1+1) with
    | ok q=>rw [h2] at h;cases h
    | error q=>
     rw [h2] at h;injection h with h;subst h;have H2:=hid h2;clear h2;go_enter Tryz.func151,Tryz.ntmps151
     go_wp2_with fail;refine (ew hE.out.cur HA.out).mono ?_;rintro r w1 ⟨rfl,h1,m1⟩;go_wp2_with fail;refine (jE h1 (HW.out.aj m1.kp (by simpa using Ne.symm hbg)) hbg (hE.out.move m1 h1).c2 HOK.out).mono ?_;rintro r w2 ⟨va,rfl,hva,h2,m2⟩;obtain ⟨x0,x1,x2,x3,rfl,_⟩:=hva.four;clear hva;have E2:=hid (hE.out.move (m1.trans m2) h2);have mA:Mv b w2 (w2.alloc (.cells #[x0,x1,x2,x3] 132)):=Mv.alloc h2.lt _;have E3:=hid (E2.out.move mA (h2.aj (Kp.alloc [] w2 _) (by simp)));go_wp2_with fail;refine (aY 44 E3.out.cur H44.out).mono ?_;rintro r w3 ⟨rfl,h3,m3⟩;have h3:Cur w3 b src (e1+1):=h3;have m13:=(m1.trans m2).trans (mA.trans m3);go_wp2_with fail;refine (yc (hE.out.move m13 h3) (HW.out.aj m13.kp (by simpa using Ne.symm hbg)) hbg H2.out).mono ?_;rintro r w4 ⟨rfl,m4⟩;go_wp2_with fail;exact ⟨rfl,rfl,HS.out.qz (m13.trans m4)⟩
end
