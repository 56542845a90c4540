import Derived.Test.YtiahkfoojjpaaaaGreatDoorT37
import Derived.Test.YtiahkfoojjpaaaaGreatDoorT39
set_option maxRecDepth 100000
set_option maxHeartbeats 16000000
set_option linter.all false
namespace Go.Proofs.YtiahkfoojjpaaaaGreatDoor
open Go.RowKit
theorem Lf {w:World} {p G:Nat} (h:w.cell? ⟨p,2,none⟩=some (.int .i64 G)):Calls Tryz.prog 141 #[.pointer (some ⟨p,0,none⟩)] w fun r w'=>r=.returned (.int .i64 G)/\w'=w:=by
 go_enter Tryz.func141,Tryz.ntmps141
 go_wp2_with fail;go_ret;exact ⟨rfl,rfl⟩
theorem CM {fs:List (Nat×Obj)} {cv cv4:List Value} {L:List fS} {rn:Nat} {nt:Bool} {p:Ptn} {v t hv:Value} {raw:ByteArray} {l:List UInt8} {H:List (Nat×Nat)} (hz:Cz cv) (hl:Cv cv) (h4:cv4=((((cv.set 11 v).set 12 t).set 13 (.string raw)).set 14 (.string (ba l))).set 15 hv) (hp:PtnV fs v t p) (hh:ra fs hv H) :
  fQ fs cv4 { dr L rn nt 115 with pat:=some p,new:=⟨raw,l⟩,di:=H }:=by
 have rz:=dk (fs:=fs) hz L rn nt 115;obtain ⟨x0,x1,x2,x3,x4,x5,x6,x7,x8,x9,x10,x11,x12,x13,x14,x15,x16,x17,x18,x19,x20,x21,x22,rfl⟩:=dR hl.len;subst h4;exact ⟨rz.c4,rz.c5,rz.c6,rz.c7,rz.c8,rz.c9,rz.c10,⟨v,t,rfl,rfl,hp⟩,rfl,rfl,⟨hv,rfl,hh⟩,rz.c16,rz.c17,rz.c18,rz.c19,rz.c20,rz.c21,rz.c22⟩
section
variable {w0:World} {b k:Nat} {src:ByteArray} {σ:Sst} {r:RdS} {L:List fS} {rn:Nat} {nt:Bool}
theorem yN (hw0:Nm w0) (hr:Ml σ r):gV w0 97 b src k σ r (operE src k r (dr L rn nt 115)):=by
 intro w cb cv hs hb hl hz hf hsl;have hlt:=hs.cur.lt;have hne:cb≠b:=fun e=>hf.bk 0 (by rw [e];rfl);have hsm:=hs.cur.small;have HF:=hid hf;have HR:=hid hr;have HZ:=hid hz;have HSL:=hid hsl;have PG:=om hs.e (hs.nm hw0).1 (hs.nm hw0).2;obtain ⟨R,hR⟩:∃ R,R=operE src k r (dr L rn nt 115):=⟨_,rfl⟩;rw [<-hR];obtain ⟨c0,hc0⟩:∃ c0,c0=dr L rn nt 115:=⟨_,rfl⟩;have w115:c0.what=115:=by rw [hc0];rfl
 rw [<-hc0] at hR;unfold operE at hR;rw [w115,Nr (by omega),Nr (by omega),Nr (by omega),Nr (by omega),Nr (by omega),Ny rfl] at hR;have HC0:=hid hc0;clear hz hr hsl hc0 w115
 cases h1:patE src k with
 | error q=>
  obtain ⟨E,pl⟩:=q;rw [h1] at hR PG;have HRE:=hid hR;have HPG:=hid PG;clear hR PG;go_enter Tryz.func97,Tryz.ntmps97
  go_wp2_with fail;refine HPG.out.mono ?_;rintro q w1 ⟨rfl,m1⟩;go_wp2_with fail;refine ⟨rfl,?_⟩;rw [HRE.out];exact ⟨rfl,hs.qL m1⟩
 | ok q=>
 obtain ⟨e0,p⟩:=q;have hpe:=yM hsm h1;have hQ:∀ pb w,p.Q pb w->w.cell? ⟨pb,2,none⟩=some (.int .i64 p.G):=fun pb w h=>h.c2;have hG:=hpe.2.2.1.g;rw [h1] at hR PG;dsimp only at hR;have HQ:=hid hQ;have HPE:=hid hpe;have HRE:=hid hR;have HPG:=hid PG;clear hR PG h1 hQ hpe;have z11:cv[11]? = some (.pointer none):=by rw [show 11=4+7 from rfl,HZ.out.at_,HZ.out];rfl
 have z12:cv[12]? = some (.string ⟨#[]⟩):=by rw [show 12=4+8 from rfl,HZ.out.at_,HZ.out];rfl
 have z13:cv[13]? = some (.string ⟨#[]⟩):=by rw [show 13=4+9 from rfl,HZ.out.at_,HZ.out];rfl
 have z14:cv[14]? = some (.string ⟨#[]⟩):=by rw [show 14=4+10 from rfl,HZ.out.at_,HZ.out];rfl
 have z15:cv[15]? = some (.slice none 0 0):=by rw [show 15=4+11 from rfl,HZ.out.at_,HZ.out];rfl
 have hln:=hl.len;have HL:=hid hl;have HS:=hid hs;have HB:=hid hb;clear hs hb hl hf;go_enter Tryz.func97,Tryz.ntmps97
 go_wp2_with fail;refine HPG.out.mono ?_;rintro q w1 ⟨pb,gb,o1,o2,rfl,ho1,ho2,lpb,lgb,brs,c1,m1⟩;have c1:Cur w1 b src e0:=c1;have BRS:=hid brs;clear brs;have S1:=hid (HS.out.move m1 c1);have B1:=hid (HB.out.aj m1.kp (by simpa using hne));have d11:=B1.out.at_ 11 _ z11;have d12:=B1.out.at_ 12 _ z12;have f11:=B1.out.free 11;have f12:=B1.out.free 12;obtain ⟨txt,htx⟩:∃ txt,txt=p.txt:=⟨_,rfl⟩;rw [show ((e0,p):Nat×Ptn).2.txt=txt from htx.symm];have HTX:=hid htx;clear htx;obtain ⟨cv2,hcv2⟩:∃ cv2,cv2=(cv.set 11 (.pointer (some ⟨pb,0,none⟩))).set 12 (.string txt):=⟨_,rfl⟩;have B2:Hid (Bl ((w1.setCell ⟨cb,11,none⟩ (.pointer (some ⟨pb,0,none⟩))).setCell ⟨cb,12,none⟩ (.string txt)) cb cv2):=hid (by rw [hcv2];exact (B1.out.set 11 _ (by omega)).set 12 _ (by rw [Od];omega));have k2:Kp [cb] w1 ((w1.setCell ⟨cb,11,none⟩ (.pointer (some ⟨pb,0,none⟩))).setCell ⟨cb,12,none⟩ (.string txt)):=(Kp.setCell _ _ (by simp)).trans (Kp.setCell _ _ (by simp))
 have S2:=hid (S1.out.other k2 (fun y hy=>by simp at hy;rw [hy];exact HF.out));go_upto_region 1 with fail
 have hcbw:cb < w.heap.size:=HB.out.lt;have p1:pb < w1.heap.size:=lt_of_block ho1;have p2:gb < w1.heap.size:=lt_of_block ho2;have hpc:pb≠cb:=by omega
 have hgc:gb≠cb:=by omega
 have ho1:=(k2.block pb p1 (by simpa using hpc)).trans ho1;have ho2:=(k2.block gb p2 (by simpa using hgc)).trans ho2;have K2:=hid k2;generalize (w1.setCell ⟨cb,11,none⟩ (.pointer (some ⟨pb,0,none⟩))).setCell ⟨cb,12,none⟩ (.string txt)=w2 at *;have q11:cv2[11]? = some (.pointer (some ⟨pb,0,none⟩)):=by rw [hcv2,NM (by omega),NK (by omega)]
 have e11:=B2.out.at_ 11 _ q11;have cG:=HQ.out pb w2 (BRS.out w2 ho1 ho2);obtain ⟨G,hGe⟩:∃ G,G=p.G:=⟨_,rfl⟩;rw [<-hGe] at cG hG;have HGE:=hid hGe;clear d11 d12 f11 f12 k2 hGe;go_wp2_with fail;refine (Lf cG).mono ?_;rintro q w2' ⟨rfl,rfl⟩;have NT:=Hb S2.out.e hG;have hRE:=HRE.out;rw [<-HGE.out] at hRE;clear HRE
 cases h2:newE src G (src.size+1) e0 [] [] with
 | error pl=>
  rw [h2] at hRE NT;have HRE:=hid hRE;have HNT:=hid NT;clear hRE NT h2;go_wp2_with fail;refine HNT.out.mono ?_;rintro q w3 ⟨rfl,m3⟩;go_wp2_with fail;refine ⟨rfl,?_⟩;rw [HRE.out];exact ⟨rfl,S2.out.qL m3⟩
 | ok q=>
 obtain ⟨e1,l,H⟩:=q;have hnle:=rZ h2 ⟨fun q hq=>(by cases hq),List.Pairwise.nil⟩;rw [h2] at hRE NT;dsimp only at hRE;have HRE:=hid hRE;have HNT:=hid NT;have HNL:=hid hnle;clear hRE NT h2 hnle;go_wp2_with fail;refine HNT.out.mono ?_;rintro q w3 ⟨v,rfl,own,c3,m3⟩;have c3:Cur w3 b src e1:=c3;replace own:w3.ownsRow w2'.heap.size 211 2 v H.length (lU H):=own;have S3:=hid (S2.out.move m3 c3);have B3:=hid (B2.out.aj m3.kp (by simpa using hne));have hpb:pb≠b:=by omega
 have hgb:gb≠b:=by omega
 have z2:=K2.out.size;have ho1:=(m3.kp.block pb (by omega) (by simpa using hpb)).trans ho1;have ho2:=(m3.kp.block gb (by omega) (by simpa using hgb)).trans ho2;have q13:cv2[13]? = some (.string ⟨#[]⟩):=by rw [hcv2,NM (by omega),NM (by omega)];exact z13
 have q14:cv2[14]? = some (.string ⟨#[]⟩):=by rw [hcv2,NM (by omega),NM (by omega)];exact z14
 have q15:cv2[15]? = some (.slice none 0 0):=by rw [hcv2,NM (by omega),NM (by omega)];exact z15
 have hln2:cv2.length=23:=by rw [hcv2];simp [hln]
 have OW:=hid own;obtain ⟨A,hc,rfl⟩:=ox own;clear own e11 cG;have d13:=B3.out.at_ 13 _ q13;have d14:=B3.out.at_ 14 _ q14;have d15:=B3.out.at_ 15 _ q15;have f13:=B3.out.free 13;have f14:=B3.out.free 14;have f15:=B3.out.free 15;dsimp only;obtain ⟨raw,hraw⟩:∃ raw,raw=src.extract e0 (e1 - 1):=⟨_,rfl⟩;rw [<-hraw];have HRAW:=hid hraw;clear hraw;obtain ⟨cv4,hcv4⟩:∃ cv4,cv4=((cv2.set 13 (.string raw)).set 14 (.string (ba l))).set 15 (.slice A H.length hc):=⟨_,rfl⟩
 have B4:Hid (Bl (((w3.setCell ⟨cb,13,none⟩ (.string raw)).setCell ⟨cb,14,none⟩ (.string (ba l))).setCell ⟨cb,15,none⟩ (.slice A H.length hc)) cb cv4):=hid (by
  rw [hcv4];exact ((B3.out.set 13 _ (by omega)).set 14 _ (by rw [Od];omega)).set 15 _ (by rw [Od,Od];omega))
 have k4:Kp [cb] w3 (((w3.setCell ⟨cb,13,none⟩ (.string raw)).setCell ⟨cb,14,none⟩ (.string (ba l))).setCell ⟨cb,15,none⟩ (.slice A H.length hc)):=(Kp.setCell _ _ (by simp)).trans ((Kp.setCell _ _ (by simp)).trans (Kp.setCell _ _ (by simp)));have S4:=hid (S3.out.other k4 (fun y hy=>by simp at hy;rw [hy];exact HF.out));go_upto_region 2 with fail
 have z3:=m3.kp.size;have ho1:=(k4.block pb (by omega) (by simpa using hpc)).trans ho1;have ho2:=(k4.block gb (by omega) (by simpa using hgc)).trans ho2;have OW4:=hid (ai OW.out (fun g hg=>k4.block g (aA OW.out hg).2 (by rw [NH];have:=(aA OW.out hg).1;omega)));have z4:=k4.size;generalize ((w3.setCell ⟨cb,13,none⟩ (.string raw)).setCell ⟨cb,14,none⟩ (.string (ba l))).setCell ⟨cb,15,none⟩ (.slice A H.length hc)=w4 at *;clear d13 d14 d15 f13 f14 f15 k4;have HL2:Cv cv2:=by rw [hcv2];exact (HL.out.set 11 rfl).set 12 rfl
 have HL4:Hid (Cv cv4):=hid (by rw [hcv4];exact ((HL2.set 13 rfl).set 14 rfl).set 15 rfl);obtain ⟨new,hnew,hfs⟩:∃ new:List (Nat×Obj),(∀ f∈new,w4.heap[f.1]? = some f.2/\w.heap.size<=f.1)/\∀ fs,(∀ f∈new,f∈fs)->(pb,o1)∈fs/\(gb,o2)∈fs/\ra fs (.slice A H.length hc) H:=by
  rcases OW4.out.2 with ⟨q1,q2⟩ | ⟨hb',cap,cur,q1,q2,q3,q4,q5,q6,q7⟩
  .refine ⟨[(pb,o1),(gb,o2)],fun f hf=>?_,fun fs h=>⟨h _ (by simp),h _ (by simp),A,hc,rfl,.inl (NN q2)⟩⟩;simp only [Og,Oo,or_false] at hf;rcases hf with rfl | rfl
   .exact ⟨ho1,lpb⟩
   .exact ⟨ho2,lgb⟩
  .injection q1 with e1 e2 e3;refine ⟨[(pb,o1),(gb,o2),(hb',.cells cur 211 (0,0))],fun f hf=>?_,fun fs h=>⟨h _ (by simp),h _ (by simp),A,hc,rfl,.inr ⟨hb',cur,e1,h _ (by simp),q7⟩⟩⟩;simp only [Og,Oo,or_false] at hf;rcases hf with rfl | rfl | rfl
   .exact ⟨ho1,lpb⟩
   .exact ⟨ho2,lgb⟩
   .exact ⟨q3,by have:=m1.kp.size;show w.heap.size<=hb';omega⟩
 have S5:=S4.out.ua new (fun f hf=>⟨(hnew f hf).1,(HS.out.dP (hnew f hf).2).lo,(HS.out.dP (hnew f hf).2).bk⟩)
 have F5:Sr.Far w0 b { σ with fs:=new++σ.fs } cb:=⟨HF.out.lo,HF.out.bk,fun f hf=>by
  rcases List.mem_append.1 hf with q | q
  .have:=(hnew f q).2;omega
  .exact HF.out.fx f q⟩
 obtain ⟨i1,i2,i3⟩:=hfs (new++σ.fs) (fun f hf=>OV _ hf)
 have hrest:fQ (new++σ.fs) cv4 { dr L rn nt 115 with pat:=some p,new:=⟨raw,l⟩,di:=H }:=
  CM (hv:=.slice A H.length hc) HZ.out HL.out (by rw [hcv4,hcv2]) ⟨pb,gb,o1,o2,rfl,by rw [HTX.out],i1,i2,BRS.out⟩ i3
 have hrel:jf σ r->jf { σ with fs:=new++σ.fs } r:=fun h=>h.mono (fun f hf=>OA _ hf);have hcc:FlC cv4 { dr L rn nt 115 with pat:=some p,new:=⟨raw,l⟩,di:=H }=cv4:=B8 HL4.out hrest.c6 hrest.c7 hrest.c16 hrest.c17 hrest.c18;have FO:=hid (flags_o (cv:=cv4) (c:={ dr L rn nt 115 with pat:=some p,new:=⟨raw,l⟩,di:=H }) (r:=r) S5 (by rw [hcc];exact B4.out) HL4.out F5 ⟨HSL.out.ns,HSL.out.bs,HSL.out.gs⟩ ⟨HR.out.nm.ns,HR.out.nm.nm⟩ (by show (0:Nat)<=_;omega));have HX:=hid (And.intro hrest hrel);have hRE:=HRE.out;rw [HC0.out,<-HRAW.out] at hRE;clear HRE hfs hnew hrest hrel hcc i1 i2 i3
 have H4:Hid (cv4.take 4=cv.take 4):=hid (by
  rw [hcv4,hcv2];obtain ⟨x0,x1,x2,x3,x4,x5,x6,x7,x8,x9,x10,x11,x12,x13,x14,x15,x16,x17,x18,x19,x20,x21,x22,rfl⟩:=dR HL.out.len
  rfl)
 cases h3:flagsE src (src.size+1) e1 r { dr L rn nt 115 with pat:=some p,new:=⟨raw,l⟩,di:=H } with
 | error q=>
  obtain ⟨E,pl⟩:=q;rw [h3] at FO;have HRE:=hid (hRE.trans h3);clear hRE h3;go_wp2_with fail;refine FO.out.mono ?_;rintro q w5 ⟨rfl,k5⟩;go_wp2_with fail;refine ⟨rfl,?_⟩;rw [HRE.out];exact ⟨rfl,k5⟩
 | ok q=>
  obtain ⟨e2,r2,c2⟩:=q;have FK:=hid (ig HNL.out.2.1 h3);rw [h3] at FO;have HRE:=hid (hRE.trans h3);clear hRE h3;go_wp2_with fail;refine FO.out.mono ?_;rintro q w5 ⟨rfl,hq⟩;have HQ5:=hid hq;clear hq;go_wp2_with fail;refine bodyPost_ret (results_none rfl _ _ _) rfl ?_;rw [HRE.out];exact ⟨rfl,MU (w:=w) HQ5.out HL4.out HX.out.2 HX.out.1 FK.out H4.out ⟨rfl,rfl,fun f hf=>OA _ hf⟩⟩
end
theorem nN (x:Nat):∀ (l:List (Nat×Nat)) (c i:Nat),l.find? (fun q=>x == q.1)=none->Instr.findNow (.int .u8) (.int .u8 x) (tabE c l) i=some none
 | [],_,_,_=>rfl
 | (y,f)::l,c,i,h=>by
  rw [OL] at h
  cases hxy:(x == y)
  .rw [hxy] at h;have hn:x≠y:=by simpa using hxy
   have hi:((x:Int) == (y:Int))=false:=by rw [Nz];omega
   rw [tabE];simpa [Instr.findNow,Instr.sameNow,hi,hn] using nN x l (c+1) (i+1) h
  .rw [hxy] at h
   cases h
theorem nM (x:Nat):∀ (l:List (Nat×Nat)) (c i y f:Nat),l.find? (fun q=>x == q.1)=some (y,f)->∃ j,Instr.findNow (.int .u8) (.int .u8 x) (tabE c l) i=some (some (j,.func (.func f) #[] #[]))
 | [],_,_,_,_,h=>by cases h
 | (z,g)::l,c,i,y,f,h=>by
  rw [OL] at h;rw [tabE]
  cases hxy:(x == z)
  .rw [hxy] at h;have hn:x≠z:=by simpa using hxy
   have hi:((x:Int) == (z:Int))=false:=by rw [Nz];omega
   obtain ⟨j,q⟩:=nM x l (c+1) (i+1) y f h;exact ⟨j,by simpa [Instr.findNow,Instr.sameNow,hi,hn] using q⟩
  .rw [hxy] at h;injection h with h;injection h with h1 h2;subst h2;have hn:x=z:=by simpa using hxy
   subst hn;exact ⟨i,by simp [Instr.findNow,Instr.sameNow]⟩
theorem GN {x:Nat} (h:jj.contains x=false):opsL.find? (fun q=>x == q.1)=none:=by
 rw [List.find?_eq_none];intro q hq e;have e:x=q.1:=by simpa using e
 have:∀ q∈opsL,jj.contains q.1=true:=by decide
 rw [e,this q hq] at h
 cases h
section
variable {w0 w:World} {b k:Nat} {src:ByteArray} {σ:Sst} {r:RdS} {L:List fS} {rn x:Nat} {nt:Bool}
theorem yP (h:x≠123/\x≠125/\x≠58/\¬ (x=98\/x=116)/\¬ (x=97\/x=105\/x=99)/\x≠115/\x≠121/\x≠113/\x≠119):operE src k r (dr L rn nt x)=.ok (k,r,dr L rn nt x):=by
 unfold operE;rw [show (dr L rn nt x).what=x from rfl,Nr h.1,Nr h.2.1,Nr h.2.2.1,Nr h.2.2.2.1,Nr h.2.2.2.2.1,Nr h.2.2.2.2.2.1,Nr h.2.2.2.2.2.2.1,Nr h.2.2.2.2.2.2.2.1,Nr h.2.2.2.2.2.2.2.2]
def OperX (w0:World) (b:Nat) (src:ByteArray) (k:Nat) (r:RdS) (x:Nat) (R:OpE):Prop:=
 ∃ f i,Instr.findNow (.int .u8) (.int .u8 x) (tabE 0 opsL) 0=some (some (i,.func (.func f) #[] #[]))/\Enters f/\∀ σ,Ml σ r->gV w0 f b src k σ r R
theorem lg {f:Nat} {R:OpE} (hf:opsL.find? (fun q=>x == q.1)=some (x,f)) (he:Enters f) (ho:∀ σ,Ml σ r->gV w0 f b src k σ r R):OperX w0 b src k r x R:=by
 obtain ⟨j,hj⟩:=nM x opsL 0 0 x f hf;exact ⟨f,j,hj,he,ho⟩
theorem operN (hf:opsL.find? (fun q=>x == q.1)=some (x,101)) (h:x≠123/\x≠125/\x≠58/\¬ (x=98\/x=116)/\¬ (x=97\/x=105\/x=99)/\x≠115/\x≠121/\x≠113/\x≠119):OperX w0 b src k r x (operE src k r (dr L rn nt x)):=
 lg hf (fun p q w=>by simp [go_sem]) (fun σ _=>by rw [yP h];exact yO)
theorem oper_g (hw0:Nm w0) (hx:jj.contains x=true) (hk1:1<=k) (hk:k<=src.size) (hsz:src.size<=2000) (h8:r.blocks.length<=8) (hcs:r.aE.length<=2000) (hbl:∀ i∈r.blocks,i < r.aE.length):OperX w0 b src k r x (operE src k r (dr L rn nt x)):=by
 have hm:x∈jj:=by simpa using hx
 simp only [jj,Og,Oo,or_false] at hm;rcases hm with rfl | rfl | rfl | rfl | rfl | rfl | rfl | rfl | rfl | rfl | rfl | rfl | rfl | rfl | rfl | rfl | rfl | rfl | rfl | rfl | rfl | rfl | rfl | rfl | rfl
 .exact lg (f:=92) rfl (fun p q w=>by simp [go_sem]) (fun σ h=>Kf h hk1 h8 hcs)
 .exact lg (f:=93) rfl (fun p q w=>by simp [go_sem]) (fun σ h=>Ke h hk1 h8 hcs hbl)
 .exact lg (f:=94) rfl (fun p q w=>by simp [go_sem]) (fun σ h=>GQ h hk hcs)
 .exact lg (f:=95) rfl (fun p q w=>by simp [go_sem]) (fun σ h=>qv (.inl rfl) h hk hsz hcs)
 .exact lg (f:=95) rfl (fun p q w=>by simp [go_sem]) (fun σ h=>qv (.inr rfl) h hk hsz hcs)
 .exact lg (f:=96) rfl (fun p q w=>by simp [go_sem]) (fun σ _=>rU (.inl rfl))
 .exact lg (f:=96) rfl (fun p q w=>by simp [go_sem]) (fun σ _=>rU (.inr (.inl rfl)))
 .exact lg (f:=96) rfl (fun p q w=>by simp [go_sem]) (fun σ _=>rU (.inr (.inr rfl)))
 .exact lg (f:=97) rfl (fun p q w=>by simp [go_sem]) (fun σ h=>yN hw0 h)
 .exact lg (f:=98) rfl (fun p q w=>by simp [go_sem]) (fun σ _=>xg)
 .exact lg (f:=99) rfl (fun p q w=>by simp [go_sem]) (fun σ _=>Dd hk)
 .exact lg (f:=100) rfl (fun p q w=>by simp [go_sem]) (fun σ h=>Kg h hk)
 all_goals exact operN rfl (by omega)
theorem Cq {e:Nat} {a:fS} (hk:k<=src.size) (h:adrE src k=.ok (e,a)):a.A.ok src k e:=by
 unfold adrE at h
 cases hd:isD src k
 .rw [hd,Nr (by simp)] at h
  cases h36:saw src k 36
  .rw [h36,Nr (by simp)] at h
   cases hp:patE src k with
   | error q=>rw [hp] at h;cases h
   | ok q=>
    obtain ⟨e1,p⟩:=q;rw [hp] at h;injection h with h;injection h with h1 h2;subst h1 h2;have h47:saw src k 47=true:=by
     cases h47:saw src k 47
     .unfold patE at hp;rw [h47,Nr (by simp)] at hp
      cases hp
     .rfl
    refine ⟨hd,h36,h47,fun w b hc hw hb hc2=>?_⟩;have:=om ⟨hc,hc2⟩ hw hb;rw [hp] at this;exact this
  .rw [h36,Ny rfl] at h;injection h with h;injection h with h1 h2;subst h1 h2;exact ⟨hd,h36,rfl⟩
 .rw [hd,Ny rfl] at h
  cases hn:Js src 1 1000000 k with
  | error q=>rw [hn] at h;cases h
  | ok q=>
   obtain ⟨e1,v⟩:=q;rw [hn] at h;injection h with h;injection h with h1 h2;subst h1 h2;exact ⟨hd,_,rX (by omega) hk hn⟩
theorem adrsE_A {e:Nat} {L:List fS} (hsz:src.size<=2000) (hk:k<=src.size) (h:adrsE src k=.ok (e,L)):ri src k e (L.map fS.A):=by
 unfold adrsE at h
 cases hA:isA src k
 .rw [hA,Nr (by simp)] at h;injection h with h;injection h with h1 h2;subst h1 h2;exact ⟨hA,rfl⟩
 .rw [hA,Ny rfl] at h
  cases h1:adrE src k with
  | error q=>rw [h1] at h;cases h
  | ok q=>
   obtain ⟨e1,a⟩:=q;rw [h1] at h;dsimp only at h
   cases h44:saw src e1 44
   .rw [h44,Nr (by simp)] at h;injection h with h;injection h with h2 h3;subst h2 h3;exact ⟨Cq hk h1,h44⟩
   .rw [h44,Ny rfl] at h
    cases h2:adrE src (e1+1) with
    | error q=>rw [h2] at h;cases h
    | ok q=>
     obtain ⟨e2,a2⟩:=q;rw [h2] at h;injection h with h;injection h with h3 h4;subst h3 h4;exact ⟨e1,Cq hk h1,h44,Cq (by have:=aM h44;omega) h2⟩
theorem ye {E pl:Nat} (hr:rh w b src k) (hw:Nm w) (hbg:b≠4) (h:adrE src k=.error (E,pl)) :
  Calls Tryz.prog 168 #[.pointer (some ⟨b,0,none⟩)] w fun r w'=>r=gN E pl/\Mv b w w':=by
 unfold adrE at h;have hlt:=hr.cur.lt;have kA:=Kp.alloc [] w (.cells (jc 0 0).toArray 132);have mA:Mv b w (w.alloc (.cells (jc 0 0).toArray 132)):=Mv.alloc hlt _;have hA:=hid (hr.move mA (hr.cur.aj kA (by simp)));have HW:=hid hw;clear hw
 cases hd:isD src k
 .rw [hd,Nr (by simp)] at h
  cases h36:saw src k 36
  .rw [h36,Nr (by simp)] at h
   cases hp:patE src k with
   | ok q=>rw [hp] at h;cases h
   | error q=>
    rw [hp] at h;injection h with h;subst h;have HP:=hid hp;have HD:=hid hd;have H36:=hid h36;clear hp hd h36;go_enter Tryz.func168,Tryz.ntmps168
    go_wp2_with fail;refine (dw hA.out.cur HD.out).mono ?_;rintro r w1 ⟨rfl,h1,m1⟩;go_wp2_with fail;refine (aX 36 h1 H36.out).mono ?_;rintro r w2 ⟨rfl,h2,m2⟩;have h2:Cur w2 b src k:=h2;have PG:=om (hA.out.move (m1.trans m2) h2) (HW.out.aj (mA.trans (m1.trans m2)).kp (by simpa using Ne.symm hbg)) hbg;rw [HP.out] at PG;have HPG:=hid PG;clear PG;go_wp2_with fail;refine HPG.out.mono ?_;rintro r w3 ⟨rfl,m3⟩;go_wp2_with fail;exact ⟨rfl,rfl,mA.trans (m1.trans (m2.trans m3))⟩
  .rw [h36,Ny rfl] at h
   cases h
 .rw [hd,Ny rfl] at h
  cases hn:Js src 1 1000000 k with
  | ok q=>rw [hn] at h;cases h
  | error q=>
   rw [hn] at h;injection h with h;injection h with h1 h2;subst h1 h2;have HN:=hid hn;have HD:=hid hd;clear hn hd;go_enter Tryz.func168,Tryz.ntmps168
   go_wp2_with fail;refine (dw hA.out.cur HD.out).mono ?_;rintro r w1 ⟨rfl,h1,m1⟩;have NS:=num_s (lo:=1) (hi:=1000000) (by omega) (hA.out.move m1 h1);rw [HN.out] at NS;have HNS:=hid NS;clear NS;go_wp2_with fail;refine HNS.out.mono ?_;rintro r w3 ⟨rfl,m3⟩;go_wp2_with fail;exact ⟨rfl,rfl,mA.trans (m1.trans m3)⟩
theorem Al {E pl:Nat} (hs:Sr w0 w b src k σ) (hw0:Nm w0) (h:adrsE src k=.error (E,pl)) :
  Calls Tryz.prog 151 #[.pointer (some ⟨b,0,none⟩)] w fun r w'=>r=gN E pl/\Kp [] w0 w':=by
 have hk:=hs.cur.le;have hbg:=(hs.nm hw0).2;have HW:=hid (hs.nm hw0).1;have hE:=hid hs.e;have HS:=hid hs;clear hs;unfold adrsE at h
 cases hA:isA src k
 .rw [hA,Nr (by simp)] at h
  cases h
 .rw [hA,Ny rfl] at h;have HA:=hid hA;clear hA
  cases h1:adrE src k with
  | error q=>
   rw [h1] at h;injection h with h;subst h;have H1:=hid h1;clear h1;go_enter Tryz.func151,Tryz.ntmps151
   go_wp2_with fail;refine (eC hE.out.cur HA.out).mono ?_;rintro r w1 ⟨rfl,h1,m1⟩;go_wp2_with fail;refine (ye (hE.out.move m1 h1) (HW.out.aj m1.kp (by simpa using Ne.symm hbg)) hbg H1.out).mono ?_;rintro r w2 ⟨rfl,m2⟩;go_wp2_with fail;exact ⟨rfl,rfl,HS.out.qL (m1.trans m2)⟩
  | ok q=>
   obtain ⟨e1,a⟩:=q;rw [h1] at h;dsimp only at h;have HOK:=hid (Cq hk h1);clear h1
   cases h44:saw src e1 44
   .rw [h44,Nr (by simp)] at h
    cases h
   .rw [h44,Ny rfl] at h;have H44:=hid h44;clear h44
    cases h2:adrE src (e1+1) with
    | ok q=>rw [h2] at h;cases h
    | error q=>
     rw [h2] at h;injection h with h;subst h;have H2:=hid h2;clear h2;go_enter Tryz.func151,Tryz.ntmps151
     go_wp2_with fail;refine (eC hE.out.cur HA.out).mono ?_;rintro r w1 ⟨rfl,h1,m1⟩;go_wp2_with fail;refine (jI h1 (HW.out.aj m1.kp (by simpa using Ne.symm hbg)) hbg (hE.out.move m1 h1).c2 HOK.out).mono ?_;rintro r w2 ⟨va,rfl,hva,h2,m2⟩;obtain ⟨x0,x1,x2,x3,rfl,_⟩:=hva.four;clear hva;have E2:=hid (hE.out.move (m1.trans m2) h2);have mA:Mv b w2 (w2.alloc (.cells #[x0,x1,x2,x3] 132)):=Mv.alloc h2.lt _;have E3:=hid (E2.out.move mA (h2.aj (Kp.alloc [] w2 _) (by simp)));go_wp2_with fail;refine (aX 44 E3.out.cur H44.out).mono ?_;rintro r w3 ⟨rfl,h3,m3⟩;have h3:Cur w3 b src (e1+1):=h3;have m13:=(m1.trans m2).trans (mA.trans m3);go_wp2_with fail;refine (ye (hE.out.move m13 h3) (HW.out.aj m13.kp (by simpa using Ne.symm hbg)) hbg H2.out).mono ?_;rintro r w4 ⟨rfl,m4⟩;go_wp2_with fail;exact ⟨rfl,rfl,HS.out.qL (m13.trans m4)⟩
end
section
variable {w0 w:World} {b k:Nat} {src:ByteArray} {σ:Sst} {r:RdS}
def Mm (r1 r2:RdS) (c:du) (σ:Sst) (cv:List Value) (σ':Sst) (cv':List Value):Prop:=cv'.take 4=cv.take 4/\fQ σ'.fs cv' c/\(jf σ r1->jf σ' r2)/\Nf σ σ'
theorem gV.at_ {f e:Nat} {r2:RdS} {c:du} (h:gV w0 f b src k σ r (.ok (e,r2,c))):Ct w0 f b src k e σ (Mm r r2 c):=by
 intro w cb cv hs hb hl hz hf hsl;refine (h w cb cv hs hb hl hz hf hsl).mono ?_;rintro q w1 ⟨rfl,σ',cv',s1,b1,l1,f1,x1,x2,x3,x4⟩;exact ⟨σ',cv',rfl,s1,b1,l1,f1,x1,x2,x3,x4⟩
theorem gV.fails {f E pl:Nat} (h:gV w0 f b src k σ r (.error (E,pl))):OpF w0 f b src k σ E pl:=by
 intro w cb cv hs hb hl hz hf hsl;refine (h w cb cv hs hb hl hz hf hsl).mono ?_;rintro q w1 ⟨rfl,hk⟩;exact ⟨rfl,hk⟩
theorem Ew {cv cv':List Value} (h:cv'.take 4=cv.take 4) {j:Nat} (hj:j < 4):cv'[j]? = cv[j]?:=by
 have:=congrArg (fun l=>l[j]?) h;simpa [Oy,hj] using this
def CmdO (w0:World) (b:Nat) (src:ByteArray) (σ:Sst) (q:Nat×RdS) (w':World):Prop:=∃ σ',Sr w0 w' b src q.1 σ'/\jf σ' q.2/\σ'.quiet=σ.quiet
theorem Cj {w':World} {k5:Nat} {L:List fS} {nt:Bool} {x:Nat} {r1 r2:RdS} {c:du} (h:Ay w0 w' b src k5 σ (L.map fS.A) nt x (Mm r1 r2 c)) (hr:jf σ r) (h1:r1=if L.length=2 then { r with ranges:=r.ranges+1 } else r)
  (ca:c.fq=L) (cr:c.range=if L.length=2 then r.ranges else 0) (cn:c.neg=nt) (cw:c.what=x):CmdO w0 b src σ (k5,{ r2 with aE:=r2.aE++[c] }) w':=by
 obtain ⟨A,cc,fs,σ',cv',v',hA,hfs,⟨h4,hrest,hrel,hon⟩,s'⟩:=h;rw [N6] at hA h4 hrel hon;have hS:jf { σ with ranges:=if L.length=2 then σ.ranges+1 else σ.ranges,fs:=fs } r1:=by
  have q:=hr.mono hfs;rw [h1];by_cases h2:L.length=2
  .rw [Ny h2,Ny h2];exact ⟨q.len,q.cs,⟨q.nm.ns,q.nm.nm⟩,by show σ.ranges+1=r.ranges+1;rw [hr.rg],q.bs,q.ls,q.gs⟩
  .rw [Nr h2,Nr h2];exact ⟨q.len,q.cs,⟨q.nm.ns,q.nm.nm⟩,q.rg,q.bs,q.ls,q.gs⟩
 have hS':=hrel hS;refine ⟨_,s',⟨?_,?_,⟨hS'.nm.ns,hS'.nm.nm⟩,hS'.rg,hS'.bs,hS'.ls,hS'.gs⟩,hon.qt⟩
 .show (σ'.cs++[cv']).length=(r2.aE++[c]).length;rw [Nu,Nu,hS'.len]
  rfl
 .intro i d dc q1 q2;replace q1:(σ'.cs++[cv'])[i]? = some d:=q1;replace q2:(r2.aE++[c])[i]? = some dc:=q2;by_cases hi:i < σ'.cs.length
  .rw [Oa hi] at q1;rw [Oa (by rw [<-hS'.len];exact hi)] at q2;exact hS'.cs i d dc q1 q2
  .have hi':i=σ'.cs.length:=by
    have:=(List.getElem?_eq_some_iff.1 q1).1;simp at this;omega
   subst hi';rw [List.getElem?_concat_length] at q1;rw [hS'.len,List.getElem?_concat_length] at q2;injection q1 with q1;injection q2 with q2;subst q1 q2;refine ⟨⟨.slice A L.length cc,(Ew h4 (by omega)).trans rfl,by rw [ca];exact hA.mono hon.fx⟩,(Ew h4 (by omega)).trans ?_,(Ew h4 (by omega)).trans (by rw [cn];rfl),(Ew h4 (by omega)).trans (by rw [cw];rfl),hrest⟩;rw [cr];by_cases h2:L.length=2
   .rw [Ny h2,Ny h2,<-hr.rg]
    rfl
   .rw [Nr h2,Nr h2]
    rfl
theorem ID (hs:Sr w0 w b src k σ) (hw0:Nm w0) (hr:jf σ r) (hk:yj r k) :
  Calls Tryz.prog 105 #[.pointer (some ⟨b,0,none⟩)] w (OpO (cmdE src k r) w0 (CmdO w0 b src σ)):=by
 have hsm:=hs.cur.small;have hle:=hs.cur.le;have hn:σ.cs.length<=2000:=by rw [hr.len];have:=hk.cl;omega
 have hrg:σ.ranges<=2000:=by rw [hr.rg];have:=hk.rl;omega
 have hsl:Small σ 2000:=⟨by rw [hr.nm.ns];have:=hk.nl;omega,by rw [hr.bs];have:=hk.b8;omega,by rw [hr.gs];have:=hk.wl;omega⟩;unfold cmdE
 cases hA:adrsE src k with
 | error q=>
  obtain ⟨E,pl⟩:=q;exact IG (P:=fun _=>True) (fun w σ hs=>Al hs hw0 hA) w σ hs hn hrg hsl trivial
 | ok q=>
  obtain ⟨k1,L⟩:=q;have hL:=adrsE_A hsm hle hA;have hLe:=Co hsm hle hA;have hb1:=eF hLe.2.1;dsimp only;generalize hnt:saw src (blk src k1) 33=nt;have hN:(nt=false/\saw src (blk src k1) 33=false/\(if nt=true then blk src (blk src k1+1) else blk src k1)=blk src k1)\/(nt=true/\saw src (blk src k1) 33=true/\(if nt=true then blk src (blk src k1+1) else blk src k1)=blk src (blk src k1+1)):=by
   cases nt
   .exact .inl ⟨rfl,hnt,rfl⟩
   .exact .inr ⟨rfl,hnt,rfl⟩
  have h3s:(if nt=true then blk src (blk src k1+1) else blk src k1)<=src.size:=by
   cases nt
   .exact hb1
   .have:=aM hnt;exact eF (by omega)
  generalize (if nt=true then blk src (blk src k1+1) else blk src k1)=k3 at hN h3s ⊢;by_cases h3:k3 < src.size
  .rw [dif_pos h3];generalize hx:(src[k3]'h3).toNat=x
   cases hw:jj.contains x
   .rw [Ny rfl];exact jD (P:=fun _=>True) hw0 hL hN (fun σ _ r fs=>El h3 hx (nN x _ 0 0 (GN hw))) w σ hs hn hrg hsl trivial
   .rw [Nr (by simp)];generalize hr1:(if L.length=2 then { r with ranges:=r.ranges+1 } else r)=r1;have e1:r1.aE=r.aE/\r1.names=r.names/\r1.blocks=r.blocks/\r1.labels=r.labels/\r1.wanted=r.wanted:=by
     rw [<-hr1];split <;> exact ⟨rfl,rfl,rfl,rfl,rfl⟩
    generalize hrn:(if L.length=2 then r.ranges else 0)=rn;obtain ⟨f,i,ht,hce,hop⟩:=oper_g (r:=r1) (L:=L) (rn:=rn) (nt:=nt) (b:=b) (k:=k3+1) hw0 hw (by omega) (by omega) hsm (by rw [e1.2.2.1];exact hk.b8) (by rw [e1.1];have:=hk.cl;omega) (by rw [e1.1,e1.2.2.1];exact hk.bl);by_cases hbad:(x=125\/x=58)/\(nt=true\/L≠[])
    .rw [Ny hbad];refine jD (P:=fun _=>True) hw0 hL hN (fun σ _ r fs=>En h3 hx ht hbad.1 (hbad.2.imp_right fun q=>?_)) w σ hs hn hrg hsl trivial;rw [N6];exact List.length_pos_iff.2 q
    .rw [Nr hbad];have hbare:(x=125\/x=58)->L.map fS.A=[]/\nt=false:=fun q=>by
      have q2:=not_or.1 (fun q3=>hbad ⟨q,q3⟩);have q4:L=[]:=by
       cases L with
       | nil=>rfl
       | cons a l=>exact absurd (List.cons_ne_nil a l) q2.2
      subst q4;exact ⟨rfl,by simpa using q2.1⟩
     have hW:∀ rr fs,Ml { σ with ranges:=rr,fs:=fs } r1:=fun rr fs=>⟨by rw [e1.1];exact hr.len,⟨by rw [e1.2.1];exact hr.nm.ns,by rw [e1.2.1];exact hr.nm.nm⟩,by rw [e1.2.2.1];exact hr.bs,by rw [e1.2.2.2.1];exact hr.ls,by rw [e1.2.2.2.2];exact hr.gs⟩
     cases ho:operE src (k3+1) r1 (dr L rn nt x) with
     | error q=>
      obtain ⟨E,pl⟩:=q;rw [ho] at hop;refine jD (P:=fun σ1=>σ1=σ) hw0 hL hN (fun σ1 hσ1 rr fs=>?_) w σ hs hn hrg hsl rfl;subst hσ1;exact what_op h3 hx ht (fun q=>⟨by rw [(hbare q).1];rfl,(hbare q).2⟩) (hop _ (hW rr fs)).fails hce
     | ok q=>
      obtain ⟨e,r2,c⟩:=q;have hok:=Bu hsm (by omega) ho;rw [ho] at hop;dsimp only;have hR:∀ (σ:Sst) (cv:List Value) (σ':Sst) (cv':List Value),Mm r1 r2 c σ cv σ' cv'->cv'[3]? = cv[3]?/\σ'.cs.length=σ.cs.length:=fun σ cv σ' cv' q=>⟨Ew q.1 (by omega),q.2.2.2.cl⟩
      have hat:∀ rr fs,Ct w0 f b src (k3+1) e { σ with ranges:=rr,fs:=fs } (Mm r1 r2 c):=fun rr fs=>(hop _ (hW rr fs)).at_;by_cases h123:x=123
      .rw [Ny h123];refine (xQ hs hw0 hL hN h3 hx ht hbare hat hce hR (.inl ⟨h123,rfl⟩) hn hrg hsl).mono ?_;rintro q w1 ⟨rfl,h⟩;exact ⟨rfl,Cj h hr hr1.symm hok.ca (by rw [hok.cr,<-hrn];rfl) hok.cn hok.cw⟩
      .rw [Nr h123]
       cases hm:ia src (blk src e)
       .rw [Nr (by simp)];refine IE (P:=fun σ1=>σ1=σ) hw0 hL hN (by unfold saw;rw [dif_pos h3,hx];simp) ht hbare (fun σ1 hσ1 rr fs=>?_) hce hR ⟨h123,hm⟩ w σ hs hn hrg hsl rfl;subst hσ1;exact hat rr fs
       .rw [Ny rfl];refine (xQ hs hw0 hL hN h3 hx ht hbare hat hce hR (.inr ⟨h123,hm,rfl⟩) hn hrg hsl).mono ?_;rintro q w1 ⟨rfl,h⟩;exact ⟨rfl,Cj h hr hr1.symm hok.ca (by rw [hok.cr,<-hrn];rfl) hok.cn hok.cw⟩
  .rw [dif_neg h3];exact jD (P:=fun _=>True) hw0 hL hN (fun σ _ r fs=>Jy (by omega)) w σ hs hn hrg hsl trivial
end
end Go.Proofs.YtiahkfoojjpaaaaGreatDoor
namespace Go.Proofs.YtiahkfoojjpaaaaGreatDoor
open Go.RowKit Go.Shelf
section
variable {P:Program} {ops:Array Oper} {Q:Exit->Act->World->Prop} {md:Region.Mode} {l m:Nat}
def oy (ops:Array Oper):Bool:=ops.all fun o=>match o.op with | .defer _=>false | _=>true
theorem xh (h:oy ops=true) {i:Nat} {o:Oper} (hi:ops[i]? = some o):∀ c,o.op≠.defer c:=by
 intro c hc;unfold oy at h;rw [Array.all_eq_true] at h;obtain ⟨hl,e⟩:=Array.getElem?_eq_some_iff.1 hi;have:=h i hl;rw [e,hc] at this
 cases this
theorem rm {o:Oper} {a:Act} {w:World} {K:Act->World->Prop} (hd:∀ c,o.op≠.defer c) (h:o.wp P a w K Q):o.wpIn (Fence.wide.inRound l) m P a w K Q:=by
 unfold Oper.wpIn Oper.wp at *;refine ⟨fun _ _=>trivial,?_⟩;rw [Oper.semAt_eq _ _ _ hd];generalize (execOp a.eval o).run P w=r at *
 cases r with
 | ok x w'=>
  cases x <;> simp only [Oper.upon,Oper.uponIn] at h ⊢
  case value=>exact h
  case skip=>exact h
  case defer=>exact h
  case enter=>exact ⟨fun q=>(nomatch q),callsIn_wide.2 h⟩
  case row=>
   refine ⟨fun q=>(nomatch q),fun c cs _=>?_⟩;obtain ⟨v,w2,h1,h2⟩:=h c cs;exact ⟨v,w2,h1,stepsIn_wide.2 h2⟩
 | halt x w'=>cases x <;> simp only [Oper.upon,Oper.uponIn] at h ⊢ <;> exact h
theorem dC (hd:oy ops=true) (hL:¬ LetsOut Q):∀ (fuel:Nat) (listed:Array Bool) (a:Act) (w:World),wpAny P md ops Q fuel listed a w->wpAnyIn (Fence.wide.inRound l) m P md ops Q fuel listed a w
 | 0,_,_,_,h=>h
 | fuel+1,listed,a,w,h=>⟨h.1,fun i hi=>by
   have h1:=h.2 i hi;unfold wpOp at h1;unfold wpOpIn;split
   .rename_i ho;simp only [ho] at h1;exact dC hd hL fuel _ _ _ h1
   .rename_i o ho;simp only [ho] at h1;split
    .rename_i hw;rw [Ny hw] at h1;rcases h1 with h1 | h1
     .exact Oper.wpIn_mono (fun a' w' q=>dC hd hL fuel _ a' w' q) (rm (xh hd ho) h1)
     .exact absurd h1.2 hL
    .rename_i hw;rw [Nr hw] at h1
     exact ⟨fun _ _=>trivial,dC hd hL fuel _ _ _ h1⟩⟩
def pj (Q:Exit->Act->World->Prop):Exit->Act->World->Prop
 | .normal,a,w=>Q .normal a w
 | _,_,_=>False
theorem pj.normal {a:Act} {w:World} (h:Q .normal a w):pj Q .normal a w:=h
theorem pj.imp:∀ (e:Exit) (a:Act) (w:World),pj Q e a w->Q e a w:=fun e a w h=>by
 cases e <;> first | exact h | exact (h:False).elim
theorem iK {id:Nat} {a:Act} {w:World} (S:World->Prop) (z:Nat) (hm:P.follows .mixedOrders=true) (hd:oy ops=true)
  (h:dM P .any ops (pj Q) S z ops.size (Array.replicate ops.size false) a w.drew):(Code.region id ops true).wpIn (Fence.wide.inRound l) m P Q a w:=
 Code.wpIn_mono pj.imp (wpIn_region_any hm (dC hd (fun ⟨_,_,q⟩=>q) _ _ _ _ (jM _ _ _ _ h)))
theorem jX {id:Nat} {a:Act} {w:World} (S:World->Prop) (hm:P.follows .mixedOrders=true) (hd:oy ops=true)
  (h:wpAnyH P .any ops (pj Q) S ops.size (Array.replicate ops.size false) a w.drew):(Code.region id ops true).wpIn (Fence.wide.inRound l) m P Q a w:=
 Code.wpIn_mono pj.imp (wpIn_region_any hm (dC hd (fun ⟨_,_,q⟩=>q) _ _ _ _ (wpAny_of_held _ _ _ _ h)))
theorem pV {S:World->Prop} {i:Nat} {o:Oper} {fuel:Nat} {listed:Array Bool} {a:Act} {w:World} (hr:Region.ready md ops listed=[i]) (ho:ops[i]? = some o)
  (h:∀ K:Act->World->Prop,Shut (∀ a' w',S w'->wpAnyH P md ops Q S fuel (listed.setIfInBounds i true) a' w'->K a' w')->if Region.wanted o (yielded ops a.tmps)=true then Oper.wp P o a w K Q else K (a.put o.dst undef) w) :
  wpAnyH P md ops Q S (fuel+1) listed a w:=by
 refine ⟨fun h0=>(by rw [hr] at h0;cases h0),fun j hj=>?_⟩;rw [hr] at hj;have e:=List.mem_singleton.1 hj;subst e;exact wpOp_step ho (fun K hK=>h K (fun a' w' h1 h2=>hK a' w' ⟨h1,h2⟩))
theorem yC {F:Fence} {r:Loop} {W:World} {args:Array Value} {R:Ending->World->Prop} (hF:F.fn r.fn) (hl:W.heap[l]? = some (.loop r)) (hr:r.state=.ready) (hp:r.pending=none) (hs:args.size=r.params.size)
  (h:∀ (rb:Loop) (K:Act->World->Prop),{ rb with state:=.ready,pending:=none }=r->(∀ a₁,r.body.wpIn (F.inRound l) m P (roundPost P l R) a₁ (W.putObj l (.loop rb))->K a₁ W) ->
    r.assign.wpIn (F.inRound l) m P (Exit.then K (fun _ _ _=>False)) { tmps:=(r.params.zip args).foldl (fun tmps (t,a)=>tmps.setIfInBounds t a) r.tmps,defers:=[] } W):YieldAt F m P l args W R:=by
 refine ⟨r.fn,_,r.assign,r.body,run_yield hl hs,roundIn_of_wpIn hF ?_⟩;refine h { r with state:=.busy } _ ?_ (fun a₁ hb=>⟨_,run_beginRound hl hr,hb⟩)
 cases r;simp only at hr hp;rw [hr,hp]
end
end Go.Proofs.YtiahkfoojjpaaaaGreatDoor
namespace Go.Proofs.YtiahkfoojjpaaaaGreatDoor
open Go.ChangeShapes Go.WideShapes Go.ChangeAt Go.RowKit
theorem gNamesF : Tryz.prog.globalNamed "ribbon/pattern.names" = some 4 := by kernel_rfl
theorem Cm {l:List Value} {k j:Nat} {v:Value} (h:(((l.drop k).take 2).drop j).take 1=[v]) (hj:j < 2):l[k+j]? = some v:=by
 have h2:=congrArg (fun x=>x[0]?) h;simp only [Oy,List.getElem?_drop,Nat.add_zero,OO] at h2;rw [Ny (by omega),Ny hj] at h2;exact h2
theorem xV {s:ByteArray} {l:List UInt8} (h:s.data.toList=l):s=⟨l.toArray⟩:=by
 cases s;subst h;simp
theorem uEntryF:∃ fs:Array Field,Tryz.prog.underlying 256=some (.struct fs)/\∃ f0 f1,fs[0]? = some f0/\fs[1]? = some f1/\fs.size=2/\f0.type=9/\f0.offset=0/\f1.type=9/\f1.offset=1:=
 ⟨_,Tryz.underlying256,_,_,rfl,rfl,rfl,rfl,rfl,rfl,rfl⟩
theorem Io {W:World} (h:laidMetH Tryz.prog zg W):∀ i,i < 7->∃ s t:ByteArray,W.cell? ⟨4,i * 2,none⟩=some (.string s)/\W.cell? ⟨4,i * 2+1,none⟩=some (.string t) /\
  (match (Rows.laid_ribbon_pattern_names:DataW Unit) with | .agg l=>l | _=>[])[i]? = some (.agg [.lit (.string s.data.toList),.lit (.string t.data.toList)]):=by
 rw [MakeChecks.laidMetH_plain _ _ _ (by kernel_rfl)] at h;obtain ⟨ps,hl,_,_⟩:=h;obtain ⟨_,_,_,_,_,q1,_,_,_,_,hl1,_⟩:=hl;obtain ⟨_,_,_,_,_,q2,_,_,_,_,hl2,_⟩:=hl1;obtain ⟨_,_,_,_,_,q3,_,_,_,_,hl3,_⟩:=hl2;obtain ⟨g,t,cs,fuel,p,q,hg,ht,hv,hd,_,_⟩:=hl3;obtain rfl:=Option.some.inj (gNamesF.symm.trans hg);obtain rfl:=Option.some.inj ((show (Tryz.prog.globals[4]?).map (·.type)=some 257 by kernel_rfl).symm.trans ht);obtain ⟨xs,m,_,ex,_,hl,hel⟩:=DataW.trod_array Tryz.underlying257 hd;have c2:Tryz.prog.cellsOf 256=2:=by kernel_rfl
 have c1:Tryz.prog.cellsOf 9=1:=by kernel_rfl
 have us:Tryz.prog.underlying 9=some .string:=by kernel_rfl
 obtain ⟨fs,ufs,f0,f1,e0,e1,esz,t0,o0,t1,o1⟩:=uEntryF;intro i hi;have hE:=hel i hi;rw [c2,Nv (by omega)] at hE;obtain ⟨ys,n,_,ey,_,hyl,hys⟩:=DataW.trod_struct ufs hE;rw [esz] at hyl;have h0:=hys 0 f0 e0;have h1:=hys 1 f1 e1;rw [t0,o0,c1,Nv (by omega)] at h0;rw [t1,o1,c1,Nv (by omega)] at h1;obtain ⟨s,es,es',_⟩:=DataW.trod_string us h0;obtain ⟨u,eu,eu',_⟩:=DataW.trod_string us h1;have d0:=Cm es (by omega);have d1:=Cm eu (by omega);refine ⟨s,u,?_,?_,?_⟩
 .rw [World.var?_cell hg hv];simpa using d0
 .rw [World.var?_cell hg hv];simpa using d1
 .have e3:(xs.map (·.1))[i]? = some (.agg (ys.map (·.1))):=by rw [NY,Nv (by omega:i < xs.length),ey];rfl
  have e4:(Rows.laid_ribbon_pattern_names:DataW Unit)=.agg (xs.map (·.1)):=(Prod.mk.inj ex).1;rw [e4];show (xs.map (·.1))[i]? = _;rw [e3]
  match ys,hyl,es',eu' with
  | [y0,y1],_,es',eu'=>
   have a0:y0=_:=es';have a1:y1=_:=eu';rw [a0,a1];rfl
theorem nm_ofF {W:World} (h:laidMetH Tryz.prog zg W):Nm W:=by
 have key:=Io h;have all:∀ i,i < 7->W.cell? ⟨4,i * 2,none⟩=some (.string (nmN i))/\W.cell? ⟨4,i * 2+1,none⟩=some (.string (nmS i)):=by
  intro i hi;obtain ⟨s,t,h1,h2,h3⟩:=key i hi
  match i,hi with
  | 0,_ | 1,_ | 2,_ | 3,_ | 4,_ | 5,_ | 6,_=>
   simp only [Rows.laid_ribbon_pattern_names,OO,List.getElem?_cons_succ,Option.some.injEq,DataW.agg.injEq,List.cons.injEq,DataW.lit.injEq,Lit.string.injEq,and_true] at h3;rw [h1,h2,xV h3.1.symm,xV h3.2.symm];exact ⟨rfl,rfl⟩
 exact ⟨World.block_lt_of_cell? _ _ (all 0 (by omega)).1,fun i hi=>(all i hi).1,fun i hi=>(all i hi).2⟩
theorem J6:(Rows.laid_internal_strconv_uint64pow10:DataW Unit)=Lib.tabData .u64 Lib.pow10Tab:=by kernel_rfl
noncomputable def gP : Nat := (Tryz.prog.globalNamed "internal/strconv.uint64pow10").getD 0
noncomputable def tP:TypeId:=((Tryz.prog.globals[gP]?).map (·.type)).getD 0
theorem gPow : ∃ g t, Tryz.prog.globalNamed "internal/strconv.uint64pow10" = some g /\ (Tryz.prog.globals[g]?).map (·.type) = some t /\ Tryz.prog.underlying t = some (.array 20 148) /\ Tryz.prog.cellsOf t = 20 := ⟨gP, tP, by kernel_rfl, by kernel_rfl, by kernel_rfl, by kernel_rfl⟩
theorem pow_of {W:World} (h:laidMetH Tryz.prog zg W):Pow W:=by
 rw [MakeChecks.laidMetH_plain _ _ _ (by kernel_rfl)] at h;obtain ⟨ps,hl,_,_⟩:=h;obtain ⟨_,_,_,_,_,q1,_,_,_,_,hl1,_⟩:=hl;obtain ⟨_,_,_,_,_,q2,_,_,_,_,hl2,_⟩:=hl1;obtain ⟨g',t',cs,fuel,p,q,hg',ht',hvar,hd,_,_⟩:=hl2;obtain ⟨g,t,hg,hty,ht,hct⟩:=gPow;obtain rfl:=Option.some.inj (hg.symm.trans hg');obtain rfl:=Option.some.inj (hty.symm.trans ht');rw [J6] at hd;unfold Pow Lib.TabIs;rw [hvar,<-Lib.cells_of_tab ht (by kernel_rfl) (by kernel_rfl) hct hd]
