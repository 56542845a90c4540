import Derived.Test.YtiahkfoojjpaaaaGreatDoorS37
import Derived.LaidMore
import Derived.Lay
import Derived.Stop.Joined
set_option maxRecDepth 100000
set_option maxHeartbeats 16000000
set_option linter.all false
namespace Go.Proofs.YtiahkfoojjpaaaaGreatDoor
open Go.RowKit
theorem Oc{w:World}{p G:Nat}(h:w.cell? ⟨p,2,none⟩=some (.int .i64 G)):Calls Tryz.prog 141 #[.pointer (some ⟨p,0,none⟩)] w fun r w'=>r=.returned (.int .i64 G)/\w'=w:=by
 go_enter Tryz.func141,Tryz.ntmps141
 go_wp2_with fail;go_ret;exact⟨rfl,rfl⟩
theorem E7{fs:List (Nat×Obj)}{cv cv4:List Value}{L:List eE}{rn:Nat}{nt:Bool}{p:Ptn}{v t hv:Value}{raw:ByteArray}{l:List UInt8}{H:List (Nat×Nat)}(hz:Cz cv)(hl:Cv cv)(h4:cv4=((((cv.set 11 v).set 12 t).set 13 (.string raw)).set 14 (.string (ba l))).set 15 hv)(hp:PtnV fs v t p)(hh:tT fs hv H):gM fs cv4 { dH L rn nt 115 with pat:=some p,new:=⟨raw,l⟩,dr:=H}:=by
 have rz:=dv (fs:=fs) hz L rn nt 115;obtain⟨x0,x1,x2,x3,x4,x5,x6,x7,x8,x9,x10,x11,x12,x13,x14,x15,x16,x17,x18,x19,x20,x21,x22,rfl⟩:=eD hl.len;subst h4;exact⟨rz.c4,rz.c5,rz.c6,rz.c7,rz.c8,rz.c9,rz.c10,⟨v,t,rfl,rfl,hp⟩,rfl,rfl,⟨hv,rfl,hh⟩,rz.c16,rz.c17,rz.c18,rz.c19,rz.c20,rz.c21,rz.c22⟩
section
variable {w0:World}{b k:Nat}{src:ByteArray}{σ:Sst}{r:RdS}{L:List eE}{rn:Nat}{nt:Bool}
theorem A9(hw0:Nm w0)(hr:Pm σ r):iI w0 97 b src k σ r (aG src k r (dH L rn nt 115)):=by
 intro w cb cv hs hb hl hz hf hsl;have hlt:=hs.cur.lt;have hne:cb≠b:=fun e=>hf.bk 0 (by rw[e];rfl);have hsm:=hs.cur.small;have HF:=hid hf;have HR:=hid hr;have HZ:=hid hz;have HSL:=hid hsl;have PG:=pW hs.e (hs.nm hw0).1 (hs.nm hw0).2;obtain⟨R,hR⟩:∃R,R=aG src k r (dH L rn nt 115):=⟨_,rfl⟩;rw[<-hR];obtain⟨c0,hc0⟩:∃c0,c0=dH L rn nt 115:=⟨_,rfl⟩;have w115:c0.what=115:=by rw[hc0];rfl
 rw[<-hc0] at hR;unfold aG at hR;rw[w115,Qw (by omega),Qw (by omega),Qw (by omega),Qw (by omega),Qw (by omega),QB rfl] at hR;have HC0:=hid hc0;clear hz hr hsl hc0 w115
 cases h1:oL src k with
 | error q=>
  obtain⟨E,pl⟩:=q;rw[h1] at hR PG;have HRE:=hid hR;have HPG:=hid PG;clear hR PG;go_enter Tryz.func97,Tryz.ntmps97
  go_wp2_with fail;refine HPG.out.mono ?_;rintro q w1 ⟨rfl,m1⟩;go_wp2_with fail;refine⟨rfl,?_⟩;rw[HRE.out];exact⟨rfl,hs.tw m1⟩
 | ok q=>
 obtain⟨e0,p⟩:=q;have hpe:=gq hsm h1;have hQ:∀pb w,p.Q pb w->w.cell? ⟨pb,2,none⟩=some (.int .i64 p.G):=fun pb w h=>h.c2;have hG:=hpe.2.2.1.g;rw[h1] at hR PG;dsimp only at hR;have HQ:=hid hQ;have HPE:=hid hpe;have HRE:=hid hR;have HPG:=hid PG;clear hR PG h1 hQ hpe;have z11:cv[11]? = some (.pointer none):=by rw[show 11=4+7 from rfl,HZ.out.at_,HZ.out];rfl
 have z12:cv[12]? = some (.string ⟨#[]⟩):=by rw[show 12=4+8 from rfl,HZ.out.at_,HZ.out];rfl
 have z13:cv[13]? = some (.string ⟨#[]⟩):=by rw[show 13=4+9 from rfl,HZ.out.at_,HZ.out];rfl
 have z14:cv[14]? = some (.string ⟨#[]⟩):=by rw[show 14=4+10 from rfl,HZ.out.at_,HZ.out];rfl
 have z15:cv[15]? = some (.slice none 0 0):=by rw[show 15=4+11 from rfl,HZ.out.at_,HZ.out];rfl
 have hln:=hl.len;have HL:=hid hl;have HS:=hid hs;have HB:=hid hb;clear hs hb hl hf;go_enter Tryz.func97,Tryz.ntmps97
 go_wp2_with fail;refine HPG.out.mono ?_;rintro q w1 ⟨pb,gb,o1,o2,rfl,ho1,ho2,lpb,lgb,brs,c1,m1⟩;have c1:Cur w1 b src e0:=c1;have BRS:=hid brs;clear brs;have S1:=hid (HS.out.move m1 c1);have B1:=hid (HB.out.aj m1.kp (by simpa using hne));have d11:=B1.out.at_ 11 _ z11;have d12:=B1.out.at_ 12 _ z12;have f11:=B1.out.free 11;have f12:=B1.out.free 12;obtain⟨txt,htx⟩:∃txt,txt=p.txt:=⟨_,rfl⟩;rw[show((e0,p):Nat×Ptn).2.txt=txt from htx.symm];have HTX:=hid htx;clear htx;obtain⟨cv2,hcv2⟩:∃cv2,cv2=(cv.set 11 (.pointer (some ⟨pb,0,none⟩))).set 12 (.string txt):=⟨_,rfl⟩;have B2:Hid (Bl ((w1.setCell ⟨cb,11,none⟩ (.pointer (some ⟨pb,0,none⟩))).setCell ⟨cb,12,none⟩ (.string txt)) cb cv2):=hid (by rw[hcv2];exact(B1.out.set 11 _ (by omega)).set 12 _ (by rw[Rg];omega));have k2:Kp [cb] w1 ((w1.setCell ⟨cb,11,none⟩ (.pointer (some ⟨pb,0,none⟩))).setCell ⟨cb,12,none⟩ (.string txt)):=(Kp.setCell _ _ (by simp)).trans (Kp.setCell _ _ (by simp))
 have S2:=hid (S1.out.other k2 (fun y hy=>by simp at hy;rw[hy];exact HF.out));go_upto_region 1 with fail
 have hcbw:cb<w.heap.size:=HB.out.lt;have p1:pb<w1.heap.size:=lt_of_block ho1;have p2:gb<w1.heap.size:=lt_of_block ho2;have hpc:pb≠cb:=by omega
 have hgc:gb≠cb:=by omega
 have ho1:=(k2.block pb p1 (by simpa using hpc)).trans ho1;have ho2:=(k2.block gb p2 (by simpa using hgc)).trans ho2;have K2:=hid k2;generalize (w1.setCell ⟨cb,11,none⟩ (.pointer (some ⟨pb,0,none⟩))).setCell ⟨cb,12,none⟩ (.string txt)=w2 at *;have q11:cv2[11]? = some (.pointer (some ⟨pb,0,none⟩)):=by rw[hcv2,QL (by omega),QI (by omega)]
 have e11:=B2.out.at_ 11 _ q11;have cG:=HQ.out pb w2 (BRS.out w2 ho1 ho2);obtain⟨G,hGe⟩:∃G,G=p.G:=⟨_,rfl⟩;rw[<-hGe] at cG hG;have HGE:=hid hGe;clear d11 d12 f11 f12 k2 hGe;go_wp2_with fail;refine(Oc cG).mono ?_;rintro q w2' ⟨rfl,rfl⟩;have NT:=Jz S2.out.e hG;have hRE:=HRE.out;rw[<-HGE.out] at hRE;clear HRE
 cases h2:oe src G (src.size+1) e0 [] [] with
 | error pl=>
  rw[h2] at hRE NT;have HRE:=hid hRE;have HNT:=hid NT;clear hRE NT h2;go_wp2_with fail;refine HNT.out.mono ?_;rintro q w3 ⟨rfl,m3⟩;go_wp2_with fail;refine⟨rfl,?_⟩;rw[HRE.out];exact⟨rfl,S2.out.tw m3⟩
 | ok q=>
 obtain⟨e1,l,H⟩:=q;have hnle:=ir h2 ⟨fun q hq=>(by cases hq),List.Pairwise.nil⟩;rw[h2] at hRE NT;dsimp only at hRE;have HRE:=hid hRE;have HNT:=hid NT;have HNL:=hid hnle;clear hRE NT h2 hnle;go_wp2_with fail;refine HNT.out.mono ?_;rintro q w3 ⟨v,rfl,own,c3,m3⟩;have c3:Cur w3 b src e1:=c3;replace own:w3.ownsRow w2'.heap.size 211 2 v H.length (oG H):=own;have S3:=hid (S2.out.move m3 c3);have B3:=hid (B2.out.aj m3.kp (by simpa using hne));have hpb:pb≠b:=by omega
 have hgb:gb≠b:=by omega
 have z2:=K2.out.size;have ho1:=(m3.kp.block pb (by omega) (by simpa using hpb)).trans ho1;have ho2:=(m3.kp.block gb (by omega) (by simpa using hgb)).trans ho2;have q13:cv2[13]? = some (.string ⟨#[]⟩):=by rw[hcv2,QL (by omega),QL (by omega)];exact z13
 have q14:cv2[14]? = some (.string ⟨#[]⟩):=by rw[hcv2,QL (by omega),QL (by omega)];exact z14
 have q15:cv2[15]? = some (.slice none 0 0):=by rw[hcv2,QL (by omega),QL (by omega)];exact z15
 have hln2:cv2.length=23:=by rw[hcv2];simp[hln]
 have OW:=hid own;obtain⟨A,hc,rfl⟩:=pX own;clear own e11 cG;have d13:=B3.out.at_ 13 _ q13;have d14:=B3.out.at_ 14 _ q14;have d15:=B3.out.at_ 15 _ q15;have f13:=B3.out.free 13;have f14:=B3.out.free 14;have f15:=B3.out.free 15;dsimp only;obtain⟨raw,hraw⟩:∃raw,raw=src.extract e0 (e1-1):=⟨_,rfl⟩;rw[<-hraw];have HRAW:=hid hraw;clear hraw;obtain⟨cv4,hcv4⟩:∃cv4,cv4=((cv2.set 13 (.string raw)).set 14 (.string (ba l))).set 15 (.slice A H.length hc):=⟨_,rfl⟩
 have B4:Hid (Bl (((w3.setCell ⟨cb,13,none⟩ (.string raw)).setCell ⟨cb,14,none⟩ (.string (ba l))).setCell ⟨cb,15,none⟩ (.slice A H.length hc)) cb cv4):=hid (by
  rw[hcv4];exact((B3.out.set 13 _ (by omega)).set 14 _ (by rw[Rg];omega)).set 15 _ (by rw[Rg,Rg];omega))
 have k4:Kp [cb] w3 (((w3.setCell ⟨cb,13,none⟩ (.string raw)).setCell ⟨cb,14,none⟩ (.string (ba l))).setCell ⟨cb,15,none⟩ (.slice A H.length hc)):=(Kp.setCell _ _ (by simp)).trans ((Kp.setCell _ _ (by simp)).trans (Kp.setCell _ _ (by simp)));have S4:=hid (S3.out.other k4 (fun y hy=>by simp at hy;rw[hy];exact HF.out));go_upto_region 2 with fail
 have z3:=m3.kp.size;have ho1:=(k4.block pb (by omega) (by simpa using hpc)).trans ho1;have ho2:=(k4.block gb (by omega) (by simpa using hgc)).trans ho2;have OW4:=hid (ag OW.out (fun g hg=>k4.block g (aA OW.out hg).2 (by rw[QE];have:=(aA OW.out hg).1;omega)));have z4:=k4.size;generalize ((w3.setCell ⟨cb,13,none⟩ (.string raw)).setCell ⟨cb,14,none⟩ (.string (ba l))).setCell ⟨cb,15,none⟩ (.slice A H.length hc)=w4 at *;clear d13 d14 d15 f13 f14 f15 k4;have HL2:Cv cv2:=by rw[hcv2];exact(HL.out.set 11 rfl).set 12 rfl
 have HL4:Hid (Cv cv4):=hid (by rw[hcv4];exact((HL2.set 13 rfl).set 14 rfl).set 15 rfl);obtain⟨new,hnew,hfs⟩:∃new:List (Nat×Obj),(∀f∈new,w4.heap[f.1]? = some f.2/\w.heap.size<=f.1)/\∀fs,(∀f∈new,f∈fs)->(pb,o1)∈fs/\(gb,o2)∈fs/\tT fs (.slice A H.length hc) H:=by
  rcases OW4.out.2 with⟨q1,q2⟩|⟨hb',cap,cur,q1,q2,q3,q4,q5,q6,q7⟩
  .refine⟨[(pb,o1),(gb,o2)],fun f hf=>?_,fun fs h=>⟨h _ (by simp),h _ (by simp),A,hc,rfl,.inl (Rb q2)⟩⟩;simp only[Rh,RH,or_false] at hf;rcases hf with rfl|rfl
   .exact⟨ho1,lpb⟩
   .exact⟨ho2,lgb⟩
  .injection q1 with e1 e2 e3;refine⟨[(pb,o1),(gb,o2),(hb',.cells cur 211 (0,0))],fun f hf=>?_,fun fs h=>⟨h _ (by simp),h _ (by simp),A,hc,rfl,.inr ⟨hb',cur,e1,h _ (by simp),q7⟩⟩⟩;simp only[Rh,RH,or_false] at hf;rcases hf with rfl|rfl|rfl
   .exact⟨ho1,lpb⟩
   .exact⟨ho2,lgb⟩
   .exact⟨q3,by have:=m1.kp.size;show w.heap.size<=hb';omega⟩
 have S5:=S4.out.xN new (fun f hf=>⟨(hnew f hf).1,(HS.out.eh (hnew f hf).2).lo,(HS.out.eh (hnew f hf).2).bk⟩)
 have F5:Sr.Far w0 b { σ with fs:=new++σ.fs} cb:=⟨HF.out.lo,HF.out.bk,fun f hf=>by
  rcases List.mem_append.1 hf with q|q
  .have:=(hnew f q).2;omega
  .exact HF.out.fx f q⟩
 obtain⟨i1,i2,i3⟩:=hfs (new++σ.fs) (fun f hf=>Sj _ hf)
 have hrest:gM (new++σ.fs) cv4 { dH L rn nt 115 with pat:=some p,new:=⟨raw,l⟩,dr:=H}:=
  E7 (hv:=.slice A H.length hc) HZ.out HL.out (by rw[hcv4,hcv2]) ⟨pb,gb,o1,o2,rfl,by rw[HTX.out],i1,i2,BRS.out⟩ i3
 have hrel:jL σ r->jL { σ with fs:=new++σ.fs} r:=fun h=>h.mono (fun f hf=>RX _ hf);have hcc:FlC cv4 { dH L rn nt 115 with pat:=some p,new:=⟨raw,l⟩,dr:=H}=cv4:=DS HL4.out hrest.c6 hrest.c7 hrest.c16 hrest.c17 hrest.c18;have FO:=hid (flags_o (cv:=cv4) (c:={ dH L rn nt 115 with pat:=some p,new:=⟨raw,l⟩,dr:=H}) (r:=r) S5 (by rw[hcc];exact B4.out) HL4.out F5 ⟨HSL.out.ns,HSL.out.bs,HSL.out.gs⟩ ⟨HR.out.nm.ns,HR.out.nm.nm⟩ (by show(0:Nat)<=_;omega));have HX:=hid (And.intro hrest hrel);have hRE:=HRE.out;rw[HC0.out,<-HRAW.out] at hRE;clear HRE hfs hnew hrest hrel hcc i1 i2 i3
 have H4:Hid (cv4.take 4=cv.take 4):=hid (by
  rw[hcv4,hcv2];obtain⟨x0,x1,x2,x3,x4,x5,x6,x7,x8,x9,x10,x11,x12,x13,x14,x15,x16,x17,x18,x19,x20,x21,x22,rfl⟩:=eD HL.out.len
  rfl)
 cases h3:aP src (src.size+1) e1 r { dH L rn nt 115 with pat:=some p,new:=⟨raw,l⟩,dr:=H} with
 | error q=>
  obtain⟨E,pl⟩:=q;rw[h3] at FO;have HRE:=hid (hRE.trans h3);clear hRE h3;go_wp2_with fail;refine FO.out.mono ?_;rintro q w5 ⟨rfl,k5⟩;go_wp2_with fail;refine⟨rfl,?_⟩;rw[HRE.out];exact⟨rfl,k5⟩
 | ok q=>
  obtain⟨e2,r2,c2⟩:=q;have FK:=hid (eY HNL.out.2.1 h3);rw[h3] at FO;have HRE:=hid (hRE.trans h3);clear hRE h3;go_wp2_with fail;refine FO.out.mono ?_;rintro q w5 ⟨rfl,hq⟩;have HQ5:=hid hq;clear hq;go_wp2_with fail;refine bodyPost_ret (results_none rfl _ _ _) rfl ?_;rw[HRE.out];exact⟨rfl,Qa (w:=w) HQ5.out HL4.out HX.out.2 HX.out.1 FK.out H4.out ⟨rfl,rfl,fun f hf=>RX _ hf⟩⟩
end
structure Sg(s:ByteArray)(a:Nat)(t:ByteArray)(b m:Nat):Prop where
 l1:a+m<=s.size
 l2:b+m<=t.size
 at_:∀i,i<m->s.data.toList[a+i]? = t.data.toList[b+i]?
section
variable {s t:ByteArray}{a b m:Nat}
theorem Sg.get(h:Sg s a t b m){i:Nat}(hi:i<m):∃(h1:a+i<s.size) (h2:b+i<t.size),s[a+i]'h1=t[b+i]'h2:=by
 have h1:a+i<s.size:=by have:=h.l1;omega
 have h2:b+i<t.size:=by have:=h.l2;omega
 have e:=h.at_ i hi;have e1:s.data.toList[a+i]? = some (s[a+i]'h1):=by
  rw[Ro];exact QR h1
 have e2:t.data.toList[b+i]? = some (t[b+i]'h2):=by
  rw[Ro];exact QR h2
 rw[e1,e2] at e;injection e with e;exact⟨h1,h2,e⟩
theorem Sg.saw(h:Sg s a t b m){i:Nat}(hi:i<m)(x:Int):saw t (b+i) x=saw s (a+i) x:=by
 obtain⟨h1,h2,e⟩:=h.get hi;unfold Go.Proofs.YtiahkfoojjpaaaaGreatDoor.saw;rw[dif_pos h1,dif_pos h2,e]
theorem MX{esc:ByteArray}{k l:Nat}{c:UInt8}(h:gX s esc k=.ok (l,c)):k<l/\l<=s.size:=by
 unfold gX at h;split at h
 .split at h
  .split at h
   .cases h
   .injection h with h;injection h with h _;omega
  .cases h
 .split at h
  .injection h with h;injection h with h _;omega
  .cases h
theorem oM(h:Sg s a t b m)(esc:ByteArray){i l:Nat}{c:UInt8}(q:gX s esc (a+i)=.ok (l,c))(hl:l<=a+m):∃l0,l=a+l0/\i<l0/\gX t esc (b+i)=.ok (b+l0,c):=by
 have g:=@Sg.get _ _ _ _ _ h i;have g2:i+1<m->∃(h1:a+i+1<s.size) (h2:b+i+1<t.size),s[a+i+1]'h1=t[b+i+1]'h2:=fun hi=>h.get hi;have s1:=@Sg.saw _ _ _ _ _ h i;refine⟨l-a,?_⟩
 grind [gX]
theorem ptE_sg(h:Sg s a t b m):∀(n n' i e:Nat),ptE s n (a+i)=.ok e->e<=a+m->e<n'+(a+i)->∃e0,e=a+e0/\ptE t n' (b+i)=.ok (b+e0):=by
 intro n
 induction n with
 | zero=>grind [ptE]
 | succ n ih=>
  intro n' i e q he hn;have:=(Di q).1
  cases n' with
  | zero=>omega
  | succ n'=>
   have hi:i<m:=by omega
   have g:=h.get hi;have g2:i+1<m->∃(h1:a+i+1<s.size) (h2:b+i+1<t.size),s[a+i+1]'h1=t[b+i+1]'h2:=fun hi=>h.get hi;have s1:=h.saw hi;have s2:i+1<m->∀x,saw t (b+i+1) x=saw s (a+i+1) x:=fun hi x=>h.saw hi x;have i1:ptE s n (a+i+1)=.ok e->e<=a+m->e<n'+(a+i+1)->∃e0,e=a+e0/\ptE t n' (b+i+1)=.ok (b+e0):=ih n' (i+1) e;have i2:ptE s n (a+i+2)=.ok e->e<=a+m->e<n'+(a+i+2)->∃e0,e=a+e0/\ptE t n' (b+i+2)=.ok (b+e0):=ih n' (i+2) e;refine⟨e-a,?_⟩
   grind [ptE,-> Di]
theorem Mm(h:Sg s a t b m)(hend:saw t (b+m) 10=true):∀(n n' i:Nat) (acc l:List UInt8),i<=m->fP s n (a+i) acc=.ok (a+m,l)->m<n'+i->fP t n' (b+i) acc=.ok (b+m,l):=by
 intro n
 induction n with
 | zero=>grind [fP]
 | succ n ih=>
  intro n' i acc l hi q hn
  cases n' with
  | zero=>omega
  | succ n'=>
   have g:=@Sg.get _ _ _ _ _ h i;have s1:=@Sg.saw _ _ _ _ _ h i;have p1:=@oM _ _ _ _ _ h Qd i;have i1:=ih n';have he:i=m->saw t (b+i) 10=true:=fun e=>by rw[e];exact hend
   grind (splits:=20) [fP,-> gI,-> dC]
theorem N9(h:Sg s a t b m)(G:Nat){i:Nat}(hi:i+1<m):(∀l g,nI s G (a+i)=some (l,g)->∃l0,l=a+l0/\i<l0/\l0<=i+2/\nI t G (b+i)=some (b+l0,g))/\(nI s G (a+i)=none->nI t G (b+i)=none):=by
 have g2:i+1<m->∃(h1:a+i+1<s.size) (h2:b+i+1<t.size),s[a+i+1]'h1=t[b+i+1]'h2:=fun hi=>h.get hi;have s1:=@Sg.saw _ _ _ _ _ h i;refine⟨fun l g q=>⟨l-a,?_⟩,?_⟩<;>grind [nI]
end
section
variable {s t:ByteArray}{a b m:Nat}
theorem Bh{G:Nat}:∀{n k:Nat} {acc:List UInt8} {hs:List (Nat×Nat)} {e:Nat} {r:List UInt8×List (Nat×Nat)},oe s G n k acc hs=.ok (e,r)->k<e:=by
 intro n
 induction n<;>grind [oe,-> dC,-> lv]
theorem newE_sg(h:Sg s a t b m)(G:Nat):∀(n n' i:Nat) (acc:List UInt8) (hs:List (Nat×Nat)) (r:List UInt8×List (Nat×Nat)),oe s G n (a+i) acc hs=.ok (a+m,r)->m<n'+i->oe t G n' (b+i) acc hs=.ok (b+m,r):=by
 intro n
 induction n with
 | zero=>grind [oe]
 | succ n ih=>
  intro n' i acc hs r q hn;have:=Bh q
  cases n' with
  | zero=>omega
  | succ n'=>
   have hi:i<m:=by omega
   have g:=h.get hi;have s1:=h.saw hi;have k1:=@N9 _ _ _ _ _ h G i;have p1:=@oM _ _ _ _ _ h escN i;have i1:=ih n'
   grind (splits:=20) [oe,-> Bh,-> lv,-> dC]
theorem Oe(h:Sg s a t b m):∀(n n' i:Nat) (acc r:List UInt8),gG s n (a+i) acc=.ok (a+m,r)->m<n'+i->gG t n' (b+i) acc=.ok (b+m,r):=by
 intro n
 induction n with
 | zero=>grind [gG]
 | succ n ih=>
  intro n' i acc r q hn;have:=(fF q).1
  cases n' with
  | zero=>omega
  | succ n'=>
   have hi:i<m:=by omega
   have g:=h.get hi;have s1:=h.saw hi;have p1:=@oM _ _ _ _ _ h D0 i;have i1:=ih n'
   grind [gG,-> fF]
theorem Pr{M:Nat}:∀{n k:Nat} {acc r:List UInt8} {e:Nat},toE s M n k acc=.ok (e,r)->k<e:=by
 intro n
 induction n<;>grind [toE,-> dC]
theorem toE_sg(h:Sg s a t b m)(M:Nat):∀(n n' i:Nat) (acc r:List UInt8),toE s M n (a+i) acc=.ok (a+m,r)->m<n'+i->toE t M n' (b+i) acc=.ok (b+m,r):=by
 intro n
 induction n with
 | zero=>grind [toE]
 | succ n ih=>
  intro n' i acc r q hn;have:=Pr q
  cases n' with
  | zero=>omega
  | succ n'=>
   have hi:i<m:=by omega
   have g:=h.get hi;have s1:=h.saw hi;have p1:=@oM _ _ _ _ _ h D0 i;have i1:=ih n'
   grind [toE,-> Pr]
end
structure Rsx(t:ByteArray)(k:Nat)(l:List UInt8):Prop where
 eq:t.data.toList.drop k=l
 le:k<=t.size
section
variable {s t:ByteArray}{a b m k:Nat}{l x:List UInt8}{c:UInt8}
theorem Rsx.next(h:Rsx t k (c::l)):Rsx t (k+1) l:=by
 have e:=h.eq;have hl:k<t.size:=by
  have:=congrArg List.length e;rw[QZ,QK,QF] at this;show k<t.data.size;omega
 refine⟨?_,hl⟩;rw[<-List.drop_drop,e]
 rfl
theorem Rsx.lt(h:Rsx t k (c::l)):k<t.size:=h.next.le
theorem Rsx.app:∀{x:List UInt8} {k:Nat},Rsx t k (x++l)->Rsx t (k+x.length) l
 | [],k,h=>h
 | c::x,k,h=>by
  have:=(Rsx.next (l:=x++l) h).app;rw[show k+(c::x).length=k+1+x.length by rw[QF];omega];exact this
theorem Rsx.get(h:Rsx t k (c::l)):t[k]'h.lt=c:=by
 have e:=congrArg (fun l=>l[0]?) h.eq;simp only[Rt,SR,Rv] at e;rw[Ro,QR h.lt] at e;injection e
theorem Rsx.saw(h:Rsx t k (c::l))(x:Int):saw t k x=((c.toNat:Int)==x):=by
 unfold Go.Proofs.YtiahkfoojjpaaaaGreatDoor.saw;rw[dif_pos h.lt,h.get]
theorem Rsx.nil(h:Rsx t k []):k=t.size:=by
 have:=congrArg List.length h.eq;rw[QZ,QK] at this;have:=h.le;simp only[Rk] at *;show k=t.data.size;have h2:k<=t.data.size:=h.le;omega
theorem dU(h:Rsx t k [])(x:Int):saw t k x=false:=by
 have hn:¬k<t.size:=by
  have:=Rsx.nil h;omega
 unfold Go.Proofs.YtiahkfoojjpaaaaGreatDoor.saw;rw[dif_neg hn]
theorem Rsx.isD(h:Rsx t k (c::l)):isD t k=(decide (48<=c.toNat)&&decide (c.toNat<=57)):=by
 unfold Go.Proofs.YtiahkfoojjpaaaaGreatDoor.isD;rw[dif_pos h.lt,h.get]
theorem Rsx.dgt(h:Rsx t k (c::l)):dgt t k=c.toNat-48:=by
 unfold Go.Proofs.YtiahkfoojjpaaaaGreatDoor.dgt;rw[dif_pos h.lt,h.get]
theorem Rsx.isW(h:Rsx t k (c::l)):isW t k=((decide (65<=c.toNat)&&decide (c.toNat<=90))||(decide (97<=c.toNat)&&decide (c.toNat<=122))||(decide (48<=c.toNat)&&decide (c.toNat<=57))):=by
 unfold Go.Proofs.YtiahkfoojjpaaaaGreatDoor.isW;rw[dif_pos h.lt,h.get]
theorem Rsx.isB(h:Rsx t k (c::l)):isB t k=((c.toNat:Int)==32||(c.toNat:Int)==9):=by
 unfold Go.Proofs.YtiahkfoojjpaaaaGreatDoor.isB;rw[h.saw,h.saw]
theorem Rsx.sg(h:Rsx t b ((s.extract a (a+m)).data.toList++l))(hs:a+m<=s.size):Sg s a t b m:=by
 have hl:(s.extract a (a+m)).data.toList.length=m:=by
  rw[QK];show(s.extract a (a+m)).size=m;rw[Q8];omega
 have hb:=h.app.le;rw[hl] at hb;refine⟨hs,hb,fun i hi=>?_⟩;have e:=congrArg (fun l=>l[i]?) h.eq;simp only[Rt] at e;rw[Q5 (by omega)] at e;rw[e,RS,Sl];show _=((s.data.toList.drop a).take (a+m-a))[i]?;rw[Rr,QB (by omega),Rt]
theorem xz(h:Rsx t k (32::l))(h2:isB t (k+1)=false):blk t k=k+1:=by
 have h1:isB t k=true:=by rw[h.isB];rfl
 have hl:=h.lt;unfold blk;rw[show t.size-k=(t.size-(k+1))+1 by omega,skB,QB h1];exact lE h2
theorem Pp(h:Sg s a t b m)(hend:isW t (b+m)=false):∀(n n' i:Nat),wdE s a n (a+i)=.ok (a+m)->m<n'+i->i<=m->wdE t b n' (b+i)=.ok (b+m)
 | 0,_,_,q,_,_=>by cases q
 | n+1,0,i,q,hn,hi=>by omega
 | n+1,n'+1,i,q,hn,hi=>by
  rw[wdE] at q;rw[wdE];by_cases him:i<m
  .obtain⟨h1,h2,e⟩:=h.get him;have ew:isW t (b+i)=isW s (a+i):=by
    unfold isW;rw[dif_pos h1,dif_pos h2,e]
   rw[ew];split at q
   .rename_i c;rw[QB c];split at q
    .cases q
    .rename_i c2;rw[Qw (by omega)];exact Pp h hend n n' (i+1) q (by omega) (by omega)
   .split at q
    .cases q
    .injection q with q;omega
  .have him:i=m:=by omega
   subst him;rw[hend,Qw (by simp)];split at q
   .split at q
    .cases q
    .have:∀{n k e:Nat},wdE s a n k=.ok e->k<=e:=by
      intro n
      induction n with
      | zero=>intro k e q;cases q
      | succ n ih=>
       intro k e q;rw[wdE] at q;split at q
       .split at q
        .cases q
        .have:=ih q;omega
       .split at q
        .cases q
        .injection q with q;omega
     have:=this q;omega
   .split at q
    .cases q
    .rename_i c;rw[Qw (by omega)]
theorem oZ{k0 e:Nat}{y:ByteArray}(hk0:k0<=s.size)(q:dT s k0=.ok (e,y))(h:Rsx t k (32::(y.data.toList++l)))(hend:isW t (k+1+y.size)=false):dT t k=.ok (k+1+y.size,y):=by
 obtain⟨w1,w2,w3,w4,w5,w6⟩:=dB hk0 q;have hm:e=blk s k0+y.size:=w6.symm;have hq:wdE s (blk s k0) (s.size+1) (blk s k0)=.ok e:=by
  unfold dT at q
  cases hw:wdE s (blk s k0) (s.size+1) (blk s k0) with
  | error p=>rw[hw] at q;cases q
  | ok z=>
   rw[hw] at q;injection q with q;injection q with q1 q2;rw[q1]
 subst hm;have hn:Rsx t (k+1) ((s.extract (blk s k0) (blk s k0+y.size)).data.toList++l):=by
  rw[<-w5];exact h.next
 have sg:=hn.sg w3;have hy:0<y.size:=by omega
 have hB:isB t (k+1)=false:=by
  obtain⟨h1,h2,e⟩:=sg.get hy;have hw:isW s (blk s k0+0)=true:=by
   rw[wdE] at hq;split at hq
   .assumption
   .split at hq
    .cases hq
    .injection hq with hq;omega
  unfold isW at hw;rw[dif_pos h1,e] at hw;unfold isB Go.Proofs.YtiahkfoojjpaaaaGreatDoor.saw;have h2:k+1<t.size:=h2;rw[dif_pos h2,dif_pos h2];simp only[SR,Sn,RO,decide_eq_true_eq] at hw;rw[Ru,Qz,Qz];omega
 have hb:=xz h hB;have e2:=Pp sg hend (s.size+1) (t.size+1) 0 hq (by have:=sg.l2;omega) (by omega);unfold dT;rw[hb,show k+1=k+1+0 from rfl,e2];dsimp only;have e3:t.extract (k+1) (k+1+y.size)=y:=by
  have e:=h.next.eq;have:=Ag (t.extract (k+1) (k+1+y.size));rw[<-this,<-Ag y]
  congr 1
  rw[RS,Sl];show(t.data.toList.drop (k+1)).take (k+1+y.size-(k+1))=_;rw[e,show k+1+y.size-(k+1)=y.data.toList.length by rw[QK];show _=y.size;omega,SM]
 rw[show k+1+0=k+1 from rfl,e3]
end
end Go.Proofs.YtiahkfoojjpaaaaGreatDoor
namespace Go.Proofs.YtiahkfoojjpaaaaGreatDoor
open Go.ChangeShapes Go.WideShapes Go.ChangeAt Go.RowKit
theorem own0:ownKnob Tryz.prog.godebug=none:=by kernel_rfl
abbrev Bn:List (String × DataW Unit) := [("math/bits.deBruijn32tab", Rows.laid_math_bits_deBruijn32tab), ("math/bits.deBruijn64tab", Rows.laid_math_bits_deBruijn64tab), ("internal/strconv.uint64pow10", Rows.laid_internal_strconv_uint64pow10), ("ribbon/pattern.names", Rows.laid_ribbon_pattern_names)]
