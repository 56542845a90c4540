import Derived.Test.YtiahkfoojjpaaaaGreatDoorU49
import Derived.Test.YtiahkfoojjpaaaaGreatDoorU50
set_option maxRecDepth 100000
set_option maxHeartbeats 16000000
set_option linter.all false
namespace Go.Proofs.YtiahkfoojjpaaaaGreatDoor
open Go.RowKit
abbrev apB0:ByteArray:=⟨#[115,47,97,40,98,42,41,47,60,92,49,62,47,103,119,32,102,10,49,104,59,51,71]⟩
def apS:eF:=match scrE apB0 with
 | .ok S=>S
 | .error _=>⟨false,[],[],0⟩
theorem ap_read:(match scrE apB0 with | .ok _=>true | .error _=>false)=true:=by decide +kernel
theorem Nb:scrE apB0=.ok apS:=by
 have h:=ap_read;unfold apS
 cases hs:scrE apB0 with
 | error q=>rw [hs] at h;cases h
 | ok S=>rfl
def srcB (c:aV):Bool:=decide (c.label.size<=2000) && decide (c.name.size<=2000) && decide (c.text.src.size<=2000) && (c.pat.all fun q=>decide (q.txt.size<=2000)) && decide (c.new.src.size<=2000) && decide (c.jd.src.size<=2000) && decide (c.yto.src.size<=2000) && (c.dV.all fun a=>match a with | .pat q=>decide (q.txt.size<=2000) | _=>true) && decide (c.what < 256)
theorem E7 {c:aV} (h:srcB c=true):ye c/\c.what < 256:=by
 unfold srcB at h;simp only [OM,decide_eq_true_eq] at h;obtain ⟨⟨⟨⟨⟨⟨⟨⟨h1,h2⟩,h3⟩,h4⟩,h5⟩,h6⟩,h7⟩,h8⟩,h9⟩:=h;refine ⟨⟨h1,h2,h3,fun q e=>?_,h5,h6,h7,fun q hq=>?_⟩,h9⟩
 .rw [e] at h4;simpa using h4
 .have:=List.all_eq_true.1 h8 _ hq;simpa using this
theorem ap_src:apS.aG.all srcB=true:=by decide +kernel
theorem Mj:apS.names.map (·.data.toList)=[[102]]:=by decide +kernel
theorem ib:apS.names=[⟨#[102]⟩]:=by
 have h:=Mj;have hl:apS.names.length=1:=by simpa using congrArg List.length h
 match hn:apS.names,hl,h with
 | [x],_,h=>
  have e:x.data.toList=[102]:=by simpa using h
  have:x=ba x.data.toList:=(Mg x).symm;rw [e] at this;rw [this]
  rfl
def AdrS.cde:AdrS->Nat
 | .num n=>n
 | _=>0
theorem Mi:(apS.quiet,apS.aG.map fun c=>(c.dV.map AdrS.cde,c.neg,c.what,c.opr.data.toList))=(false,[([],false,115,[47,97,40,98,42,41,47,60,92,49,62,47,103,119,32,102]),([1],false,104,[]),([3],false,71,[])]):=by decide +kernel
theorem IK {a:AdrS} {n:Nat} (h:a.cde=n) (hn:n≠0):a=.num n:=by
 cases a with
 | num m=>exact congrArg _ h
 | last=>exact absurd h.symm hn
 | pat q=>exact absurd h.symm hn
theorem dg1 {n:Nat} (h:n < 10):(ba (Lib.decDigits n)).data.toList=[UInt8.ofNat (48+n)]:=by
 rw [Lib.decDigits,dif_pos h]
 rfl
theorem ap_txt:apS.txt=[115,47,97,40,98,42,41,47,60,92,49,62,47,103,119,32,102,10,49,104,10,51,71,10]:=by
 have h:=Mi;unfold eF.txt;simp only [Prod.mk.injEq] at h;obtain ⟨hq,h⟩:=h;rw [hq];have hl:apS.aG.length=3:=by simpa using congrArg List.length h
 match hc:apS.aG,hl,h with
 | [c0,c1,c2],_,h=>
  simp only [OX,Pg,List.cons.injEq,Prod.mk.injEq,and_true] at h;obtain ⟨⟨a0,n0,w0,o0⟩,⟨a1,n1,w1,o1⟩,⟨a2,n2,w2,o2⟩⟩:=h;have e0:c0.dV=[]:=List.map_eq_nil_iff.1 a0;have e1:c1.dV=[.num 1]:=by
   have hl:c1.dV.length=1:=by simpa using congrArg List.length a1
   match hx:c1.dV,hl,a1 with
   | [a],_,a1=>
    simp only [OX,Pg,List.cons.injEq,and_true] at a1;rw [IK a1 (by omega)]
  have e2:c2.dV=[.num 3]:=by
   have hl:c2.dV.length=1:=by simpa using congrArg List.length a2
   match hx:c2.dV,hl,a2 with
   | [a],_,a2=>
    simp only [OX,Pg,List.cons.injEq,and_true] at a2;rw [IK a2 (by omega)]
  simp only [Pq,List.flatMap_nil,aV.txt,e0,e1,e2,n0,n1,n2,w0,w1,w2,o0,o1,o2,adrsT,AdrS.txt,dg1 (show 1 < 10 by omega),dg1 (show 3 < 10 by omega)]
  rfl
abbrev abP:ByteArray:=⟨#[97,40,98,42,41]⟩
abbrev abT:ByteArray:=⟨#[120,97,98,98]⟩
theorem ab_ok:(match iD abP 0 with
  | .ok (G,x)=>(G == 1) && ((runsF (cdL (codeOf x.pi)) (1+x.pi.len) x.pi.dd abT (x.pi.em 1 0 0).2 50 5 0 [] mc0).map (fun s=>(s.fd,s.eX 0)) == some (true,1))
  | .error _=>false)=true:=by decide +kernel
theorem Bv {w:World} (hw:Nm w):Calls Tryz.prog 19 #[.string abP,.string abT] w fun e w'=>Kp [] w w'/\∃ q z xs,e=.returned (.tuple #[.slice (some ⟨q,0,none⟩) 4 z,.int .i64 0,.int .i64 0])/\w.heap.size<=q/\Bl w' q xs/\xs[0]? = some (.int .i64 1)/\0 < xs.length:=by
 refine (match_t abP abT (by decide) hw).mono ?_;intro e w1 h;have q:=ab_ok;unfold matE at h;rw [Nr (by decide)] at h
 cases hr:iD abP 0 with
 | error z=>rw [hr] at q;cases q
 | ok z=>
  obtain ⟨G,x⟩:=z;rw [hr] at h q;simp only [OM,beq_iff_eq] at q;obtain ⟨rfl,q⟩:=q;obtain ⟨k1,s',hs,h⟩:=h
  cases hf:runsF (cdL (codeOf x.pi)) (1+x.pi.len) x.pi.dd abT (x.pi.em 1 0 0).2 50 5 0 [] mc0 with
  | none=>rw [hf] at q;cases q
  | some r=>
   have:=AY (F:=50) _ _ _ _ hs hf;subst this;rw [hf] at q;simp only [Option.map_some,Option.some.injEq,Prod.mk.injEq] at q;rcases h with ⟨h1,_⟩ | ⟨_,b,z,rfl,ho⟩
   .rw [q.1] at h1;cases h1
   .refine ⟨k1,b,z,(nf s'.eX).take (2+2 * 1),rfl,(az ho rfl).1,⟨(az ho rfl).2,fun j u hu=>?_,fun j=>?_⟩,?_,?_⟩
    .rw [<-hu,ho.cellAt j (by have:=(List.getElem?_eq_some_iff.1 hu).1;rw [N3] at this;omega)]
    .rcases ho.2 with ⟨e,_⟩ | ⟨g,cap,cur,e,_,hb,_⟩
     .cases e
     .injection e with e;injection e with e;injection e with e;subst e;exact Lib.frozen_of_heap hb j
    .rw [Ov,Ny (by omega),jr _ 0 (by omega),q.2]
    .rw [N3];show 0 < min (2+2 * 1) 20;omega
section
variable {u v:Ust} {S:eF} {d d1 d2:List UInt8}
structure Btc (S:eF) (u:Ust):Prop where
 inv:Jq S u
 out:u.out=[]
 fbl:u.fb.length=S.names.length
theorem bt_ust0 (hP:lA S) (ah:Bool):Btc S (ust0 ah S.names.length S.ranges):=⟨AK hP ah,rfl,by show (List.replicate _ _).length=_;simp⟩
theorem feed_bt (hP:lA S) (h:Btc S u) (hd:u.over=false->u.left.length+d.length+u.number<=281474976710656):Btc S (u.feed S d).2/\(u.feed S d).1.out.length<=200000:=by
 refine ⟨⟨B8 hP h.inv hd,rfl,?_⟩,?_⟩
 .show (if u.over then u else ({ u with left:=u.left++d }:Ust).run S).fb.length=_;rcases h.inv with ⟨ho,_⟩ | ⟨ho,hi⟩
  .rw [Ny ho];exact h.fbl
  .rw [Nr (by rw [ho];simp)];have k:=hi.ok.ok;exact (rH hP (u:={ u with left:=u.left++d }) ⟨⟨⟨k.sp,k.hd,k.ct,k.ot,k.fb,k.bt,k.bl,by show (u.left++d).length+u.number<=_;rw [Nu];exact hd ho⟩,hi.ok.fb,hi.ok.rg,hi.ok.pc,hi.ok.st⟩,hi.bs,hi.bw⟩).2.1
 .show (if u.over then u else ({ u with left:=u.left++d }:Ust).run S).out.length<=_;rcases h.inv with ⟨ho,_⟩ | ⟨ho,hi⟩
  .rw [Ny ho,h.out];exact NH _
  .rw [Nr (by rw [ho];simp)];have k:=hi.ok.ok;exact (rH hP (u:={ u with left:=u.left++d }) ⟨⟨⟨k.sp,k.hd,k.ct,k.ot,k.fb,k.bt,k.bl,by show (u.left++d).length+u.number<=_;rw [Nu];exact hd ho⟩,hi.ok.fb,hi.ok.rg,hi.ok.pc,hi.ok.st⟩,hi.bs,hi.bw⟩).1
theorem end_bt (hP:lA S) (h:Btc S u):Btc S (u.end_ S).2/\(u.end_ S).1.out.length<=200000:=by
 refine ⟨⟨Io h.inv,rfl,?_⟩,?_⟩
 .show (if u.over then u else { ({ u with ended:=true }:Ust).run S with over:=true }).fb.length=_;rcases h.inv with ⟨ho,_⟩ | ⟨ho,hi⟩
  .rw [Ny ho];exact h.fbl
  .rw [Nr (by rw [ho];simp)];have k:=hi.ok.ok;exact (rH hP (u:={ u with ended:=true }) ⟨⟨⟨k.sp,k.hd,k.ct,k.ot,k.fb,k.bt,k.bl,k.lf⟩,hi.ok.fb,hi.ok.rg,hi.ok.pc,hi.ok.st⟩,hi.bs,hi.bw⟩).2.1
 .show (if u.over then u else { ({ u with ended:=true }:Ust).run S with over:=true }).out.length<=_;rcases h.inv with ⟨ho,_⟩ | ⟨ho,hi⟩
  .rw [Ny ho,h.out];exact NH _
  .rw [Nr (by rw [ho];simp)];have k:=hi.ok.ok;exact (rH hP (u:={ u with ended:=true }) ⟨⟨⟨k.sp,k.hd,k.ct,k.ot,k.fb,k.bt,k.bl,k.lf⟩,hi.ok.fb,hi.ok.rg,hi.ok.pc,hi.ok.st⟩,hi.bs,hi.bw⟩).1
end
section
variable {w w' w0 wx:World} {lo hi sb b:Nat} {σ:Sst} {S:eF}
theorem Scr.same (h:Scr lo hi w b 0 σ) (hz:w.heap.size<=w'.heap.size) (hh:∀ p,lo<=p->p < hi->w'.heap[p]? = w.heap[p]?):Scr lo hi w' b 0 σ:=by
 have hb:=hh b h.blo h.bhi;have hc:∀ j,w'.cell? ⟨b,j,none⟩=w.cell? ⟨b,j,none⟩:=fun j=>World.cell?_of_block hb;exact ⟨h.blo,h.bhi,Nx h.Hw hz,(hc _).trans h.c0,(hc _).trans h.c1,(hc _).trans h.c2,(hc _).trans h.c3,ag h.o4 (fun p hp=>hh p (az h.o4 hp).1 (h.h4 p hp)),ag h.o5 (fun p hp=>hh p (az h.o5 hp).1 (h.h5 p hp)),h.h4,h.h5,h.len,fun f hf=>⟨(hh f.1 (h.fx f hf).2.1 (h.fx f hf).2.2).trans (h.fx f hf).1,(h.fx f hf).2⟩⟩
def QO (w w':World) (src:ByteArray) (v:Value) (E:Nat):Prop:=(v=.pointer none/\E≠0)\/∃ b S,E=0/\v=.pointer (some ⟨b,0,none⟩)/\scrE src=.ok S/\Jz w w' b 0 S
theorem Iy (src:ByteArray) (hw:Nm w):Calls Tryz.prog 9 #[.string src] w fun e w'=>∃ (v:Value) (E k:Nat),e=.returned (.tuple #[v,.int .i64 (E:Int),.int .i64 (k:Int)])/\Kp [] w w'/\QO w w' src v E:=by
 refine (xM src hw).mono ?_;intro e w1 h
 cases hS:scrE src with
 | error q=>
  obtain ⟨E,k⟩:=q;rw [hS] at h;exact ⟨_,E,k,h.1,h.2,.inl ⟨rfl,AX hS⟩⟩
 | ok S=>
  rw [hS] at h;obtain ⟨b,e1,g⟩:=h;obtain ⟨σ,g1,g2,g3⟩:=id g;exact ⟨_,0,0,e1,g3,.inr ⟨b,S,rfl,rfl,hS,g⟩⟩
theorem JJ {W:World} (hP:Prg W lo hi sb σ S) (hs:S.aG.all srcB=true) (x:Ext W):Calls Tryz.prog 10 #[.pointer (some ⟨sb,0,none⟩)] x.val fun e w''=>e=.returned (.string (ba S.txt))/\∃ z:Ext W,w''=z.val:=
 (text_t (hP.aj x.ok) (fun c hc=>(E7 (List.all_eq_true.1 hs c hc)).1) (fun c hc=>(E7 (List.all_eq_true.1 hs c hc)).2)).mono fun e w'' q=>⟨q.1,⟨w'',x.ok.trans q.2⟩,rfl⟩
theorem Jb (src:ByteArray) (inp:List UInt8) (A:Option Addr) (n c:Nat) (z:Nat->Int) (w:World) (hin:inp.length<=140737488355328) (hn:n < 9223372036854775808) (N:qU w A n z) (hw:Nm w) (hpw:Pow w) :
  Calls Tryz.prog 7 #[.string src,.string (ba inp),.slice A n c] w fun e w'=>e=.returned (.bool true)/\Kp [] w w':=by
 have HC:=xM apB0 hw;rw [Nb] at HC;replace HC:=hid HC;have HNM:Hid (∀ w1,Kp [] w w1->Nm w1):=hid (fun w1 k1=>hw.aj k1 (by simp));have HPW:Hid (∀ w1,Kp [] w w1->Pow w1):=hid (fun w1 k1=>hpw.aj k1);have HN:=hid N;have HIN:=hid hin;clear hw N hin;go_enter Tryz.func7,Tryz.ntmps7
 go_wp2_with fail;refine HC.out.mono ?_;rintro r w1 ⟨sb,rfl,hg⟩;obtain ⟨lo,hi,σ,hP,k1⟩:=prg_of hg Nb hpw;have HP1:=hid hP;have HLN:=hid (Hk A n c z w1 hn (HN.out.aj k1));have K1:=hid k1;clear HC hg hP hpw k1 HN;go_wp2_with fail;refine HLN.out.mono ?_;rintro e w2 ⟨v,ls,rfl,L2,hl1,hl13,k2⟩;have HW2:=hid (Ej L2 (by omega));have hwl:(wh ls).length<=1404:=by
  have:=En ls L2.ok;omega
 have HP:=hid (HP1.out.aj k2);have K2:=hid (K1.out.trans k2);obtain ⟨I,hI⟩:∃ I,I=wh ls:=⟨_,rfl⟩;rw [<-hI] at HW2 hwl;clear hI L2 HLN HP1 K1 k2;go_wp2_with fail;refine HW2.out.mono ?_;rintro r w2' ⟨rfl,rfl⟩;have HST:=hid (yu HP.out (Kp.refl [] w2'));clear HW2;go_wp2_with fail;refine HST.out.mono ?_;rintro r w3 ⟨ex,mx,dx,sx,rfl,X3,k3,_⟩;have HST2:=hid (yu HP.out k3);have HX3:=hid X3;clear HST X3;go_wp2_with fail;refine HST2.out.mono ?_;rintro r w4 ⟨ey,my,dy,sy,rfl,Y4,k4,hy4⟩;have X4:=HX3.out.aj k4;have dis4:∀ p,Ed.blk ex mx dx sx p->¬ Ed.blk ey my dy sy p:=fun p hp hq=>by
  have:=HX3.out.lt hp;have:=hy4 p hq;omega
 obtain ⟨u0,hu0⟩:∃ u0,u0=ust0 apS.ahead apS.names.length apS.ranges:=⟨_,rfl⟩;have HBT:Hid (Btc apS u0/\u0.left.length+u0.number=0):=hid (by rw [hu0];exact ⟨bt_ust0 HP.out.ok _,rfl⟩);rw [<-hu0] at X4 Y4;have HCQ:=hid (Iy src (HNM.out w4 (K2.out.trans X4.m.r.kp)));have H4:=hid (And.intro X4 (And.intro Y4 (And.intro dis4 (fun p (hp:Ed.blk ex mx dx sx p)=>X4.lt hp))));clear HST2 HX3 X4 Y4 dis4 hy4 k3 k4 hu0;go_wp2_with fail;refine HCQ.out.mono ?_;rintro r w5 ⟨vq,E,kq,rfl,k5,QQ⟩;obtain ⟨X4,Y4,dis4,lx4⟩:=H4.out;have X5:=X4.aj k5;have Y5:=Y4.aj k5;have hb0:u0.over=false->u0.left.length+I.length+u0.number<=281474976710656:=fun _=>by have:=HBT.out.2;omega
 have HFX:=hid (Ik (d:=I) HP.out X5 hb0);have HFB:=hid (feed_bt (d:=I) HP.out.ok HBT.out.1 hb0);have HQ:=hid QQ;have H5:=hid (And.intro X5 (And.intro Y5 (And.intro dis4 (And.intro lx4 k5))));obtain ⟨F,hF⟩:∃ F,F=u0.feed apS I:=⟨_,rfl⟩;have HFF:=hid hF;rw [<-hF] at HFX HFB;obtain ⟨⟨ao,av,ae,as_⟩,u1⟩:=F;dsimp only at HFX HFB;clear HCQ QQ X4 Y4 dis4 lx4 X5 Y5 k5 hF H4;go_wp2_with fail;refine HFX.out.mono ?_;rintro r w6 ⟨rfl,sx6,X6,l6⟩;clear HFX;obtain ⟨X5,Y5,dis5,lx5,k5⟩:=H5.out;obtain ⟨Y6,dis6⟩:=Y5.beside l6 (fun p hp hq=>dis5 p hq hp);have B7:=Bl.alloc w6 (fI ao av ae as_) 31;have k7:=Kp.alloc [] w6 (.cells (fI ao av ae as_).toArray 31);have X7:=X6.aj k7;have Y7:=Y6.aj k7;have fa7:=X6.far (Nw w6.heap.size);have fb7:=Y6.far (Nw w6.heap.size);have hq7:∀ p,w4.heap.size<=p->p < w5.heap.size->(w6.alloc (.cells (fI ao av ae as_).toArray 31)).heap[p]? = w5.heap[p]?:=fun p h1 h2=>
  (k7.block p (Ns h2 l6.size) (by simp)).trans (l6.same p h2 (fun hp=>by have:=lx5 p hp;omega))
 have hz7:w5.heap.size<=(w6.alloc (.cells (fI ao av ae as_).toArray 31)).heap.size:=Nx l6.size k7.size;obtain ⟨w7,hw7⟩:∃ w7,w7=w6.alloc (.cells (fI ao av ae as_).toArray 31):=⟨_,rfl⟩;obtain ⟨xa,hxa⟩:∃ xa,xa=w6.heap.size:=⟨_,rfl⟩;have HW7:=hid hw7;have HXA:=hid hxa;rw [<-hw7,<-hxa] at B7;rw [<-hw7] at X7 Y7 hq7 hz7;rw [<-hxa] at fa7 fb7;have H7:=hid (And.intro X7 (And.intro Y7 (And.intro dis6 (And.intro B7 (And.intro fa7 fb7)))));have HQ7:=hid (And.intro hq7 (And.intro hz7 (HPW.out _ (K2.out.trans X7.m.r.kp))));clear X5 Y5 dis5 lx5 k5 Y6 dis6 B7 k7 X7 Y7 fa7 fb7 hq7 hz7 hw7 hxa X6 l6 H5;obtain ⟨d,hd⟩:∃ d:Bool,(d=false/\vq=.pointer none/\E≠0)\/(d=true/\∃ b S,E=0/\vq=.pointer (some ⟨b,0,none⟩)/\scrE src=.ok S/\Jz w4 w5 b 0 S):=by
  rcases HQ.out with q | q
  .exact ⟨false,.inl ⟨rfl,q⟩⟩
  .exact ⟨true,.inr ⟨rfl,q⟩⟩
 have HDD:=hid hd;clear HQ hd;go_upto_region 11 with fail
 rw [<-HW7.out,<-HXA.out];clear HW7 HXA;go_cut [67] from 62 (fun v wx=>v=.bool d/\w7=wx)
 case first=>
  rcases HDD.out with ⟨rfl,rfl,hE⟩ | ⟨rfl,sq,S,rfl,rfl,_⟩
  .have hq:((E:Int) == 0)=false:=by rw [Nz];omega
   go_wp2_with fail;go_meet
   case rel=>exact ⟨rfl,rfl⟩
  .go_wp2_with fail;go_meet
   case rel=>exact ⟨rfl,rfl⟩
 case rest=>
  obtain ⟨rfl,rfl⟩:=hcut;go_upto_if 67 with fail
  go_cut [17] from 68 (fun _ wx=>Hid (Kp [] w7 wx))
  case first=>
   rcases HDD.out with ⟨rfl,rfl,hE⟩ | ⟨rfl,sq,S,rfl,rfl,hS,hg⟩
   .go_wp2_with fail;go_meet
    case rel=>exact hid (Kp.refl _ _)
   .obtain ⟨σ',g1,g2,_⟩:=hg;have PZ:Prg w7 w4.heap.size w5.heap.size sq σ' S:=⟨g2.same HQ7.out.2.1 HQ7.out.1,g1,Fm hS,HQ7.out.2.2⟩;have HPZ:=hid PZ;have HSZ:=hid (yu PZ (Kp.refl [] w7));clear g1 g2 PZ;go_wp2_with fail;refine HSZ.out.mono ?_;rintro r w8 ⟨ez,mz,dz,sz,rfl,Z8,_,_⟩;have HFZ:=hid (Ik (d:=inp) HPZ.out Z8 (fun _=>by show 0+inp.length+0<=_;have:=HIN.out;omega));clear Z8 HSZ;go_wp2_with fail;refine HFZ.out.mono ?_;rintro r w9 ⟨rfl,sz9,Z9,_⟩;have HEZ:=hid (end_t HPZ.out Z9);clear Z9 HFZ;go_wp2_with fail;refine HEZ.out.mono ?_;rintro r w10 ⟨rfl,sz10,Z10,_⟩;have KZ:=hid Z10.m.r.kp;clear Z10 HEZ;go_wp2_with fail;go_meet
    case rel=>exact KZ
  case rest=>
   have K11:=hcut.out;clear hcut HDD HQ7;obtain ⟨X7,Y7,dis7,BA7,fa7,fb7⟩:=H7.out;have X11:=X7.aj K11;have Y11:=Y7.aj K11;have BA11:=BA7.aj K11 (by simp);have HFL:=zJ HP.out X11 HFB.out.1.fbl;rw [show apS.names.length=1 by rw [ib];rfl] at HFL;replace HFL:=hid HFL;have H11:=hid (And.intro X11 (And.intro Y11 (And.intro dis7 (And.intro BA11 (And.intro fa7 fb7)))));clear X7 Y7 dis7 BA7 fa7 fb7 X11 Y11 BA11 H7 K11;go_wp2_with fail;refine HFL.out.mono ?_;rintro r w12 ⟨nb,cv,rfl,k12,BL12,ll12,fl12,ln12⟩;have hfl1:u1.fb.length=1:=by rw [HFB.out.1.fbl,ib];rfl
   obtain ⟨fb0,hfb0⟩:∃ bs,u1.fb[0]? = some bs:=⟨_,Nv (by omega)⟩;obtain ⟨l1,l2⟩:=fl12 0 ⟨#[102]⟩ fb0 (by omega) (by rw [ib];rfl) hfb0;have c0:w12.cell? ⟨nb,0,none⟩=some (.string ⟨#[102]⟩):=BL12.at_ 0 _ l1;have c1:w12.cell? ⟨nb,1,none⟩=some (.string (ba fb0)):=BL12.at_ 1 _ l2;have f0:=BL12.free 0;have f1:=BL12.free 1
   have k14:Kp [] wc ((w12.setCell ⟨nb,0,none⟩ (.string ⟨#[110,111,116,32,121,111,117,114,115]⟩)).setCell ⟨nb,1,none⟩ (.string ⟨#[110,111,116,32,121,111,117,114,115]⟩)):=
    Kp.own (x:=nb) ((k12.mono (by simp)).trans ((Kp.setCell _ _ (by simp)).trans (Kp.setCell _ _ (by simp)))) ln12
   obtain ⟨w14,hw14⟩:∃ w14,w14=(w12.setCell ⟨nb,0,none⟩ (.string ⟨#[110,111,116,32,121,111,117,114,115]⟩)).setCell ⟨nb,1,none⟩ (.string ⟨#[110,111,116,32,121,111,117,114,115]⟩):=⟨_,rfl⟩;rw [<-hw14] at k14;have HW14:=hid hw14;obtain ⟨X11,Y11,dis11,BA11,fa11,fb11⟩:=H11.out;have X14:=X11.aj k14;have Y14:=Y11.aj k14;have BA14:=BA11.aj k14 (by simp);have HFY:=Ik (d:=I) HP.out Y14 hb0;rw [<-HFF.out] at HFY;dsimp only at HFY;replace HFY:=hid HFY;have H14:=hid (And.intro X14 (And.intro dis11 (And.intro BA14 (And.intro fa11 fb11))));clear hw14 X11 Y11 dis11 BA11 fa11 fb11 X14 Y14 BA14 k12 BL12 ll12 fl12 l1 l2 hfl1 hfb0 H11 HFL k14;go_wp2_with fail;rw [<-HW14.out];refine HFY.out.mono ?_;rintro r w15 ⟨rfl,sy15,Y15,l15⟩;clear HFY HW14;obtain ⟨X14,dis14,BA14,fa14,fb14⟩:=H14.out;obtain ⟨X15,dis15⟩:=X14.beside l15 (fun p hp hq=>dis14 p hq hp);obtain ⟨BA15,fb15⟩:=l15.bl BA14 fb14;have BB16:=Bl.alloc w15 (fI ao av ae as_) 31
   have k16:=Kp.alloc [] w15 (.cells (fI ao av ae as_).toArray 31);have fxb:=X15.far (Nw w15.heap.size);have fyb:=Y15.far (Nw w15.heap.size);have X16:=X15.aj k16;have Y16:=Y15.aj k16;have BA16:=BA15.aj k16 (by simp);obtain ⟨w16,hw16⟩:∃ w16,w16=w15.alloc (.cells (fI ao av ae as_).toArray 31):=⟨_,rfl⟩;obtain ⟨xb,hxb⟩:∃ xb,xb=w15.heap.size:=⟨_,rfl⟩;have HW16:=hid (And.intro hw16 hxb);rw [<-hw16,<-hxb] at BB16;rw [<-hw16] at X16 Y16 BA16;rw [<-hxb] at fxb fyb;have HM:=hid (Bv (HNM.out w16 (K2.out.trans X16.m.r.kp)));have H16:=hid (And.intro X16 (And.intro Y16 (And.intro dis15 (And.intro BA16 (And.intro BB16 (And.intro fa14 (And.intro fb15 (And.intro fxb fyb))))))));clear hw16 hxb X14 dis14 BA14 fa14 fb14 X15 dis15 BA15 fb15 BB16 k16 fxb fyb X16 Y16 BA16 Y15 l15 H14;go_wp2_with fail;rw [<-HW16.out.1,<-HW16.out.2];refine HM.out.mono ?_;rintro r w17 ⟨k17,q1,z1,xs1,rfl,lq1,BQ1,g1,gl1⟩;have m0:=BQ1.at_ 0 _ g1
   have mf0:=BQ1.free 0;have k18:Kp [] w16 (w17.setCell ⟨q1,0,none⟩ (.int .i64 77)):=Kp.own (x:=q1) ((k17.mono (by simp)).trans (Kp.setCell _ _ (by simp))) lq1;obtain ⟨w18,hw18⟩:∃ w18,w18=w17.setCell ⟨q1,0,none⟩ (.int .i64 77):=⟨_,rfl⟩;rw [<-hw18] at k18;have HW18:=hid hw18;obtain ⟨X16,Y16,dis16,BA16,BB16,fxa,fya,fxb,fyb⟩:=H16.out;have X18:=X16.aj k18;have Y18:=Y16.aj k18;have BA18:=BA16.aj k18 (by simp);have BB18:=BB16.aj k18 (by simp);have HEX:=end_t HP.out X18;obtain ⟨G,hG⟩:∃ G,G=u1.end_ apS:=⟨_,rfl⟩;have HGG:=hid hG;have HGB:=end_bt HP.out.ok HFB.out.1;rw [<-hG] at HEX HGB;obtain ⟨⟨co,cv',ce,cs⟩,u2⟩:=G;dsimp only at HEX HGB;replace HEX:=hid HEX;replace HGB:=hid HGB;have H18:=hid (And.intro X18 (And.intro Y18 (And.intro dis16 (And.intro BA18 (And.intro BB18 (And.intro fxa (And.intro fya (And.intro fxb fyb))))))));clear hw18 hG X16 Y16 dis16 BA16 BB16 fxa fya fxb fyb X18 Y18 BA18 BB18 k17 k18 BQ1 g1 gl1 lq1 H16 HM HW16
   go_wp2_with fail;rw [<-HW18.out];refine HEX.out.mono ?_;rintro r w19 ⟨rfl,sx19,X19,l19⟩;clear HEX HW18;obtain ⟨X18,Y18,dis18,BA18,BB18,fxa,fya,fxb,fyb⟩:=H18.out;obtain ⟨Y19,dis19⟩:=Y18.beside l19 (fun p hp hq=>dis18 p hq hp);obtain ⟨BA19,_⟩:=l19.bl BA18 fxa;obtain ⟨BB19,_⟩:=l19.bl BB18 fxb;have BC20:=Bl.alloc w19 (fI co cv' ce cs) 31;have k20:=Kp.alloc [] w19 (.cells (fI co cv' ce cs).toArray 31);have fyc:=Y19.far (Nw w19.heap.size);have X20:=X19.aj k20;have Y20:=Y19.aj k20;have BA20:=BA19.aj k20 (by simp);have BB20:=BB19.aj k20 (by simp);obtain ⟨w20,hw20⟩:∃ w20,w20=w19.alloc (.cells (fI co cv' ce cs).toArray 31):=⟨_,rfl⟩;obtain ⟨xc,hxc⟩:∃ xc,xc=w19.heap.size:=⟨_,rfl⟩;have HW20:=hid (And.intro hw20 hxc);rw [<-hw20,<-hxc] at BC20;rw [<-hw20] at X20 Y20 BA20 BB20;rw [<-hxc] at fyc;have HEY:=end_t HP.out Y20;rw [<-HGG.out] at HEY;dsimp only at HEY;replace HEY:=hid HEY;have H20:=hid (And.intro X20 (And.intro (fun p hp hq=>dis19 p hq hp) (And.intro BA20 (And.intro BB20 (And.intro BC20 (And.intro fya (And.intro fyb fyc)))))))
   clear hw20 hxc X18 Y18 dis18 BA18 BB18 fxa fya fxb fyb Y19 dis19 BA19 BB19 BC20 k20 fyc X20 Y20 BA20 BB20 X19 l19 H18;go_wp2_with fail;rw [<-HW20.out.1,<-HW20.out.2];refine HEY.out.mono ?_;rintro r w21 ⟨rfl,sy21,Y21,l21⟩;clear HEY HW20;obtain ⟨X20,dis20,BA20,BB20,BC20,fya,fyb,fyc⟩:=H20.out;obtain ⟨X21,_⟩:=X20.beside l21 dis20;obtain ⟨BA21,_⟩:=l21.bl BA20 fya;obtain ⟨BB21,_⟩:=l21.bl BB20 fyb;obtain ⟨BC21,_⟩:=l21.bl BC20 fyc;have BD22:=Bl.alloc w21 (fI co cv' ce cs) 31;have k22:=Kp.alloc [] w21 (.cells (fI co cv' ce cs).toArray 31);have X22:=X21.aj k22;have Y22:=Y21.aj k22;have BA22:=BA21.aj k22 (by simp);have BB22:=BB21.aj k22 (by simp);have BC22:=BC21.aj k22 (by simp);obtain ⟨w22,hw22⟩:∃ w22,w22=w21.alloc (.cells (fI co cv' ce cs).toArray 31):=⟨_,rfl⟩;obtain ⟨xd,hxd⟩:∃ xd,xd=w21.heap.size:=⟨_,rfl⟩;have HW22:=hid (And.intro hw22 hxd);rw [<-hw22,<-hxd] at BD22;rw [<-hw22] at X22 Y22 BA22 BB22 BC22
   have HF1:=zJ HP.out X22 HGB.out.1.fbl;rw [show apS.names.length=1 by rw [ib];rfl] at HF1;replace HF1:=hid HF1;have H22:=hid (And.intro X22 (And.intro Y22 (And.intro BA22 (And.intro BB22 (And.intro BC22 BD22)))));clear hw22 hxd X20 dis20 BA20 BB20 BC20 fya fyb fyc X21 BA21 BB21 BC21 BD22 k22 X22 Y22 BA22 BB22 BC22 Y21 l21 H20;go_wp2_with fail;rw [<-HW22.out.1,<-HW22.out.2];refine HF1.out.mono ?_;rintro r w23 ⟨n1,v1,rfl,k23,BL23,_,fl23,_⟩;clear HF1 HW22;obtain ⟨X22,Y22,BA22,BB22,BC22,BD22⟩:=H22.out;have HF2:=zJ HP.out (Y22.aj k23) HGB.out.1.fbl;rw [show apS.names.length=1 by rw [ib];rfl] at HF2;replace HF2:=hid HF2;have H23:=hid (And.intro k23 (And.intro BL23 fl23));clear k23 BL23 fl23 X22 Y22 BA22 BB22 BC22 BD22;go_wp2_with fail;refine HF2.out.mono ?_;rintro r w24 ⟨n2,v2,rfl,k24,BL24,_,fl24,_⟩;clear HF2;obtain ⟨X22,Y22,BA22,BB22,BC22,BD22⟩:=H22.out;obtain ⟨k23,BL23,fl23⟩:=H23.out;have k224:=k23.trans k24
   have HM2:=hid (Bv (HNM.out w24 (K2.out.trans (X22.m.r.kp.trans k224))));have H24:=hid (And.intro k224 (And.intro (BL23.aj k24 (by simp)) (And.intro BL24 (And.intro fl23 fl24))));clear k24 BL24 fl24 k23 BL23 fl23 X22 Y22 BA22 BB22 BC22 BD22 k224 H23;go_wp2_with fail;refine HM2.out.mono ?_;rintro r w25 ⟨k25,q2,z2,xs2,rfl,_,BQ2,g2,gl2⟩;clear HM2;obtain ⟨X22,Y22,BA22,BB22,BC22,BD22⟩:=H22.out;obtain ⟨k24,BL24,BM24,fl23,fl24⟩:=H24.out;have kk:=k24.trans k25;have hfl1:u2.fb.length=1:=by rw [HGB.out.1.fbl,ib];rfl
   obtain ⟨fb1,hfb1⟩:∃ bs,u2.fb[0]? = some bs:=⟨_,Nv (by omega)⟩;obtain ⟨l1,l2⟩:=fl23 0 ⟨#[102]⟩ fb1 (by omega) (by rw [ib];rfl) hfb1;obtain ⟨m1,m2⟩:=fl24 0 ⟨#[102]⟩ fb1 (by omega) (by rw [ib];rfl) hfb1;have BL25:=BL24.aj k25 (by simp);have BM25:=BM24.aj k25 (by simp);have BA25:=BA22.aj kk (by simp);have BB25:=BB22.aj kk (by simp);have BC25:=BC22.aj kk (by simp);have BD25:=BD22.aj kk (by simp);have dl0:=Ext.cell (show w25.cell? ⟨n1,0,none⟩=_ from BL25.at_ 0 _ l1);have dl1:=Ext.cell (show w25.cell? ⟨n1,1,none⟩=_ from BL25.at_ 1 _ l2);have dm0:=Ext.cell (show w25.cell? ⟨n2,0,none⟩=_ from BM25.at_ 0 _ m1);have dm1:=Ext.cell (show w25.cell? ⟨n2,1,none⟩=_ from BM25.at_ 1 _ m2);have da0:=Ext.cell (BA25.at_ 0 _ rfl);have da1:=Ext.cell (BA25.at_ 1 _ rfl);have da2:=Ext.cell (BA25.at_ 2 _ rfl);have da3:=Ext.cell (BA25.at_ 3 _ rfl);have db0:=Ext.cell (BB25.at_ 0 _ rfl);have db1:=Ext.cell (BB25.at_ 1 _ rfl)
   have db2:=Ext.cell (BB25.at_ 2 _ rfl);have db3:=Ext.cell (BB25.at_ 3 _ rfl);have dc0:=Ext.cell (BC25.at_ 0 _ rfl);have dc1:=Ext.cell (BC25.at_ 1 _ rfl);have dc2:=Ext.cell (BC25.at_ 2 _ rfl);have dc3:=Ext.cell (BC25.at_ 3 _ rfl);have dd0:=Ext.cell (BD25.at_ 0 _ rfl);have dd1:=Ext.cell (BD25.at_ 1 _ rfl);have dd2:=Ext.cell (BD25.at_ 2 _ rfl);have dd3:=Ext.cell (BD25.at_ 3 _ rfl);have dq0:=Ext.cell (BQ2.at_ 0 _ g2)
   have HTX:Hid (∀ x:Ext w25,Calls Tryz.prog 10 #[.pointer (some ⟨sb,0,none⟩)] x.val fun e w''=>e=.returned (.string ⟨#[115,47,97,40,98,42,41,47,60,92,49,62,47,103,119,32,102,10,49,104,10,51,71,10]⟩)/\∃ z:Ext w25,w''=z.val):=hid (fun x=>by
    have:=JJ (HP.out.aj (X22.m.r.kp.trans kk)) ap_src x;rw [ap_txt] at this
    exact this)
   have KF:=hid (K2.out.trans (X22.m.r.kp.trans kk));clear X22 Y22 BA22 BB22 BC22 BD22 k24 BL24 BM24 fl23 fl24 kk hfl1 hfb1 l1 l2 m1 m2 BL25 BM25 BA25 BB25 BC25 BD25 BQ2 g2 gl2 k25 H22 H24;have hne:Nonempty (Ext w25):=⟨⟨w25,Kp.refl _ _⟩⟩;go_upto_region 32 with fail
   refine gy (by kernel_rfl) (by kernel_rfl) ?_
   repeat (refine wpQuiet_step (fun K hK=>?_);go_simp;first | (refine hK _ ?_;clear hK K) | (apply Exists.intro;refine ⟨fun x=>?_,hK _ ?_⟩;exact HTX.out x;clear hK K))
   refine wpQuiet_nil ?_;intro w' hw';obtain ⟨x,hx⟩:=hw';subst hx;go_wp2_with fail;go_ret;exact ⟨rfl,KF.out.trans x.ok⟩
end
end Go.Proofs.YtiahkfoojjpaaaaGreatDoor
namespace Go.Proofs.YtiahkfoojjpaaaaGreatDoor
open Go.ChangeShapes Go.WideShapes Go.ChangeAt Go.RowKit
theorem gNamesF : Tryz.prog.globalNamed "ribbon/pattern.names" = some 4 := by kernel_rfl
theorem Cl {l:List Value} {k j:Nat} {v:Value} (h:(((l.drop k).take 2).drop j).take 1=[v]) (hj:j < 2):l[k+j]? = some v:=by
 have h2:=congrArg (fun x=>x[0]?) h;simp only [Ov,List.getElem?_drop,Nat.add_zero,List.getElem?_cons_zero] at h2;rw [Ny (by omega),Ny hj] at h2;exact h2
theorem xT {s:ByteArray} {l:List UInt8} (h:s.data.toList=l):s=⟨l.toArray⟩:=by
 cases s;subst h;simp
theorem uEntryF:∃ fs:Array Field,Tryz.prog.underlying 256=some (.struct fs)/\∃ f0 f1,fs[0]? = some f0/\fs[1]? = some f1/\fs.size=2/\f0.type=9/\f0.offset=0/\f1.type=9/\f1.offset=1:=
 ⟨_,Tryz.underlying256,_,_,rfl,rfl,rfl,rfl,rfl,rfl,rfl⟩
theorem Il {W:World} (h:laidMetH Tryz.prog zg W):∀ i,i < 7->∃ s t:ByteArray,W.cell? ⟨4,i * 2,none⟩=some (.string s)/\W.cell? ⟨4,i * 2+1,none⟩=some (.string t) /\
  (match (Rows.laid_ribbon_pattern_names:DataW Unit) with | .agg l=>l | _=>[])[i]? = some (.agg [.lit (.string s.data.toList),.lit (.string t.data.toList)]):=by
 rw [MakeChecks.laidMetH_plain _ _ _ (by kernel_rfl)] at h;obtain ⟨ps,hl,_,_⟩:=h;obtain ⟨_,_,_,_,_,q1,_,_,_,_,hl1,_⟩:=hl;obtain ⟨_,_,_,_,_,q2,_,_,_,_,hl2,_⟩:=hl1;obtain ⟨_,_,_,_,_,q3,_,_,_,_,hl3,_⟩:=hl2;obtain ⟨g,t,cs,fuel,p,q,hg,ht,hv,hd,_,_⟩:=hl3;obtain rfl:=Option.some.inj (gNamesF.symm.trans hg);obtain rfl:=Option.some.inj ((show (Tryz.prog.globals[4]?).map (·.type)=some 257 by kernel_rfl).symm.trans ht);obtain ⟨xs,m,_,ex,_,hl,hel⟩:=DataW.trod_array Tryz.underlying257 hd;have c2:Tryz.prog.cellsOf 256=2:=by kernel_rfl
 have c1:Tryz.prog.cellsOf 9=1:=by kernel_rfl
 have us:Tryz.prog.underlying 9=some .string:=by kernel_rfl
 obtain ⟨fs,ufs,f0,f1,e0,e1,esz,t0,o0,t1,o1⟩:=uEntryF;intro i hi;have hE:=hel i hi;rw [c2,Nv (by omega)] at hE;obtain ⟨ys,n,_,ey,_,hyl,hys⟩:=DataW.trod_struct ufs hE;rw [esz] at hyl;have h0:=hys 0 f0 e0;have h1:=hys 1 f1 e1;rw [t0,o0,c1,Nv (by omega)] at h0;rw [t1,o1,c1,Nv (by omega)] at h1;obtain ⟨s,es,es',_⟩:=DataW.trod_string us h0;obtain ⟨u,eu,eu',_⟩:=DataW.trod_string us h1;have d0:=Cl es (by omega);have d1:=Cl eu (by omega);refine ⟨s,u,?_,?_,?_⟩
 .rw [World.var?_cell hg hv];simpa using d0
 .rw [World.var?_cell hg hv];simpa using d1
 .have e3:(xs.map (·.1))[i]? = some (.agg (ys.map (·.1))):=by rw [N6,Nv (by omega:i < xs.length),ey];rfl
  have e4:(Rows.laid_ribbon_pattern_names:DataW Unit)=.agg (xs.map (·.1)):=(Prod.mk.inj ex).1;rw [e4];show (xs.map (·.1))[i]? = _;rw [e3]
  match ys,hyl,es',eu' with
  | [y0,y1],_,es',eu'=>
   have a0:y0=_:=es';have a1:y1=_:=eu';rw [a0,a1];rfl
theorem nm_ofF {W:World} (h:laidMetH Tryz.prog zg W):Nm W:=by
 have key:=Il h;have all:∀ i,i < 7->W.cell? ⟨4,i * 2,none⟩=some (.string (nmN i))/\W.cell? ⟨4,i * 2+1,none⟩=some (.string (nmS i)):=by
  intro i hi;obtain ⟨s,t,h1,h2,h3⟩:=key i hi
  match i,hi with
  | 0,_ | 1,_ | 2,_ | 3,_ | 4,_ | 5,_ | 6,_=>
   simp only [Rows.laid_ribbon_pattern_names,List.getElem?_cons_zero,List.getElem?_cons_succ,Option.some.injEq,DataW.agg.injEq,List.cons.injEq,DataW.lit.injEq,Lit.string.injEq,and_true] at h3;rw [h1,h2,xT h3.1.symm,xT h3.2.symm];exact ⟨rfl,rfl⟩
 exact ⟨World.block_lt_of_cell? _ _ (all 0 (by omega)).1,fun i hi=>(all i hi).1,fun i hi=>(all i hi).2⟩
theorem J6:(Rows.laid_internal_strconv_uint64pow10:DataW Unit)=Lib.tabData .u64 Lib.pow10Tab:=by kernel_rfl
noncomputable def gP : Nat := (Tryz.prog.globalNamed "internal/strconv.uint64pow10").getD 0
noncomputable def tP:TypeId:=((Tryz.prog.globals[gP]?).map (·.type)).getD 0
theorem gPow : ∃ g t, Tryz.prog.globalNamed "internal/strconv.uint64pow10" = some g /\ (Tryz.prog.globals[g]?).map (·.type) = some t /\ Tryz.prog.underlying t = some (.array 20 148) /\ Tryz.prog.cellsOf t = 20 := ⟨gP, tP, by kernel_rfl, by kernel_rfl, by kernel_rfl, by kernel_rfl⟩
theorem pow_of {W:World} (h:laidMetH Tryz.prog zg W):Pow W:=by
 rw [MakeChecks.laidMetH_plain _ _ _ (by kernel_rfl)] at h;obtain ⟨ps,hl,_,_⟩:=h;obtain ⟨_,_,_,_,_,q1,_,_,_,_,hl1,_⟩:=hl;obtain ⟨_,_,_,_,_,q2,_,_,_,_,hl2,_⟩:=hl1;obtain ⟨g',t',cs,fuel,p,q,hg',ht',hvar,hd,_,_⟩:=hl2;obtain ⟨g,t,hg,hty,ht,hct⟩:=gPow;obtain rfl:=Option.some.inj (hg.symm.trans hg');obtain rfl:=Option.some.inj (hty.symm.trans ht');rw [J6] at hd;unfold Pow Lib.TabIs;rw [hvar,<-Lib.cells_of_tab ht (by kernel_rfl) (by kernel_rfl) hct hd]
