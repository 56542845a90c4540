import Derived.Test.YtiahkfoojjpaaaaGreatDoorS48
import Derived.Test.YtiahkfoojjpaaaaGreatDoorS47
set_option maxRecDepth 100000
set_option maxHeartbeats 16000000
set_option linter.all false
namespace Go.Proofs.YtiahkfoojjpaaaaGreatDoor
open Go.RowKit
section
variable {w0 w w' w2:World}{mb sb db lo hi eb:Nat}{s s':Mst}{u:Ust}{σ:Sst}{S:fN}
theorem IY{src:ByteArray}{b:Nat}(h:Qm w w' b 0 S)(hS:lQ src=.ok S)(hp:Pow w):∃lo hi σ,Prg w' lo hi b σ S/\Kp [] w w':=by
 obtain⟨σ,h1,h2,h3⟩:=h;exact⟨_,_,σ,⟨h2,h1,Iu hS,hp.aj h3⟩,h3⟩
theorem Ed.far(h:Ed w0 w eb mb sb db S s u){p:Nat}(hp:w.heap.size<=p):¬Ed.blk eb mb db s p:=fun q=>by
 have:=h.lt q;omega
theorem Lft.bl{x:Nat}{cv:List Value}(l:Lft w0 w eb mb db s w' s')(B:Bl w x cv)(hx:¬Ed.blk eb mb db s x):Bl w' x cv/\¬Ed.blk eb mb db s' x:=by
 refine⟨B.tL (l.same x B.lt hx),fun q=>?_⟩;rcases l.from_ x q with r|r
 .exact hx r
 .have:=B.lt;omega
theorem does_t{src:ByteArray}{inp o:List UInt8}{st:Nat}{a b:Ust.Rep×Ust}(hw:Nm w)(hpw:Pow w)(hS:lQ src=.ok S)(hin:inp.length<=281474976710656)(ha:(ua S.ahead S.names.length S.ranges).feed S inp=a)(hb:a.2.end_ S=b)(ho:a.1.out++b.1.out=o)(hol:o.length<=1000000)(h1:b.1.over=true)(h2:b.1.err=0)(h3:b.1.status=st)(h4:a.1.err=0):Calls Tryz.prog 21 #[.string src,.string (ba inp),.string (ba o),.int .i64 st] w fun r w'=>r=.returned (.bool true)/\Kp [] w w':=by
 have HC:=qF src hw;rw[hS] at HC;replace HC:=hid HC;have HF:=hid (And.intro ha (And.intro hb (And.intro ho (And.intro hol (And.intro h1 (And.intro h2 (And.intro h3 h4)))))));have HS:=hid hS;have HPW:=hid hpw;have HIN:=hid hin;clear ha hb ho hol h1 h2 h3 h4 hS hpw hin hw;go_enter Tryz.func21,Tryz.ntmps21
 go_wp2_with fail;refine HC.out.mono ?_;rintro r w1 ⟨sb,rfl,hg⟩;obtain⟨lo,hi,σ,hP,k1⟩:=IY hg HS.out HPW.out;have HPP:=hid hP;have HST:=hid (AB hP (Kp.refl [] w1));clear HC hg hP;go_wp2_with fail;refine HST.out.mono ?_;rintro r w2 ⟨eb,mb,db,s2,rfl,E2,k2,_⟩;have HFD:=Kg (d:=inp) HPP.out E2 (fun _=>by show 0+inp.length+0<=_;have:=HIN.out;omega);rw[HF.out.1] at HFD;replace HFD:=hid HFD;clear HST E2;go_wp2_with fail;refine HFD.out.mono ?_;rintro r w3 ⟨rfl,s3,E3,l3⟩;clear HFD l3;have B4:=Bl.alloc w3 (fQ a.1.out a.1.over a.1.err a.1.status) 31;have k4:=Kp.alloc [] w3 (.cells (fQ a.1.out a.1.over a.1.err a.1.status).toArray 31);have E4:=E3.aj k4;have far4:=E3.far (QD w3.heap.size);obtain⟨w4,hw4⟩:∃w4,w4=w3.alloc (.cells (fQ a.1.out a.1.over a.1.err a.1.status).toArray 31):=⟨_,rfl⟩;obtain⟨xa,hxa⟩:∃xa,xa=w3.heap.size:=⟨_,rfl⟩;have kk3:=E3.m.r.kp;clear E3;go_wp2_with fail;rw[<-hw4,<-hxa];rw[<-hw4,<-hxa] at B4
 rw[<-hw4] at E4 k4;rw[<-hxa] at far4;clear hw4 hxa;have HE:=end_t HPP.out E4;rw[HF.out.2.1,HF.out.2.2.2.2.1] at HE;refine HE.mono ?_;rintro r w5 ⟨rfl,s5,E5,l5⟩;obtain⟨ba5,_⟩:=l5.bl B4 far4;have k45:Kp [] w1 w5:=E5.m.r.kp;have k6:=Kp.alloc [] w5 (.cells (fQ b.1.out true b.1.err b.1.status).toArray 31);have ba6:=ba5.aj k6 (by simp);have bb6:=Bl.alloc w5 (fQ b.1.out true b.1.err b.1.status) 31;have a0:=ba6.at_ 0 _ rfl;have a2:=ba6.at_ 2 _ rfl;obtain⟨_,_,ho,hol,h1,h2,h3,h4⟩:=HF.out;have g2:((b.1.err:Int)==0)=true:=by rw[h2];rfl
 have g3':((b.1.status:Int)==(st:Int))=true:=by rw[h3];simp
 have g4:((a.1.err:Int)==0)=true:=by rw[h4];rfl
 have hcmp:((ba a.1.out++ba b.1.out).toList==(ba o).toList)=true:=by rw[tN,ho];simp
 have hsz:¬9223372036854775807<(ba a.1.out).size+(ba b.1.out).size:=by
  rw[ay,ay];have:=congrArg List.length ho;rw[Qy] at this;omega
 have b0:=bb6.at_ 0 _ rfl;have b1:=bb6.at_ 1 _ rfl;have b2:=bb6.at_ 2 _ rfl;have b3:=bb6.at_ 3 _ rfl;clear ho hol h1 h2 h3 h4 HE HF E5 E4 far4;go_wp2_with fail;go_ret;exact⟨rfl,k1.trans (k45.trans k6)⟩
theorem Ma:wkS.ahead=false:=by decide +kernel
theorem wk_ust0:ua wkS.ahead wkS.names.length wkS.ranges=ua false 0 0:=by rw[Ma,rE.2.2.1,rE.2.2.2]
theorem does_wk(hw:Nm w)(hpw:Pow w):Calls Tryz.prog 21 #[.string ⟨#[115,47,98,47,120,47]⟩,.string ⟨#[97,98,99,10,97,98]⟩,.string ⟨#[97,120,99,10,97,120,10]⟩,.int .i64 0] w fun r w'=>r=.returned (.bool true)/\Kp [] w w':=by
 have h:=does_t (w:=w) (S:=wkS) (inp:=[97,98,99,10,97,98]) (o:=[97,120,99,10,97,120,10]) (st:=0) hw hpw wk_scr (by decide) ((congrArg (fun x:Ust=>x.feed wkS [97,98,99,10,97,98]) wk_ust0).trans Hk.1) Hk.2 rfl (by decide) rfl rfl rfl rfl;exact h
theorem bp_ok:(match iP Lf 0 with
  | .ok (G,x)=>(G==0)&&((qW (cdL (codeOf x.pi)) (1+x.pi.len) x.pi.dd abbc (x.pi.em 1 0 0).2 50 5 0 [] mc0).map (fun s=>(s.fd,s.fc 0,s.fc 1))==some (true,1,3))
  | .error _=>false)=true:=by decide +kernel
theorem Oh(hw:Nm w):Calls Tryz.prog 20 #[.string Lf,.string abbc,.int .i64 1,.int .i64 3] w fun e w'=>e=.returned (.bool true)/\Kp [] w w':=by
 have H:=AW (src:=Lf) (fr:=0) (by decide) (by decide);have q:=bp_ok
 cases e:iP Lf 0 with
 | error z=>rw[e] at q;cases q
 | ok z=>
  obtain⟨G,x⟩:=z;rw[e] at H q;obtain⟨hq,_,hr⟩:=H;simp only[RO,beq_iff_eq] at q;obtain⟨rfl,q⟩:=q;refine J6 (a:=1) (b:=3) hw (by decide) (by decide) hq.dd (zO (q:=⟨Lf,0,x⟩) hq).bg hr (fun B w p pt=>KT (hq.ok.sm noB) pt) (fun s' h=>?_)
  cases e:qW (cdL (codeOf x.pi)) (1+x.pi.len) x.pi.dd abbc (x.pi.em 1 0 0).2 50 5 0 [] mc0 with
  | none=>rw[e] at q;cases q
  | some r=>
   have:=CX (F:=50) _ _ _ _ h e;subst this;rw[e] at q;simp only[SI,Option.some.injEq,Prod.mk.injEq] at q;exact⟨q.1,q.2.1,q.2.2⟩
theorem works_t(hw:Nm w)(hpw:Pow w):Calls Tryz.prog 8 #[] w fun r w'=>r=.returned (.bool true)/\Kp [] w w':=by
 have H1:=hid (Oh hw);have H2:Hid (∀w1,Kp [] w w1->Calls Tryz.prog 21 #[.string ⟨#[115,47,98,47,120,47]⟩,.string ⟨#[97,98,99,10,97,98]⟩,.string ⟨#[97,120,99,10,97,120,10]⟩,.int .i64 0] w1 fun r w'=>r=.returned (.bool true)/\Kp [] w1 w'):=hid (fun w1 k1=>does_wk (hw.aj k1 (by simp)) (hpw.aj k1));clear hw hpw;go_enter Tryz.func8,Tryz.ntmps8
 go_wp2_with fail;refine H1.out.mono ?_;rintro r w1 ⟨rfl,k1⟩;go_wp2_with fail;refine(H2.out w1 k1).mono ?_;rintro r w2 ⟨rfl,k2⟩;go_wp2_with fail;go_ret;exact⟨rfl,k1.trans k2⟩
end
section
variable {u v:Ust}{S:fN}{d d1 d2:List UInt8}
theorem BJ:(u.end_ S).2.over=true:=by
 unfold Ust.end_ Ust.qX;dsimp only;by_cases h:u.over=true
 .rw[QB h];exact h
 .rw[Qw h]
end
section
variable {w0 w w' w2 wx:World}{mb sb db lo hi eb:Nat}{s s':Mst}{u:Ust}{σ:Sst}{S:fN}
theorem Du(hP:Prg w0 lo hi sb σ S)(kx:Kp [] w0 wx):Calls Tryz.prog 11 #[.pointer (some ⟨sb,0,none⟩)] wx fun r w'=>r=.returned (.bool S.ahead)/\w'=wx:=by
 have HA:=hid (Lv hP kx);clear hP kx;go_enter Tryz.func11,Tryz.ntmps11
 go_wp2_with fail;refine HA.out.mono ?_;rintro r w1 ⟨rfl,rfl⟩;go_wp2_with fail;go_ret;exact⟨rfl,rfl⟩
end
