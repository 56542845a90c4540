/- What the claim needs of: XZ. -/
import Derived.Test.YtiahkfoojjpaaaaGreatDoorW47
set_option maxRecDepth 100000
set_option maxHeartbeats 16000000
set_option linter.unusedVariables false
set_option linter.unusedSimpArgs false
namespace Go.Proofs.YtiahkfoojjpaaaaGreatDoor
open Go.RowKit
theorem Tryz.KO:(Tryz.prog.info? 40).map (fun i=>(i.zero,i.size,i.bytes))=some (some (.agg #[.string ⟨#[]⟩,.string ⟨#[]⟩]),2,32):=by kernel_rfl
section
variable {w0 w w' w2:World} {mb sb db lo hi:Nat} {s s':Mst} {u:Ust} {σ:Sst} {S:eF}
def lO (cv:List Value) (ns:List ByteArray) (fb:List (List UInt8)) (i:Nat):Prop:=∀ j nm bs,j < i->ns[j]? = some nm->fb[j]? = some bs->cv[j * 2]? = some (.string nm)/\cv[j * 2+1]? = some (.string (ba bs))
theorem lO.put {cv:List Value} {ns:List ByteArray} {fb:List (List UInt8)} {i:Nat} {nm:ByteArray} {bs:List UInt8} (h:lO cv ns fb i) (h1:ns[i]? = some nm) (h2:fb[i]? = some bs) (hl:i * 2+1 < cv.length):lO ((cv.set (i * 2) (.string nm)).set (i * 2+1) (.string (ba bs))) ns fb (i+1):=by
 intro j nm' bs' hj q1 q2;by_cases e:j=i
 .subst e;rw [h1] at q1;rw [h2] at q2;injection q1 with q1;injection q2 with q2;subst q1 q2;refine ⟨?_,?_⟩
  .rw [Nx (by omega),Nv (by omega)]
  .rw [Nv (by rw [NO];omega)]
 .obtain ⟨r1,r2⟩:=h j nm' bs' (by omega) q1 q2;refine ⟨?_,?_⟩
  .rw [Nx (by omega),Nx (by omega)];exact r1
  .rw [Nx (by omega),Nx (by omega)];exact r2
theorem Ko {n:Nat} (h:Mac w0 w mb sb db s) (hs:Scr lo hi w0 sb 0 σ) (hn1:σ.ns.length=n) (hn2:s.r.fb.length=n) (hn:n<=2000) :
  Calls Tryz.prog 29 #[.pointer (some ⟨mb,0,none⟩)] w fun r w'=>∃ nb cv,r=.returned (.slice (some ⟨nb,0,none⟩) n n)/\Kp [] w w'/\Bl w' nb cv/\cv.length=n * 2/\lO cv σ.ns s.r.fb n/\w.heap.size<=nb:=by
 obtain ⟨i0,hi,hz0,hz1,hz2⟩:=info_parts Tryz.KO;have hmk:∀ w:World,(Instr.makeSlice 37 (.int .i64 n) (.int .i64 n)).run Tryz.prog w=.ok (.slice (some ⟨w.heap.size,0,none⟩) n n) (w.alloc (.cells (madeCells #[.string ⟨#[]⟩,.string ⟨#[]⟩] (n * 2)) 40)):=fun w=>by
  have q:=run_make (P:=Tryz.prog) w 37 40 i0 _ Tryz.underlying37 hi hz0 .i64 .i64 n n (by omega) (by omega) (by rw [hz2];omega) (by omega);rw [hz1] at q;exact q
 obtain ⟨A,c,ev,ev1,ev2⟩:=aP h.r.o3;have hfl:s.r.fl.length=n:=by rw [<-h.r.fll];exact hn2
 have c6:=h.b.at_ 6 _ rfl;replace c6:w.cell? ⟨mb,6,none⟩=some s.r.vf:=c6;rw [ev,hfl] at c6;obtain ⟨mc,hmc⟩:∃ mc,mc=(madeCells #[.string ⟨#[]⟩,.string ⟨#[]⟩] (n * 2)).toList:=⟨_,rfl⟩;have hml:mc.length=n * 2:=by rw [hmc];simp [size_madeCells]
 have hmt:madeCells #[.string ⟨#[]⟩,.string ⟨#[]⟩] (n * 2)=mc.toArray:=by rw [hmc]
 rw [hmt] at hmk;obtain ⟨nb,hnb⟩:∃ nb,nb=w.heap.size:=⟨_,rfl⟩;obtain ⟨wa,hwa⟩:∃ wa,wa=w.alloc (.cells mc.toArray 40):=⟨_,rfl⟩;have B0:Bl wa nb mc:=by rw [hwa,hnb];exact Bl.alloc w mc _
 have k0:Kp [] w wa:=by rw [hwa];exact Kp.alloc [] w _
 have HB0:=hid B0;have HK0:=hid k0;have HM:=hid (And.intro hml (And.intro hn1 (And.intro hn2 hfl)));have HH:=hid h;have HS:=hid hs;have HV:=hid ev;have HNB:=hid hnb;clear hmc hml hmt B0 k0 hn1 hn2 hfl h hs ev ev1 ev2 hi hz0 hz1 hz2;go_enter Tryz.func29,Tryz.ntmps29
 go_wp2_with fail;rw [<-hwa,<-hnb];clear hmk c6 hnb hwa;go_loopw [4,14] (fun _ i wr=>∃ (j:Nat) (cv:List Value),j<=n/\i=.int .i64 j/\Hid (cv.length=n * 2)/\Hid (lO cv σ.ns s.r.fb j)/\Hid (Bl wr nb cv)/\Hid (Kp [] w wr)) (fun _ i _=>5000 - (intOf i).toNat)
 case atStart=>exact ⟨0,mc,Ns _,rfl,hid HM.out.1,hid (fun j _ _ hj=>absurd hj (by omega)),HB0,HK0⟩
 case round=>
  obtain ⟨j,cv,hj,rfl,HL,HF,HB,HK⟩:=hrel;by_cases hjn:j < n
  case neg=>
   have hjj:j=n:=by omega
   subst hjj;go_wp2_with fail;go_ret;exact ⟨nb,cv,rfl,HK.out,HB.out,HL.out,HF.out,by rw [HNB.out];exact Np _⟩
  case pos=>
   obtain ⟨hml,hn1,hn2,hfl⟩:=HM.out;have m1:=HH.out.aj HK.out;have s1:=HS.out.aj m1.r.kp (fun _ e=>by cases e);obtain ⟨nm,hnm⟩:∃ nm,σ.ns[j]? = some nm:=⟨_,Nk (by omega)⟩;obtain ⟨fv,hfv⟩:∃ fv,s.r.fl[j]? = some fv:=⟨_,Nk (by omega)⟩;obtain ⟨bs,hbs,ofl⟩:=m1.r.ofl j fv hfv;obtain ⟨An,cn,evn,evn1,evn2⟩:=aP s1.o5;obtain ⟨Af,cf,evf,evf1,evf2⟩:=aP m1.r.o3;have on:=s1.o5;have of_:=m1.r.o3;have c2:=s1.c2;have c6:wr.cell? ⟨mb,6,none⟩=some s.r.vf:=m1.b.at_ 6 _ rfl;rw [evn,hn1] at c2;rw [evf,hfl] at c6;rw [evn,hn1] at on;rw [evf,hfl] at of_
   cases An with
   | none=>have:=evn1 rfl;omega
   | some an=>
   obtain ⟨gn,rfl⟩:=evn2 an rfl
   cases Af with
   | none=>have:=evf1 rfl;omega
   | some af=>
   obtain ⟨gf,rfl⟩:=evf2 af rfl;have cn1:wr.cell? ⟨gn,j,none⟩=some (.string nm):=(on.cellAt j (by omega)).trans (by rw [NY,hnm];rfl);have cf1:wr.cell? ⟨gf,j,none⟩=some fv:=(of_.cellAt j (by omega)).trans hfv;have hcv:=fK ofl;have hb1:=HB.out;have hL2:j * 2+1 < cv.length:=by rw [HL.out];omega
   obtain ⟨z0,hz0⟩:∃ z0,cv[j * 2]? = some z0:=⟨_,Nk (by omega)⟩;obtain ⟨z1,hz1⟩:∃ z1,cv[j * 2+1]? = some z1:=⟨_,Nk hL2⟩;have hc0:=hb1.at_ (j * 2) z0 hz0;have hc1:=hb1.at_ (j * 2+1) z1 hz1;have f0:=hb1.free (j * 2);have f1:=hb1.free (j * 2+1);have HFP:=hid (HF.out.put hnm hbs (by rw [HL.out];omega));have c0:=m1.b.at_ 0 _ rfl;obtain ⟨wd,hwd⟩:∃ wd,wd=wr.drew:=⟨_,rfl⟩;have hS:(fun w':World=>w'.cell? ⟨mb,0,none⟩=some (.pointer (some ⟨sb,0,none⟩))/\w'.cell? ⟨sb,2,none⟩=some (.slice (some ⟨gn,0,none⟩) n cn)/\w'.cell? ⟨gn,j,none⟩=some (.string nm)/\w'.cell? ⟨mb,6,none⟩=some (.slice (some ⟨gf,0,none⟩) n cf)/\w'.cell? ⟨gf,j,none⟩=some fv/\(convert 49 9 fv).run Tryz.prog w'=.ok (.string (ba bs)) w') wd:=by rw [hwd];exact ⟨c0,c2,cn1,c6,cf1,fK (w:=wr.drew) ofl⟩
   have kd:Kp [] wr wd:=by rw [hwd];exact Kp.drew [] wr
   have hbd:=hb1.aj kd (by simp);have HBD:=hid hbd;have HKD:=hid kd;have HL2:=hid hL2;have HZ:=hid (And.intro hz0 hz1);have HN3:=hid (And.intro hnm (And.intro hbs hfv));clear hml hn1 hn2 hfl m1 s1 hnm hbs hfv ofl evn evn1 evn2 evf evf1 evf2 on of_ c2 c6 cn1 cf1 hcv hb1 hc0 hc1 f0 f1 c0 hbd kd hL2 hz0 hz1;go_upto_region 5 with fail
   refine ay (fun w':World=>w'.cell? ⟨mb,0,none⟩=some (.pointer (some ⟨sb,0,none⟩))/\w'.cell? ⟨sb,2,none⟩=some (.slice (some ⟨gn,0,none⟩) n cn)/\w'.cell? ⟨gn,j,none⟩=some (.string nm)/\w'.cell? ⟨mb,6,none⟩=some (.slice (some ⟨gf,0,none⟩) n cf)/\w'.cell? ⟨gf,j,none⟩=some fv/\(convert 49 9 fv).run Tryz.prog w'=.ok (.string (ba bs)) w') 23 (by kernel_rfl) ?_;rw [<-hwd];clear hwd;iterate 23 (refine tkn (v:=?_) rfl (by kernel_rfl) (fun _ _ _ h=>h) ⟨rfl,fun w hSw=>?_⟩ hS ?_;rotate_left;(focus ((try dsimp only at hSw);go_simp;(try with_reducible rfl)));(try simp only [Nc,Nb,Na,Act.put,MZ,Nf,Ng]))
   have e0:=HBD.out.at_ (j * 2) z0 HZ.out.1;have e1:=HBD.out.at_ (j * 2+1) z1 HZ.out.2;have g0:=HBD.out.free (j * 2);have g1:=HBD.out.free (j * 2+1);refine ag (i:=23) (by kernel_rfl) rfl (fun K hK=>?_);go_simp;refine hK.out _ _ (.inl rfl) ?_;clear hK K;refine au (by kernel_rfl) ?_ _;have B2:=hid ((HBD.out.set (j * 2) (.string nm) (by have:=HL2.out;omega)).set (j * 2+1) (.string (ba bs)) (by rw [NO];exact HL2.out));have k2:Kp [nb] wd ((wd.setCell ⟨nb,j * 2,none⟩ (.string nm)).setCell ⟨nb,j * 2+1,none⟩ (.string (ba bs))):=(Kp.setCell _ _ (by simp)).trans (Kp.setCell _ _ (by simp));have K2:=hid ((HK.out.trans HKD.out).past k2 (fun x hx=>.inr (by rw [List.mem_singleton.1 hx,HNB.out];exact Np _)));obtain ⟨w9,hw9⟩:∃ w9,w9=(wd.setCell ⟨nb,j * 2,none⟩ (.string nm)).setCell ⟨nb,j * 2+1,none⟩ (.string (ba bs)):=⟨_,rfl⟩;rw [<-hw9] at B2 K2 ⊢;clear hw9 k2 e0 e1 g0 g1 hS;go_wp2_with fail;go_round
   case rel=>exact ⟨j+1,_,by omega,rfl,hid (by rw [NO,NO];exact HL.out),HFP,B2,K2⟩
   case measure=>simp [intOf];omega
theorem Ik {eb:Nat} (hP:Prg w0 lo hi sb σ S) (h:Ed w0 w eb mb sb db S s u) (hf:u.fb.length=S.names.length) :
  Calls Tryz.prog 16 #[.pointer (some ⟨eb,0,none⟩)] w fun r w'=>∃ nb cv,r=.returned (.slice (some ⟨nb,0,none⟩) S.names.length S.names.length)/\Kp [] w w'/\Bl w' nb cv/\cv.length=S.names.length * 2/\lO cv S.names u.fb S.names.length/\w.heap.size<=nb:=by
 have he:=h.e;have efb:s.r.fb=u.fb:=congrArg Pst.fb h.p;have HF:=Ko h.m hP.sc (by rw [hP.pg.ns]) (by rw [efb];exact hf) hP.ok.nl;rw [hP.pg.ns,efb] at HF;replace HF:=hid HF;clear h hP efb hf
 have HID:Hid (Calls Tryz.prog 26 #[.pointer (some ⟨eb,0,none⟩)] w fun r w'=>r=.returned (.bool false)/\w'=w):=hid (by
  go_enter Tryz.func26,Tryz.ntmps26
  go_wp2_with fail;go_ret
  exact ⟨rfl,rfl⟩)
 go_enter Tryz.func16,Tryz.ntmps16
 go_wp2_with fail;refine HID.out.mono ?_;rintro r w1 ⟨rfl,rfl⟩;go_wp2_with fail;refine HF.out.mono ?_;rintro r w2 ⟨nb,cv,rfl,k2,B2,l2,f2,n2⟩;go_wp2_with fail;go_ret;exact ⟨nb,cv,rfl,k2,B2,l2,f2,n2⟩
end
end Go.Proofs.YtiahkfoojjpaaaaGreatDoor
