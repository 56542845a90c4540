import Derived.Test.YtiahkfoojjpaaaaGreatDoorT23
set_option maxRecDepth 100000
set_option maxHeartbeats 16000000
set_option linter.all false
namespace Go.Proofs.YtiahkfoojjpaaaaGreatDoor
open Go.RowKit
section
variable {w w':World} {b k:Nat} {src:ByteArray}
theorem Mx (hr:Cur w b src k) (hk:k < src.size) (h10:saw src k 10=false) :
  Calls Tryz.prog 164 #[.pointer (some ⟨b,0,none⟩)] w fun e w'=>e=.returned (.tuple #[])/\Cur w' b src k/\Mv b w w':=by
 have he:((k:Int) == (src.size:Int))=false:=by simp;omega
 have H:=hid h10;clear h10;go_enter Tryz.func164,Tryz.ntmps164
 go_wp2_with fail;refine (dj hr he).mono ?_;rintro e w1 ⟨rfl,h1,m1⟩;go_wp2_with fail;refine (df 10 h1 H.out).mono ?_;rintro e w2 ⟨rfl,h2,m2⟩;go_wp2_with fail;go_end0;exact ⟨rfl,h2,m1.trans m2⟩
theorem gX (hr:Cur w b src k) (hk:k < src.size) (h10:saw src k 10=false) {v:Bool} (h:saw src k 47=v) :
  Calls Tryz.prog 163 #[.pointer (some ⟨b,0,none⟩)] w fun e w'=>e=.returned (.bool v)/\Cur w' b src (if v then k+1 else k)/\Mv b w w':=by
 have H:=hid h;clear h;go_enter Tryz.func163,Tryz.ntmps163
 go_wp2_with fail;refine (Mx hr hk h10).mono ?_;rintro e w1 ⟨rfl,h1,m1⟩;have T:=hid (aX 47 h1 H.out)
 cases v
 all_goals
  go_wp2_with fail;refine T.out.mono ?_;rintro e w2 ⟨rfl,h2,m2⟩;go_wp2_with fail;go_ret;exact ⟨rfl,h2,m1.trans m2⟩
theorem part_v {x:UInt8} (esc:ByteArray) (hr:Cur w b src k) (hk:k < src.size) (hx:src[k]=x) (h:saw src k 92=false) :
  Calls Tryz.prog 138 #[.pointer (some ⟨b,0,none⟩),.string esc] w fun e w'=>e=.returned (.int .u8 (x.toNat:Nat))/\Cur w' b src (k+1)/\Mv b w w':=by
 have H:=hid h;have hsm:=hr.small;have HX:=hid hx;clear h hx;go_enter Tryz.func138,Tryz.ntmps138
 go_wp2_with fail;refine (df 92 hr H.out).mono ?_;rintro e w1 ⟨rfl,h1,m1⟩;have c1:=h1.c1;have f1:=h1.free 1;have s2:=h1.step hk;have m2:=m1.trans (Mv.step b w1 (.int .i64 ((k:Int)+1)));obtain ⟨v1,hv1⟩:∃ v1:Int,v1=(k:Int)+1:=⟨_,rfl⟩;rw [<-hv1] at s2 m2;obtain ⟨w2,hw2⟩:∃ w2,w2=w1.setCell ⟨b,1,none⟩ (.int .i64 v1):=⟨_,rfl⟩;rw [<-hw2] at s2 m2;have d0:=s2.c0;have d1:=s2.c1;have e1:((k+1:Nat):Int) - 1=(k:Int):=by omega
 have wk:=aa k (by omega);have c5:(⟨src.data⟩:ByteArray)[k]=x:=HX.out;obtain ⟨k1,hk1⟩:∃ k1,k1=k+1:=⟨_,rfl⟩;rw [<-hk1] at d1 e1;clear hk1;go_upto_region 3 with fail
 rw [<-hv1,<-hw2];clear hw2 c1 f1;go_quiet (fail);go_wp2_with fail;go_ret;exact ⟨rfl,s2.drewN _,m2.trans (Mv.drewN _ _ _)⟩
end
section
variable {w0 w w':World} {mb sb db lo hi:Nat} {s s':Mst} {σ:Sst}
def Pst.none (p:Pst):Bool:=p.ended && (p.left.toList == [])
theorem G8 {b:Bool} (h:Mac w0 w mb sb db s) (hb:s.p.none=b):Calls Tryz.prog 120 #[.pointer (some ⟨mb,2,none⟩)] w fun r w'=>r=.returned (.bool b)/\w'=w:=by
 have c2:=h.b.at_ 2 _ rfl;have c4:=h.b.at_ 4 _ rfl;have hb:(s.ended && (s.left.toList == []))=b:=hb;go_enter Tryz.func120,Tryz.ntmps120
 cases he:s.ended with
 | false=>
  rw [he] at c4 hb;subst hb;go_wp2_with fail;go_ret;exact ⟨rfl,rfl⟩
 | true=>
  rw [he] at c4 hb
  cases hq:(s.left.toList == []) with
  | false=>
   rw [hq] at hb;subst hb;go_wp2_with fail;go_ret;exact ⟨rfl,rfl⟩
  | true=>
   rw [hq] at hb;subst hb;go_wp2_with fail;go_ret;exact ⟨rfl,rfl⟩
theorem xY {t:ByteArray} (ht:t.size<=4000) (w:World):Calls Tryz.prog 115 #[.string t] w fun r w'=>r=.returned (.string t)/\w'=w:=by
 have hq:¬ 4000 < t.size:=by omega
 go_enter Tryz.func115,Tryz.ntmps115
 go_wp2_with fail;go_ret;exact ⟨rfl,rfl⟩
theorem lZ {a b:List UInt8} (h:a.length+1+b.length<=4000) (w:World):Calls Tryz.prog 119 #[.string (ba a),.string (ba b)] w fun r w'=>r=.returned (.string (ba (a++10::b)))/\w'=w:=by
 obtain ⟨c,hc⟩:∃ c,c=a++[10]:=⟨_,rfl⟩;obtain ⟨d,hd⟩:∃ d,d=c++b:=⟨_,rfl⟩;have e1:ba a++⟨#[10]⟩=ba c:=by rw [hc];exact jG a [10]
 have e2:ba c++ba b=ba d:=by rw [hd];exact jG c b
 have ed:a++10::b=d:=by rw [hd,hc];simp
 have za:=ax a;have zb:=ax b;have zc:(ba c).size=a.length+1:=by rw [ax,hc,Nu];rfl
 have zd:(ba d).size=a.length+1+b.length:=by rw [ax,hd,hc,Nu,Nu];rfl
 have o1:¬ 9223372036854775807 < a.length+1:=by omega
 have o2:¬ 9223372036854775807 < a.length+1+b.length:=by omega
 rw [ed];have HB:=hid (fun w=>xY (t:=ba d) (by omega) w);clear hc hd ed;go_enter Tryz.func119,Tryz.ntmps119
 go_wp2_with fail;refine (HB.out _).mono ?_;rintro r w1 ⟨rfl,rfl⟩;go_wp2_with fail;go_ret;exact ⟨rfl,rfl⟩
def Pst.got (a b:List UInt8) (p:Pst):Pst:={ p with space:=ba (a++10::b) }
def Pst.holds (p:Pst):Pst:={ p with held:=p.space }
abbrev gmV:Value:=.func (.func 124) #[] #[]
def Pst.goto (k:Nat) (p:Pst):Pst:={ p with pc:=k }
theorem getBehind_v {cp:Value} {a b:List UInt8} (h:Mac w0 w mb sb db s) (ha:s.space=ba a) (hb:s.held=ba b) (hl:a.length+1+b.length<=4000) :
  Calls Tryz.prog 68 #[.pointer (some ⟨mb,0,none⟩),cp] w fun r w'=>r=.returned (.tuple #[])/\aZ w0 mb sb db w s w' (s.p.got a b):=by
 have c9:=h.b.at_ 9 _ rfl;have c10:=h.b.at_ 10 _ rfl;have f9:=h.b.free 9;rw [ha] at c9;rw [hb] at c10;have H:=hid (fun w=>lZ hl w);have m1:=h.aj (Kp.drew [] w);have m2:=m1.set (s':={ s with space:=ba (a++10::b) }) 9 (.string (ba (a++10::b))) (by omega) rfl rfl;have gr:Gr mb db w s.r (w.drew.setCell ⟨mb,9,none⟩ (.string (ba (a++10::b)))) s.r:=(Gr.de (Kp.drew [] w) (fun _ e=>by cases e)).trans (Gr.set _ _ _ _);have G2:Hid (aZ w0 mb sb db w s (w.drew.setCell ⟨mb,9,none⟩ (.string (ba (a++10::b)))) (s.p.got a b)):=hid ⟨_,rfl,m2,gr⟩;clear m1 m2 gr;go_enter Tryz.func68,Tryz.ntmps68
 go_region_with (go_at_call 119;refine (H.out _).mono ?_;rintro r w1 ⟨rfl,rfl⟩)
 all_goals
  go_wp2_with fail;go_end0;exact ⟨rfl,G2.out⟩
theorem hold_v {cp:Value} (h:Mac w0 w mb sb db s) :
  Calls Tryz.prog 69 #[.pointer (some ⟨mb,0,none⟩),cp] w fun r w'=>r=.returned (.tuple #[])/\aZ w0 mb sb db w s w' s.p.holds:=by
 have c9:=h.b.at_ 9 _ rfl;have c10:=h.b.at_ 10 _ rfl;have f10:=h.b.free 10;have G:=hid (aZ.set (s':={ s with held:=s.space }) h 10 (.string s.space) (by omega) rfl rfl);go_enter Tryz.func69,Tryz.ntmps69
 go_wp2_with fail;go_end0;exact ⟨rfl,G.out⟩
theorem pK {a b:List UInt8} (h:Mac w0 w mb sb db s) (ha:s.space=ba a) (hl:a.length+1+b.length<=4000) :
  Calls Tryz.prog 124 #[.pointer (some ⟨mb,0,none⟩),.string (ba b)] w fun r w'=>r=.returned (.tuple #[])/\aZ w0 mb sb db w s w' (s.p.got a b):=by
 have c9:=h.b.at_ 9 _ rfl;have f9:=h.b.free 9;rw [ha] at c9;have H:=hid (fun w=>lZ hl w);have G:=hid (aZ.set (s':={ s with space:=ba (a++10::b) }) h 9 (.string (ba (a++10::b))) (by omega) rfl rfl);go_enter Tryz.func124,Tryz.ntmps124
 go_wp2_with fail;refine (H.out _).mono ?_;rintro r w1 ⟨rfl,rfl⟩;go_wp2_with fail;go_end0;exact ⟨rfl,G.out⟩
theorem Ma {ca co k:Nat} (h:Mac w0 w mb sb db s) (hc:w.cell? ⟨ca,co+5,none⟩=some (.int .i64 k)) :
  Calls Tryz.prog 58 #[.pointer (some ⟨mb,0,none⟩),.pointer (some ⟨ca,co,none⟩)] w fun r w'=>r=.returned (.tuple #[])/\aZ w0 mb sb db w s w' (s.p.goto k):=by
 have c13:=h.b.at_ 13 _ rfl;have f13:=h.b.free 13;have G:=hid (aZ.set (s':={ s with pc:=k }) h 13 (.int .i64 k) (by omega) rfl rfl);go_enter Tryz.func58,Tryz.ntmps58
 go_wp2_with fail;go_end0;exact ⟨rfl,G.out⟩
theorem enter_v {cp:Value} (h:Mac w0 w mb sb db s) :
  Calls Tryz.prog 57 #[.pointer (some ⟨mb,0,none⟩),cp] w fun r w'=>r=.returned (.tuple #[])/\aZ w0 mb sb db w s w' s.p:=by
 go_enter Tryz.func57,Tryz.ntmps57
 go_wp2_with fail;go_end0;exact ⟨rfl,aZ.refl h⟩
end
theorem qh {P:Program} {w:World} {t k e:TypeId} {b c:Nat} {es:Array MapEntry} {x:Int} {z:Value} (ht:P.underlying t=some (.map k e)) (hk:P.underlying k=some (.int .u8)) (hz:(zeroValue e).run P w=.ok z w) (hb:w.heap[b]? = some (.map es c)) (hf:Instr.findNow (.int .u8) (.int .u8 x) es.toList 0=some none) :
  (Instr.lookup t (.map (some b)) (.int .u8 x) true).run P w=.ok (.tuple #[z,.bool false]) w:=by
 have hkey:MapKept.IsKey (.int .u8) (.int .u8 x):=by simp [MapKept.IsKey]
 simp [Instr.lookup,run_underlying ht,MapKept.run_getObj_map hb,MapKept.run_checkKey hk hkey,MapKept.run_findKey hk hf,Result.andThen,hz]
theorem Eh (w:World):(zeroValue 134).run Tryz.prog w=.ok .nilFunc w:=by simp [go_sem]
section
variable {w0 w w':World} {mb sb db lo hi:Nat} {s s':Mst} {σ:Sst}
theorem look_jump {x i f g cap goal:Nat} {nt b:Bool} {c:List Value} {p2:Pst} (h:Mac w0 w mb sb db s) (hs:Scr lo hi w0 sb 0 σ) (hc:σ.cs[s.pc]? = some c) (hv:σ.vc=.slice (some ⟨g,0,none⟩) σ.cs.length cap) (hx:c[3]? = some (.int .u8 x)) (hnt:c[2]? = some (.bool nt))
  (ht:Instr.findNow (.int .u8) (.int .u8 x) (tabE 0 ij) 0=some (some (i,.func (.func f) #[] #[]))) (hst:s.steps < 2000) (hpc:s.pc < 2000)
  (hA:∀ w1 s1,Mac w0 w1 mb sb db s1->s1.p=({ s.p with pc:=s.pc+1,steps:=s.steps+1 }:Pst)->Calls Tryz.prog 129 #[.pointer (some ⟨mb,0,none⟩),.pointer (some ⟨g,s.pc * 23,none⟩)] w1 fun r w'=>r=.returned (.bool b)/\aZ w0 mb sb db w1 s1 w' p2)
  (hb:b=nt) (hx123:x=123) (h5:c[5]? = some (.int .i64 goal)) :
  Calls Tryz.prog 83 #[.pointer (some ⟨mb,0,none⟩)] w fun r w'=>r=.returned (.tuple #[])/\aZ w0 mb sb db w s w' (p2.goto goal):=by
 have HX123:=hid hx123;clear hx123;have hsw:=hs.aj h.r.kp (fun _ e=>by cases e);obtain ⟨g',cap',e,hcell⟩:=hsw.cmd hc;obtain rfl:g'=g:=by rw [hv] at e;injection e with e _ _;injection e with e;injection e with e;exact e.symm
 have hlt:=(List.getElem?_eq_some_iff.1 hc).1;have c1:=hsw.c1;rw [hv] at c1;have c0:=h.b.at_ 0 _ rfl;have c13:=h.b.at_ 13 _ rfl;have hne:((s.pc:Int) == (σ.cs.length:Int))=false:=by rw [Nz];omega
 have HA:=hid hA;have HS:=hid hs;have HC:=hid hcell;clear hA hs hcell e;go_enter Tryz.func83,Tryz.ntmps83
 go_wp2_with fail;go_quiet (fail);have ha:=h.aj (Kp.drewN [] w nq);have ga:Gr mb db w s.r (w.drewN nq) s.r:=Gr.de (Kp.drewN [] w nq) (fun _ e=>by cases e);have hca:∀ j u,c[j]? = some u->(w.drewN nq).cell? ⟨g',s.pc * 23+j,none⟩=some u:=HC.out;have c1a:(w.drewN nq).cell? ⟨sb,0+1,none⟩=some (.slice (some ⟨g',0,none⟩) σ.cs.length cap):=c1;clear c0 c1 c13 hsw HC;obtain ⟨wa,hwa⟩:∃ wa,wa=w.drewN nq:=⟨_,rfl⟩;rw [<-hwa] at ha ga hca c1a ⊢;clear hwa;have HCA:=hid hca;clear hca;have c0:=ha.b.at_ 0 _ rfl;have c13:=ha.b.at_ 13 _ rfl;have f13:=ha.b.free 13;go_wp2_with fail;go_quiet (fail);obtain ⟨wb,hwb⟩:∃ wb,wb=wa.drewN nq:=⟨_,rfl⟩;have hb':=ha.aj (Kp.drewN [] wa nq);have gb:=ga.trans (Gr.de (r:=s.r) (Kp.drewN [] wa nq) (fun _ e=>by cases e));have hcb:∀ j u,c[j]? = some u->(wa.drewN nq).cell? ⟨g',s.pc * 23+j,none⟩=some u:=HCA.out;rw [<-hwb] at hb' gb hcb ⊢;clear hwb c0 c13 f13 c1a HCA ha ga h;have c13:=hb'.b.at_ 13 _ rfl
 have f13:=hb'.b.free 13;have HCB:=hid hcb;clear hcb;obtain ⟨n1,hn1⟩:∃ n1:Nat,n1=s.pc+1:=⟨_,rfl⟩;have wr:=aP s.pc n1 hn1 (by omega);have m1:=hb'.set (s':={ s with pc:=n1 }) 13 (.int .i64 (n1:Int)) (by omega) rfl rfl;have g1:=gb.trans (Gr.set (mb:=mb) (db:=db) wb s.r 13 (.int .i64 (n1:Int)));have hc1:∀ j u,c[j]? = some u->(wb.setCell ⟨mb,13,none⟩ (.int .i64 (n1:Int))).cell? ⟨g',s.pc * 23+j,none⟩=some u:=((HS.out.aj m1.r.kp (fun _ e=>by cases e)).cmd hc).elim fun g2 q=>q.elim fun cap2 q=>by
  obtain ⟨e,q⟩:=q;obtain rfl:g2=g':=by rw [hv] at e;injection e with e _ _;injection e with e;injection e with e;exact e.symm
  exact q
 have HN1:=hid hn1;have M1:=hid m1;have G1:=hid g1;have HC1:=hid hc1;clear hn1 m1 g1 hc1 gb hb';go_wp2_with fail;obtain ⟨w1,hw1⟩:∃ w1,w1=wb.setCell ⟨mb,13,none⟩ (.int .i64 (n1:Int)):=⟨_,rfl⟩;rw [<-hw1] at M1 G1 HC1 ⊢;clear hw1 c13 f13 HCB wr;have e1:=M1.out.b.at_ 1 _ rfl;have k3:=HC1.out 3 _ hx;have hlk:∀ m,(Instr.lookup 95 (.map (some db)) (.int .u8 x) true).run Tryz.prog (w1.drewN m)=.ok (.tuple #[.func (.func f) #[] #[],.bool true]) (w1.drewN m):=fun m=>
  gi Tryz.underlying95 Tryz.underlying5 (((Kp.drewN [] w1 m).block _ (M1.out.r.bk.hi 1 _ rfl) (by simp)).trans M1.out.r.md) ht
 go_quiet (fail);have m2:=M1.out.aj (Kp.drewN [] w1 nq);have g2:=G1.out.trans (Gr.de (r:=s.r) (Kp.drewN [] w1 nq) (fun _ e=>by cases e));have h2:∀ j u,c[j]? = some u->(w1.drewN nq).cell? ⟨g',s.pc * 23+j,none⟩=some u:=HC1.out;obtain ⟨wd,hwd⟩:∃ wd,wd=w1.drewN nq:=⟨_,rfl⟩;rw [<-hwd] at m2 g2 h2 ⊢;clear hwd M1 G1 HC1 e1 k3 hlk;have c14:=m2.b.at_ 14 _ rfl;have f14:=m2.b.free 14;obtain ⟨n2,hn2⟩:∃ n2:Nat,n2=s.steps+1:=⟨_,rfl⟩;have wr:=aP s.steps n2 hn2 (by omega);have q2:¬ 2000 < n2:=by omega
 have m3:=m2.set (s':={ s with pc:=n1,steps:=n2 }) 14 (.int .i64 (n2:Int)) (by omega) rfl rfl;have g3:=g2.trans (Gr.set (mb:=mb) (db:=db) wd s.r 14 (.int .i64 (n2:Int)));have hsc:=HS.out.aj m3.r.kp (fun _ e=>by cases e);have key:∀ wx,Kp [] w0 wx->∀ j u,c[j]? = some u->wx.cell? ⟨g',s.pc * 23+j,none⟩=some u:=fun wx kx=>((HS.out.aj kx (fun _ e=>by cases e)).cmd hc).elim fun g2 q=>q.elim fun cap2 q=>by
  obtain ⟨e,q⟩:=q;obtain rfl:g2=g':=by rw [hv] at e;injection e with e _ _;injection e with e;injection e with e;exact e.symm
  exact q
 have KEY:=hid key;have M3:=hid m3;have G3:=hid g3;have HN2:=hid hn2;clear key hsc m2 g2 h2 hn2;go_wp2_with fail;obtain ⟨w3,hw3⟩:∃ w3,w3=wd.setCell ⟨mb,14,none⟩ (.int .i64 (n2:Int)):=⟨_,rfl⟩;rw [<-hw3] at M3 G3 ⊢;clear hw3 c14 f14 m3 g3 wr;have HAA:=hid (HA.out (w3.drew) { s with pc:=n1,steps:=n2 } (M3.out.aj (Kp.drew [] w3)) (by rw [HN1.out,HN2.out];rfl));have k2:=KEY.out _ M3.out.r.kp 2 _ hnt;go_cut [66] from 67 (fun v wx=>v=.bool false/\∃ s4,s4.p=p2/\Mac w0 wx mb sb db s4/\Gr mb db w s.r wx s4.r)
 case first=>
  go_region_with (go_at_call 129;refine HAA.out.mono ?_;rintro r w4 ⟨rfl,s4,e4,m4,g4⟩;have k2':=KEY.out _ m4.r.kp 2 _ hnt)
  all_goals
   go_wp2_with fail;go_meet
   case rel=>exact ⟨by first | rfl | (rw [hb];cases nt <;> rfl),s4,e4,m4,G3.out.trans ((Gr.de (r:=s.r) (Kp.drew [] w3) (fun _ e=>by cases e)).trans g4)⟩
 case rest=>
 obtain ⟨rfl,s4,e4,m4,g4⟩:=hcut;have k3:=KEY.out _ m4.r.kp 3 _ hx;have k5:=KEY.out _ m4.r.kp 5 _ h5;have c13:=m4.b.at_ 13 _ rfl;have f13:=m4.b.free 13;have q3:((x:Int) == 123)=true:=by rw [HX123.out];rfl
 have m5:=m4.set (s':={ s4 with pc:=goal }) 13 (.int .i64 goal) (by omega) rfl rfl;have g5:=g4.trans (Gr.set (mb:=mb) (db:=db) _ s4.r 13 (.int .i64 (goal:Int)));have G5:=hid (And.intro m5 g5);clear m5 g5;go_wp2_with fail;go_end0;exact ⟨rfl,{ s4 with pc:=goal },by show s4.p.goto goal=_;rw [e4],G5.out.1,G5.out.2⟩
theorem Dq {x g cap:Nat} {c:List Value} (h:Mac w0 w mb sb db s) (hs:Scr lo hi w0 sb 0 σ) (hc:σ.cs[s.pc]? = some c) (hv:σ.vc=.slice (some ⟨g,0,none⟩) σ.cs.length cap) (hx:c[3]? = some (.int .u8 x))
  (ht:Instr.findNow (.int .u8) (.int .u8 x) (tabE 0 ij) 0=some none) (hpc:s.pc < 2000) :
  Calls Tryz.prog 83 #[.pointer (some ⟨mb,0,none⟩)] w fun r w'=>r=.returned (.tuple #[])/\aZ w0 mb sb db w s w' (s.p.goto (s.pc+1)):=by
 have hsw:=hs.aj h.r.kp (fun _ e=>by cases e);obtain ⟨g',cap',e,hcell⟩:=hsw.cmd hc;obtain rfl:g'=g:=by rw [hv] at e;injection e with e _ _;injection e with e;injection e with e;exact e.symm
 have hlt:=(List.getElem?_eq_some_iff.1 hc).1;have c1:=hsw.c1;rw [hv] at c1;have c0:=h.b.at_ 0 _ rfl;have c13:=h.b.at_ 13 _ rfl;have hne:((s.pc:Int) == (σ.cs.length:Int))=false:=by rw [Nz];omega
 have HS:=hid hs;have HC:=hid hcell;clear hs hcell e;go_enter Tryz.func83,Tryz.ntmps83
 go_wp2_with fail;go_quiet (fail);have ha:=h.aj (Kp.drewN [] w nq);have ga:Gr mb db w s.r (w.drewN nq) s.r:=Gr.de (Kp.drewN [] w nq) (fun _ e=>by cases e);have hca:∀ j u,c[j]? = some u->(w.drewN nq).cell? ⟨g',s.pc * 23+j,none⟩=some u:=HC.out;have c1a:(w.drewN nq).cell? ⟨sb,0+1,none⟩=some (.slice (some ⟨g',0,none⟩) σ.cs.length cap):=c1;clear c0 c1 c13 hsw HC;obtain ⟨wa,hwa⟩:∃ wa,wa=w.drewN nq:=⟨_,rfl⟩;rw [<-hwa] at ha ga hca c1a ⊢;clear hwa;have HCA:=hid hca;clear hca;have c0:=ha.b.at_ 0 _ rfl;have c13:=ha.b.at_ 13 _ rfl;have f13:=ha.b.free 13;go_wp2_with fail;go_quiet (fail);obtain ⟨wb,hwb⟩:∃ wb,wb=wa.drewN nq:=⟨_,rfl⟩;have hb':=ha.aj (Kp.drewN [] wa nq);have gb:=ga.trans (Gr.de (r:=s.r) (Kp.drewN [] wa nq) (fun _ e=>by cases e));have hcb:∀ j u,c[j]? = some u->(wa.drewN nq).cell? ⟨g',s.pc * 23+j,none⟩=some u:=HCA.out;rw [<-hwb] at hb' gb hcb ⊢;clear hwb c0 c13 f13 c1a HCA ha ga h;have c13:=hb'.b.at_ 13 _ rfl
 have f13:=hb'.b.free 13;have HCB:=hid hcb;clear hcb;obtain ⟨n1,hn1⟩:∃ n1:Nat,n1=s.pc+1:=⟨_,rfl⟩;have wr:=aP s.pc n1 hn1 (by omega);have m1:=hb'.set (s':={ s with pc:=n1 }) 13 (.int .i64 (n1:Int)) (by omega) rfl rfl;have g1:=gb.trans (Gr.set (mb:=mb) (db:=db) wb s.r 13 (.int .i64 (n1:Int)));have hc1:∀ j u,c[j]? = some u->(wb.setCell ⟨mb,13,none⟩ (.int .i64 (n1:Int))).cell? ⟨g',s.pc * 23+j,none⟩=some u:=((HS.out.aj m1.r.kp (fun _ e=>by cases e)).cmd hc).elim fun g2 q=>q.elim fun cap2 q=>by
  obtain ⟨e,q⟩:=q;obtain rfl:g2=g':=by rw [hv] at e;injection e with e _ _;injection e with e;injection e with e;exact e.symm
  exact q
 have HN1:=hid hn1;have M1:=hid m1;have G1:=hid g1;have HC1:=hid hc1;clear hn1 m1 g1 hc1 gb hb';go_wp2_with fail;obtain ⟨w1,hw1⟩:∃ w1,w1=wb.setCell ⟨mb,13,none⟩ (.int .i64 (n1:Int)):=⟨_,rfl⟩;rw [<-hw1] at M1 G1 HC1 ⊢;clear hw1 c13 f13 HCB wr;have e1:=M1.out.b.at_ 1 _ rfl;have k3:=HC1.out 3 _ hx;have hlk:∀ m,(Instr.lookup 95 (.map (some db)) (.int .u8 x) true).run Tryz.prog (w1.drewN m)=.ok (.tuple #[.nilFunc,.bool false]) (w1.drewN m):=fun m=>
  qh Tryz.underlying95 Tryz.underlying5 (Eh _) (((Kp.drewN [] w1 m).block _ (M1.out.r.bk.hi 1 _ rfl) (by simp)).trans M1.out.r.md) ht
 go_quiet (fail);have m2:=M1.out.aj (Kp.drewN [] w1 nq);have g2:=G1.out.trans (Gr.de (r:=s.r) (Kp.drewN [] w1 nq) (fun _ e=>by cases e));have G2:Hid (aZ w0 mb sb db w s (w1.drewN nq) (s.p.goto (s.pc+1))):=hid ⟨{ s with pc:=n1 },by rw [HN1.out];rfl,m2,g2⟩;go_wp2_with fail;refine bodyPost_ret (results_none rfl _ _ _) rfl ?_;exact ⟨rfl,G2.out⟩
end
structure Arr (w:World) (t:Nat) (f:Nat->Value):Prop where
 lt:t < w.heap.size
 at_:∀ j,j < 256->w.cell? ⟨t,j,none⟩=some (f j)
 free:∀ j,w.frozen? ⟨t,j,none⟩=false
theorem Arr.set {w:World} {t k:Nat} {v:Value} {f:Nat->Value} (h:Arr w t f) (hk:k < 256):Arr (w.setCell ⟨t,k,none⟩ v) t (fun j=>if j=k then v else f j):=by
 refine ⟨by simpa using h.lt,fun j hj=>?_,fun j=>by simpa using h.free j⟩;by_cases e:j=k
 .subst e;rw [Ny rfl];exact aw _ (h.at_ j hj)
 .rw [Nr e];exact (aq _ (fun q=>by injection q with _ q _;exact e q.symm)).trans (h.at_ j hj)
theorem Arr.aj {w w':World} {t:Nat} {f:Nat->Value} {S:List Nat} (h:Arr w t f) (k:Kp S w w') (hn:t∉S):Arr w' t f:=
 ⟨Ns h.lt k.size,fun j hj=>(k.cell (p:=⟨t,j,none⟩) h.lt hn).trans (h.at_ j hj),fun j=>(k.frozen (p:=⟨t,j,none⟩) h.lt hn).trans (h.free j)⟩
theorem Arr.mono {w:World} {t:Nat} {f g:Nat->Value} (h:Arr w t f) (e:∀ j,j < 256->f j=g j):Arr w t g:=⟨h.lt,fun j hj=>by rw [h.at_ j hj,e j hj],h.free⟩
theorem Arr.of (w:World) (u:Value) (ty:TypeId):Arr (w.alloc (.cells (List.replicate 256 u).toArray ty)) w.heap.size (fun _=>u):=by
 have B:=Bl.alloc w (List.replicate 256 u) ty;exact ⟨B.lt,fun j hj=>B.at_ j _ (by rw [N9,Ny hj]),B.free⟩
theorem Tryz.uv:(Tryz.prog.info? 82).map (·.size)=some 2:=by kernel_rfl
theorem zeroB:Tryz.zeroCells212=(List.replicate 256 (Value.bool false)).toArray:=by kernel_rfl
theorem Kp.past {S T:List Nat} {w a c:World} (h:Kp S w a) (k:Kp T a c) (hT:∀ x∈T,x∈S\/w.heap.size<=x):Kp S w c:=
 ⟨k.os.trans h.os,k.tape.trans h.tape,k.output.trans h.output,Nx h.size k.size,fun i hi hn=>(k.block i (Ns hi h.size) (fun e=>by
   rcases hT i e with q | q
   .exact hn q
   .omega)).trans (h.block i hi hn)⟩
theorem Mv.past {T:List Nat} {b:Nat} {w a c:World} (h:Mv b w a) (k:Kp T a c) (hb:b < w.heap.size) (hT:∀ x∈T,w.heap.size<=x):Mv b w c:=
 ⟨h.kp.past k (fun x hx=>.inr (hT x hx)),fun j hj=>(k.cell (p:=⟨b,j,none⟩) (Ns hb h.kp.size) (fun e=>by have:=hT b e;omega)).trans (h.same j hj)⟩
