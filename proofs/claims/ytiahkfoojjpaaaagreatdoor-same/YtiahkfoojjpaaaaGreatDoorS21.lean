import Derived.Test.YtiahkfoojjpaaaaGreatDoorS19
import Derived.Test.YtiahkfoojjpaaaaGreatDoorS20
set_option maxRecDepth 100000
set_option maxHeartbeats 16000000
set_option linter.all false
namespace Go.Proofs.YtiahkfoojjpaaaaGreatDoor
open Go.RowKit
section
variable {w0 w w' w2:World}{mb sb db lo hi:Nat}{s s':Mst}{σ:Sst}
abbrev oK:List Value:=[.string ⟨#[]⟩,.bool false,.int .i64 0,.int .i64 0]
theorem jf(o:List UInt8)(ov:Bool)(er st:Nat):∀u∈fQ o ov er st,u.oneCell'=true:=fun u hu=>by
 simp only[fQ,Rh,Sd,or_false] at hu;rcases hu with h|h|h|h<;>subst h<;>rfl
theorem di.stored{p:Pst}{x:Nat}{vs:List Value}(hx:x=w.heap.size)(h:Mac w0 w mb sb db s)(g:di w0 mb sb db (w.alloc (.cells oK.toArray 31)) s w' p)(hl:vs.length=4):di w0 mb sb db w s (w'.setCells x 0 vs) p/\Bl (w'.setCells x 0 vs) x vs:=by
 obtain⟨s1,e1,m1,g1⟩:=g;have ka:=Kp.alloc [] w (.cells oK.toArray 31);have far:=(h.eh (QD w.heap.size)).2;have B0:=Bl.alloc w oK 31;have B1:=g1.bl B0 far;rw[<-hx] at B1 B0 far;have kx:Kp [x] w' (w'.setCells x 0 vs):=dV (by simp) _ _ _;have fx:∀i,maB mb db s1.r i≠some x:=fun i e=>by
  rcases g1.from_ i x e with⟨j,hj⟩|q
  .exact far j hj
  .have:=B0.lt;omega
 have gw:Gr mb db w s.r w' s1.r:=(Gr.dj ka (fun _ e=>by cases e)).trans g1;refine⟨⟨s1,e1,m1.other kx (fun y hy=>?_),⟨QC gw.size kx.size,gw.from_,fun p hp hn=>(kx.block p (Qx hp gw.size) (fun e=>?_)).trans (gw.same p hp hn)⟩⟩,B1.put (by simpa using hl)⟩
 .simp at hy;rw[hy];exact⟨by rw[hx];exact h.r.kp.size,fx⟩
 .simp at e;rw[e,hx] at hp;omega
theorem JV{eb:Nat}(h:w.cell? ⟨eb,0,none⟩=some (.pointer (some ⟨mb,0,none⟩))):Calls Tryz.prog 26 #[.pointer (some ⟨eb,0,none⟩)] w fun r w'=>r=.returned (.bool false)/\w'=w:=by
 go_enter Tryz.func26,Tryz.ntmps26
 go_wp2_with fail;go_ret;exact⟨rfl,rfl⟩
theorem Bl.qX{x:Nat}(hx:x=w.heap.size)(h:Mac w0 w mb sb db s)(g:Gr mb db (w.alloc (.cells oK.toArray 31)) s.r w' s'.r):w'.there x 0 4:=by
 have B2:=g.bl (Bl.alloc w oK 31) (h.eh (QD _)).2;subst hx;intro j hj;rw[QH];have:j<oK.length:=hj;rw[B2.at_ j _ (QA this)];exact⟨rfl,B2.free j⟩
theorem efeed_v{data:ByteArray}{eb:Nat}{o:List UInt8}{ov:Bool}{er st:Nat}{p':Pst}(h:Mac w0 w mb sb db s)(he:w.cell? ⟨eb,0,none⟩=some (.pointer (some ⟨mb,0,none⟩)))(hf:∀wx,Mac w0 wx mb sb db s->Calls Tryz.prog 27 #[.pointer (some ⟨mb,0,none⟩),.string data] wx fun r w'=>r=.returned (.agg (fQ o ov er st).toArray)/\di w0 mb sb db wx s w' p'):Calls Tryz.prog 13 #[.pointer (some ⟨eb,0,none⟩),.string data] w fun r w'=>r=.returned (.agg (fQ o ov er st).toArray)/\di w0 mb sb db w s w' p':=by
 have ka:=Kp.alloc [] w (.cells oK.toArray 31);have m1:=h.aj ka;have HF:=hid (hf _ m1);have he1:(w.alloc (.cells oK.toArray 31)).cell? ⟨eb,0,none⟩=some (.pointer (some ⟨mb,0,none⟩)):=(ka.cell (p:=⟨eb,0,none⟩) (World.block_lt_of_cell? _ _ he) (by simp)).trans he;have HID:=hid (JV he1);clear hf;go_enter Tryz.func13,Tryz.ntmps13
 go_wp2_with fail;refine HID.out.mono ?_;rintro r w1 ⟨rfl,rfl⟩;go_wp2_with fail;refine HF.out.mono ?_;rintro r w2 ⟨rfl,s2,e2,n2,g2⟩;have GG:=hid (di.stored (vs:=fQ o ov er st) rfl h ⟨s2,e2,n2,g2⟩ rfl);have HTH:=hid (Bl.qX rfl h g2);clear HF HID;go_wp2_with (refine wpList_store_mid rfl 31 (.tmp 4) (.tmp 13) rfl w.heap.size 0 (fQ o ov er st).toArray rfl rfl HTH.out Tryz.fo (all_oneCell_toArray (jf _ _ _ _)) ?_)
 refine bodyPost_ret (eX (p:=4) (ty:=31) (by rw[Tryz.results13]) _ _ w.heap.size 0 rfl _ _ GG.out.2.range Tryz.underlying31 rfl (by rw[Tryz.fo];rfl)) rfl ⟨rfl,GG.out.1⟩
theorem eend_v{eb:Nat}{o:List UInt8}{ov:Bool}{er st:Nat}{p':Pst}(h:Mac w0 w mb sb db s)(he:w.cell? ⟨eb,0,none⟩=some (.pointer (some ⟨mb,0,none⟩)))(hf:∀wx,Mac w0 wx mb sb db s->Calls Tryz.prog 28 #[.pointer (some ⟨mb,0,none⟩)] wx fun r w'=>r=.returned (.agg (fQ o ov er st).toArray)/\di w0 mb sb db wx s w' p'):Calls Tryz.prog 14 #[.pointer (some ⟨eb,0,none⟩)] w fun r w'=>r=.returned (.agg (fQ o ov er st).toArray)/\di w0 mb sb db w s w' p':=by
 have ka:=Kp.alloc [] w (.cells oK.toArray 31);have m1:=h.aj ka;have HF:=hid (hf _ m1);have he1:(w.alloc (.cells oK.toArray 31)).cell? ⟨eb,0,none⟩=some (.pointer (some ⟨mb,0,none⟩)):=(ka.cell (p:=⟨eb,0,none⟩) (World.block_lt_of_cell? _ _ he) (by simp)).trans he;have HID:=hid (JV he1);clear hf;go_enter Tryz.func14,Tryz.ntmps14
 go_wp2_with fail;refine HID.out.mono ?_;rintro r w1 ⟨rfl,rfl⟩;go_wp2_with fail;refine HF.out.mono ?_;rintro r w2 ⟨rfl,s2,e2,n2,g2⟩;have GG:=hid (di.stored (vs:=fQ o ov er st) rfl h ⟨s2,e2,n2,g2⟩ rfl);have HTH:=hid (Bl.qX rfl h g2);clear HF HID;go_wp2_with (refine wpList_store_mid rfl 31 (.tmp 2) (.tmp 10) rfl w.heap.size 0 (fQ o ov er st).toArray rfl rfl HTH.out Tryz.fo (all_oneCell_toArray (jf _ _ _ _)) ?_)
 refine bodyPost_ret (eX (p:=2) (ty:=31) (by rw[Tryz.results14]) _ _ w.heap.size 0 rfl _ _ GG.out.2.range Tryz.underlying31 rfl (by rw[Tryz.fo];rfl)) rfl ⟨rfl,GG.out.1⟩
end
section
variable {w0 w w1 w':World}{mb sb db lo hi:Nat}{s s':Mst}{σ:Sst}
theorem PQ(mb db:Nat)(r:Mrw)(i:Nat)(v v':Value)(fb:List (List UInt8))(hv:r.fl[i]? = some v):maB mb db { r with fl:=r.fl.set i v',fb:=fb}=fun j=>if j=i+6 then v'.ownBlock else maB mb db r j:=by
 funext j
 have hi:=(List.getElem?_eq_some_iff.1 hv).1;rcases j with _|_|_|_|_|_|j<;>try(simp[maB];done)
 show((r.fl.set i v')[j]?).bind Value.ownBlock=if j+6=i+6 then v'.ownBlock else (r.fl[j]?).bind Value.ownBlock;by_cases e:j=i
 .subst e;simp[hi]
 .rw[QL (Ne.symm e),Qw (by omega)]
def Pst.write(i:Nat)(t:ByteArray)(p:Pst):Pst:={ p with count:=p.count+t.size+1,fb:=p.fb.set i ((p.fb[i]?.getD [])++t.data.toList++[10])}
theorem Mac.wrote{v v':Value}{text:ByteArray}{i g c:Nat}{bs:List UInt8}(h:Mac w0 w mb sb db s)(hv:s.r.fl[i]? = some v)(hb:s.r.fb[i]? = some bs)(hg:s.r.vf=.slice (some ⟨g,0,none⟩) s.r.fl.length c)(A:Hd mb s.count v w0.heap.size bs text w w1 v'):Mac w0 (w1.setCell ⟨g,i,none⟩ v') mb sb db { s with count:=s.count+text.size+1,r:={ s.r with fl:=s.r.fl.set i v',fb:=s.r.fb.set i (bs++text.data.toList++[10])}} /\
   Gr mb db w s.r (w1.setCell ⟨g,i,none⟩ v') { s.r with fl:=s.r.fl.set i v',fb:=s.r.fb.set i (bs++text.data.toList++[10])}:=by
 have mlt:=h.b.lt;have hi:=(List.getElem?_eq_some_iff.1 hv).1;have hib:=(List.getElem?_eq_some_iff.1 hb).1;have m6:maB mb db s.r (i+6)=v.ownBlock:=by show(s.r.fl[i]?).bind Value.ownBlock=_;rw[hv];rfl
 have m3:maB mb db s.r 3=some g:=by show s.r.vf.ownBlock=_;rw[hg];rfl
 have gm:g≠mb:=fun e=>by have:=h.r.bk.ne 3 0 g m3 (by rw[e];rfl);omega
 have gv:v.ownBlock≠some g:=fun e=>by have:=h.r.bk.ne (i+6) 3 g (m6.trans e) m3;omega
 have gw:=h.r.bk.hi 3 g m3;have hS:∀x∈mb::g::v.ownBlock.toList,∃j,maB mb db s.r j=some x:=fun x hx=>by
  rcases List.mem_cons.1 hx with q|hx
  .exact⟨0,by rw[q];rfl⟩
  .rcases List.mem_cons.1 hx with q|q
   .exact⟨3,by rw[q];exact m3⟩
   .exact⟨i+6,by rw[m6];simpa using q⟩
 have ks:Kp [g] w1 (w1.setCell ⟨g,i,none⟩ v'):=Kp.setCell _ _ (by simp);have kk:Kp (mb::g::v.ownBlock.toList) w (w1.setCell ⟨g,i,none⟩ v'):=(A.kp.mono (fun x hx=>by simp at hx ⊢;rcases hx with q|q<;>simp[q])).trans (ks.mono (by simp))
 have hh:∀j p,j≠0->j≠3->j≠i+6->maB mb db s.r j=some p->(w1.setCell ⟨g,i,none⟩ v').heap[p]? = w.heap[p]?:=fun j p h0 h3 h6 hp=>kk.block p (h.r.bk.hi j p hp) (fun e=>by
  rcases List.mem_cons.1 e with q|e
  .exact h0 (h.r.bk.ne j 0 p hp (by rw[q];rfl))
  .rcases List.mem_cons.1 e with q|q
   .exact h3 (h.r.bk.ne j 3 p hp (by rw[q];exact m3))
   .exact h6 (h.r.bk.ne j (i+6) p hp (by rw[m6];simpa using q)))
 have vne:v'.ownBlock≠some g:=fun e=>by
  rcases A.at_ g e with q|q
  .exact gv q
  .omega
 have vnm:v'.ownBlock≠some mb:=fun e=>by
  rcases A.at_ mb e with q|q
  .have:=h.r.bk.ne (i+6) 0 mb (m6.trans q) rfl;omega
  .omega
 have B1:Bl w1 mb ((Fy sb db s).set 7 (.int .i64 ((s.count+text.size+1:Nat):Int))):=by
  refine⟨Qx mlt A.kp.size,fun j u hu=>?_,fun j=>(A.free j).trans (h.b.free j)⟩;by_cases e:j=7
  .subst e;rw[QI (by show 7<20;omega)] at hu;rw[A.c7,hu]
  .rw[QL (Ne.symm e)] at hu;exact(A.cell j e).trans (h.b.at_ j u hu)
 have lo0:=h.r.kp.size;have bk':Bk.ok w0.heap.size (w1.setCell ⟨g,i,none⟩ v').heap.size (maB mb db { s.r with fl:=s.r.fl.set i v',fb:=s.r.fb.set i (bs++text.data.toList++[10])}):=by
  rw[PQ mb db s.r i v v' _ hv]
  cases hv':v'.ownBlock with
  | none=>
   refine⟨fun j p hp=>?_,fun j p hp=>?_,fun j k p hj hk=>?_⟩
   .split at hp
    .cases hp
    .exact h.r.bk.lo j p hp
   .split at hp
    .cases hp
    .exact Qx (h.r.bk.hi j p hp) kk.size
   .split at hj<;>split at hk
    .omega
    .cases hj
    .cases hk
    .exact h.r.bk.ne j k p hj hk
  | some q=>
   refine h.r.bk.upd (i+6) q kk.size lo0 ?_;rcases A.at_ q hv' with r|r
   .exact .inl (m6.trans r)
   .exact .inr ⟨r,Qx (aA A.row hv').2 ks.size⟩
 have row3:(w1.setCell ⟨g,i,none⟩ v').ownsRow w0.heap.size 49 1 s.r.vf s.r.fl.length (s.r.fl.set i v'):=by
  have hb1:w1.heap[g]? = w.heap[g]?:=A.kp.block g gw (fun e=>by
   rcases List.mem_cons.1 e with q|q
   .exact gm q
   .exact gv (by simpa using q))
  have o1:w1.ownsRow w0.heap.size 49 1 s.r.vf s.r.fl.length s.r.fl:=ag h.r.o3 (fun p hp=>by
   rw[hg] at hp;have:g=p:=by simpa[Value.ownBlock] using hp
   subst this
   exact hb1)
  rw[hg] at o1 ⊢;refine(o1.stored i v').1
 refine⟨⟨B1.aj ks (by simpa using Ne.symm gm),⟨?_,ag h.r.o2 (fun p hp=>hh 2 p (by omega) (by omega) (by omega) hp),?_,fun j u hu=>?_,ag h.r.o4 (fun p hp=>hh 4 p (by omega) (by omega) (by omega) hp),ag h.r.o5 (fun p hp=>hh 5 p (by omega) (by omega) (by omega) hp),(hh 1 _ (by omega) (by omega) (by omega) rfl).trans h.r.md,bk',by show(s.r.fb.set i _).length=(s.r.fl.set i _).length;rw[Rg,Rg];exact h.r.fll⟩⟩,⟨kk.size,fun j p hp=>?_,fun p hp hn=>kk.block p hp (fun e=>by obtain⟨j,hj⟩:=hS p e;exact hn j hj)⟩⟩
 .refine⟨kk.os.trans h.r.kp.os,kk.tape.trans h.r.kp.tape,kk.output.trans h.r.kp.output,QC lo0 kk.size,fun j hj _=>(kk.block j (Qx hj lo0) (fun e=>?_)).trans (h.r.kp.block j hj (by simp))⟩;obtain⟨x,hx⟩:=hS j e;have:=h.r.bk.lo x j hx;omega
 .show World.ownsRow _ _ _ 1 s.r.vf (s.r.fl.set i v').length (s.r.fl.set i v');rw[Rg];exact row3
 .replace hu:(s.r.fl.set i v')[j]? = some u:=hu;by_cases e:j=i
  .subst e;rw[QI hi] at hu;injection hu with hu;subst hu;refine⟨bs++text.data.toList++[10],QI hib,?_⟩;have hl:(bs++text.data.toList++[10]).length=bs.length+text.size+1:=by rw[Qy,Qy];rfl
   rw[hl];exact ag A.row (fun p hp=>ks.block p (aA A.row hp).2 (fun e=>vne (by simp at e;rw[<-e];exact hp)))
  .rw[QL (Ne.symm e)] at hu;obtain⟨bs',h1,h2⟩:=h.r.ofl j u hu;exact⟨bs',by show(s.r.fb.set i _)[j]? = _;rw[QL (Ne.symm e)];exact h1,ag h2 (fun p hp=>hh (j+6) p (by omega) (by omega) (by omega) (show(s.r.fl[j]?).bind Value.ownBlock=some p by rw[hu];exact hp))⟩
 .rw[PQ mb db s.r i v v' _ hv] at hp;replace hp:(if j=i+6 then v'.ownBlock else maB mb db s.r j)=some p:=hp;split at hp
  .rcases A.at_ p hp with q|q
   .exact .inl ⟨i+6,m6.trans q⟩
   .exact .inr q
  .exact .inl ⟨j,hp⟩
theorem write_v{text:ByteArray}{i:Nat}{v:Value}{bs:List UInt8}(h:Mac w0 w mb sb db s)(hv:s.r.fl[i]? = some v)(hb:s.r.fb[i]? = some bs)(hc:s.count+text.size+1<=200000)(hx:bs.length<=s.count):Calls Tryz.prog 116 #[.pointer (some ⟨mb,5,none⟩),.int .i64 i,.string text] w fun r w'=>r=.returned (.tuple #[])/\di w0 mb sb db w s w' (s.p.write i text):=by
 have hil:=(List.getElem?_eq_some_iff.1 hv).1;obtain⟨g,c,hvf,hcell⟩:∃g c,s.r.vf=.slice (some ⟨g,0,none⟩) s.r.fl.length c/\w.cell? ⟨g,i,none⟩=some v:=by
  rcases h.r.o3.2 with⟨_,q⟩|⟨g,cap,cur,q1,_⟩
  .omega
  .refine⟨g,cap,q1,?_⟩;have o:=h.r.o3;rw[q1] at o;rw[o.cellAt i (by omega),hv]
 have m6:maB mb db s.r (i+6)=v.ownBlock:=by show(s.r.fl[i]?).bind Value.ownBlock=_;rw[hv];rfl
 have m3:maB mb db s.r 3=some g:=by show s.r.vf.ownBlock=_;rw[hvf];rfl
 have gm:g≠mb:=fun e=>by have:=h.r.bk.ne 3 0 g m3 (by rw[e];rfl);omega
 have gv:v.ownBlock≠some g:=fun e=>by have:=h.r.bk.ne (i+6) 3 g (m6.trans e) m3;omega
 have vm:v.ownBlock≠some mb:=fun e=>by have:=h.r.bk.ne (i+6) 0 mb (m6.trans e) rfl;omega
 have gw:=h.r.bk.hi 3 g m3
 have hfree:w.frozen? ⟨g,i,none⟩=false:=(by
  have o:=h.r.o3;rw[hvf] at o
  exact o.frozenAt i)
 have hown:∃bs',s.r.fb[i]? = some bs'/\w.ownsRow w0.heap.size 5 1 v bs'.length (Lib.byteCells bs'):=h.r.ofl i v hv;obtain⟨bs',hb',hrow⟩:=hown;obtain rfl:bs'=bs:=by rw[hb] at hb';exact(Option.some.inj hb').symm
 have c6:=h.b.at_ 6 _ rfl;rw[hvf] at c6;have md:=h.aj (Kp.drew [] w);have H:=hid (add_v (w:=w.drew) (text:=text) (md.b.at_ 7 _ rfl) (md.b.free 7) (ag hrow (fun p hp=>(Kp.drew [] w).block p (aA hrow hp).2 (by simp))) vm h.r.kp.size hc hx)
 have HW:Hid (∀w1 v',Hd mb s.count v w0.heap.size bs' text w.drew w1 v'->(fun w':World=>w'.cell? ⟨mb,6,none⟩=some (.slice (some ⟨g,0,none⟩) s.r.fl.length c)/\w'.cell? ⟨g,i,none⟩=some v) w1/\w1.frozen? ⟨g,i,none⟩=false):=hid (fun w1 v' A=>by
  have hb1:w1.heap[g]? = w.heap[g]?:=A.kp.block g gw (fun e=>by
   rcases List.mem_cons.1 e with q|q
   .exact gm q
   .exact gv (by simpa using q))
  exact⟨⟨(A.cell 6 (by omega)).trans c6,(World.cell?_of_block hb1).trans hcell⟩,(World.frozen?_of_block hb1).trans hfree⟩)
 have FIN:Hid (∀w1 v',Hd mb s.count v w0.heap.size bs' text w.drew w1 v'->di w0 mb sb db w s (w1.setCell ⟨g,i,none⟩ v') (s.p.write i text)):=hid (fun w1 v' A=>by
  obtain⟨m1,g1⟩:=md.wrote hv hb hvf A;refine⟨_,?_,m1,(Gr.dj (r:=s.r) (Kp.drew [] w) (fun _ e=>by cases e)).trans g1⟩;have:s.p.fb[i]?.getD []=bs':=by show s.r.fb[i]?.getD []=_;rw[hb];rfl
  unfold Pst.write;rw[this]
  rfl)
 have ONE:Hid (∀w1 v',Hd mb s.count v w0.heap.size bs' text w.drew w1 v'->∃A q c',v'=.slice A q c'):=hid (fun w1 v' A=>by
  obtain⟨A',c',ev,_,_⟩:=aZ A.row
  exact⟨A',_,c',ev⟩)
 have hS:(fun w':World=>w'.cell? ⟨mb,6,none⟩=some (.slice (some ⟨g,0,none⟩) s.r.fl.length c)/\w'.cell? ⟨g,i,none⟩=some v) w.drew:=⟨c6,hcell⟩;clear hfree hrow md h c6 hcell hvf hv hb m6 m3;obtain⟨n,hn⟩:∃n,n=s.r.fl.length:=⟨_,rfl⟩;rw[<-hn] at hS HW hil;clear hn;go_enter Tryz.func116,Tryz.ntmps116
 go_upto_region 0 with fail
 refine az (fun w':World=>w'.cell? ⟨mb,6,none⟩=some (.slice (some ⟨g,0,none⟩) n c)/\w'.cell? ⟨g,i,none⟩=some v) 16 (by kernel_rfl) ?_;iterate 14(refine tkn (v:=?_) rfl (by kernel_rfl) (fun _ _ _ h=>h) ⟨rfl,fun w hSw=>?_⟩ hS ?_;rotate_left;(focus((try dsimp only at hSw);go_simp;(try with_reducible rfl)));(try simp only[Qt,Qs,Qr,Act.put,Qq,Qu,Qv]))
 refine ai (i:=14) (by kernel_rfl) rfl (fun K hK=>?_);go_simp;refine H.out.mono ?_;rintro r w1 ⟨v',rfl,A⟩;obtain⟨hS1,hf1⟩:=HW.out w1 v' A;obtain⟨A',q',c',ev⟩:=ONE.out w1 v' A;have HA:=hid A;clear A;subst ev;dsimp only;refine hK.out _ _ (.inr hS1) ?_;clear hK K;refine ai (i:=15) (by kernel_rfl) rfl (fun K hK=>?_);go_simp;refine hK.out _ _ (.inr hS1) ?_;clear hK K;refine ai (i:=16) (by kernel_rfl) rfl (fun K hK=>?_);have hc1:=hS1.2;go_simp;refine hK.out _ _ (.inl rfl) ?_;clear hK K;refine ax (by kernel_rfl) ?_ _;go_wp2_with fail;go_end0;exact⟨rfl,FIN.out _ _ HA.out⟩
end
end Go.Proofs.YtiahkfoojjpaaaaGreatDoor
namespace Go.Proofs.YtiahkfoojjpaaaaGreatDoor
open Go.RowKit Go.MapKept
section
variable {P:Program}{w:World}{t k e:TypeId}{b c:Nat}{es:Array MapEntry}{x:ByteArray}{v:Value}
theorem C5(ht:P.underlying t=some (.map k e))(hk:P.underlying k=some .string)(hb:w.heap[b]? = some (.map es c))(hf:Instr.findNow .string (.string x) es.toList 0=some none):(Instr.mapUpdate t (.map (some b)) (.string x) v).run P w=.ok () (ChangeMaps.setBlock w b (.map (es.push ⟨.string x,v,c⟩) (c+1))):=by
 have hkey:IsKey .string (.string x):=by simp[IsKey]
 simp[Instr.mapUpdate,run_underlying ht,MapKept.run_getObj_map hb,run_checkKey hk hkey,run_findKey hk hf,MapKept.run_setObj_map _ hb,Result.andThen,ChangeMaps.setBlock]
theorem pO(ht:P.underlying t=some (.map k e))(hk:P.underlying k=some .string){z:Value}(hz:(zeroValue e).run P w=.ok z w)(hb:w.heap[b]? = some (.map es c))(hf:Instr.findNow .string (.string x) es.toList 0=some none):(Instr.lookup t (.map (some b)) (.string x) true).run P w=.ok (.tuple #[z,.bool false]) w:=by
 have hkey:IsKey .string (.string x):=by simp[IsKey]
 simp[Instr.lookup,run_underlying ht,MapKept.run_getObj_map hb,MapKept.run_checkKey hk hkey,MapKept.run_findKey hk hf,Result.andThen,hz]
theorem nc(ht:P.underlying t=some (.map k e))(hk:P.underlying k=some .string){i:Nat}(hb:w.heap[b]? = some (.map es c))(hf:Instr.findNow .string (.string x) es.toList 0=some (some (i,v))):(Instr.lookup t (.map (some b)) (.string x) true).run P w=.ok (.tuple #[v,.bool true]) w:=by
 have hkey:IsKey .string (.string x):=by simp[IsKey]
 simp[Instr.lookup,run_underlying ht,MapKept.run_getObj_map hb,MapKept.run_checkKey hk hkey,MapKept.run_findKey hk hf,Result.andThen]
end
theorem CO:∀(l:List (ByteArray×Nat)) (c:Nat) (x:ByteArray) (n:Nat),lY c (l++[(x,n)])=lY c l++[⟨.string x,.int .i64 n,c+l.length⟩]
 | [],c,x,n=>by simp[lY]
 | (y,m)::l,c,x,n=>by
  rw[QS,lY,lY,CO l (c+1) x n,QS];simp;omega
theorem CN(l:List (ByteArray×Nat))(x:ByteArray)(n:Nat):Py (l++[(x,n)])=.map ((lY 0 l).toArray.push ⟨.string x,.int .i64 n,l.length⟩) (l.length+1):=by
 simp[Py,CO]
section
variable {w0 w w1 w2:World}{b k g cap:Nat}{src:ByteArray}{σ:Sst}{cv:List Value}{x:ByteArray}
theorem Ie(b:Nat)(σ:Sst)(l:List (ByteArray×Nat)):srB b { σ with nm:=l}=srB b σ:=by
 funext i
 rcases i with _|_|_|_|_|_|_|_|i<;>rfl
theorem yp(b:Nat)(σ:Sst)(A:Addr)(n c:Nat)(ns:List ByteArray):srB b { σ with vn:=.slice (some A) n c,ns:=ns}=fun j=>if j=5 then some A.block else srB b σ j:=by
 funext i
 rcases i with _|_|_|_|_|_|_|_|i<;>simp[srB,Value.ownBlock]
theorem Sr.putName(h:Sr w0 w b src k σ)(n:Nat)(kp:Kp [σ.nb] w w1)(hm:w1.heap[σ.nb]? = some (Py (σ.nm++[(x,n)]))):Sr w0 w1 b src k { σ with nm:=σ.nm++[(x,n)]}:=by
 have hb:b∉[σ.nb]:=fun e=>by
  have:b=σ.nb:=by simpa using e
  have:=h.r.bk.ne 0 3 b rfl (by rw[this];rfl);omega
 have hh:∀i p,i≠3->srB b σ i=some p->w1.heap[p]? = w.heap[p]?:=fun i p hi hp=>kp.block p (h.r.bk.hi i p hp) (fun e=>hi (h.r.bk.ne i 3 p hp (by simp at e;rw[e];rfl)));have c:=h.c.aj (w':=w1) (fun j _=>kp.cell (p:=⟨b,j,none⟩) h.cur.lt hb);refine⟨h.cur.aj kp hb,⟨c.c2,c.c3,c.c4,c.c5,c.c6,c.c7,c.c8,c.c9,c.c10,c.c11⟩,⟨?_,ag h.r.o4 (fun p hp=>hh 4 p (by omega) hp),ag h.r.o5 (fun p hp=>hh 5 p (by omega) hp),ag h.r.o8 (fun p hp=>hh 6 p (by omega) hp),ag h.r.o11 (fun p hp=>hh 7 p (by omega) hp),(hh 1 _ (by omega) rfl).trans h.r.m7,(hh 2 _ (by omega) rfl).trans h.r.m9,hm,h.r.len,by rw[Ie];exact h.r.bk.grow kp.size,fun f hf=>?_⟩⟩
 .refine⟨kp.os.trans h.r.kp.os,kp.tape.trans h.r.kp.tape,kp.output.trans h.r.kp.output,QC h.r.kp.size kp.size,fun j hj _=>(kp.block j (Qx hj h.r.kp.size) (fun e=>?_)).trans (h.r.kp.block j hj (by simp))⟩;have:=h.r.bk.lo 3 σ.nb rfl;simp at e;omega
 .obtain⟨f1,f2,f3⟩:=h.r.fx f hf;refine⟨(kp.block f.1 (aN f1) (fun e=>f3 3 (by simp at e;rw[e];rfl))).trans f1,f2,by rw[Ie];exact f3⟩
theorem Sr.MP(h:Sr w0 w b src k σ)(k1:Kp [] w w1)(ho:w2.ownsRow w0.heap.size 9 1 (.slice (some ⟨g,0,none⟩) (σ.ns.length+1) cap) (σ.ns.length+1) (σ.ns.map .string++[.string x]))(hg:w1.grownBy w2 σ.vn.ownBlock)(hor:σ.vn.ownBlock=some g\/w1.heap.size<=g):Sr w0 (w2.setCell ⟨b,5,none⟩ (.slice (some ⟨g,0,none⟩) (σ.ns.length+1) cap)) b src k { σ with vn:=.slice (some ⟨g,0,none⟩) (σ.ns.length+1) cap,ns:=σ.ns++[x]}:=by
 obtain⟨v,hv⟩:∃v,v=Value.slice (some ⟨g,0,none⟩) (σ.ns.length+1) cap:=⟨_,rfl⟩;have h1:=h.aj k1;have hsz:=k1.size;have glt:g<w2.heap.size:=(aA ho (g:=g) rfl).2;have bne:∀i p,i≠5->srB b σ i=some p->w2.heap[p]? = w1.heap[p]?:=fun i p hi hp=>hg.block p (h1.r.bk.hi i p hp) (fun e=>hi (h1.r.bk.ne i 5 p hp (by first|exact e|exact e.symm)));have gne:∀i p,i≠5->srB b σ i=some p->p≠g:=fun i p hi hp e=>by
  subst e;rcases hor with q|q
  .exact hi (h1.r.bk.ne i 5 p hp q)
  .have:=h1.r.bk.hi i p hp;omega
 have kb:Kp [b] w2 (w2.setCell ⟨b,5,none⟩ v):=Kp.setCell _ _ (by simp);have bb:∀p,p<w2.heap.size->p≠b->(w2.setCell ⟨b,5,none⟩ v).heap[p]? = w2.heap[p]?:=fun p hp hn=>kb.block p hp (by simpa using hn);have hh:∀i p,0<i->i≠5->srB b σ i=some p->(w2.setCell ⟨b,5,none⟩ v).heap[p]? = w1.heap[p]?:=fun i p h0 hi hp=>
  (bb p (Qx (h1.r.bk.hi i p hp) hg.size) (fun e=>by have:=h1.r.bk.ne i 0 p hp (by rw[e];rfl);omega)).trans (bne i p hi hp)
 have hb2:w2.heap[b]? = w1.heap[b]?:=bne 0 b (by omega) rfl;have hc2:∀j,w2.cell? ⟨b,j,none⟩=w1.cell? ⟨b,j,none⟩:=fun j=>World.cell?_of_block hb2;have hf2:∀j,w2.frozen? ⟨b,j,none⟩=w1.frozen? ⟨b,j,none⟩:=fun j=>World.frozen?_of_block hb2;have hc:∀j,j≠5->(w2.setCell ⟨b,5,none⟩ v).cell? ⟨b,j,none⟩=w1.cell? ⟨b,j,none⟩:=fun j hj=>(aq _ (fun e=>by injection e with _ e2 _;exact hj e2.symm)).trans (hc2 j);have gb:g≠b:=fun e=>gne 0 b (by omega) rfl e.symm;rw[<-hv] at ho ⊢;have eB:srB b { σ with vn:=v,ns:=σ.ns++[x]}=fun j=>if j=5 then some g else srB b σ j:=by rw[hv];exact yp b σ _ _ _ _
 refine⟨⟨Qx (Qx h1.cur.lt hg.size) kb.size,h1.cur.le,h1.cur.small,(hc _ (by omega)).trans h1.cur.c0,(hc _ (by omega)).trans h1.cur.c1,fun i=>?_⟩,⟨(hc _ (by omega)).trans h1.c.c2,(hc _ (by omega)).trans h1.c.c3,(hc _ (by omega)).trans h1.c.c4,aw _ ((hc2 5).trans h1.c.c5),(hc _ (by omega)).trans h1.c.c6,(hc _ (by omega)).trans h1.c.c7,(hc _ (by omega)).trans h1.c.c8,(hc _ (by omega)).trans h1.c.c9,(hc _ (by omega)).trans h1.c.c10,(hc _ (by omega)).trans h1.c.c11⟩,⟨?_,ag h1.r.o4 (fun p hp=>hh 4 p (by omega) (by omega) hp),?_,ag h1.r.o8 (fun p hp=>hh 6 p (by omega) (by omega) hp),ag h1.r.o11 (fun p hp=>hh 7 p (by omega) (by omega) hp),(hh 1 _ (by omega) (by omega) rfl).trans h1.r.m7,(hh 2 _ (by omega) (by omega) rfl).trans h1.r.m9,(hh 3 _ (by omega) (by omega) rfl).trans h1.r.m10,h1.r.len,?_,?_⟩⟩
 .have e1:(w2.setCell ⟨b,5,none⟩ v).frozen? ⟨b,i,none⟩=w2.frozen? ⟨b,i,none⟩:=by simp
  rw[e1,hf2];exact h1.cur.free i
 .refine⟨kb.os.trans (hg.os.trans h1.r.kp.os),kb.tape.trans (hg.tape.trans h1.r.kp.tape),kb.output.trans (hg.output.trans h1.r.kp.output),QC h1.r.kp.size (QC hg.size kb.size),fun j hj _=>?_⟩;have hj1:j<w1.heap.size:=Qx hj h1.r.kp.size;refine(bb j (Qx hj1 hg.size) (fun e=>?_)).trans ((hg.block j hj1 (fun e=>?_)).trans (h1.r.kp.block j hj (by simp)))
  .have:=h1.r.bk.lo 0 b rfl;omega
  .have:=h1.r.bk.lo 5 j (by first|exact e|exact e.symm);omega
 .have ho2:=ag (w':=w2.setCell ⟨b,5,none⟩ v) ho (fun p hp=>by
   rw[hv] at hp;have:g=p:=by simpa[Value.ownBlock] using hp
   subst this
   exact bb g glt gb)
  rw[Qy,Q6];simpa using ho2
 .rw[eB];refine h1.r.bk.upd 5 g (QC hg.size kb.size) h1.r.kp.size ?_;rcases hor with q|q
  .exact .inl q
  .exact .inr ⟨q,Qx glt kb.size⟩
 .intro f hm;obtain⟨f1,f2,f3⟩:=h1.r.fx f hm;have flt:=aN f1;have fg:f.1≠g:=fun e=>by
   rcases hor with q|q
   .exact f3 5 (by rw[e];exact q)
   .omega
  refine⟨(bb f.1 (Qx flt hg.size) (fun e=>f3 0 (by rw[e];rfl))).trans ((hg.block f.1 flt (fun e=>f3 5 (by first|exact e|exact e.symm))).trans f1),f2,fun i=>?_⟩;rw[eB];show(if i=5 then some g else srB b σ i)≠_;split
  .intro e;injection e with e;exact fg e.symm
  .exact f3 i
theorem yj(x:ByteArray):∀(l:List (ByteArray×Nat)) (c i:Nat),Instr.findNow .string (.string x) (lY c l) i=some none\/∃j n:Nat,Instr.findNow .string (.string x) (lY c l) i=some (some (j,.int .i64 n))
 | [],_,_=>.inl rfl
 | (y,m)::l,c,i=>by
  rw[lY]
  cases hxy:(x==y)
  .rcases yj x l (c+1) (i+1) with q|⟨j,n,q⟩
   .exact .inl (by simpa[Instr.findNow,Instr.sameNow,hxy] using q)
   .exact .inr ⟨j,n,by simpa[Instr.findNow,Instr.sameNow,hxy] using q⟩
  .exact .inr ⟨i,m,by simp[Instr.findNow,Instr.sameNow,hxy]⟩
theorem tW(w:World):(zeroValue 3).run Tryz.prog w=.ok (.int .i64 0) w:=by simp[go_sem]
theorem Tryz.JQ:(Tryz.prog.info? 9).map (fun i=>(i.zero,i.size,i.bytes))=some (some (.string ⟨#[]⟩),1,16):=by kernel_rfl
def Named(x:ByteArray)(σ:Sst)(cv:List Value)(σ':Sst)(cv':List Value):Prop:=
 (Instr.findNow .string (.string x) (lY 0 σ.nm) 0=some none/\∃v,σ'={ σ with nm:=σ.nm++[(x,σ.ns.length)],vn:=v,ns:=σ.ns++[x]}/\cv'=(cv.set 6 (.string x)).set 7 (.int .i64 σ.ns.length)) \/
 (∃j n:Nat,Instr.findNow .string (.string x) (lY 0 σ.nm) 0=some (some (j,.int .i64 n))/\σ'=σ/\cv'=(cv.set 6 (.string x)).set 7 (.int .i64 n))
theorem file_c{w0 w:World}{b cb:Nat}{src:ByteArray}{k n e:Nat}{x:ByteArray}{σ:Sst}{cv:List Value}(hs:Sr w0 w b src k σ)(hb:Bl w cb cv)(hl:Cv cv)(hf:Sr.Far w0 b σ cb)(hsl:Small σ 2000)(h:wdN src (blk src k) n (blk src k)=some e)(hx:src.extract (blk src k) e=x):Calls Tryz.prog 100 #[.pointer (some ⟨b,0,none⟩),.pointer (some ⟨cb,0,none⟩)] w fun r w'=>∃σ' cv',r=.returned (.tuple #[])/\Sr w0 w' b src e σ'/\Bl w' cb cv'/\Cv cv'/\Sr.Far w0 b σ' cb/\Named x σ cv σ' cv':=by
 have hne:cb≠b:=fun e=>hf.bk 0 (by rw[e];rfl);have H:=hid h;have HX:=hid hx;clear h hx;go_enter Tryz.func100,Tryz.ntmps100
 go_wp2_with fail;refine(CF hs.cur H.out).mono ?_;rintro r w1 ⟨rfl,h1,m1⟩;rw[HX.out];have s1:=hs.move m1 h1;have b1:=hb.aj m1.kp (by simpa using hne);have e6:=b1.at_ 6 _ (QA (show 6<cv.length by rw[hl.len];omega));have f6:=b1.free 6;clear hs hb m1 h1 H HX;go_upto_region 1 with fail
 have k2:Kp [cb] w1 (w1.setCell ⟨cb,6,none⟩ (.string x)):=Kp.setCell _ _ (by simp);have s2:=s1.other k2 (fun y hy=>by simp at hy;rw[hy];exact hf);have b2:=b1.set 6 (.string x) (by rw[hl.len];omega);have l2:Cv (cv.set 6 (.string x)):=hl.set 6 rfl;obtain⟨w2,hw2⟩:∃w2,w2=w1.setCell ⟨cb,6,none⟩ (.string x):=⟨_,rfl⟩;rw[<-hw2] at s2 b2 ⊢;clear hw2 k2 s1 b1 e6 f6 w1;have c10:=s2.c.c10;have e6:=b2.at_ 6 (.string x) (QI (by rw[hl.len];omega));rcases yj x σ.nm 0 0 with hfi|⟨j,m,hfi⟩
 .have hlk:∀m,(Instr.lookup 124 (.map (some σ.nb)) (.string x) true).run Tryz.prog (w2.drewN m)=.ok (.tuple #[.int .i64 0,.bool false]) (w2.drewN m):=fun m=>
   pO Tryz.underlying124 Tryz.underlying9 (tW _) (((Kp.drewN [] w2 m).block _ (s2.r.bk.hi 3 _ rfl) (by simp)).trans s2.r.m10) hfi
  go_quiet (fail);have s3:=s2.aj (Kp.drewN [] w2 nq);have b3:=b2.aj (Kp.drewN [] w2 nq) (by simp);obtain⟨w3,hw3⟩:∃w3,w3=w2.drewN nq:=⟨_,rfl⟩;rw[<-hw3] at s3 b3 ⊢;clear hw3 hlk c10 e6 s2 b2;obtain⟨A,c,ev,_,_⟩:=aZ s3.r.o5;have c5:=s3.c.c5;have c5':=c5;rw[ev] at c5;go_upto_region 4 with fail
  refine az (fun w':World=>w'.cell? ⟨b,10,none⟩=some (.map (some σ.nb))/\w'.cell? ⟨cb,6,none⟩=some (.string x)) 9 (by kernel_rfl) ?_;have hS:(fun w':World=>w'.cell? ⟨b,10,none⟩=some (.map (some σ.nb))/\w'.cell? ⟨cb,6,none⟩=some (.string x)) w3.drew:=⟨s3.c.c10,b3.at_ 6 (.string x) (QI (by rw[hl.len];omega))⟩;have s4:=s3.aj (Kp.drew [] w3);have b4:=b3.aj (Kp.drew [] w3) (by simp);obtain⟨w4,hw4⟩:∃w4,w4=w3.drew:=⟨_,rfl⟩;rw[<-hw4] at s4 b4 hS ⊢;clear hw4 c5 c5' s3 b3;iterate 9(refine tkn (v:=?_) rfl (by kernel_rfl) (fun _ _ _ h=>h) ⟨rfl,fun w hSw=>?_⟩ hS ?_;rotate_left;(focus((try dsimp only at hSw);go_simp;(try with_reducible rfl)));(try simp only[Qt,Qs,Qr,Act.put,Qq,Qu,Qv]))
  have hput:=C5 (v:=.int .i64 σ.ns.length) Tryz.underlying124 Tryz.underlying9 s4.r.m10 hfi;have kput:=Kp.setBlock w4 σ.nb (.map ((lY 0 σ.nm).toArray.push ⟨.string x,.int .i64 σ.ns.length,σ.nm.length⟩) (σ.nm.length+1));have hm5:(ChangeMaps.setBlock w4 σ.nb (.map ((lY 0 σ.nm).toArray.push ⟨.string x,.int .i64 σ.ns.length,σ.nm.length⟩) (σ.nm.length+1))).heap[σ.nb]? = some (Py (σ.nm++[(x,σ.ns.length)])):=by
   rw[CN];have:=s4.r.bk.hi 3 σ.nb rfl;simp[ChangeMaps.setBlock,this]
  have s5:=s4.putName σ.ns.length kput hm5;have nbc:cb≠σ.nb:=fun e=>hf.bk 3 (by rw[e];rfl);have b5:=b4.aj kput (by simpa using nbc);obtain⟨w5,hw5⟩:∃w5,w5=ChangeMaps.setBlock w4 σ.nb (.map ((lY 0 σ.nm).toArray.push ⟨.string x,.int .i64 σ.ns.length,σ.nm.length⟩) (σ.nm.length+1)):=⟨_,rfl⟩;rw[<-hw5] at hput s5 b5;have HFI:=hid hfi;clear hw5 hm5 kput hfi;refine ai (i:=9) (by kernel_rfl) rfl (fun K hK=>?_);go_simp;refine hK.out _ _ (.inl rfl) ?_;clear hK K;refine ax (by kernel_rfl) ?_ _;clear hput hS s4 b4;obtain⟨i0,hi,hz0,hz1,hz2⟩:=info_parts Tryz.JQ;have HI:=hid (And.intro hi (And.intro hz0 (And.intro hz1 hz2)));clear hi hz0 hz1 hz2;go_upto_region 5 with fail
  refine az (fun w':World=>w'.cell? ⟨b,5,none⟩=some σ.vn/\w'.cell? ⟨cb,6,none⟩=some (.string x)) 15 (by kernel_rfl) ?_;have s6:=s5.aj (Kp.drew [] w5);have b6:=b5.aj (Kp.drew [] w5) (by simp);obtain⟨w6,hw6⟩:∃w6,w6=w5.drew:=⟨_,rfl⟩;rw[<-hw6] at s6 b6 ⊢;clear hw6 s5 b5;have hS5:(fun w':World=>w'.cell? ⟨b,5,none⟩=some σ.vn/\w'.cell? ⟨cb,6,none⟩=some (.string x)) w6:=⟨s6.c.c5,b6.at_ 6 (.string x) (QI (by rw[hl.len];omega))⟩;iterate 10(refine tkn (v:=?_) rfl (by kernel_rfl) (fun _ _ _ h=>h) ⟨rfl,fun w hSw=>?_⟩ hS5 ?_;rotate_left;(focus((try dsimp only at hSw);go_simp;(try with_reducible rfl)));(try simp only[Qt,Qs,Qr,Act.put,Qq,Qu,Qv]))
  have ka:=Kp.alloc [] w6 (.cells #[.string x] 9);have s7:=s6.aj ka;have b7:=b6.aj ka (by simp);have hS7:(fun w':World=>w'.cell? ⟨b,5,none⟩=some σ.vn/\w'.cell? ⟨cb,6,none⟩=some (.string x)) (w6.alloc (.cells #[.string x] 9)):=⟨s7.c.c5,b7.at_ 6 (.string x) (QI (by rw[hl.len];omega))⟩;have BN:=Bl.alloc w6 [.string x] 9;refine ai (i:=10) (by kernel_rfl) rfl (fun K hK=>?_);go_simp;refine hK.out _ _ (.inr hS7) ?_;clear hK K;refine ai (i:=11) (by kernel_rfl) rfl (fun K hK=>?_);refine jR (by rfl) (.tmp 45) (.tmp 50) 42 (by rfl) w0.heap.size 9 i0 _ 1 16 Tryz.underlying42 HI.out.1 HI.out.2.1 HI.out.2.2.1 HI.out.2.2.2 rfl (by decide) σ.vn σ.ns.length (σ.ns.map .string) (by rw[ev];rfl) s7.r.o5 ⟨w6.heap.size,0,none⟩ 1 1 [.string x] (by rfl) rfl (fun j u hu=>by rw[Addr.add_mid,QH];exact BN.at_ j u hu) (fun u hu=>by simp at hu;subst hu;rfl) (by have:=hsl.ns;unfold maxLen;omega) (by have:=hsl.ns;omega) s7.r.kp.size (by omega) ?_
  intro g cap w8 ho8 hg8 hor8;have blt:=s7.cur.lt;have hb2:w8.heap[b]? = (w6.alloc (.cells #[.string x] 9)).heap[b]?:=hg8.block b blt (fun e=>by have:=s7.r.bk.ne 0 5 b rfl (by first|exact e|exact e.symm);omega);have hb3:w8.heap[cb]? = (w6.alloc (.cells #[.string x] 9)).heap[cb]?:=hg8.block cb b7.lt (fun e=>hf.bk 5 (by first|exact e|exact e.symm));have hS8:(fun w':World=>w'.cell? ⟨b,5,none⟩=some σ.vn/\w'.cell? ⟨cb,6,none⟩=some (.string x)) w8:=⟨(World.cell?_of_block hb2).trans hS7.1,(World.cell?_of_block hb3).trans hS7.2⟩;have c5:=hS8.1;have f5:w8.frozen? ⟨b,5,none⟩=false:=(World.frozen?_of_block hb2).trans (s7.cur.free 5);have s9:=s6.MP ka ho8 hg8 hor8;have b8:Bl w8 cb (cv.set 6 (.string x)):=b7.aj (aX (S:=σ.vn.ownBlock.toList) hg8 (fun p hp=>by rw[hp];simp)) (fun hm=>hf.bk 5 (show σ.vn.ownBlock=some cb by simpa using hm));have b9:=b8.aj (Kp.setCell (S:=[b]) (p:=⟨b,5,none⟩) w8 (.slice (some ⟨g,0,none⟩) (σ.ns.length+1) cap) (by simp)) (by simpa using hne)
  have gfar:cb≠g:=fun e=>by
   rcases hor8 with q|q
   .exact hf.bk 5 (show σ.vn.ownBlock=some cb by rw[e];exact q)
   .have:=b7.lt;omega
  refine hK.out _ _ (.inr hS8) ?_;clear hK K;have S9:=hid s9;have B9:=hid b9;clear s9 b9 ho8 hg8 hor8 s6 b6 b7 b8 ka BN hb2 hb3 hS5 hS7 s7;refine ai (i:=12) (by kernel_rfl) rfl (fun K hK=>?_);go_simp;refine hK.out _ _ (.inr hS8) ?_;clear hK K;refine ai (i:=13) (by kernel_rfl) rfl (fun K hK=>?_);go_simp;refine hK.out _ _ (.inr hS8) ?_;clear hK K;refine ai (i:=14) (by kernel_rfl) rfl (fun K hK=>?_);go_simp;refine hK.out _ _ (.inr hS8) ?_;clear hK K;refine ai (i:=15) (by kernel_rfl) rfl (fun K hK=>?_);go_simp;refine hK.out _ _ (.inl rfl) ?_;clear hK K;refine ax (by kernel_rfl) ?_ _;obtain⟨w9,hw9⟩:∃w9,w9=w8.setCell ⟨b,5,none⟩ (.slice (some ⟨g,0,none⟩) (σ.ns.length+1) cap):=⟨_,rfl⟩;rw[<-hw9] at S9 B9 ⊢;clear hw9 c5 f5 hS8;have e7:=B9.out.at_ 7 _ (QA (show 7<(cv.set 6 (.string x)).length by rw[l2.len];omega));have f7:=B9.out.free 7;go_wp2_with fail;go_end0;have far':Sr.Far w0 b { σ with nm:=σ.nm++[(x,σ.ns.length)],vn:=.slice (some ⟨g,0,none⟩) (σ.ns.length+1) cap,ns:=σ.ns++[x]} cb:=by
   refine⟨hf.lo,fun i=>?_,hf.fx⟩;rw[show srB b { σ with nm:=σ.nm++[(x,σ.ns.length)],vn:=.slice (some ⟨g,0,none⟩) (σ.ns.length+1) cap,ns:=σ.ns++[x]}=_ from yp b { σ with nm:=σ.nm++[(x,σ.ns.length)]} ⟨g,0,none⟩ (σ.ns.length+1) cap (σ.ns++[x])];show(if i=5 then some g else srB b { σ with nm:=σ.nm++[(x,σ.ns.length)]} i)≠_;split
   .intro e;injection e with e;exact gfar e.symm
   .rw[Ie];exact hf.bk i
  exact⟨rfl,{ σ with nm:=σ.nm++[(x,σ.ns.length)],vn:=.slice (some ⟨g,0,none⟩) (σ.ns.length+1) cap,ns:=σ.ns++[x]},S9.out.other (Kp.setCell (S:=[cb]) _ _ (by simp)) (fun y hy=>by simp at hy;rw[hy];exact far'),_,B9.out.set 7 (.int .i64 σ.ns.length) (by rw[l2.len];omega),l2.set 7 rfl,far',.inl ⟨HFI.out,_,rfl,rfl⟩⟩
 .have hlk:∀m',(Instr.lookup 124 (.map (some σ.nb)) (.string x) true).run Tryz.prog (w2.drewN m')=.ok (.tuple #[.int .i64 m,.bool true]) (w2.drewN m'):=fun m'=>
   nc Tryz.underlying124 Tryz.underlying9 (((Kp.drewN [] w2 m').block _ (s2.r.bk.hi 3 _ rfl) (by simp)).trans s2.r.m10) hfi
  go_quiet (fail);have s3:=s2.aj (Kp.drewN [] w2 nq);have b3:=b2.aj (Kp.drewN [] w2 nq) (by simp);have e7:=b3.at_ 7 _ (QA (show 7<(cv.set 6 (.string x)).length by rw[l2.len];omega));have f7:=b3.free 7;have HFI:=hid hfi;clear hfi hlk;go_wp2_with fail;go_end0;refine⟨σ,_,rfl,s3.other (Kp.setCell (S:=[cb]) _ _ (by simp)) (fun y hy=>by simp at hy;rw[hy];exact hf),b3.set 7 (.int .i64 m) (by rw[l2.len];omega),l2.set 7 rfl,hf,.inr ⟨j,m,HFI.out,rfl,rfl⟩⟩
end
end Go.Proofs.YtiahkfoojjpaaaaGreatDoor
namespace Go.Proofs.YtiahkfoojjpaaaaGreatDoor
open Go.RowKit
section
variable {w0 w w':World}{mb sb db lo hi:Nat}{s s':Mst}{σ:Sst}
def Pst.none(p:Pst):Bool:=p.ended&&(p.left.toList==[])
theorem Jw{b:Bool}(h:Mac w0 w mb sb db s)(hb:s.p.none=b):Calls Tryz.prog 120 #[.pointer (some ⟨mb,2,none⟩)] w fun r w'=>r=.returned (.bool b)/\w'=w:=by
 have c2:=h.b.at_ 2 _ rfl;have c4:=h.b.at_ 4 _ rfl;have hb:(s.ended&&(s.left.toList==[]))=b:=hb;go_enter Tryz.func120,Tryz.ntmps120
 cases he:s.ended with
 | false=>
  rw[he] at c4 hb;subst hb;go_wp2_with fail;go_ret;exact⟨rfl,rfl⟩
 | true=>
  rw[he] at c4 hb
  cases hq:(s.left.toList==[]) with
  | false=>
   rw[hq] at hb;subst hb;go_wp2_with fail;go_ret;exact⟨rfl,rfl⟩
  | true=>
   rw[hq] at hb;subst hb;go_wp2_with fail;go_ret;exact⟨rfl,rfl⟩
theorem Aa{t:ByteArray}(ht:t.size<=4000)(w:World):Calls Tryz.prog 115 #[.string t] w fun r w'=>r=.returned (.string t)/\w'=w:=by
 have hq:¬4000<t.size:=by omega
 go_enter Tryz.func115,Tryz.ntmps115
 go_wp2_with fail;go_ret;exact⟨rfl,rfl⟩
theorem oO{a b:List UInt8}(h:a.length+1+b.length<=4000)(w:World):Calls Tryz.prog 119 #[.string (ba a),.string (ba b)] w fun r w'=>r=.returned (.string (ba (a++10::b)))/\w'=w:=by
 obtain⟨c,hc⟩:∃c,c=a++[10]:=⟨_,rfl⟩;obtain⟨d,hd⟩:∃d,d=c++b:=⟨_,rfl⟩;have e1:ba a++⟨#[10]⟩=ba c:=by rw[hc];exact tN a [10]
 have e2:ba c++ba b=ba d:=by rw[hd];exact tN c b
 have ed:a++10::b=d:=by rw[hd,hc];simp
 have za:=ay a;have zb:=ay b;have zc:(ba c).size=a.length+1:=by rw[ay,hc,Qy];rfl
 have zd:(ba d).size=a.length+1+b.length:=by rw[ay,hd,hc,Qy,Qy];rfl
 have o1:¬9223372036854775807<a.length+1:=by omega
 have o2:¬9223372036854775807<a.length+1+b.length:=by omega
 rw[ed];have HB:=hid (fun w=>Aa (t:=ba d) (by omega) w);clear hc hd ed;go_enter Tryz.func119,Tryz.ntmps119
 go_wp2_with fail;refine(HB.out _).mono ?_;rintro r w1 ⟨rfl,rfl⟩;go_wp2_with fail;go_ret;exact⟨rfl,rfl⟩
def Pst.got(a b:List UInt8)(p:Pst):Pst:={ p with space:=ba (a++10::b)}
def Pst.holds(p:Pst):Pst:={ p with held:=p.space}
abbrev gmV:Value:=.func (.func 124) #[] #[]
def Pst.goto(k:Nat)(p:Pst):Pst:={ p with pc:=k}
theorem getBehind_v{cp:Value}{a b:List UInt8}(h:Mac w0 w mb sb db s)(ha:s.space=ba a)(hb:s.held=ba b)(hl:a.length+1+b.length<=4000):Calls Tryz.prog 68 #[.pointer (some ⟨mb,0,none⟩),cp] w fun r w'=>r=.returned (.tuple #[])/\di w0 mb sb db w s w' (s.p.got a b):=by
 have c9:=h.b.at_ 9 _ rfl;have c10:=h.b.at_ 10 _ rfl;have f9:=h.b.free 9;rw[ha] at c9;rw[hb] at c10;have H:=hid (fun w=>oO hl w);have m1:=h.aj (Kp.drew [] w);have m2:=m1.set (s':={ s with space:=ba (a++10::b)}) 9 (.string (ba (a++10::b))) (by omega) rfl rfl;have gr:Gr mb db w s.r (w.drew.setCell ⟨mb,9,none⟩ (.string (ba (a++10::b)))) s.r:=(Gr.dj (Kp.drew [] w) (fun _ e=>by cases e)).trans (Gr.set _ _ _ _);have G2:Hid (di w0 mb sb db w s (w.drew.setCell ⟨mb,9,none⟩ (.string (ba (a++10::b)))) (s.p.got a b)):=hid ⟨_,rfl,m2,gr⟩;clear m1 m2 gr;go_enter Tryz.func68,Tryz.ntmps68
 go_region_with (go_at_call 119;refine(H.out _).mono ?_;rintro r w1 ⟨rfl,rfl⟩)
 all_goals
  go_wp2_with fail;go_end0;exact⟨rfl,G2.out⟩
theorem hold_v{cp:Value}(h:Mac w0 w mb sb db s):Calls Tryz.prog 69 #[.pointer (some ⟨mb,0,none⟩),cp] w fun r w'=>r=.returned (.tuple #[])/\di w0 mb sb db w s w' s.p.holds:=by
 have c9:=h.b.at_ 9 _ rfl;have c10:=h.b.at_ 10 _ rfl;have f10:=h.b.free 10;have G:=hid (di.set (s':={ s with held:=s.space}) h 10 (.string s.space) (by omega) rfl rfl);go_enter Tryz.func69,Tryz.ntmps69
 go_wp2_with fail;go_end0;exact⟨rfl,G.out⟩
theorem rh{a b:List UInt8}(h:Mac w0 w mb sb db s)(ha:s.space=ba a)(hl:a.length+1+b.length<=4000):Calls Tryz.prog 124 #[.pointer (some ⟨mb,0,none⟩),.string (ba b)] w fun r w'=>r=.returned (.tuple #[])/\di w0 mb sb db w s w' (s.p.got a b):=by
 have c9:=h.b.at_ 9 _ rfl;have f9:=h.b.free 9;rw[ha] at c9;have H:=hid (fun w=>oO hl w);have G:=hid (di.set (s':={ s with space:=ba (a++10::b)}) h 9 (.string (ba (a++10::b))) (by omega) rfl rfl);go_enter Tryz.func124,Tryz.ntmps124
 go_wp2_with fail;refine(H.out _).mono ?_;rintro r w1 ⟨rfl,rfl⟩;go_wp2_with fail;go_end0;exact⟨rfl,G.out⟩
theorem O0{ca co k:Nat}(h:Mac w0 w mb sb db s)(hc:w.cell? ⟨ca,co+5,none⟩=some (.int .i64 k)):Calls Tryz.prog 58 #[.pointer (some ⟨mb,0,none⟩),.pointer (some ⟨ca,co,none⟩)] w fun r w'=>r=.returned (.tuple #[])/\di w0 mb sb db w s w' (s.p.goto k):=by
 have c13:=h.b.at_ 13 _ rfl;have f13:=h.b.free 13;have G:=hid (di.set (s':={ s with pc:=k}) h 13 (.int .i64 k) (by omega) rfl rfl);go_enter Tryz.func58,Tryz.ntmps58
 go_wp2_with fail;go_end0;exact⟨rfl,G.out⟩
theorem enter_v{cp:Value}(h:Mac w0 w mb sb db s):Calls Tryz.prog 57 #[.pointer (some ⟨mb,0,none⟩),cp] w fun r w'=>r=.returned (.tuple #[])/\di w0 mb sb db w s w' s.p:=by
 go_enter Tryz.func57,Tryz.ntmps57
 go_wp2_with fail;go_end0;exact⟨rfl,di.refl h⟩
end
