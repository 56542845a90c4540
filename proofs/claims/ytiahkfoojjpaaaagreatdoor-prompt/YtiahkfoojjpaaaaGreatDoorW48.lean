/- What the claim needs of: XV XW XX. -/
import Derived.Test.YtiahkfoojjpaaaaGreatDoorW47
set_option maxRecDepth 100000
set_option maxHeartbeats 16000000
set_option linter.unusedVariables false
set_option linter.unusedSimpArgs false
namespace Go.Proofs.YtiahkfoojjpaaaaGreatDoor
open Go.RowKit
def gi.oX:gi->Bool
 | .last=>true
 | _=>false
def dz.ahead (c:dz):Bool:=c.gQ.any gi.oX || (c.what == 110 || c.what == 78)
def eI.ahead (S:eI):Bool:=S.aI.any dz.ahead
theorem Db {α:Type} (p:α->Bool) (l:List α) {k:Nat} {a:α} (h:l[k]? = some a):(l.take (k+1)).any p=((l.take k).any p || p a):=by
 rw [PE,h,List.any_append];simp
section
variable {w0 w w' wx:World} {mb sb db lo hi:Nat} {s s':Mst} {u:Ust} {σ:Sst} {S:eI} {ca co:Nat} {cv:List Value} {c:dz}
theorem MM (hc:jX w0 σ S ca co cv c) (kx:Kp [] w0 wx) :
  Calls Tryz.prog 39 #[.pointer (some ⟨ca,co,none⟩)] wx fun r w'=>r=.returned (.bool c.ahead)/\w'=wx:=by
 obtain ⟨v0,h0,hA⟩:=hc.is.c0;have cell:∀ (j:Nat) (v:Value),cv[j]? = some v->wx.cell? ⟨ca,co+j,none⟩=some v:=fun j v hv=>(kx.cell (p:=⟨ca,co+j,none⟩) hc.at_.lt (by simp)).trans (hc.at_.at_ j v hv);have hfx:∀ f∈σ.fs,wx.heap[f.1]? = some f.2:=fun f hf=>(kx.block f.1 (aO (hc.fx f hf)) (by simp)).trans (hc.fx f hf);have hn:=hc.ok.adr;obtain ⟨A,n,cc,hv0,hnl,hk⟩:∃ A n cc,v0=.slice A n cc/\n=c.gQ.length/\∀ (k:Nat) (a:gi),c.gQ[k]? = some a->∃ p kd:Nat,A=some ⟨p,0,none⟩/\wx.cell? ⟨p,k * 4,none⟩=some (.int .i64 kd)/\((kd:Int) == 1)=a.oX:=by
  rcases hA with ⟨e,rfl⟩ | ⟨p,cc,cells,rfl,hm,hcs⟩
  .have:c.gQ=[]:=List.map_eq_nil_iff.1 e;exact ⟨none,0,0,rfl,by rw [this];rfl,fun k a h=>by rw [this] at h;cases h⟩
  .refine ⟨_,_,cc,rfl,OE _,fun k a h=>?_⟩;obtain ⟨va,ha,hce⟩:=hcs k a.A (by rw [OG,h];rfl);have hh:=hfx _ hm;have ck:∀ v,va[0]? = some v->wx.cell? ⟨p,k * 4,none⟩=some v:=fun v hv=>by
    have:=hce 0 v hv;simp only [World.cell?,hh];rw [Nat.mul_comm];simpa using this
   cases a with
   | num x=>have ha:va=jo 0 x:=ha;subst ha;exact ⟨p,0,rfl,ck _ rfl,rfl⟩
   | last=>have ha:va=jo 1 0:=ha;subst ha;exact ⟨p,1,rfl,ck _ rfl,rfl⟩
   | pat q=>
    obtain ⟨pb,g,o1,o2,ha,_⟩:=ha;subst ha;exact ⟨p,2,rfl,ck _ rfl,rfl⟩
 subst hv0;have c0:wx.cell? ⟨ca,co,none⟩=some (.slice A n cc):=cell 0 _ h0;have c3:=cell 3 _ hc.is.c3;have HK:=hid hk;have HNL:=hid hnl;obtain ⟨x,hx⟩:∃ x,x=c.what:=⟨_,rfl⟩;rw [<-hx] at c3;have HX:=hid hx;have hn2:n<=2:=by omega
 have FIN:Hid (c.gQ.any gi.oX=false->c.ahead=((x:Int) == 110 || (x:Int) == 78)):=hid (fun q=>by
  unfold dz.ahead;rw [q,<-hx,Bool.false_or]
  congr 1
  .by_cases e:x=110
   .rw [e];rfl
   .rw [beq_eq_false_iff_ne.2 e,eq_comm,Oe];omega
  .by_cases e:x=78
   .rw [e];rfl
   .rw [beq_eq_false_iff_ne.2 e,eq_comm,Oe];omega)
 have FINT:Hid (c.gQ.any gi.oX=true->c.ahead=true):=hid (fun q=>by unfold dz.ahead;rw [q];rfl);obtain ⟨R,hR⟩:∃ R,R=c.ahead:=⟨_,rfl⟩;rw [<-hR] at FIN FINT ⊢;clear hk hnl hx hR hn h0 hA cell hfx;go_enter Tryz.func39,Tryz.ntmps39
 go_wp2_with fail;go_loopw [9,3] (fun v _ wr=>∃ k:Nat,k<=n/\v=.int .i64 k/\Hid ((c.gQ.take k).any gi.oX=false)/\wr=wx) (fun v _ _=>3000 - (intOf v).toNat)
 case atStart=>exact ⟨0,by omega,rfl,hid rfl,rfl⟩
 case round=>
  obtain ⟨k,hk,rfl,HN,rfl⟩:=hrel;by_cases hkn:k < n
  .obtain ⟨a,ha⟩:∃ a,c.gQ[k]? = some a:=⟨_,Ob (by rw [<-HNL.out];exact hkn)⟩;obtain ⟨p,kd,rfl,hcl,hkd⟩:=HK.out k a ha;have hat:=Db gi.oX c.gQ ha;rw [HN.out,Bool.false_or] at hat;obtain ⟨k1,hk1⟩:∃ k1:Nat,k1=k+1:=⟨_,rfl⟩;have wr:=aP k k1 hk1 (by omega);have HK1:=hid hk1;rw [<-hk1] at hat;clear hk1
   cases hl:a.oX with
   | true=>
    rw [hl] at hkd hat
    have HT:Hid (R=true):=hid (FINT.out (by
     obtain ⟨y,h1,h2⟩:=List.any_eq_true.1 hat
     exact List.any_eq_true.2 ⟨y,Pd h1,h2⟩))
    clear hat hl;go_wp2_with fail;go_ret;exact ⟨by rw [HT.out];rfl,rfl⟩
   | false=>
    rw [hl] at hkd hat;have HAT:=hid hat;clear hat hl;go_wp2_with fail;go_round
    case rel=>exact ⟨k1,by have:=HK1.out;omega,by trivial,HAT,by trivial⟩
    case measure=>have:=HK1.out;simp [intOf];omega
  .have hkk:k=n:=by omega
   subst hkk;have hR2:=FIN.out (by have:=HN.out;rw [HNL.out,OY] at this;exact this);have HR2:=hid hR2;clear hR2;by_cases e1:x=110
   .have q1:((x:Int) == 110)=true:=by rw [e1];rfl
    rw [q1] at HR2;clear e1;go_wp2_with fail;go_ret;exact ⟨by rw [HR2.out];rfl,rfl⟩
   .have q1:((x:Int) == 110)=false:=by rw [Oe];omega
    rw [q1] at HR2;obtain ⟨q,hq⟩:∃ q,((x:Int) == 78)=q:=⟨_,rfl⟩;rw [hq] at HR2;clear e1
    cases q
    .go_wp2_with fail;go_ret;exact ⟨by rw [HR2.out];rfl,rfl⟩
    .go_wp2_with fail;go_ret;exact ⟨by rw [HR2.out];rfl,rfl⟩
theorem JI (hP:Prg w0 lo hi sb σ S) (kx:Kp [] w0 wx) :
  Calls Tryz.prog 24 #[.pointer (some ⟨sb,0,none⟩)] wx fun r w'=>r=.returned (.bool S.ahead)/\w'=wx:=by
 have hsx:=hP.sc.aj kx (fun _ e=>by cases e);obtain ⟨A,cc,e,_,_⟩:=aU hsx.o4;have c1:=hsx.c1;rw [e,hP.pg.len] at c1;have hl:=hP.ok.cl
 have HC:Hid (∀ (i:Nat) (c:dz),S.aI[i]? = some c->∃ g,A=some ⟨g,0,none⟩/\Calls Tryz.prog 39 #[.pointer (some ⟨g,i * 23,none⟩)] wx fun r w'=>r=.returned (.bool c.ahead)/\w'=wx):=hid (fun i c hc=>by
  obtain ⟨g,cap,cv,hv,_,hT⟩:=hP.cmd hc;refine ⟨g,?_,MM hT kx⟩;rw [e] at hv
  injection hv)
 obtain ⟨n,hn⟩:∃ n,n=S.aI.length:=⟨_,rfl⟩;rw [<-hn] at c1 hl;have HN:=hid hn;obtain ⟨R,hR⟩:∃ R,R=S.ahead:=⟨_,rfl⟩;rw [<-hR];have HR:=hid hR;clear hn e hR;go_enter Tryz.func24,Tryz.ntmps24
 go_wp2_with fail;go_loopw [9] (fun v wr=>∃ k:Nat,k<=n/\v=.int .i64 k/\Hid ((S.aI.take k).any dz.ahead=false)/\wr=wx) (fun v _=>3000 - (intOf v).toNat)
 case atStart=>exact ⟨0,by omega,rfl,hid rfl,rfl⟩
 case round=>
  obtain ⟨k,hk,rfl,HA,rfl⟩:=hrel;by_cases hkn:k < n
  .obtain ⟨c,hc⟩:∃ c,S.aI[k]? = some c:=⟨_,Ob (by rw [<-HN.out];exact hkn)⟩;obtain ⟨g,rfl,hca⟩:=HC.out k c hc;have HCA:=hid hca;have hat:=Db dz.ahead S.aI hc;rw [HA.out,Bool.false_or] at hat;obtain ⟨k1,hk1⟩:∃ k1:Nat,k1=k+1:=⟨_,rfl⟩;have wr:=aP k k1 hk1 (by omega);have HK1:=hid hk1;rw [<-hk1] at hat;clear hk1 hca
   cases hl:c.ahead with
   | true=>
    rw [hl] at hat HCA
    have HT:Hid (R=true):=hid (by
     rw [HR.out];obtain ⟨y,h1,h2⟩:=List.any_eq_true.1 hat
     exact List.any_eq_true.2 ⟨y,Pd h1,h2⟩)
    clear hat hl;go_wp2_with fail;refine HCA.out.mono ?_;rintro r w1 ⟨rfl,rfl⟩;go_wp2_with fail;go_ret;exact ⟨by rw [HT.out];rfl,rfl⟩
   | false=>
    rw [hl] at hat HCA;have HAT:=hid hat;clear hat hl;go_wp2_with fail;refine HCA.out.mono ?_;rintro r w1 ⟨rfl,rfl⟩;go_wp2_with fail;go_round
    case rel=>exact ⟨k1,by have:=HK1.out;omega,by trivial,HAT,by trivial⟩
    case measure=>have:=HK1.out;simp [intOf];omega
  .have hkk:k=n:=by omega
   subst hkk
   have HT:Hid (R=false):=hid (by
    rw [HR.out];have:=HA.out;rw [HN.out,OY] at this
    exact this)
   go_wp2_with fail;go_ret;exact ⟨by rw [HT.out];rfl,rfl⟩
theorem ust0_p (ah:Bool) (fb nf rb nr:Nat):(lX ah fb nf rb nr).p=(nF ah nf nr).p:=by
 unfold lX nF
 rfl
theorem rO (hP:eS S) (ah:Bool):Fm S (nF ah S.names.length S.ranges):=by
 refine .inr ⟨rfl,⟨⟨⟨Og _,Og _,Og _,Og _,fun t ht=>?_,fun t ht=>(by cases ht),Og _,by show 0+0<=_;omega⟩,by show (List.replicate _ _).length=_;simp,by show (List.replicate _ _).length=_;simp,Og _,Og _⟩,Og _,fun _=>rfl⟩⟩;replace ht:t∈List.replicate S.names.length []:=ht;rw [List.eq_of_mem_replicate ht];exact Od _
theorem Prg.aj (h:Prg w0 lo hi sb σ S) (k:Kp [] w0 w):Prg w lo hi sb σ S:=⟨h.sc.aj k (fun _ e=>by cases e),h.pg,h.ok,h.pw.aj k⟩
theorem MI {lo lo' hi:Nat} {f:Bk} (h:Bk.ok lo hi f) (hl:lo'<=lo):Bk.ok lo' hi f:=⟨fun i p hp=>Oc hl (h.lo i p hp),h.hi,h.ne⟩
theorem Mac.He (h:Mac w w' mb sb db s) (k:Kp [] w0 w):Mac w0 w' mb sb db s:=by
 have hl:=k.size;refine ⟨h.b,⟨k.trans h.r.kp,aW h.r.o2 hl,aW h.r.o3 hl,fun i v hv=>?_,aW h.r.o4 hl,aW h.r.o5 hl,h.r.md,MI h.r.bk hl,h.r.fll⟩⟩;obtain ⟨bs,h1,h2⟩:=h.r.ofl i v hv;exact ⟨bs,h1,aW h2 hl⟩
structure Ed (w0 w:World) (eb mb sb db:Nat) (S:eI) (s:Mst) (u:Ust):Prop where
 p:s.p=u.p
 m:Mac w0 w mb sb db s
 e:w.cell? ⟨eb,0,none⟩=some (.pointer (some ⟨mb,0,none⟩))
 n:∀ i,maB mb db s.r i≠some eb
 lo:w0.heap.size<=eb
 inv:Fm S u
def Ed.blk (eb mb db:Nat) (s:Mst) (p:Nat):Prop:=p=eb\/∃ i,maB mb db s.r i=some p
theorem start_x {ah:Bool} (hs:Scr lo hi w sb 0 σ) (hah:∀ wx,Kp [] w wx->Calls Tryz.prog 24 #[.pointer (some ⟨sb,0,none⟩)] wx fun r w'=>r=.returned (.bool ah)/\Kp [] wx w') (hn:σ.ns.length<=2000) (hrg:σ.ranges<=2000) :
  Calls Tryz.prog 12 #[.pointer (some ⟨sb,0,none⟩)] w fun r w'=>∃ eb mb db fb rb,r=.returned (.pointer (some ⟨eb,0,none⟩))/\Mac w w' mb sb db (lX ah fb σ.ns.length rb σ.ranges)/\Bl w' eb [.pointer (some ⟨mb,0,none⟩)]/\(∀ i,maB mb db (lX ah fb σ.ns.length rb σ.ranges).r i≠some eb)/\w.heap.size<=eb:=by
 have HN:=hid (new_v hs hah hn hrg);clear hah hs;go_enter Tryz.func12,Tryz.ntmps12
 go_wp2_with fail;refine HN.out.mono ?_;rintro r w1 ⟨mb,db,fb,rb,rfl,m1⟩;have M1:=hid m1;clear m1 HN;go_wp2_with fail;go_ret;exact ⟨w1.heap.size,mb,db,fb,rb,rfl,M1.out.aj (Kp.alloc [] w1 _),Bl.alloc w1 [.pointer (some ⟨mb,0,none⟩)] _,(M1.out.dR (Od _)).2,M1.out.r.kp.size⟩
theorem yU (hP:Prg w0 lo hi sb σ S) (k:Kp [] w0 w) :
  Calls Tryz.prog 12 #[.pointer (some ⟨sb,0,none⟩)] w fun r w'=>∃ eb mb db s,r=.returned (.pointer (some ⟨eb,0,none⟩))/\Ed w0 w' eb mb sb db S s (nF S.ahead S.names.length S.ranges)/\Kp [] w w'/\∀ p,Ed.blk eb mb db s p->w.heap.size<=p:=by
 have hPw:=hP.aj k;refine (start_x hPw.sc (fun wx kx=>(JI hPw kx).mono fun r w' q=>⟨q.1,by rw [q.2];exact Kp.refl _ _⟩) (by rw [hP.pg.ns];exact hP.ok.nl) (by rw [hP.pg.rg];exact hP.ok.rl)).mono ?_;rintro r w1 ⟨eb,mb,db,fb,rb,rfl,m,be,hne,hlo⟩;rw [hP.pg.ns,hP.pg.rg] at m hne;refine ⟨eb,mb,db,_,rfl,⟨ust0_p _ _ _ _ _,m.He k,be.at_ 0 _ rfl,hne,Oc k.size hlo,rO hP.ok _⟩,m.r.kp,?_⟩;rintro p (rfl | ⟨i,hi⟩)
 .exact hlo
 .exact m.r.bk.lo i p hi
structure Lft (w0 w:World) (eb mb db:Nat) (s:Mst) (w':World) (s':Mst):Prop where
 kp:Kp [] w0 w'
 size:w.heap.size<=w'.heap.size
 from_:∀ p,Ed.blk eb mb db s' p->Ed.blk eb mb db s p\/w.heap.size<=p
 same:∀ p,p < w.heap.size->¬ Ed.blk eb mb db s p->w'.heap[p]? = w.heap[p]?
theorem Ed.goes {eb:Nat} {u':Ust} (h:Ed w0 w eb mb sb db S s u) (g:de w0 mb sb db w s w' u'.p) (hi:Fm S u'):∃ s',Ed w0 w' eb mb sb db S s' u'/\Lft w0 w eb mb db s w' s':=by
 obtain ⟨s',e,m,gr⟩:=g;have hlt:eb < w.heap.size:=World.block_lt_of_cell? _ _ h.e;have hn:∀ i,maB mb db s'.r i≠some eb:=fun i q=>by
  rcases gr.from_ i eb q with ⟨j,hj⟩ | hj
  .exact h.n j hj
  .omega
 refine ⟨s',⟨e,m,(World.cell?_of_block (a:=⟨eb,0,none⟩) (gr.same eb hlt h.n)).trans h.e,hn,h.lo,hi⟩,⟨m.r.kp,gr.size,?_,fun p hp hb=>gr.same p hp (fun i q=>hb (.inr ⟨i,q⟩))⟩⟩;rintro p (rfl | ⟨i,hi⟩)
 .exact .inl (.inl rfl)
 .rcases gr.from_ i p hi with ⟨j,hj⟩ | hj
  .exact .inl (.inr ⟨j,hj⟩)
  .exact .inr hj
theorem Mac.same (h:Mac w0 w mb sb db s) (k:Kp [] w0 w') (hsz:w.heap.size<=w'.heap.size) (hb:∀ i p,maB mb db s.r i=some p->w'.heap[p]? = w.heap[p]?):Mac w0 w' mb sb db s:=by
 refine ⟨h.b.rq (hb 0 mb rfl),⟨k,ai h.r.o2 (fun p hp=>hb 2 p hp),ai h.r.o3 (fun p hp=>hb 3 p hp),fun i v hv=>?_,ai h.r.o4 (fun p hp=>hb 4 p hp),ai h.r.o5 (fun p hp=>hb 5 p hp),(hb 1 db rfl).trans h.r.md,⟨h.r.bk.lo,fun i p hp=>N8 (h.r.bk.hi i p hp) hsz,h.r.bk.ne⟩,h.r.fll⟩⟩;obtain ⟨bs,h1,h2⟩:=h.r.ofl i v hv;exact ⟨bs,h1,ai h2 (fun p hp=>hb (i+6) p (show (s.r.fl[i]?).bind Value.ownBlock=some p by rw [hv];exact hp))⟩
theorem Ed.lt {eb p:Nat} (h:Ed w0 w eb mb sb db S s u) (hp:Ed.blk eb mb db s p):p < w.heap.size:=by
 rcases hp with rfl | ⟨i,hi⟩
 .exact World.block_lt_of_cell? _ _ h.e
 .exact h.m.r.bk.hi i p hi
theorem Ed.beside {eb ex mx dx:Nat} {sx:Mst} {ux:Ust} {Sx:eI} {sbx:Nat} (hx:Ed w0 w ex mx sbx dx Sx sx ux) (l:Lft w0 w eb mb db s w' s') (hd:∀ p,Ed.blk ex mx dx sx p->¬ Ed.blk eb mb db s p) :
  Ed w0 w' ex mx sbx dx Sx sx ux/\∀ p,Ed.blk ex mx dx sx p->¬ Ed.blk eb mb db s' p:=by
 refine ⟨⟨hx.p,hx.m.same l.kp l.size (fun i p hp=>l.same p (hx.lt (.inr ⟨i,hp⟩)) (hd p (.inr ⟨i,hp⟩))),(World.cell?_of_block (a:=⟨ex,0,none⟩) (l.same ex (hx.lt (.inl rfl)) (hd ex (.inl rfl)))).trans hx.e,hx.n,hx.lo,hx.inv⟩,fun p hp q=>?_⟩;rcases l.from_ p q with r | r
 .exact hd p hp r
 .have:=hx.lt hp;omega
theorem Ed.aj {eb:Nat} (h:Ed w0 w eb mb sb db S s u) (k:Kp [] w w'):Ed w0 w' eb mb sb db S s u:=
 ⟨h.p,h.m.aj k,(k.cell (p:=⟨eb,0,none⟩) (h.lt (.inl rfl)) (by simp)).trans h.e,h.n,h.lo,h.inv⟩
theorem CN {eb:Nat} {d:List UInt8} (hP:Prg w0 lo hi sb σ S) (h:Ed w0 w eb mb sb db S s u) (hd:u.over=false->u.left.length+d.length+u.number<=281474976710656) :
  Calls Tryz.prog 13 #[.pointer (some ⟨eb,0,none⟩),.string (ba d)] w fun r w'=>r=.returned (.agg (fJ (u.feed S d).1.out (u.feed S d).1.over (u.feed S d).1.err (u.feed S d).1.status).toArray)/\∃ s',Ed w0 w' eb mb sb db S s' (u.feed S d).2/\Lft w0 w eb mb db s w' s':=by
 refine (efeed_v (p':=(u.feed S d).2.p) h.m h.e (fun wx mx=>mfeed_t hP mx h.p h.inv hd)).mono ?_;rintro r w1 ⟨rfl,g⟩;exact ⟨rfl,h.goes g (CO hP.ok h.inv hd)⟩
theorem end_t {eb:Nat} (hP:Prg w0 lo hi sb σ S) (h:Ed w0 w eb mb sb db S s u) :
  Calls Tryz.prog 14 #[.pointer (some ⟨eb,0,none⟩)] w fun r w'=>r=.returned (.agg (fJ (u.end_ S).1.out (u.end_ S).1.over (u.end_ S).1.err (u.end_ S).1.status).toArray)/\∃ s',Ed w0 w' eb mb sb db S s' (u.end_ S).2/\Lft w0 w eb mb db s w' s':=by
 refine (eend_v (p':=(u.end_ S).2.p) h.m h.e (fun wx mx=>mend_t hP mx h.p h.inv)).mono ?_;rintro r w1 ⟨rfl,g⟩;exact ⟨rfl,h.goes g (end_inv h.inv)⟩
end
def Ust.fr (o d:List UInt8) (u:Ust):Ust:={ u with left:=u.left++d,out:=o++u.out }
def frR (o d:List UInt8):RU->RU
 | .error (E,u)=>.error (E,u.fr o d)
 | .ok u=>.ok (u.fr o d)
section
variable {o d:List UInt8} {u:Ust} {t:List UInt8} {q:Bool}
def dB (d:List UInt8) (u:Ust):Prop:=(u.fr [] d).none_=u.none_
theorem zQ (h:dB d u):(u.fr o d).none_=u.none_:=h
theorem gU:(u.fr o d).tell t=frR o d (u.tell t):=by
 unfold Ust.tell;show (if 200000 < u.count+t.length+1 then _ else _)=_;split
 .rfl
 .show Except.ok _=Except.ok _
  congr 1
  show ({ u with left:=u.left++d,count:=u.count+t.length+1,out:=o++u.out++t++[10] }:Ust)={ u with left:=u.left++d,count:=u.count+t.length+1,out:=o++(u.out++t++[10]) };rw [Om,Om,Om]
theorem Be {i:Nat}:(u.fr o d).write i t=frR o d (u.write i t):=by
 unfold Ust.write;show (if 200000 < u.count+t.length+1 then _ else _)=_;split <;> rfl
theorem Bp:∀ (l:List (List UInt8)) (u:Ust),Ust.tellL l (u.fr o d)=frR o d (Ust.tellL l u)
 | [],u=>rfl
 | t::l,u=>by
  unfold Ust.tellL;rw [gU]
  cases u.tell t with
  | error e=>rfl
  | ok u1=>exact Bp l u1
theorem gO:(u.fr o d).brought=frR o d u.brought:=by
 rw [fS,fS];show Lk (Ust.tellL u.br (u.fr o d))=_;rw [Bp]
 cases Ust.tellL u.br u <;> rfl
theorem qm:(u.fr o d).dw q=frR o d (u.dw q):=by
 unfold Ust.dw
 cases q
 .show (match (u.fr o d).tell u.space with | .error e=>.error e | .ok u1=>u1.brought:RU)=frR o d (match u.tell u.space with | .error e=>.error e | .ok u1=>u1.brought);rw [gU]
  cases u.tell u.space with
  | error e=>rfl
  | ok u1=>exact gO
 .exact gO
theorem pq:(u.fr o d).dk q=frR o d (u.dk q):=by
 unfold Ust.dk;rw [qm]
 cases u.dw q <;> rfl
theorem gq:(u.fr o d).aD=frR o d u.aD:=by
 unfold Ust.aD;rw [gO]
 cases u.brought <;> rfl
theorem pz {st:Nat}:(u.fr o d).eJ q st=frR o d (u.eJ q st):=by
 unfold Ust.eJ;rw [pq]
 cases u.dk q <;> rfl
theorem yD {c:dz}:fF c (u.fr o d)=frR o d (fF c u):=by
 unfold fF;split
 .rfl
 .exact Be
theorem DF {c:dz}:(u.fr o d).replace c=frR o d (u.replace c):=by
 rw [fQ,fQ];show (match jg c u.space with | none=>.ok (u.fr o d) | some t=>if 4000 < t.length then .error (8,u.fr o d) else NN c (if c.print then (({ u with space:=t,fI:=true }:Ust).fr o d).tell t else .ok (({ u with space:=t,fI:=true }:Ust).fr o d)):RU)=_
 cases jg c u.space with
 | none=>rfl
 | some t=>
  dsimp only;split
  .rfl
  .split
   .rw [gU]
    cases ({ u with space:=t,fI:=true }:Ust).tell t with
    | error e=>rfl
    | ok u1=>exact yD
   .exact yD
theorem Cx {a b:List UInt8} {f:List UInt8->Ust} {g:List UInt8->Ust} (h:∀ t,g t=(f t).fr o d):Ust.gD a b g (u.fr o d)=frR o d (Ust.gD a b f u):=by
 unfold Ust.gD;split
 .rfl
 .rw [h];rfl
theorem deed_fr {c:dz} (h:dB d u):(u.fr o d).iD q c=frR o d (u.iD q c):=by
 unfold Ust.iD;by_cases x123:c.what=123
 .rw [Oa x123,Oa x123];exact rfl
 rw [N7 x123,N7 x123];by_cases x98:c.what=98
 .rw [Oa x98,Oa x98];exact rfl
 rw [N7 x98,N7 x98];by_cases x116:c.what=116
 .rw [Oa x116,Oa x116];by_cases hr:u.fI=true
  .rw [Oa hr,Oa (show (u.fr o d).fI=true from hr)]
   rfl
  .rw [N7 hr,N7 (show ¬ (u.fr o d).fI=true from hr)]
   rfl
 rw [N7 x116,N7 x116];by_cases x97:c.what=97
 .rw [Oa x97,Oa x97];exact rfl
 rw [N7 x97,N7 x97];by_cases x105:c.what=105
 .rw [Oa x105,Oa x105];exact gU
 rw [N7 x105,N7 x105];by_cases x99:c.what=99
 .rw [Oa x99,Oa x99];show (match (if c.gQ.length=2/\c.neg=false/\u.rg.getD c.range false=true then .ok (u.fr o d) else (u.fr o d).tell c.text.plain:RU) with | .error e=>.error e | .ok u1=>u1.aD:RU)=frR o d (match (if c.gQ.length=2/\c.neg=false/\u.rg.getD c.range false=true then .ok u else u.tell c.text.plain:RU) with | .error e=>.error e | .ok u1=>u1.aD);by_cases hq:c.gQ.length=2/\c.neg=false/\u.rg.getD c.range false=true
  .rw [Oa hq,Oa hq];exact gq
  .rw [N7 hq,N7 hq,gU]
   cases u.tell c.text.plain with
   | error e=>rfl
   | ok u1=>exact gq
 rw [N7 x99,N7 x99];by_cases x115:c.what=115
 .rw [Oa x115,Oa x115];exact DF
 rw [N7 x115,N7 x115];by_cases x121:c.what=121
 .rw [Oa x121,Oa x121];exact rfl
 rw [N7 x121,N7 x121];by_cases x100:c.what=100
 .rw [Oa x100,Oa x100];exact gq
 rw [N7 x100,N7 x100];by_cases x68:c.what=68
 .rw [Oa x68,Oa x68];show (match (cutL u.space).2 with | none=>(u.fr o d).aD | some rest=>match (u.fr o d).brought with | .error e=>.error e | .ok u1=>.ok (u1.iZ rest):RU)=frR o d (match (cutL u.space).2 with | none=>u.aD | some rest=>match u.brought with | .error e=>.error e | .ok u1=>.ok (u1.iZ rest))
  cases (cutL u.space).2 with
  | none=>exact gq
  | some rest=>
   dsimp only;rw [gO]
   cases u.brought <;> rfl
 rw [N7 x68,N7 x68];by_cases x103:c.what=103
 .rw [Oa x103,Oa x103];exact rfl
 rw [N7 x103,N7 x103];by_cases x71:c.what=71
 .rw [Oa x71,Oa x71];exact Cx (fun _=>rfl)
 rw [N7 x71,N7 x71];by_cases x104:c.what=104
 .rw [Oa x104,Oa x104];exact rfl
 rw [N7 x104,N7 x104];by_cases x72:c.what=72
 .rw [Oa x72,Oa x72];exact Cx (fun _=>rfl)
 rw [N7 x72,N7 x72];by_cases x120:c.what=120
 .rw [Oa x120,Oa x120];exact rfl
 rw [N7 x120,N7 x120];by_cases x110:c.what=110
 .rw [Oa x110,Oa x110];rw [zQ h];split
  .exact pz
  .rw [qm]
   cases u.dw q <;> rfl
 rw [N7 x110,N7 x110];by_cases x78:c.what=78
 .rw [Oa x78,Oa x78];rw [zQ h];split
  .exact pz
  .rw [gO]
   cases u.brought <;> rfl
 rw [N7 x78,N7 x78];by_cases x112:c.what=112
 .rw [Oa x112,Oa x112];exact gU
 rw [N7 x112,N7 x112];by_cases x80:c.what=80
 .rw [Oa x80,Oa x80];exact gU
 rw [N7 x80,N7 x80];by_cases x108:c.what=108
 .rw [Oa x108,Oa x108];exact gU
 rw [N7 x108,N7 x108];by_cases x61:c.what=61
 .rw [Oa x61,Oa x61];exact gU
 rw [N7 x61,N7 x61];by_cases x113:c.what=113
 .rw [Oa x113,Oa x113];exact pz
 rw [N7 x113,N7 x113];by_cases x119:c.what=119
 .rw [Oa x119,Oa x119];exact Be
 rw [N7 x119,N7 x119]
 rfl
theorem lB {a:gi} (h:dB d u):(u.fr o d).says a=u.says a:=by
 cases a with
 | num n=>rfl
 | last=>exact zQ h
 | pat p=>rfl
theorem yE {c:dz} (h:dB d u):(u.fr o d).addressed c=((u.addressed c).1,(u.addressed c).2.fr o d):=by
 unfold Ust.addressed;split
 .rfl
 .rw [lB h]
 .rename_i a b l _;unfold Ust.ranged
  cases b with
  | num n=>
   dsimp only;rw [lB h]
   rfl
  | last=>
   dsimp only;rw [lB h,lB h];by_cases hr:u.rg.getD c.range false=true
   .rw [Oa hr,Oa (show (u.fr o d).rg.getD c.range false=true from hr)]
    rfl
   .rw [N7 hr,N7 (show ¬ (u.fr o d).rg.getD c.range false=true from hr)]
    rfl
  | pat p=>
   dsimp only;rw [lB h,lB h];by_cases hr:u.rg.getD c.range false=true
   .rw [Oa hr,Oa (show (u.fr o d).rg.getD c.range false=true from hr)]
    rfl
   .rw [N7 hr,N7 (show ¬ (u.fr o d).rg.getD c.range false=true from hr)]
    rfl
noncomputable def Ust.D9 (S:eI) (c:dz) (u2:Ust):RU:=
 if 2000 < u2.steps then .error (7,u2)
 else if (u2.addressed c).1 != c.neg then (u2.addressed c).2.iD S.quiet c else if c.what=123 then .ok { (u2.addressed c).2 with pc:=c.goal } else .ok (u2.addressed c).2
theorem jb {c:dz}:(u.addressed c).2.left=u.left/\(u.addressed c).2.ended=u.ended:=by
 obtain ⟨rg,e,_⟩:=fj u c;rw [e];exact ⟨rfl,rfl⟩
theorem dB.of {v:Ust} (h:dB d u) (h1:v.left=u.left) (h2:v.ended=u.ended):dB d v:=by
 unfold dB Ust.none_ at h ⊢;show (v.ended && (v.left++d).isEmpty)=_;rw [h1,h2];exact h
theorem Lu {S:eI} {c:dz} (h:dB d u):(u.fr o d).D9 S c=frR o d (u.D9 S c):=by
 unfold Ust.D9;rw [yE h];dsimp only;by_cases hs:2000 < u.steps
 .rw [Oa hs,Oa (show 2000 < (u.fr o d).steps from hs)]
  rfl
 .rw [N7 hs,N7 (show ¬ 2000 < (u.fr o d).steps from hs)];by_cases hb:((u.addressed c).1 != c.neg)=true
  .rw [Oa hb,Oa hb];exact deed_fr (h.of jb.1 jb.2)
  .rw [N7 hb,N7 hb];by_cases hc:c.what=123
   .rw [Oa hc,Oa hc]
    rfl
   .rw [N7 hc,N7 hc]
    rfl
theorem tN (S:eI) (u:Ust):u.look S=match S.aI[u.pc]? with
 | none=>u.dk S.quiet
 | some c=>if c.what=125\/c.what=58 then .ok { u with pc:=u.pc+1 } else ({ u with pc:=u.pc+1,steps:=u.steps+1 }:Ust).D9 S c:=rfl
theorem zX {S:eI} (h:dB d u):(u.fr o d).look S=frR o d (u.look S):=by
 rw [tN,tN];show (match S.aI[u.pc]? with | none=>_ | some c=>_)=_
 cases S.aI[u.pc]? with
 | none=>exact pq
 | some c=>
  dsimp only;by_cases hpl:c.what=125\/c.what=58
  .rw [Oa hpl,Oa hpl]
   rfl
  .rw [N7 hpl,N7 hpl];exact Lu (u:={ u with pc:=u.pc+1,steps:=u.steps+1 }) h
end
def ErrB (n:Nat) (v:Ust):Prop:=v.out.length<=200000/\v.fb.length=n/\∀ t∈v.fb,t.length<=200000
def Di (n:Nat):RU->Prop
 | .error (_,v)=>ErrB n v
 | .ok _=>True
section
variable {o d:List UInt8} {u:Ust} {t:List UInt8} {q:Bool} {n:Nat}
theorem jm (h:UOk u) (hn:u.fb.length=n):ErrB n u:=⟨Oc h.ot h.ct,hn,fun t ht=>Oc (h.fb t ht) h.ct⟩
theorem fN (h:UOk u) (hn:u.fb.length=n):Di n (u.tell t):=by
 unfold Ust.tell;have k:=jm h hn;split
 .exact ⟨k.1,k.2.1,k.2.2⟩
 .trivial
theorem yd {i:Nat} (h:UOk u) (hn:u.fb.length=n):Di n (u.write i t):=by
 unfold Ust.write;have k:=jm h hn;split
 .exact ⟨k.1,k.2.1,k.2.2⟩
 .trivial
theorem ye:∀ (l:List (List UInt8)) (u:Ust),UOk u->u.fb.length=n->Di n (Ust.tellL l u)
 | [],u,_,_=>trivial
 | t::l,u,h,hn=>by
  unfold Ust.tellL;have A:=fN (t:=t) h hn
  cases h1:u.tell t with
  | error e=>rw [h1] at A;exact A
  | ok u1=>exact ye l u1 (h.tell h1).1 ((eE h h1).1.fb.trans hn)
theorem fW (h:UOk u) (hn:u.fb.length=n):Di n u.brought:=by
 rw [fS];have A:=ye u.br u h hn
 cases h1:Ust.tellL u.br u with
 | error e=>rw [h1] at A;exact A
 | ok u1=>trivial
theorem pn (h:UOk u) (hn:u.fb.length=n):Di n (u.dw q):=by
 unfold Ust.dw
 cases q
 .show Di n (match u.tell u.space with | .error e=>.error e | .ok u1=>u1.brought);have A:=fN (t:=u.space) h hn
  cases h1:u.tell u.space with
  | error e=>rw [h1] at A;exact A
  | ok u1=>exact fW (h.tell h1).1 ((eE h h1).1.fb.trans hn)
 .exact fW h hn
theorem lZ (h:UOk u) (hn:u.fb.length=n):Di n (u.dk q):=by
 unfold Ust.dk;have A:=pn (q:=q) h hn
 cases h1:u.dw q with
 | error e=>rw [h1] at A;exact A
 | ok u1=>trivial
theorem fO (h:UOk u) (hn:u.fb.length=n):Di n u.aD:=by
 unfold Ust.aD;have A:=fW h hn
 cases h1:u.brought with
 | error e=>rw [h1] at A;exact A
 | ok u1=>trivial
theorem lQ {st:Nat} (h:UOk u) (hn:u.fb.length=n):Di n (u.eJ q st):=by
 unfold Ust.eJ;have A:=lZ (q:=q) h hn
 cases h1:u.dk q with
 | error e=>rw [h1] at A;exact A
 | ok u1=>trivial
theorem qZ {c:dz} (h:UOk u) (hn:u.fb.length=n):Di n (fF c u):=by
 unfold fF;split
 .trivial
 .exact yd h hn
theorem Aq {c:dz} (h:UOk u) (hn:u.fb.length=n):Di n (u.replace c):=by
 rw [fQ]
 cases jg c u.space with
 | none=>trivial
 | some t=>
  dsimp only;by_cases hl:4000 < t.length
  .rw [Oa hl];exact jm h hn
  .rw [N7 hl];have h2:UOk ({ u with space:=t,fI:=true }:Ust):=⟨by show t.length<=4000;omega,h.hd,h.ct,h.ot,h.fb,h.bt,h.bl,h.lf⟩
   cases c.print with
   | true=>
    rw [Oa rfl];have A:=fN (t:=t) (n:=n) h2 hn
    cases h1:({ u with space:=t,fI:=true }:Ust).tell t with
    | error e=>rw [h1] at A;exact A
    | ok u1=>exact qZ (h2.tell h1).1 ((eE h2 h1).1.fb.trans hn)
   | false=>
    rw [N7 (by simp)];exact qZ h2 hn
theorem yh {a b:List UInt8} {f:List UInt8->Ust} (h:UOk u) (hn:u.fb.length=n):Di n (Ust.gD a b f u):=by
 unfold Ust.gD;split
 .exact jm h hn
 .trivial
theorem Me {c:dz} (h:UOk u) (hn:u.fb.length=n):Di n (u.iD q c):=by
 unfold Ust.iD;by_cases x123:c.what=123
 .rw [Oa x123];exact trivial
 rw [N7 x123];by_cases x98:c.what=98
 .rw [Oa x98];exact trivial
 rw [N7 x98];by_cases x116:c.what=116
 .rw [Oa x116];exact trivial
 rw [N7 x116];by_cases x97:c.what=97
 .rw [Oa x97];exact trivial
 rw [N7 x97];by_cases x105:c.what=105
 .rw [Oa x105];exact fN h hn
 rw [N7 x105];by_cases x99:c.what=99
 .rw [Oa x99];by_cases hq:c.gQ.length=2/\c.neg=false/\u.rg.getD c.range false=true
  .rw [Oa hq];exact fO h hn
  .rw [N7 hq];have A:=fN (t:=c.text.plain) h hn
   cases h1:u.tell c.text.plain with
   | error e=>rw [h1] at A;exact A
   | ok u1=>exact fO (h.tell h1).1 ((eE h h1).1.fb.trans hn)
 rw [N7 x99];by_cases x115:c.what=115
 .rw [Oa x115];exact Aq h hn
 rw [N7 x115];by_cases x121:c.what=121
 .rw [Oa x121];exact trivial
 rw [N7 x121];by_cases x100:c.what=100
 .rw [Oa x100];exact fO h hn
 rw [N7 x100];by_cases x68:c.what=68
 .rw [Oa x68]
  cases (cutL u.space).2 with
  | none=>exact fO h hn
  | some rest=>
   dsimp only;have A:=fW h hn
   cases h1:u.brought with
   | error e=>rw [h1] at A;exact A
   | ok u1=>trivial
 rw [N7 x68];by_cases x103:c.what=103
 .rw [Oa x103];exact trivial
 rw [N7 x103];by_cases x71:c.what=71
 .rw [Oa x71];exact yh h hn
 rw [N7 x71];by_cases x104:c.what=104
 .rw [Oa x104];exact trivial
 rw [N7 x104];by_cases x72:c.what=72
 .rw [Oa x72];exact yh h hn
 rw [N7 x72];by_cases x120:c.what=120
 .rw [Oa x120];exact trivial
 rw [N7 x120];by_cases x110:c.what=110
 .rw [Oa x110];split
  .exact lQ h hn
  .have A:=pn (q:=q) h hn
   cases h1:u.dw q with
   | error e=>rw [h1] at A;exact A
   | ok u1=>trivial
 rw [N7 x110];by_cases x78:c.what=78
 .rw [Oa x78];split
  .exact lQ h hn
  .have A:=fW h hn
   cases h1:u.brought with
   | error e=>rw [h1] at A;exact A
   | ok u1=>trivial
 rw [N7 x78];by_cases x112:c.what=112
 .rw [Oa x112];exact fN h hn
 rw [N7 x112];by_cases x80:c.what=80
 .rw [Oa x80];exact fN h hn
 rw [N7 x80];by_cases x108:c.what=108
 .rw [Oa x108];exact fN h hn
 rw [N7 x108];by_cases x61:c.what=61
 .rw [Oa x61];exact fN h hn
 rw [N7 x61];by_cases x113:c.what=113
 .rw [Oa x113];exact lQ h hn
 rw [N7 x113];by_cases x119:c.what=119
 .rw [Oa x119];exact yd h hn
 rw [N7 x119]
 trivial
theorem Md {S:eI} (h:UOk u) (hn:u.fb.length=n):Di n (u.look S):=by
 rw [tN]
 cases S.aI[u.pc]? with
 | none=>exact lZ h hn
 | some c=>
  dsimp only;by_cases hpl:c.what=125\/c.what=58
  .rw [Oa hpl]
   trivial
  .rw [N7 hpl];have h2:UOk ({ u with pc:=u.pc+1,steps:=u.steps+1 }:Ust):=⟨h.sp,h.hd,h.ct,h.ot,h.fb,h.bt,h.bl,h.lf⟩;obtain ⟨u2,hu2⟩:∃ u2:Ust,u2={ u with pc:=u.pc+1,steps:=u.steps+1 }:=⟨_,rfl⟩;have hn2:u2.fb.length=n:=by rw [hu2];exact hn
   rw [<-hu2] at h2 ⊢;unfold Ust.D9;by_cases hs:2000 < u2.steps
   .rw [Oa hs];exact jm h2 hn2
   .rw [N7 hs];obtain ⟨rg,e,_⟩:=fj u2 c;rw [e];dsimp only;split
    .exact Me ⟨h2.sp,h2.hd,h2.ct,h2.ot,h2.fb,h2.bt,h2.bl,h2.lf⟩ hn2
    .split <;> trivial
theorem yg {v:Ust} {E:Nat} (h:UOk u) (hn:u.fb.length=n) (e:u.ay=.error (E,v)):ErrB n v:=by
 have k:=jm h hn;unfold Ust.ay at e
 cases hw:u.aE with
 | no=>rw [hw] at e;cases e
 | bw=>
  rw [hw] at e;dsimp only at e;split at e
  .injection e with e;injection e with e1 e2;rw [<-e2];exact k
  .split at e <;> cases e
 | gw=>
  rw [hw] at e;dsimp only at e;split at e
  .injection e with e;injection e with e1 e2;rw [<-e2];exact k
  .split at e <;> cases e
 | gm=>
  rw [hw] at e;dsimp only at e;split at e
  .injection e with e;injection e with e1 e2;rw [<-e2];exact k
  .split at e
   .unfold Ust.gD at e;split at e
    .rename_i e0 hj;split at hj
     .injection hj with hj;rw [<-hj] at e;injection e with e;injection e with e1 e2;rw [<-e2];exact k
     .cases hj
    .cases e
   .cases e
theorem CQ {S:eI} (hP:eS S):∀ (k:Nat) (u:Ust) (E:Nat) (v:Ust),gE S u->Ust.runF S k u=.error (E,v)->ErrB S.names.length v
 | 0,u,E,v,h,e=>by cases e
 | k+1,u,E,v,h,e=>by
  unfold Ust.runF at e;split at e
  .cases e
  .split at e
   .rename_i e1 h1;injection e with e;subst e;exact yg h.ok.ok h.ok.fb h1
   .cases e
   .rename_i u1 h1;obtain ⟨i1,i2,_⟩:=dK h h1;split at e
    .rename_i e2 h2;injection e with e;subst e;have A:=Md (S:=S) i1.ok.ok i1.ok.fb;rw [h2] at A;exact A
    .rename_i u2 h2;exact CQ hP k u2 E v (eZ hP h h1 h2).1 e
theorem GN {S:eI} (hP:eS S) (h:gE S u):ErrB S.names.length (u.run S):=by
 rw [jC]
 cases hr:Ust.runF S (u.fuel S) u with
 | error q=>
  obtain ⟨E,v⟩:=q;exact CQ hP _ u E v h hr
 | ok v=>
  have k:=ta hP _ u v h hr;exact jm k.ok.ok k.ok.fb
end
section
variable {o d:List UInt8} {u v u1 u2:Ust} {t:List UInt8} {q:Bool} {n:Nat} {S:eI}
theorem tO (hP:eS S) (h:gE S u) (e:u.look S=.ok u2):u2.ended=u.ended/\u2.number=u.number/\u2.ahead=u.ahead:=by
 rw [tN] at e
 cases hcm:S.aI[u.pc]? with
 | none=>
  rw [hcm] at e;exact ⟨(fh h.ok.ok e).1.en,(fh h.ok.ok e).1.nm,(fh h.ok.ok e).1.ah⟩
 | some c=>
  rw [hcm] at e;have hm:c∈S.aI:=Oo hcm;have hlt:=(List.getElem?_eq_some_iff.1 hcm).1;dsimp only at e;by_cases hpl:c.what=125\/c.what=58
  .rw [Oa hpl] at e;injection e with e;rw [<-e];exact ⟨rfl,rfl,rfl⟩
  .rw [N7 hpl] at e;have hk:=h.ok.ok;have h2:UOk ({ u with pc:=u.pc+1,steps:=u.steps+1 }:Ust):=⟨hk.sp,hk.hd,hk.ct,hk.ot,hk.fb,hk.bt,hk.bl,hk.lf⟩;obtain ⟨u3,hu3⟩:∃ u3:Ust,u3={ u with pc:=u.pc+1,steps:=u.steps+1 }:=⟨_,rfl⟩;rw [<-hu3] at h2 e;have e3:u3.ended=u.ended:=by rw [hu3]
   have b3:u3.br.length<=2000:=by rw [hu3];exact Oc h.bs h.ok.st
   have p3:u3.pc<=S.aI.length:=by rw [hu3];exact hlt
   have n3:u3.number=u.number:=by rw [hu3]
   have a3:u3.ahead=u.ahead:=by rw [hu3]
   rw [<-e3,<-n3,<-a3];unfold Ust.D9 at e;by_cases hs:2000 < u3.steps
   .rw [Oa hs] at e
    cases e
   .rw [N7 hs] at e;obtain ⟨rg,ea,_⟩:=fj u3 c;rw [ea] at e;dsimp only at e;split at e
    .have K:=(Cu (n:=S.aI.length) (u:={ u3 with rg:=rg }) ⟨h2.sp,h2.hd,h2.ct,h2.ot,h2.fb,h2.bt,h2.bl,h2.lf⟩ b3 (hP.ok c hm).tx (hP.gl c hm) p3 e).1;exact ⟨K.en,K.nm,K.ah⟩
    .split at e
     .injection e with e;rw [<-e];exact ⟨rfl,rfl,rfl⟩
     .injection e with e;rw [<-e];exact ⟨rfl,rfl,rfl⟩
theorem gV (e:u.ay=.ok (some u1)):u1.ended=u.ended/\u1.left.length+u1.number<=u.left.length+u.number:=by
 have oc:u.there=true->((cutL u.left).2.getD []).length+(u.number+1)<=u.left.length+u.number:=fun h=>by
  have:=nG h;omega
 unfold Ust.ay at e
 cases hw:u.aE with
 | no=>rw [hw] at e;injection e with e;injection e with e;rw [<-e];exact ⟨rfl,Od _⟩
 | bw=>
  rw [hw] at e;dsimp only at e;split at e
  .cases e
  .split at e
   .rename_i ht;injection e with e;injection e with e;rw [<-e];exact ⟨rfl,oc ht⟩
   .injection e with e;cases e
 | gw=>
  rw [hw] at e;dsimp only at e;split at e
  .cases e
  .split at e
   .rename_i ht;injection e with e;injection e with e;rw [<-e];exact ⟨rfl,oc ht⟩
   .injection e with e;cases e
 | gm=>
  rw [hw] at e;dsimp only at e;split at e
  .cases e
  .split at e
   .rename_i ht;split at e
    .cases e
    .rename_i u3 hj;injection e with e;injection e with e;subst e;obtain ⟨t,_,rfl⟩:=jK hj;exact ⟨rfl,oc ht⟩
   .injection e with e;cases e
theorem jR {l R:List UInt8}:(cutL l).2=some R->cutL (l++d)=((cutL l).1,some (R++d)):=by
 induction l generalizing R with
 | nil=>intro h;cases h
 | cons c l ih=>
  intro h;unfold cutL at h;show (if c=10 then ([],some (l++d)) else (c::(cutL (l++d)).1,(cutL (l++d)).2))=((if c=10 then ([],some l) else (c::(cutL l).1,(cutL l).2)).1,some (R++d));by_cases hc:c=10
  .rw [Oa hc] at h ⊢;rw [Oa hc];injection h with h;rw [h]
  .rw [N7 hc] at h ⊢;rw [N7 hc,ih h]
theorem pG:∀ (l:List UInt8),(cutL l).1.length<=(cutL (l++d)).1.length
 | []=>Og _
 | c::l=>by
  show (if c=10 then (([],some l):List UInt8×Option (List UInt8)) else (c::(cutL l).1,(cutL l).2)).1.length<=(if c=10 then (([],some (l++d)):List UInt8×Option (List UInt8)) else (c::(cutL (l++d)).1,(cutL (l++d)).2)).1.length;by_cases hc:c=10
  .rw [Oa hc,Oa hc];exact Od _
  .rw [N7 hc,N7 hc];exact Nat.succ_le_succ (pG l)
theorem Ke (he:u.ended=false) (h:u.there=true):(u.fr o d).there=true/\cutL (u.left++d)=((cutL u.left).1,some ((cutL u.left).2.getD []++d)):=by
 unfold Ust.there at h;rw [he] at h;have hs:∃ R,(cutL u.left).2=some R:=by
  cases hc:(cutL u.left).2 with
  | some R=>exact ⟨R,rfl⟩
  | none=>
   rw [hc] at h
   cases ha:u.ahead with
   | true=>rw [ha] at h;simp at h
   | false=>rw [ha] at h;simp at h
 obtain ⟨R,hR⟩:=hs;have hcut:=jR (d:=d) hR;refine ⟨?_,by rw [hcut,hR];rfl⟩;unfold Ust.there;show (if u.ended then !(u.left++d).isEmpty else if u.ahead then !((cutL (u.left++d)).2.getD []).isEmpty else (cutL (u.left++d)).2.isSome)=true;rw [he,hcut];rw [hR] at h
 cases ha:u.ahead with
 | true=>
  rw [ha] at h;simp at h ⊢;exact fun q=>absurd q h
 | false=>rfl
def Ust.sup (wn:Wn) (C:List UInt8×Option (List UInt8)) (u:Ust):Except (Nat×Ust) (Option Ust):=
 if 1000 < C.1.length then .error (9,u)
 else if u.there then
  match wn with
  | .gw=>.ok (some { u with left:=C.2.getD [],number:=u.number+1,aE:=.no,space:=C.1 })
  | .gm=>if 4000 < (u.space++10::C.1).length then .error (8,{ u with left:=C.2.getD [],number:=u.number+1,aE:=.no }) else .ok (some { u with left:=C.2.getD [],number:=u.number+1,aE:=.no,space:=u.space++10::C.1 })
  | _=>.ok (some (({ u with left:=C.2.getD [],number:=u.number+1,aE:=.no,steps:=0 }:Ust).iZ C.1))
 else .ok none
theorem dq (u:Ust):u.ay=if u.aE=.no then .ok (some u) else u.sup u.aE (cutL u.left):=by
 unfold Ust.ay Ust.sup
 cases hw:u.aE with
 | no=>rfl
 | bw=>rfl
 | gw=>rfl
 | gm=>
  rw [N7 (show ¬ Wn.gm=Wn.no by decide)];dsimp only;split
  .rfl
  .split
   .unfold Ust.gD;dsimp only;by_cases hj:4000 < (u.space++10::(cutL u.left).1).length
    .rw [Oa hj,Oa hj]
    .rw [N7 hj,N7 hj]
   .rfl
theorem oA (he:u.ended=false):(∀ E v,u.ay=.error (E,v)->(u.fr o d).ay=.error (E,v.fr o d))/\(∀ v,u.ay=.ok (some v)->(u.fr o d).ay=.ok (some (v.fr o d))):=by
 have hle:=pG (d:=d) u.left;have T:=Ke (o:=o) (d:=d) he;rw [dq,dq,show (u.fr o d).aE=u.aE from rfl,show (u.fr o d).left=u.left++d from rfl];obtain ⟨C,hC⟩:∃ C,C=cutL (u.left++d):=⟨_,rfl⟩;obtain ⟨B,hB⟩:∃ B,B=cutL u.left:=⟨_,rfl⟩;rw [<-hC,<-hB] at hle T ⊢;obtain ⟨wn,hwn⟩:∃ wn,wn=u.aE:=⟨_,rfl⟩;rw [<-hwn];by_cases h0:wn=.no
 .rw [Oa h0,Oa h0];refine ⟨fun E v e=>(by cases e),fun v e=>?_⟩;injection e with e;injection e with e;rw [e]
 .rw [N7 h0,N7 h0];unfold Ust.sup;by_cases hl:1000 < B.1.length
  .have hl2:1000 < C.1.length:=N8 hl hle;rw [Oa hl2,Oa hl];refine ⟨fun E v e=>?_,fun v e=>(by cases e)⟩;injection e with e;injection e with e1 e2;rw [<-e1,<-e2]
  .rw [N7 hl];by_cases ht:u.there=true
   .obtain ⟨t1,t2⟩:=T ht;have hl2:¬ 1000 < C.1.length:=by rw [t2];exact hl
    rw [N7 hl2,Oa t1,Oa ht,t2]
    cases wn with
    | no=>exact absurd rfl h0
    | bw=>
     refine ⟨fun E v e=>(by cases e),fun v e=>?_⟩;injection e with e;injection e with e;rw [<-e]
     rfl
    | gw=>
     refine ⟨fun E v e=>(by cases e),fun v e=>?_⟩;injection e with e;injection e with e;rw [<-e]
     rfl
    | gm=>
     dsimp only;by_cases hj:4000 < (u.space++10::B.1).length
     .rw [Oa hj,Oa (show 4000 < ((u.fr o d).space++10::B.1).length from hj)];refine ⟨fun E v e=>?_,fun v e=>(by cases e)⟩;injection e with e;injection e with e1 e2;rw [<-e1,<-e2]
      rfl
     .rw [N7 hj,N7 (show ¬ 4000 < ((u.fr o d).space++10::B.1).length from hj)];refine ⟨fun E v e=>(by cases e),fun v e=>?_⟩;injection e with e;injection e with e;rw [<-e]
      rfl
   .rw [N7 ht];refine ⟨fun E v e=>(by cases e),fun v e=>?_⟩;injection e with e
    cases e
end
end Go.Proofs.YtiahkfoojjpaaaaGreatDoor
