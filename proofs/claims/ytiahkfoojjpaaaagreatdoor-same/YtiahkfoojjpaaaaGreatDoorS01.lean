import Derived.Test.YtiahkfoojjpaaaaGreatDoorS00
import Derived.Lib.Bytealg
import Derived.Deep.RegionLaw
import Derived.Lib.SmallJoins
set_option maxRecDepth 100000
set_option maxHeartbeats 16000000
set_option linter.all false
namespace Go.Proofs.YtiahkfoojjpaaaaGreatDoor
open Go.RowKit
abbrev AH(m:Nat->Bool):Value:=.agg #[.int .u64 (wd m 0),.int .u64 (wd m 1),.int .u64 (wd m 2),.int .u64 (wd m 3)]
theorem LZ(m:Nat->Bool)(i:Nat)(h:i<4):[Value.int .u64 (wd m 0),.int .u64 (wd m 1),.int .u64 (wd m 2),.int .u64 (wd m 3)][i]? = some (.int .u64 (wd m i)):=by
 match i,h with
 | 0,_=>rfl
 | 1,_=>rfl
 | 2,_=>rfl
 | 3,_=>rfl
theorem has_any(m:Nat->Bool)(x:Nat)(hx:x<256)(w:World):Calls Tryz.prog 184 #[AH m,.int .u8 x] w fun e w'=>e=.returned (.bool (m x))/\Kp [] w w':=by
 have hv:=LZ m (x/64) (by omega);have hb:=has_bit m x;unfold AH;generalize (wd m 0:Int)=a0 at *;generalize (wd m 1:Int)=a1 at *;generalize (wd m 2:Int)=a2 at *;generalize (wd m 3:Int)=a3 at *;generalize (wd m (x/64):Int)=a4 at *;have HB:Hid _:=hb;clear hb;go_enter Tryz.func184,Tryz.ntmps184
 go_wp2;go_ret;exact⟨by rw[<-HB.out];rfl,Kp.alloc _ _ _⟩
theorem xK(b:Nat)(m:Nat->Bool)(x y:Nat)(hx:x<256)(hy:y<256)(hxy:x<=y)(w:World)(hs:St w b m):Calls Tryz.prog 197 #[.pointer (some ⟨b,0,none⟩),.int .u8 x,.int .u8 y] w fun e w'=>e=.returned (.tuple #[])/\St w' b (span m x (y+1))/\Kp [b] w w':=by
 go_enter Tryz.func197,Tryz.ntmps197
 go_wp2;go_loopw [6] (fun i wr=>∃k:Nat,x<=k/\k<=y+1/\i=.int .i64 k/\St wr b (span m x k)/\Kp [b] w wr) (fun i _=>y+1-(intOf i).toNat)
 case atStart=>exact⟨x,QD _,by omega,rfl,by rw[Ij];exact hs,Kp.refl _ _⟩
 case round=>
  obtain⟨k,hk1,hk2,rfl,hst,hkp⟩:=hrel;by_cases hlt:k<=y
  .have hq:k/64<4:=by omega
   have hc1:=hst.cell (k/64) hq;have hf1:=hst.free (k/64);have hst2:Hid (∀j,j<4->wr.cell? ⟨b,j,none⟩=some (.int .u64 (wd (span m x k) j))):=hst.cell;have hfr:Hid (∀j,wr.frozen? ⟨b,j,none⟩=false):=hst.free;have hbl:=hst.lt;have hso:=yN (span m x k) k;have HS:Hid _:=hso;have hmo:=Ik m x k hk1;have HM:Hid _:=hmo;clear hso hmo hst hs;generalize hm':span m x k=m' at *;clear hm';go_wp2;go_region
   go_wp2;go_roundw
   case rel=>
    refine⟨k+1,by omega,by omega,by go_num,⟨?_,?_,?_⟩,?_⟩
    .simpa[World.setCell] using hbl
    .intro j hj;rw[HS.out,<-HM.out];by_cases e:j=k/64
     .subst e;simp[World.cell?_setCell_same,hc1]
     .rw[rY _ _ _ e];have:=hst2.out j hj;simpa[World.cell?_setCell_other,e,Ne.symm e] using this
    .intro j;simpa using hfr.out j
    .exact hkp.trans ((Kp.setCell _ _ (by simp)).trans (Kp.drew _ _))
   case measure=>simp[intOf];omega
  .have e:k=y+1:=by omega
   subst e;clear hs;go_wp2;go_end0;exact⟨rfl,hst,hkp⟩
theorem rU(m:Nat->Bool)(w:World):Calls Tryz.prog 194 #[AH m] w fun e w'=>e=.returned (AH fun x=>!m x)/\Kp [] w w':=by
 have hsg:IntKind.u64.signed=false:=rfl;unfold AH;go_enter Tryz.func194,Tryz.ntmps194
 go_wp2;refine wp_loop_rounds 5 ?_;rw[rounds_succ];go_wp2;rw[rounds_succ];go_wp2;rw[rounds_succ];go_wp2;rw[rounds_succ];go_wp2;rw[rounds_succ];go_wp2;refine bodyPost_ret (v:=.agg #[.int .u64 (wd (fun x=>!m x) 0),.int .u64 (wd (fun x=>!m x) 1),.int .u64 (wd (fun x=>!m x) 2),.int .u64 (wd (fun x=>!m x) 3)]) (by simp[results,Tryz.results194,go_sem,not_wd]) rfl ⟨rfl,(Kp.alloc _ _ _).trans (Kp.alloc _ _ _)⟩
theorem Aj(b:Nat)(m:Nat->Bool)(s:ByteArray)(w:World)(hs:St w b m)(hlen:s.size<=1000)(hord:∀k,(h:k+1<s.size)->k%2=0->(s[k]'(by omega)).toNat<=(s[k+1]'h).toNat):Calls Tryz.prog 204 #[.pointer (some ⟨b,0,none⟩),.string s] w fun e w'=>e=.returned (.tuple #[])/\St w' b (xM m s.data.toList)/\Kp [b] w w':=by
 go_enter Tryz.func204,Tryz.ntmps204
 go_wp2;go_loopw [4] (fun i wr=>∃(k:Nat) (m':Nat->Bool),k<=s.size+1/\k%2=0/\i=.int .i64 k/\St wr b m'/\Kp [b] w wr/\Hid (xM m' (s.data.toList.drop k)=xM m s.data.toList)) (fun i _=>s.size+2-(intOf i).toNat)
 case atStart=>exact⟨0,m,by omega,rfl,rfl,hs,Kp.refl _ _,rfl⟩
 case round=>
  obtain⟨k,m',hk,hk2,rfl,hst,hkp,he⟩:=hrel;by_cases hlt:k+1<s.size
  .obtain⟨k1,hk1⟩:∃k1:Nat,k1=k+1:=⟨_,rfl⟩;have hkI:(k:Int)+1=(k1:Int):=by omega
   have hk1s:k1<s.size:=by omega
   have hb1':k<s.size:=by omega
   have hstep:=G8 m' s k k1 hb1' hk1s hk1;have HS:Hid _:=hstep;have ho:s[k].toNat<=s[k1].toNat:=by subst hk1;exact hord k hlt hk2
   have hb1:s[k].toNat<256:=Rc _;have hb2:(s[k1]).toNat<256:=Rc _;have hwr:=aa k1 (by omega);clear hstep hord hs hlt hk1;go_wp2;go_region_with (go_at_call 197;refine(xK b m' _ _ hb1 hb2 ho _ (by exact hst.aj (Kp.drew [] _) (by simp))).mono ?_;rintro e w1 ⟨rfl,hst1,hkp1⟩)
   all_goals go_wp2
   all_goals go_roundw
   all_goals first
    | exact⟨k+2,_,by omega,by omega,by go_num,hst1,hkp.trans ((Kp.drew _ _).trans hkp1),HS.out.symm.trans he⟩
    | (simp[intOf];omega)
  .have:=LC m' s k (by omega);have HE:Hid _:=this;clear this;clear hs hord;go_wp2;go_end0;exact⟨rfl,by rw[<-he.out,HE.out];exact hst,hkp⟩
theorem AK(s:ByteArray)(c:Int)(w:World):(callFunc 185 #[.string s,.int .u8 c]).run Tryz.prog w=.ok (.value (.int .i64 (Lib.indexByte s.data.toList c.toNat.toUInt8))) w:=by
 rw[run_callFunc_extern Tryz.func185 (by kernel_rfl) (by kernel_rfl) (by kernel_rfl) (e:=Extern.BytealgIndexByte.indexByte) (by kernel_rfl),Lib.run_indexByteString]
 rfl
theorem JU(s:ByteArray)(c:Int)(w:World):Calls Tryz.prog 162 #[.string s,.int .u8 c] w fun e w'=>e=.returned (.int .i64 (Lib.indexByte s.data.toList c.toNat.toUInt8))/\w'=w:=by
 have h:=AK;go_enter Tryz.func162,Tryz.ntmps162
 go_wp2;go_ret;exact⟨rfl,rfl⟩
theorem nH(s:ByteArray)(c:Int){v:Int}(h:Lib.indexByte s.data.toList c.toNat.toUInt8=v)(w:World)(n:Nat):Calls Tryz.prog 162 #[.string s,.int .u8 c] (w.drewN n) fun e w''=>e=.returned (.int .i64 v)/\∃m,w''=w.drewN m:=by
 subst h;exact Calls.quiet_of_same (JU s c _)
theorem zV{b:Nat}{src:ByteArray}{k g:Nat}(barred behind:ByteArray){w:World}(hr:Rd w b src k g)(hk:k<src.size)(h92:saw src k 92=false)(h10:saw src k 10=false)(hbar:Lib.indexByte barred.data.toList src[k] = -1):Calls Tryz.prog 196 #[.pointer (some ⟨b,0,none⟩),.string barred,.string behind] w fun e w'=>e=.returned (.int .u8 (src[k]).toNat)/\Rd w' b src (k+1) g/\Kp [b] w w':=by
 go_enter Tryz.func196,Tryz.ntmps196
 go_wp2_with (go_at_call 149;refine(aF 92 hr h92).mono ?_;rintro e w1 ⟨rfl,h1,h2⟩)
 have c0:=h1.c0;have c1:=h1.c1;have f1:=h1.free 1;have hsm:=h1.small;have he:((k:Int)==(src.size:Int))=false:=by simp;omega
 have hix:Lib.indexByte barred.data.toList ((src[k].toNat:Int)).toNat.toUInt8 = -1:=by simpa using hbar
 go_quiet (first|(go_at_call 104;exact iA h1 _)|(go_at_call 137;exact Iq 10 h1 h10 _)|(go_at_call 162;exact nH _ _ hix _ _));go_wp2;go_quiet (fail);go_wp2;go_ret;exact⟨rfl,((h1.drewN _).step hk).drewN _,h2.trans ((Kp.drewN _ _ _).trans ((Kp.setCell _ _ (by simp)).trans (Kp.drewN _ _ _)))⟩
def preB(s p:ByteArray):Bool:=decide (p.size<=s.size)&&((s.extract 0 p.size).toList==p.toList)
def nmN:Nat->ByteArray
 | 0=>⟨#[97,108,112,104,97]⟩
 | 1=>⟨#[100,105,103,105,116]⟩
 | 2=>⟨#[97,108,110,117,109]⟩
 | 3=>⟨#[117,112,112,101,114]⟩
 | 4=>⟨#[108,111,119,101,114]⟩
 | 5=>⟨#[115,112,97,99,101]⟩
 | _=>⟨#[112,117,110,99,116]⟩
def nmS:Nat->ByteArray
 | 0=>⟨#[65,90,97,122]⟩
 | 1=>⟨#[48,57]⟩
 | 2=>⟨#[48,57,65,90,97,122]⟩
 | 3=>⟨#[65,90]⟩
 | 4=>⟨#[97,122]⟩
 | 5=>⟨#[9,13,32,32]⟩
 | _=>⟨#[33,47,58,64,91,96,123,126]⟩
structure Nm(w:World):Prop where
 lt:4<w.heap.size
 name:∀i,i<7->w.cell? ⟨4,i*2,none⟩=some (.string (nmN i))
 spans:∀i,i<7->w.cell? ⟨4,i*2+1,none⟩=some (.string (nmS i))
theorem Nm.aj{S:List Nat}{w w':World}(h:Nm w)(k:Kp S w w')(hn:4∉S):Nm w':=
 ⟨Qx h.lt k.size,fun i hi=>by rw[k.cell h.lt hn];exact h.name i hi,fun i hi=>by rw[k.cell h.lt hn];exact h.spans i hi⟩
theorem Nx(i:Nat):(nmN i).size=5:=by unfold nmN;split<;>rfl
theorem ly(s p:ByteArray)(w:World)(_hs:s.size<=1000)(_hp:p.size<=3000):Calls Tryz.prog 102 #[.string s,.string p] w fun e w'=>e=.returned (.bool (preB s p))/\w'=w:=by
 go_enter Tryz.func102,Tryz.ntmps102
 go_wp2
 .go_ret;have h:p.size<=s.size:=by assumption
  exact⟨by simp[preB,h],rfl⟩
 .go_ret;have h:¬p.size<=s.size:=by assumption
  exact⟨by simp[preB,h],rfl⟩
def Qj(w:World)(b:Nat):Nat:=(intOf ((w.cell? ⟨b,1,none⟩).getD undef)).toNat
theorem fU{w:World}{b:Nat}{src:ByteArray}{k g:Nat}(h:Rd w b src k g):Qj w b=k:=by simp[Qj,h.c1,intOf]
theorem nmS_ok(i:Nat):(nmS i).size<=1000:=by unfold nmS;split<;>decide
theorem nmS_big(i:Nat):(nmS i).size<=8:=by unfold nmS;split<;>decide
theorem nmS_six(i:Nat)(h:6<=i):nmS i=nmS 6:=by
 match i,h with
 | i+6,_=>rfl
theorem Jy:∀i:Fin 7,∀k:Fin 8,(k:Nat)%2=0->(((nmS i).data.getD k 0).toNat<=((nmS i).data.getD (k+1) 0).toNat\/(nmS i).size<=k+1):=by decide +kernel
theorem nmS_ord(i:Nat):∀k,(h:k+1<(nmS i).size)->k%2=0->((nmS i)[k]'(by omega)).toNat<=((nmS i)[k+1]'h).toNat:=by
 intro k h hk;have hb:=nmS_big i;have e:∀(l:ByteArray) (j:Nat) (hj:j<l.size),l[j]=l.data.getD j 0:=fun l j hj=>by
  show l.data[j]=_;rw[Array.getD_eq_getD_getElem?,QR hj];rfl
 rw[e,e];by_cases hi:i<7
 .rcases Jy ⟨i,hi⟩ ⟨k,by omega⟩ hk with h1|h1
  .exact h1
  .exact absurd h1 (Nat.not_le.2 h)
 .have h6:=nmS_six i (by omega);rw[h6] at h hb ⊢;rcases Jy ⟨6,by omega⟩ ⟨k,by omega⟩ hk with h1|h1
  .exact h1
  .exact absurd h1 (Nat.not_le.2 h)
abbrev oB:Obj:=.cells #[.int .u64 0,.int .u64 0,.int .u64 0,.int .u64 0] 150
def dq:Nat->Bool:=fun _=>false
theorem pd(i:Nat):wd dq i=0:=by
 refine(CI (by simp) fun j _=>?_).symm;simp[dq]
theorem LI(w:World):St (w.alloc oB) w.heap.size dq:=by
 refine⟨by simp,fun i hi=>?_,fun i=>by simp⟩;rw[pd]
 match i,hi with
 | 0,_=>simp
 | 1,_=>simp
 | 2,_=>simp
 | 3,_=>simp
def Cx(b:Nat)(src:ByteArray)(k l g:Nat)(m:Nat->Bool):Prop:=
 ∀w:World,Rd w b src k g->Nm w ->
  Calls Tryz.prog 195 #[.pointer (some ⟨b,0,none⟩)] w fun e w'=>e=.returned (AH m)/\Rd w' b src l g/\Kp [b] w w'
abbrev oneV(m:Nat->Bool):Value:=.iface 245 (AH m)
theorem GX{b:Nat}{src:ByteArray}{k l g:Nat}{m:Nat->Bool}{w:World}(hr:Rd w b src k g)(hw:Nm w)(hb0:b≠4)(h40:saw src k 40=false)(h46:saw src k 46=false)(h91:saw src k 91=true)(hc:Cx b src (k+1) l g m):Calls Tryz.prog 183 #[.pointer (some ⟨b,0,none⟩)] w fun e w'=>e=.returned (oneV m)/\Rd w' b src l g/\Kp [b] w w':=by
 have hb0':4∉[b]:=by simpa using Ne.symm hb0
 have HB:Hid _:=hb0';clear hb0';go_enter Tryz.func183,Tryz.ntmps183
 go_wp2_with fail;refine(je 40 hr).mono ?_;rw[h40];rintro e w1 ⟨rfl,n,rfl⟩;go_wp2_with fail;refine(aF 46 (hr.drewN n) h46).mono ?_;rintro e w2 ⟨rfl,r2,k2⟩;go_wp2_with fail;refine(aK 91 r2 h91).mono ?_;rintro e w3 ⟨rfl,r3,k3⟩;go_wp2_with fail;refine(hc _ r3 (((hw.aj (Kp.drewN [b] _ n) HB.out).aj k2 HB.out).aj k3 HB.out)).mono ?_;rintro e w4 ⟨rfl,r4,k4⟩;go_wp2_with fail;go_ret;exact⟨rfl,r4,(Kp.drewN _ _ n).trans (k2.trans (k3.trans k4))⟩
theorem AU{b:Nat}{src:ByteArray}{k g:Nat}(v:Value){w:World}(hr:Rd w b src k g)(h1:saw src k 42=false)(h2:saw src k 43=false)(h3:saw src k 63=false)(h4:saw src k 123=false):Calls Tryz.prog 182 #[.pointer (some ⟨b,0,none⟩),v] w fun e w'=>e=.returned v/\Rd w' b src k g/\Kp [b] w w':=by
 go_enter Tryz.func182,Tryz.ntmps182
 go_wp2_with fail;refine(aF 42 hr h1).mono ?_;rintro e w1 ⟨rfl,r1,k1⟩;go_wp2_with fail;refine(aF 43 r1 h2).mono ?_;rintro e w2 ⟨rfl,r2,k2⟩;go_wp2_with fail;refine(aF 63 r2 h3).mono ?_;rintro e w3 ⟨rfl,r3,k3⟩;go_wp2_with fail;refine(aF 123 r3 h4).mono ?_;rintro e w4 ⟨rfl,r4,k4⟩;go_wp2_with fail;go_ret;exact⟨rfl,r4,k1.trans (k2.trans (k3.trans k4))⟩
def LL(b:Nat)(src:ByteArray)(k l g:Nat)(v:Value):Prop:=
 ∀w:World,Rd w b src k g->Nm w ->
  Calls Tryz.prog 171 #[.pointer (some ⟨b,0,none⟩)] w fun e w'=>e=.returned v/\Rd w' b src l g/\Kp [b] w w'
theorem Tryz.oQ:(Tryz.prog.info? 139).map (fun i=>(i.zero,i.size,i.bytes))=some (some .nilIface,1,16):=by kernel_rfl
theorem Nq(m:Nat->Bool)(w:World):Calls Tryz.prog 234 #[AH m] w fun e w'=>e=.returned (.int .i64 1)/\Kp [] w w':=by
 go_enter Tryz.func234,Tryz.ntmps234
 go_wp2;go_ret;exact⟨rfl,Kp.alloc _ _ _⟩
theorem AG(v : Value)(w : World):(method 370 245 v "ribbon/pattern.size").run Tryz.prog w = .ok (234, v) w := by kernel_rfl
theorem AF(v : Value)(w : World):(method 370 218 v "ribbon/pattern.size").run Tryz.prog w = .ok (226, v) w := by kernel_rfl
theorem dL(v : Value)(w : World):(method 370 206 v "ribbon/pattern.size").run Tryz.prog w = .ok (224, v) w := by kernel_rfl
theorem BO(v : Value)(w : World):(method 370 245 v "ribbon/pattern.emit").run Tryz.prog w = .ok (233, v) w := by kernel_rfl
theorem BK(v : Value)(w : World):(method 370 218 v "ribbon/pattern.emit").run Tryz.prog w = .ok (225, v) w := by kernel_rfl
theorem fR(v : Value)(w : World):(method 370 206 v "ribbon/pattern.emit").run Tryz.prog w = .ok (223, v) w := by kernel_rfl
theorem pK{P:Program}{ops:Array Oper}{o:Oper}{a:Act}{w:World}{K:Act->World->Prop}{Q:Exit->Act->World->Prop}{E:Prop}(hg:o.guard=none)(s x:Operand)(t:TypeId)(hop:o.op=Op.call { callee:=Callee.builtin Builtin.append,args:=#[s,x],argTypes:=#[t,t]})(base:Nat)(e:TypeId)(i:TypeInfo)(z:Value)(size bytes:Nat)(h1:P.underlying t=some (.slice e))(h2:P.info? e=some i)(h3:i.zero=some z)(h4:i.size=size)(h5:i.bytes=bytes)(h6:z.cells.size=size)(h7:0<size)(v:Value)(n:Nat)(xs:List Value)(hs:a.eval s=v)(hown:w.ownsRow base e size v n xs)(ad:Addr)(m c:Nat)(news:List Value)(hx:a.eval x=.slice (some ad) m c)(hn:news.length=m*size)(hc:∀j u,news[j]? = some u->w.cell? (ad.add j)=some u)(h1c:∀u∈news,u.oneCell'=true)(b1:n+m<=maxLen)(b2:(n+m)*bytes<=140737488355328)(hbase:base<=w.heap.size)(hK:∀v' w',w'.ownsRow base e size v' (n+m) (xs++news)->w.grownBy w' v.ownBlock->K (a.put o.dst v') w'):if Region.wanted o (yielded ops a.tmps)=true then Oper.wp P o a w K Q else E:=by
 have hw:Region.wanted o (yielded ops a.tmps)=true:=by simp[Region.wanted,hg]
 rw[QB hw];obtain⟨v',w',hrun,r1,r2,_⟩:=run_append_own (P:=P) w base t o.type e i z size bytes h1 h2 h3 h4 h5 h6 h7 v n xs hown ad m c news hn hc h1c b1 b2 hbase;unfold Oper.wp;simp[execOp,hop,resolve,invoke,builtin,hs,hx,hrun,Result.andThen];exact hK v' w' r1 r2
theorem Tryz.JR:(Tryz.prog.info? 152).map (fun i=>(i.zero,i.size,i.bytes))=some (some (.agg #[.int .i64 0,.int .i64 0,.int .i64 0,.int .i64 0,.int .i64 0,.int .u64 0,.int .u64 0,.int .u64 0,.int .u64 0]),9,72):=by kernel_rfl
abbrev ins(kind next other slot depth:Int)(m:Nat->Bool):List Value:=
 [.int .i64 kind,.int .i64 next,.int .i64 other,.int .i64 slot,.int .i64 depth,.int .u64 (wd m 0),.int .u64 (wd m 1),.int .u64 (wd m 2),.int .u64 (wd m 3)]
structure Ls(w:World)(L n:Nat)(xs:List Value)(d dp:Nat):Prop where
 lt:L<w.heap.size
 code:∃v,w.cell? ⟨L,0,none⟩=some v/\w.ownsRow (L+1) 152 9 v n xs/\(v=.slice none 0 0\/∃g c,v=.slice (some ⟨g,0,none⟩) n c)
 c1:w.cell? ⟨L,1,none⟩=some (.int .i64 d)
 c2:w.cell? ⟨L,2,none⟩=some (.int .i64 dp)
 free:∀i,w.frozen? ⟨L,i,none⟩=false
theorem rS{W:World}{base size n:Nat}{e:TypeId}{v:Value}{xs:List Value}(h:W.ownsRow base e size v n xs){k:Nat}(hk:k<base):some k≠v.ownBlock:=by
 rcases h.2 with⟨hv,_⟩|⟨g,cap,cur,hv,hg,_⟩
 .rw[hv];simp[Value.ownBlock]
 .rw[hv];simp[Value.ownBlock];omega
theorem nK{W w':World}{base size n:Nat}{e:TypeId}{v:Value}{xs:List Value}(h:W.ownsRow base e size v n xs)(hg:W.grownBy w' v.ownBlock){p:Addr}(hp:p.block<base)(hl:p.block<W.heap.size):w'.cell? p=W.cell? p:=
 World.cell?_of_block (w:=W) (hg.block p.block hl (rS h hp))
theorem nJ{W w':World}{base size n:Nat}{e:TypeId}{v:Value}{xs:List Value}(h:W.ownsRow base e size v n xs)(hg:W.grownBy w' v.ownBlock){p:Addr}(hp:p.block<base)(hl:p.block<W.heap.size):w'.frozen? p=W.frozen? p:=
 World.frozen?_of_block (w:=W) (hg.block p.block hl (rS h hp))
theorem JP(kind next other slot depth:Int)(m:Nat->Bool):∀u∈ins kind next other slot depth m,u.oneCell'=true:=by
 intro u hu;simp only[ins,Rh,Sd,or_false] at hu;rcases hu with h|h|h|h|h|h|h|h|h<;>subst h<;>rfl
theorem gk(W:World)(l:List Value)(t:TypeId)(a:Nat)(ha:a=W.heap.size):∀j u,l[j]? = some u->((W.alloc (.cells l.toArray t)).drew).cell? ((⟨a,0,none⟩:Addr).add j)=some u:=by
 intro j u h;subst ha;show(W.alloc (.cells l.toArray t)).cell? _=_;have e:(⟨W.heap.size,0,none⟩:Addr).add j=⟨W.heap.size,j,none⟩:=by unfold Addr.add;simp;exact fun h=>h.symm
 rw[e];simpa using h
structure El(L n:Nat)(xs:List Value)(w w':World):Prop where
 code:∃g c,w'.cell? ⟨L,0,none⟩=some (.slice (some ⟨g,0,none⟩) n c)/\w'.ownsRow (L+1) 152 9 (.slice (some ⟨g,0,none⟩) n c) n xs
 cell:∀i,w'.cell? ⟨L,i+1,none⟩=w.cell? ⟨L,i+1,none⟩
 free:∀i,w'.frozen? ⟨L,i,none⟩=w.frozen? ⟨L,i,none⟩
 below:Below L w w'
theorem Eh{L n:Nat}{xs ys:List Value}{v:Value}{w W w':World}(hl:L<w.heap.size)(hv:w.cell? ⟨L,0,none⟩=some v)(kW:Kp [] w W)(hown:W.ownsRow (L+1) 152 9 v n xs)(hg:W.grownBy w' v.ownBlock){g c n':Nat}(hown':w'.ownsRow (L+1) 152 9 (.slice (some ⟨g,0,none⟩) n' c) n' ys):El L n' ys w (w'.setCell ⟨L,0,none⟩ (.slice (some ⟨g,0,none⟩) n' c)):=by
 have hlW:L<W.heap.size:=Qx hl kW.size;have hc:∀i,w'.cell? ⟨L,i,none⟩=w.cell? ⟨L,i,none⟩:=fun i=>(nK hown hg (p:=⟨L,i,none⟩) (RL _) hlW).trans (kW.cell hl (by simp));have hf:∀i,w'.frozen? ⟨L,i,none⟩=w.frozen? ⟨L,i,none⟩:=fun i=>(nJ hown hg (p:=⟨L,i,none⟩) (RL _) hlW).trans (kW.frozen hl (by simp));refine⟨⟨g,c,aw _ ((hc 0).trans hv),ownsRow_setCell_below hown' (RL _) _⟩,fun i=>?_,fun i=>?_,?_⟩
 .rw[aq _ (by simp)];exact hc _
 .simpa using hf i
 .refine Below.setCell (p:=⟨L,0,none⟩) ?_ (QD L) _
  exact⟨hg.os.trans kW.os,hg.tape.trans kW.tape,hg.output.trans kW.output,QC kW.size hg.size,
   fun k hk=>(hg.block k (by omega) (rS hown (by omega))).trans (kW.block k (by omega) (by simp))⟩
theorem Pk{L n:Nat}{xs:List Value}{v:Value}{w:World}(hv:w.cell? ⟨L,0,none⟩=some v)(hown:w.ownsRow (L+1) 152 9 v n xs)(hn:n<=100000)(hl:L<w.heap.size)(hf:w.frozen? ⟨L,0,none⟩=false)(kind next other slot depth:Int)(m:Nat->Bool):Calls Tryz.prog 88 #[.pointer (some ⟨L,0,none⟩),.agg (ins kind next other slot depth m).toArray] w fun e w'=>e=.returned (.int .i64 n) /\ El L (n+1) (xs++ins kind next other slot depth m) w w':=by
 obtain⟨i0,hi,hz0,hz1,hz2⟩:=info_parts Tryz.JR;have HO:=hid hown;have HV:=hid hv;have HF:=hid hf;have HL:=hid hl;clear hown;have hins:=JP kind next other slot depth m;have HI:=hid hins;clear hins;unfold ins at *;go_enter Tryz.func88,Tryz.ntmps88
 go_wp2;go_region_law (refine pK rfl (.tmp 9) (.tmp 11) 108 rfl (L+1) 152 i0 _ 9 72 Tryz.underlying108 hi hz0 hz1 hz2 rfl (by decide) v n xs (by simp[Act.eval]) (((HO.out.alloc _).alloc _).drew) ⟨w.heap.size+1,0,none⟩ 1 1 _ (by simp[Act.eval]) rfl (by exact gk (w.alloc _) _ _ _ (by simp)) HI.out (by unfold maxLen;omega) (by omega) (by simp;omega) ?_;intro v' w' hown' hgrow;have hex:=Joins.ownsRow_form hown' (by omega);obtain⟨g,c,hv'⟩:=hex;rw[hv'] at hown' ⊢;have c0':=((nK ((HO.out.alloc _).alloc _).drew hgrow (p:=⟨L,0,none⟩) (RL _) (by simp;omega)).trans (((Kp.alloc [] _ _).trans ((Kp.alloc _ _ _).trans (Kp.drew _ _))).cell HL.out (by simp))).trans HV.out;have f0':=((nJ ((HO.out.alloc _).alloc _).drew hgrow (p:=⟨L,0,none⟩) (RL _) (by simp;omega)).trans (((Kp.alloc [] _ _).trans ((Kp.alloc _ _ _).trans (Kp.drew _ _))).frozen HL.out (by simp))).trans HF.out;have HO':=hid hown';have HG:=hid hgrow;clear hown' hgrow hv')
 all_goals go_wp2
 all_goals go_ret
 all_goals exact⟨rfl,Eh HL.out HV.out ((Kp.alloc _ _ _).trans ((Kp.alloc _ _ _).trans (Kp.drew _ _))) ((HO.out.alloc _).alloc _).drew HG.out HO'.out⟩
theorem Ls.added{w w':World}{L n:Nat}{xs ys:List Value}{d dp:Nat}{n':Nat}(h:Ls w L n xs d dp)(a:El L n' ys w w'):Ls w' L n' ys d dp:=by
 obtain⟨g,c,h1,h2⟩:=a.code;exact⟨Qx h.lt a.below.size,⟨_,h1,h2,.inr ⟨g,c,rfl⟩⟩,(a.cell 0).trans h.c1,(a.cell 1).trans h.c2,fun i=>(a.free i).trans (h.free i)⟩
theorem Ls.aj{w w':World}{L n:Nat}{xs:List Value}{d dp:Nat}(h:Ls w L n xs d dp)(k:Kp [] w w'):Ls w' L n xs d dp:=by
 obtain⟨v,h1,h2,h3⟩:=h.code;refine⟨Qx h.lt k.size,⟨v,(k.cell h.lt (by simp)).trans h1,⟨h2.1,?_⟩,h3⟩,(k.cell h.lt (by simp)).trans h.c1,(k.cell h.lt (by simp)).trans h.c2,fun i=>(k.frozen h.lt (by simp)).trans (h.free i)⟩;rcases h2.2 with q|⟨g,cap,cur,q1,q2,q3,q4⟩
 .exact .inl q
 .exact .inr ⟨g,cap,cur,q1,q2,(k.block g (lt_of_block q3) (by simp)).trans q3,q4⟩
theorem listAdd{L n:Nat}{xs:List Value}{d dp:Nat}{w:World}(h:Ls w L n xs d dp)(hn:n<=100000)(kind next other slot depth:Int)(m:Nat->Bool):Calls Tryz.prog 88 #[.pointer (some ⟨L,0,none⟩),.agg (ins kind next other slot depth m).toArray] w fun e w'=>e=.returned (.int .i64 n)/\Ls w' L (n+1) (xs++ins kind next other slot depth m) d dp/\Below L w w':=by
 obtain⟨v,h1,h2,_⟩:=h.code;exact(Pk h1 h2 hn h.lt (h.free 0) kind next other slot depth m).mono fun e w' ⟨he,ha⟩=>⟨he,h.added ha,ha.below⟩
