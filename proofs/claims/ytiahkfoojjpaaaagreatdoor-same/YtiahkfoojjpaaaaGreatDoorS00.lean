import Derived.WalkSpells
import Derived.Test.YtiahkfoojjpaaaaGreatDoorRows
import Derived.WalkLawsBesides
import Derived.BigQuiet
set_option maxRecDepth 100000
set_option maxHeartbeats 16000000
set_option linter.all false
namespace Go.Proofs.YtiahkfoojjpaaaaGreatDoor
open Go.RowKit
abbrev Qq:=@List.setIfInBounds_toArray
abbrev Qr:=@List.getElem_cons_zero
abbrev Qs:=@List.getElem_cons_succ
abbrev Qt:=@List.getElem_toArray
abbrev Qu:=@List.set_cons_zero
abbrev Qv:=@List.set_cons_succ
abbrev Qw:=@if_neg
abbrev Qx:=@Nat.lt_of_lt_of_le
abbrev Qy:=@List.length_append
abbrev Qz:=@beq_eq_false_iff_ne
abbrev QA:=@List.getElem?_eq_getElem
abbrev QB:=@if_pos
abbrev QC:=@Nat.le_trans
abbrev QD:=@Nat.le_refl
abbrev QE:=@List.mem_singleton
abbrev QF:=@List.length_cons
abbrev QG:=@Nat.zero_le
abbrev QH:=@Nat.zero_add
abbrev QI:=@List.getElem?_set_self
abbrev QJ:=@List.append_assoc
abbrev QK:=@Array.length_toList
abbrev QL:=@List.getElem?_set_ne
abbrev QM:=@List.mem_of_getElem?
abbrev QN:=@Nat.mul_le_mul_right
abbrev QP:=@List.length_singleton
abbrev QR:=@Array.getElem?_eq_getElem
abbrev QS:=@List.cons_append
abbrev QU:=@List.getElem?_append_right
abbrev QV:=@UInt8.toNat_ofNat_of_lt'
abbrev QW:=@List.drop_eq_getElem_cons
abbrev QX:=@List.getElem?_map
abbrev QY:=@Nat.add_mul
abbrev QZ:=@List.length_drop
abbrev Q0:=@Nat.one_mul
abbrev Q5:=@List.getElem?_append_left
abbrev Q6:=@List.map_append
abbrev Q7:=@List.length_map
abbrev Q8:=@ByteArray.size_extract
abbrev Q9:=@List.map_singleton
abbrev Ra:=@ByteArray.size_append
abbrev Rb:=@List.eq_nil_of_length_eq_zero
abbrev Rc:=@UInt8.toNat_lt
abbrev Re:=@List.length_take
abbrev Rf:=@List.flatten_cons
abbrev Rg:=@List.length_set
abbrev Rh:=@List.mem_cons
abbrev Ri:=@List.map_map
abbrev Rj:=@List.getElem?_replicate
abbrev Rk:=@List.length_nil
abbrev Rm:=@List.mem_or_eq_of_mem_set
abbrev Ro:=@Array.getElem?_toList
abbrev Rq:=@List.take_length
abbrev Rr:=@List.getElem?_take
abbrev Rt:=@List.getElem?_drop
abbrev Ru:=@Bool.or_eq_false_iff
abbrev Rv:=@List.getElem?_cons_zero
abbrev Rx:=@List.nil_append
abbrev Ry:=@List.append_nil
abbrev RH:=@List.mem_nil_iff
abbrev RI:=@Nat.mul_le_mul
abbrev RJ:=@List.take_succ_eq_append_getElem
abbrev RL:=@Nat.lt_succ_self
abbrev RM:=@List.map_reverse
abbrev RO:=@Bool.and_eq_true
abbrev RP:=@List.drop_eq_nil_of_le
abbrev RS:=@ByteArray.data_extract
abbrev RV:=@List.set_append_right
abbrev RX:=@List.mem_append_right
abbrev RY:=@List.eq_nil_or_concat
abbrev RZ:=@List.concat_eq_append
abbrev R6:=@Nat.sub_self
abbrev R9:=@Nat.mul_le_mul_left
abbrev Sa:=@List.find?_cons
abbrev Sb:=@Nat.zero_mul
abbrev Sc:=@List.take_add_one
abbrev Sd:=@List.not_mem_nil
abbrev Se:=@Bool.true_and
abbrev Sh:=@List.mem_of_mem_take
abbrev Si:=@List.mem_cons_of_mem
abbrev Sj:=@List.mem_append_left
abbrev Sk:=@List.getElem?_modify
abbrev Sl:=@Array.toList_extract
abbrev Sn:=@Bool.or_eq_true
abbrev Sp:=@List.append_toArray
abbrev Sq:=@Bool.false_eq_true
abbrev Ss:=@List.ext_getElem?
abbrev Su:=@Int.toNat_natCast
abbrev Sv:=@Bool.false_or
abbrev Sw:=@Nat.add_sub_cancel_left
abbrev Sy:=@List.drop_length
abbrev Sz:=@List.take_of_length_le
abbrev SG:=@List.reverse_singleton
abbrev SI:=@Option.map_some
abbrev SJ:=@Nat.div_add_mod
abbrev SL:=@List.singleton_append
abbrev SM:=@List.take_left
abbrev SO:=@List.reverse_append
abbrev SP:=@List.flatMap_append
abbrev SQ:=@List.map_cons
abbrev SR:=@Nat.add_zero
abbrev SS:=@List.zipIdx_cons
theorem hid{p:Prop}(h:p):Hid p:=h
def wb(m:Nat->Bool)(base:Nat):Nat->Nat
 | 0=>0
 | n+1=>(if m (base+n) then 2^n else 0)+wb m base n
theorem wb_lt(m:Nat->Bool)(base n:Nat):wb m base n<2^n:=by
 induction n with
 | zero=>simp[wb]
 | succ n ih=>simp only[wb,Nat.pow_succ];split<;>omega
theorem wb_bit(m:Nat->Bool)(base n j:Nat):(wb m base n).testBit j=(decide (j<n)&&m (base+j)):=by
 induction n with
 | zero=>simp[wb]
 | succ n ih=>
  have hl:=wb_lt m base n;simp only[wb];by_cases h:m (base+n)=true
  .simp only[h,if_true];rcases Nat.lt_trichotomy j n with hj|hj|hj
   .rw[Nat.testBit_two_pow_add_gt hj,ih];simp[hj,Nat.lt_succ_of_lt hj]
   .subst hj;rw[Nat.testBit_two_pow_add_eq,ih];simp[h]
   .rw[Nat.testBit_lt_two_pow]
    .rw[decide_eq_false (by omega)];rfl
    .calc 2^n+wb m base n<2^n+2^n:=by omega
      _=2^(n+1):=by rw[Nat.pow_succ];omega
      _<=2^j:=Nat.pow_le_pow_right (by decide) hj
  .have h':m (base+n)=false:=by simpa using h
   rw[h',show(if false=true then 2^n else 0)+wb m base n=wb m base n by simp,ih];rcases Nat.lt_trichotomy j n with hj|hj|hj
   .simp[hj,Nat.lt_succ_of_lt hj]
   .subst hj;simp[h']
   .rw[decide_eq_false (by omega),decide_eq_false (by omega)]
def wd(m:Nat->Bool)(i:Nat):Nat:=wb m (64*i) 64
theorem p64:(2:Nat)^64=18446744073709551616:=by simp
theorem Hn(m:Nat->Bool)(i:Nat):wd m i<2^64:=wb_lt _ _ _
theorem CH(m:Nat->Bool)(i:Nat):wd m i<18446744073709551616:=Nat.lt_of_lt_of_eq (Hn m i) p64
theorem ph(m:Nat->Bool)(i j:Nat):(wd m i).testBit j=(decide (j<64)&&m (64*i+j)):=wb_bit _ _ _ _
theorem CI{m:Nat->Bool}{i x:Nat}(hx:x<2^64)(h:∀j,j<64->x.testBit j=m (64*i+j)):x=wd m i:=by
 apply Nat.eq_of_testBit_eq;intro j;rw[ph];by_cases hj:j<64
 .simp[hj,h j hj]
 .simp only[hj,decide_false,Bool.false_and];exact Nat.testBit_lt_two_pow (Qx hx (Nat.pow_le_pow_right (by decide) (by omega)))
theorem Md{m m':Nat->Bool}{i:Nat}(h:∀j,j<64->m (64*i+j)=m' (64*i+j)):wd m i=wd m' i:=
 CI (Hn _ _) fun j hj=>by rw[ph];simp[hj,h j hj]
def more(m:Nat->Bool)(k:Nat):Nat->Bool:=fun x=>m x||x==k
def span(m:Nat->Bool)(x y:Nat):Nat->Bool:=fun z=>m z||(decide (x<=z)&&decide (z<y))
theorem lT(k:Nat):2^(k%64)<2^64:=Nat.pow_lt_pow_right (by decide) (Nat.mod_lt _ (by decide))
theorem jx(k:Nat):2^(k%64)<18446744073709551616:=Nat.lt_of_lt_of_eq (lT k) p64
theorem CE(k:Nat):IntKind.u64.wrap (2^(k%64))=((2^(k%64):Nat):Int):=by
 have h:=jx k;rw[IntKind.wrap_u64,show((2:Int)^(k%64))=((2^(k%64):Nat):Int) by norm_cast];generalize 2^(k%64)=z at h;omega
theorem yN(m:Nat->Bool)(k:Nat):bits .or .u64 (wd m (k/64):Int) (IntKind.u64.wrap (2^(k%64)))=(wd (more m k) (k/64):Int):=by
 have h1:=Hn m (k/64);have h2:=lT k;rw[CE,u64_or_nat _ _ (CH _ _) (jx k)];refine congrArg (fun n:Nat=>(n:Int)) (CI (Nat.or_lt_two_pow h1 h2) fun j hj=>?_);have e:decide (k%64=j)=(64*(k/64)+j==k):=by
  rw[Bool.eq_iff_iff];simp only[decide_eq_true_eq,beq_iff_eq];have:=SJ k 64;omega
 rw[Nat.testBit_or,ph,Nat.testBit_two_pow,e,decide_eq_true hj,Se]
 rfl
theorem rY(m:Nat->Bool)(k i:Nat)(h:i≠k/64):wd (more m k) i=wd m i:=
 Md fun j hj=>by
  have:(64*i+j==k)=false:=by rw[Qz];omega
  simp[more,this]
theorem has_bit(m:Nat->Bool)(x:Nat):(bits .and .u64 ((wd m (x/64):Int)/2^(x%64)) 1==1)=m x:=by
 have e:((wd m (x/64):Int)/2^(x%64))=((wd m (x/64)/2^(x%64):Nat):Int):=by norm_cast
 have h2:wd m (x/64)/2^(x%64)<18446744073709551616:=Nat.lt_of_le_of_lt (Nat.div_le_self _ _) (CH _ _);rw[e,show(1:Int)=((1:Nat):Int) by rfl,u64_and_nat _ _ h2 (by decide)];have hb:=ph m (x/64) (x%64);rw[Nat.testBit_eq_decide_div_mod_eq] at hb;have hx:x%64<64:=Nat.mod_lt _ (by decide);rw[SJ] at hb;simp only[hx,decide_true,Se] at hb;rw[Nat.and_one_is_mod,<-hb,Bool.eq_iff_iff,beq_iff_eq,decide_eq_true_eq];omega
theorem Ij(m:Nat->Bool)(x:Nat):span m x x=m:=by
 funext z;simp only[span]
 have:(decide (x<=z)&&decide (z<x))=false:=by rw[Bool.eq_false_iff];simp
 rw[this];exact Bool.or_false _
theorem Ik(m:Nat->Bool)(x y:Nat)(h:x<=y):more (span m x y) y=span m x (y+1):=by
 funext z;simp only[span,more]
 rw[Bool.eq_iff_iff];simp only[Sn,RO,decide_eq_true_eq,beq_iff_eq]
 cases m z<;>simp
 omega
theorem not_wd(m:Nat->Bool)(i:Nat):bits .xor .u64 IntKind.u64.max (wd m i:Int)=(wd (fun x=>!m x) i:Int):=by
 have h1:=Hn m i;have h2:(18446744073709551615:Nat)<18446744073709551616:=by omega
 rw[show IntKind.u64.max=((18446744073709551615:Nat):Int) by rfl,u64_xor_nat _ _ h2 (CH _ _)];have e:(18446744073709551615:Nat)=2^64-1:=by simp
 refine congrArg (fun n:Nat=>(n:Int)) (CI ?_ fun j hj=>?_)
 .rw[e];exact Nat.xor_lt_two_pow (by simp) h1
 .rw[e,Nat.testBit_xor,Nat.testBit_two_pow_sub_one,ph,decide_eq_true hj];simp
def xM(m:Nat->Bool):List UInt8->Nat->Bool
 | a::b::r=>xM (span m a.toNat (b.toNat+1)) r
 | _=>m
theorem G8(m:Nat->Bool)(s:ByteArray)(k k1:Nat)(hk:k<s.size)(h:k1<s.size)(e:k1=k+1):xM m (s.data.toList.drop k)=xM (span m (s[k]'hk).toNat ((s[k1]).toNat+1)) (s.data.toList.drop (k+2)):=by
 subst e;have e1:s.data.toList.drop k=s[k]'(by omega)::s.data.toList.drop (k+1):=by
  rw[QW (by simp;omega)];rfl
 have e2:s.data.toList.drop (k+1)=s[k+1]::s.data.toList.drop (k+2):=by
  rw[QW (by simp;omega)];rfl
 rw[e1,e2];rfl
theorem LC(m:Nat->Bool)(s:ByteArray)(k:Nat)(h:s.size<=k+1):xM m (s.data.toList.drop k)=m:=by
 have hl:(s.data.toList.drop k).length<=1:=by rw[QZ];simp;omega
 match s.data.toList.drop k,hl with
 | [],_=>rfl
 | [_],_=>rfl
theorem aa(k:Nat)(h:k<9223372036854775808):IntKind.i64.wrap (k:Int)=(k:Int):=by rw[IntKind.wrap_i64];omega
theorem aQ(k k1:Nat)(e:k1=k+1)(h:k<4611686018427387904):IntKind.i64.wrap ((k:Int)+1)=(k1:Int):=by rw[IntKind.wrap_i64];omega
structure Kp(S:List Nat)(w w':World):Prop where
 os:w'.os=w.os
 tape:w'.tape=w.tape
 output:w'.output=w.output
 size:w.heap.size<=w'.heap.size
 block:∀k,k<w.heap.size->k∉S->w'.heap[k]? = w.heap[k]?
theorem Kp.refl(S:List Nat)(w:World):Kp S w w:=⟨rfl,rfl,rfl,QD _,fun _ _ _=>rfl⟩
theorem Kp.trans{S:List Nat}{a b c:World}(h:Kp S a b)(k:Kp S b c):Kp S a c:=
 ⟨k.os.trans h.os,k.tape.trans h.tape,k.output.trans h.output,QC h.size k.size,
   fun i hi hn=>(k.block i (Qx hi h.size) hn).trans (h.block i hi hn)⟩
theorem Kp.mono{S T:List Nat}{w w':World}(h:Kp S w w')(hs:∀x,x∈S->x∈T):Kp T w w':=
 ⟨h.os,h.tape,h.output,h.size,fun i hi hn=>h.block i hi (fun hx=>hn (hs i hx))⟩
theorem Kp.own{S:List Nat}{x:Nat}{a b:World}(h:Kp (x::S) a b)(hx:a.heap.size<=x):Kp S a b:=
 ⟨h.os,h.tape,h.output,h.size,fun i hi hn=>h.block i hi (fun hm=>by
   rcases List.mem_cons.1 hm with e|e
   .omega
   .exact hn e)⟩
theorem Kp.drewN(S:List Nat)(w:World)(n:Nat):Kp S w (w.drewN n):=by
 refine⟨rfl,rfl,rfl,QD _,fun _ _ _=>rfl⟩
theorem Kp.drew(S:List Nat)(w:World):Kp S w w.drew:=⟨rfl,rfl,rfl,QD _,fun _ _ _=>rfl⟩
theorem Kp.alloc(S:List Nat)(w:World)(o:Obj):Kp S w (w.alloc o):=
 ⟨rfl,rfl,rfl,by simp,fun k hk _=>Below.heap_alloc _ _ _ hk⟩
theorem Kp.setCell{S:List Nat}(w:World){p:Addr}(u:Value)(hp:p.block∈S):Kp S w (w.setCell p u):=
 ⟨rfl,rfl,rfl,by simp[World.setCell],fun k _ hn=>Below.heap_setCell _ _ _ _ (fun e=>hn (e ▸ hp))⟩
theorem Kp.cell{S:List Nat}{w w':World}(h:Kp S w w'){p:Addr}(hp:p.block<w.heap.size)(hn:p.block∉S):w'.cell? p=w.cell? p:=
 World.cell?_of_block (w:=w) (h.block p.block hp hn)
theorem Kp.frozen{S:List Nat}{w w':World}(h:Kp S w w'){p:Addr}(hp:p.block<w.heap.size)(hn:p.block∉S):w'.frozen? p=w.frozen? p:=
 World.frozen?_of_block (w:=w) (h.block p.block hp hn)
theorem Kp.below{w w':World}(h:Kp [] w w'):Below w.heap.size w w':=
 ⟨h.os,h.tape,h.output,h.size,fun k hk=>h.block k hk (by simp)⟩
theorem Kp.Nr{w w':World}(h:Below w.heap.size w w'):Kp [] w w':=
 ⟨h.os,h.tape,h.output,h.size,fun k hk _=>h.block k hk⟩
structure St(w:World)(b:Nat)(m:Nat->Bool):Prop where
 lt:b<w.heap.size
 cell:∀i,i<4->w.cell? ⟨b,i,none⟩=some (.int .u64 (wd m i))
 free:∀i,w.frozen? ⟨b,i,none⟩=false
theorem St.aj{S:List Nat}{w w':World}{b:Nat}{m:Nat->Bool}(h:St w b m)(k:Kp S w w')(hn:b∉S):St w' b m:=
 ⟨Qx h.lt k.size,fun i hi=>by rw[k.cell h.lt hn];exact h.cell i hi,fun i=>by rw[k.frozen h.lt hn];exact h.free i⟩
structure Rd(w:World)(b:Nat)(src:ByteArray)(k g:Nat):Prop where
 lt:b<w.heap.size
 le:k<=src.size
 small:src.size<=2000
 c0:w.cell? ⟨b,0,none⟩=some (.string src)
 c1:w.cell? ⟨b,1,none⟩=some (.int .i64 k)
 ce:w.cell? ⟨b,2,none⟩=some (.int .i64 2)
 c2:w.cell? ⟨b,3,none⟩=some (.int .i64 g)
 free:∀i,w.frozen? ⟨b,i,none⟩=false
theorem Rd.aj{S:List Nat}{w w':World}{b:Nat}{src:ByteArray}{k g:Nat}(h:Rd w b src k g)(q:Kp S w w')(hn:b∉S):Rd w' b src k g:=
 ⟨Qx h.lt q.size,h.le,h.small,by rw[q.cell h.lt hn];exact h.c0,by rw[q.cell h.lt hn];exact h.c1,by rw[q.cell h.lt hn];exact h.ce,by rw[q.cell h.lt hn];exact h.c2,fun i=>by rw[q.frozen h.lt hn];exact h.free i⟩
def saw(s:ByteArray)(k:Nat)(x:Int):Bool:=if h:k<s.size then ((s[k]).toNat:Int)==x else false
theorem aC{s:ByteArray}{k:Nat}{x:Int}(h:saw s k x=true):k<s.size:=by
 unfold saw at h;split at h
 .assumption
 .simp at h
theorem aw{w:World}{a:Addr}{u:Value}(v:Value)(h:w.cell? a=some u):(w.setCell a v).cell? a=some v:=World.cell?_setCell_same' w a v (by simp[h])
theorem aq{w:World}{a c:Addr}(v:Value)(h:a≠c):(w.setCell a v).cell? c=w.cell? c:=World.cell?_setCell_other _ _ _ _ h
theorem Rd.step{w:World}{b:Nat}{src:ByteArray}{k g:Nat}(h:Rd w b src k g)(hk:k<src.size):Rd (w.setCell ⟨b,1,none⟩ (.int .i64 ((k:Int)+1))) b src (k+1) g:=by
 refine⟨by simpa[World.setCell] using h.lt,by omega,h.small,?_,?_,?_,?_,fun i=>by simpa using h.free i⟩
 .rw[aq _ (by simp)];exact h.c0
 .rw[aw _ h.c1];simp
 .rw[aq _ (by simp)];exact h.ce
 .rw[aq _ (by simp)];exact h.c2
theorem Rd.drewN{w:World}{b:Nat}{src:ByteArray}{k g:Nat}(h:Rd w b src k g)(n:Nat):Rd (w.drewN n) b src k g:=h.aj (Kp.drewN [] w n) (by simp)
theorem ib(b:Nat)(src:ByteArray)(k:Nat)(w:World)(c0:w.cell? ⟨b,0,none⟩=some (.string src))(c1:w.cell? ⟨b,1,none⟩=some (.int .i64 k)):Calls Tryz.prog 104 #[.pointer (some ⟨b,0,none⟩)] w fun e w'=>e=.returned (.bool ((k:Int)==(src.size:Int)))/\∃n,w'=w.drewN n:=by
 go_enter Tryz.func104,Tryz.ntmps104
 go_wp2;go_quiet (fail);go_wp2;go_ret;exact⟨rfl,_,rfl⟩
theorem CQ(b:Nat)(src:ByteArray)(k:Nat)(x:Int)(w:World)(c0:w.cell? ⟨b,0,none⟩=some (.string src))(c1:w.cell? ⟨b,1,none⟩=some (.int .i64 k))(hk:k=src.size):Calls Tryz.prog 137 #[.pointer (some ⟨b,0,none⟩),.int .u8 x] w fun e w'=>e=.returned (.bool false)/\∃n,w'=w.drewN n:=by
 have hb:((k:Int)==(src.size:Int))=true:=by simp[hk]
 have HK:Hid (k=src.size):=hk;clear hk;go_enter Tryz.func137,Tryz.ntmps137
 go_wp2;go_quiet ((go_at_call 104;exact Calls.quiet_of (ib b src k _ (by simpa using c0) (by simpa using c1))));go_wp2;go_ret;exact⟨rfl,_,rfl⟩
theorem Ir(b:Nat)(src:ByteArray)(k:Nat)(x:Int)(w:World)(c0:w.cell? ⟨b,0,none⟩=some (.string src))(c1:w.cell? ⟨b,1,none⟩=some (.int .i64 k))(hk:k<src.size):Calls Tryz.prog 137 #[.pointer (some ⟨b,0,none⟩),.int .u8 x] w fun e w'=>e=.returned (.bool (((src[k]).toNat:Int)==x))/\∃n,w'=w.drewN n:=by
 have hb:((k:Int)==(src.size:Int))=false:=by simp;omega
 go_enter Tryz.func137,Tryz.ntmps137
 go_wp2;go_quiet ((go_at_call 104;exact Calls.quiet_of (ib b src k _ (by simpa using c0) (by simpa using c1))));go_wp2;go_ret;exact⟨rfl,_,rfl⟩
theorem je{b:Nat}{src:ByteArray}{k g:Nat}(x:Int){w:World}(hr:Rd w b src k g):Calls Tryz.prog 137 #[.pointer (some ⟨b,0,none⟩),.int .u8 x] w fun e w'=>e=.returned (.bool (saw src k x))/\∃n,w'=w.drewN n:=by
 by_cases hk:k<src.size
 .have:=Ir b src k x w hr.c0 hr.c1 hk;simpa[saw,hk] using this
 .have:=CQ b src k x w hr.c0 hr.c1 (by have:=hr.le;omega);simpa[saw,hk] using this
theorem aF{b:Nat}{src:ByteArray}{k g:Nat}(x:Int){w:World}(hr:Rd w b src k g)(h:saw src k x=false):Calls Tryz.prog 149 #[.pointer (some ⟨b,0,none⟩),.int .u8 x] w fun e w'=>e=.returned (.bool false)/\Rd w' b src k g/\Kp [b] w w':=by
 have H:Hid _:=h;go_enter Tryz.func149,Tryz.ntmps149
 go_wp2_with (go_at_call 137;refine(je x hr).mono ?_;rintro e w1 ⟨rfl,n,rfl⟩)
 go_ret;exact⟨rfl,hr.drewN n,Kp.drewN _ _ _⟩
theorem aK{b:Nat}{src:ByteArray}{k g:Nat}(x:Int){w:World}(hr:Rd w b src k g)(h:saw src k x=true):Calls Tryz.prog 149 #[.pointer (some ⟨b,0,none⟩),.int .u8 x] w fun e w'=>e=.returned (.bool true)/\Rd w' b src (k+1) g/\Kp [b] w w':=by
 have c1:=hr.c1;have f1:=hr.free 1;have hk:=aC h;have hsm:=hr.small;go_enter Tryz.func149,Tryz.ntmps149
 go_wp2_with (go_at_call 137;refine(je x hr).mono ?_;rintro e w1 ⟨rfl,n,rfl⟩)
 go_ret;exact⟨rfl,(hr.drewN n).step hk,(Kp.drewN _ _ _).trans (Kp.setCell _ _ (by simp))⟩
theorem Mq{b:Nat}{src:ByteArray}{k g:Nat}(x:Int){w:World}(hr:Rd w b src k g):Calls Tryz.prog 149 #[.pointer (some ⟨b,0,none⟩),.int .u8 x] w fun e w'=>e=.returned (.bool (saw src k x))/\Rd w' b src (if saw src k x then k+1 else k) g/\Kp [b] w w':=by
 cases h:saw src k x
 .simpa using aF x hr h
 .simpa using aK x hr h
theorem dY{b:Nat}{src:ByteArray}{k g:Nat}(x:Int){w:World}(hr:Rd w b src k g)(h:saw src k x=true):Calls Tryz.prog 143 #[.pointer (some ⟨b,0,none⟩),.int .u8 x] w fun e w'=>e=.returned (.tuple #[])/\Rd w' b src (k+1) g/\Kp [b] w w':=by
 go_enter Tryz.func143,Tryz.ntmps143
 go_wp2_with (go_at_call 149;refine(aK x hr h).mono ?_;rintro e w1 ⟨rfl,h1,h2⟩)
 go_end0;exact⟨rfl,h1,h2⟩
theorem iA{b:Nat}{src:ByteArray}{k g:Nat}{w:World}(hr:Rd w b src k g)(n:Nat):Calls Tryz.prog 104 #[.pointer (some ⟨b,0,none⟩)] (w.drewN n) fun e w''=>e=.returned (.bool ((k:Int)==(src.size:Int)))/\∃m,w''=w.drewN m:=
 Calls.quiet_of (ib b src k _ (hr.drewN n).c0 (hr.drewN n).c1)
theorem Iq{b:Nat}{src:ByteArray}{k g:Nat}(x:Int){w:World}(hr:Rd w b src k g){v:Bool}(h:saw src k x=v)(n:Nat):Calls Tryz.prog 137 #[.pointer (some ⟨b,0,none⟩),.int .u8 x] (w.drewN n) fun e w''=>e=.returned (.bool v)/\∃m,w''=w.drewN m:=by
 subst h;exact Calls.quiet_of (je x (hr.drewN n))
theorem gB{b:Nat}{src:ByteArray}{k g:Nat}{w:World}(hr:Rd w b src k g){v:Bool}(h:((k:Int)==(src.size:Int))=v):Calls Tryz.prog 104 #[.pointer (some ⟨b,0,none⟩)] w fun e w'=>e=.returned (.bool v)/\Rd w' b src k g/\Kp [b] w w':=by
 subst h;exact(ib b src k w hr.c0 hr.c1).mono fun e w' ⟨he,n,hw⟩=>⟨he,by rw[hw];exact hr.drewN n,by rw[hw];exact Kp.drewN _ _ _⟩
theorem eV{b:Nat}{src:ByteArray}{k g:Nat}(x:Int){w:World}(hr:Rd w b src k g){v:Bool}(h:saw src k x=v):Calls Tryz.prog 137 #[.pointer (some ⟨b,0,none⟩),.int .u8 x] w fun e w'=>e=.returned (.bool v)/\Rd w' b src k g/\Kp [b] w w':=by
 subst h;exact(je x hr).mono fun e w' ⟨he,n,hw⟩=>⟨he,by rw[hw];exact hr.drewN n,by rw[hw];exact Kp.drewN _ _ _⟩
