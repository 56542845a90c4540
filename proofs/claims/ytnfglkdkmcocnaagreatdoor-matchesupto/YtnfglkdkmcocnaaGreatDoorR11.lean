import Derived.Test.YtnfglkdkmcocnaaGreatDoorR10
set_option maxRecDepth 100000
set_option maxHeartbeats 16000000
set_option linter.all false
namespace Go.Proofs.YtnfglkdkmcocnaaGreatDoor
open Go.RowKit
abbrev Em:=Nat→Nat→Nat→List In×Nat
structure It where
 tv:TypeId
 xv:Value
 sz:Nat
 len:Nat
 dd:Nat
 em:Em
def It.v (i:It):Value:=.iface i.tv i.xv
abbrev noIn (kind nx ot sl dp:Nat):In:=⟨kind,nx,ot,sl,dp,noBytes⟩
def insI (i:In):List Value:=ins i.kind i.nx i.ot i.sl i.dp i.m
def flatI (l:List In):List Value:=l.flatMap insI
theorem insI_len (i:In):(insI i).length=9:=rfl
theorem flatI_len (l:List In):(flatI l).length=l.length * 9:=by
 induction l with
 | nil=>rfl
 | cons i l ih=>
  show (insI i++flatI l).length=(l.length+1) * 9
  rw [List.length_append,ih,insI_len];omega
theorem flatI_append (l m:List In):flatI (l++m)=flatI l++flatI m:=by simp [flatI]
theorem flatI_one (i:In):flatI [i]=insI i:=by simp [flatI]
theorem flatI_set:∀ (l:List In) (k:Nat) (i:In) (v:Nat),l[k]? = some i→(flatI l).set (k * 9+1) (.int .i64 (v:Int))=flatI (l.set k { i with nx:=v })
 | [],k,i,v,h=>by cases h
 | j::l,0,i,v,h=>by
  have e:j=i:=by simpa using h
  subst e
  rfl
 | j::l,k+1,i,v,h=>by
  have h':l[k]? = some i:=by simpa using h
  show (insI j++flatI l).set ((k+1) * 9+1) _=insI j++flatI (l.set k { i with nx:=v })
  rw [←flatI_set l k i v h',List.set_append_right _ _ (by rw [insI_len];omega),insI_len]
  congr 2
  omega
def emOne (m:Nat→Bool):Em:=fun n next d=>([⟨0,next,0,0,d,m⟩],n)
def emEdge (k:Nat):Em:=fun n next _=>([noIn k next 0 0 0],n)
def emGroup (g len:Nat) (em:Em):Em:=fun n next d=>(noIn 3 next 0 (2 * g+1) 0::((em (n+1) n d).1++[noIn 3 (em (n+1) n d).2 0 (2 * g) 0]),n+1+len)
def emRow:List It→Em
 | [],_,next,_=>([],next)
 | p::ps,n,next,d=>((p.em n next d).1++(emRow ps (n+p.len) (p.em n next d).2 d).1,(emRow ps (n+p.len) (p.em n next d).2 d).2)
def emMoreB:List It→Nat→Em
 | [],b,_,_,_=>([],b)
 | p::ps,b,n,next,d=>((p.em n next d).1++(noIn 4 (p.em n next d).2 b 0 0::(emMoreB ps (n+p.len) (n+p.len+1) next d).1),(emMoreB ps (n+p.len) (n+p.len+1) next d).2)
def emBranches:List It→Em
 | [],_,next,_=>([],next)
 | p::ps,n,next,d=>((p.em n next d).1++(emMoreB ps (p.em n next d).2 (n+p.len) next d).1,(emMoreB ps (p.em n next d).2 (n+p.len) next d).2)
def emTimes (len:Nat) (em:Em):Nat→Em
 | 0,_,next,_=>([],next)
 | k+1,n,next,d=>((em n next d).1++(emTimes len em k (n+len) (em n next d).2 d).1,(emTimes len em k (n+len) (em n next d).2 d).2)
def emUpTo (len:Nat) (em:Em):Nat→Nat→Em
 | 0,b,_,_,_=>([],b)
 | k+1,b,n,next,d=>((em n b d).1++(noIn 4 (em n b d).2 next 0 0::(emUpTo len em k (n+len) (n+len+1) next d).1),(emUpTo len em k (n+len) (n+len+1) next d).2)
def emTurns (em:Em):Em:=fun n next d=>(noIn 4 (em (n+2) (n+1) (d+1)).2 next 0 0::noIn 5 n 0 0 d::(em (n+2) (n+1) (d+1)).1,n)
def emRep (len:Nat) (em:Em) (least:Nat):Option Nat→Em
 | some most,n,next,d=>((emUpTo len em (most - least) next n next d).1++(emTimes len em least (n+(most - least) * (len+1)) (emUpTo len em (most - least) next n next d).2 d).1,(emTimes len em least (n+(most - least) * (len+1)) (emUpTo len em (most - least) next n next d).2 d).2)
 | none,n,next,d=>((emTurns em n next d).1++(emTimes len em least (n+(len+2)) (emTurns em n next d).2 d).1,(emTimes len em least (n+(len+2)) (emTurns em n next d).2 d).2)
def lenL (l:List It):Nat:=(l.map It.len).sum
def szL (l:List It):Nat:=(l.map It.sz).sum
def ddL:List It→Nat
 | []=>0
 | p::ps=>max p.dd (ddL ps)
def oneIt (m:Nat→Bool):It:=⟨353,setV m,1,1,0,emOne m⟩
def edgeIt (k:Nat):It:=⟨335,.agg #[.int .i64 k],1,1,0,emEdge k⟩
def groupIt (g:Nat) (i:It):It:=⟨358,.agg #[.int .i64 g,i.v],min (i.sz+2) 301,i.len+2,i.dd,emGroup g i.len i.em⟩
def rowIt (v:Value) (l:List It):It:=⟨320,v,min (szL l) 301,lenL l,ddL l,emRow l.reverse⟩
def branchesIt (v:Value) (l:List It):It:=⟨302,v,min (szL l+(l.length - 1)) 301,lenL l+(l.length - 1),ddL l,emBranches l.reverse⟩
def mostV:Option Nat→Int
 | some m=>m
 | none=>-1
def repIt (i:It) (least:Nat) (most:Option Nat):It:=
 ⟨348,.agg #[i.v,.int .i64 least,.int .i64 (mostV most)],
   (match most with | some m=>min (m * i.sz+(m - least)) 301 | none=>min ((least+1) * i.sz+1) 301),
   (match most with | some m=>(m - least) * (i.len+1)+least * i.len | none=>i.len+2+least * i.len),
   (match most with | some m=>if m=0 then 0 else i.dd | none=>i.dd+1),
   emRep i.len i.em least most⟩
def Same (lo hi:Nat) (w0 w:World):Prop:=hi≤w.heap.size∧∀ k,lo≤k→k < hi→w.heap[k]? = w0.heap[k]?
def up (d dd:Nat):Nat:=if dd=0 then 0 else d+dd
structure Nd (lo hi:Nat) (w0:World) (i:It):Prop where
 sized : ∃ fs, (∀ w, (method 477 i.tv i.xv "ribbon/pattern.size").run Tryz.prog w = .ok (fs, i.xv) w) ∧ (∀ v w, (callFunc fs #[v]).run Tryz.prog w = .ok (.enter fs #[v]) w) ∧ ∀ w, Same lo hi w0 w → Calls Tryz.prog fs #[i.xv] w fun e w' => e = .returned (.int .i64 i.sz) ∧ Kp [] w w'
 emits : ∃ fe, (∀ w, (method 477 i.tv i.xv "ribbon/pattern.emit").run Tryz.prog w = .ok (fe, i.xv) w) ∧ (∀ v p q w, (callFunc fe #[v, p, q]).run Tryz.prog w = .ok (.enter fe #[v, p, q]) w) ∧ ∀ (w : World) (L n : Nat) (xs : List In) (d dp next : Nat), Same lo hi w0 w → hi ≤ L → n + i.len ≤ 1000 → d + i.len ≤ 2000 → dp ≤ 10000 → Ls w L n (flatI xs) d dp →
  Calls Tryz.prog fe #[i.xv,.pointer (some ⟨L,0,none⟩),.int .i64 next] w fun e w'=>e=.returned (.int .i64 (i.em n next d).2)∧Ls w' L (n+i.len) (flatI (xs++(i.em n next d).1)) d (max dp (up d i.dd))∧Below L w w'∧Spares L w w'
 lens:∀ n next d,(i.em n next d).1.length=i.len
 sz:i.sz≤301
 ddl:i.dd≤i.len
theorem Same.refl (lo:Nat) {hi:Nat} {w:World} (h:hi≤w.heap.size):Same lo hi w w:=⟨h,fun _ _ _=>rfl⟩
theorem Same.kp {lo hi:Nat} {w0 w w':World} (h:Same lo hi w0 w) (k:Kp [] w w'):Same lo hi w0 w':=
 ⟨Nat.le_trans h.1 k.size,fun q h1 h2=>(k.block q (Nat.lt_of_lt_of_le h2 h.1) (by simp)).trans (h.2 q h1 h2)⟩
theorem Same.below {lo hi L:Nat} {w0 w w':World} (h:Same lo hi w0 w) (k:Below L w w') (hL:hi≤L):Same lo hi w0 w':=
 ⟨Nat.le_trans h.1 k.size,fun q h1 h2=>(k.block q (Nat.lt_of_lt_of_le h2 hL)).trans (h.2 q h1 h2)⟩
theorem Same.cell {lo hi:Nat} {w0 w:World} (h:Same lo hi w0 w) {a:Addr} {v:Value} (hv:w0.cell? a=some v) (hb:lo≤a.block∧a.block < hi):w.cell? a=some v:=
 (World.cell?_of_block (w:=w0) (h.2 a.block hb.1 hb.2)).trans hv
theorem Nd.keep {lo hi:Nat} {w0 w1:World} {i:It} (h:Nd lo hi w0 i) (k:∀ q,lo≤q→q < hi→w1.heap[q]? = w0.heap[q]?):Nd lo hi w1 i:=by
 have hs:∀ w,Same lo hi w1 w→Same lo hi w0 w:=fun w s=>⟨s.1,fun q h1 h2=>(s.2 q h1 h2).trans (k q h1 h2)⟩
 obtain ⟨fs,a1,a2,a3⟩:=h.sized
 obtain ⟨fe,b1,b2,b3⟩:=h.emits
 exact ⟨⟨fs,a1,a2,fun w s=>a3 w (hs w s)⟩,⟨fe,b1,b2,fun w L n xs d dp next s hL=>b3 w L n xs d dp next (hs w s) hL⟩,h.lens,h.sz,h.ddl⟩
theorem Nd.wide {lo hi lo' hi':Nat} {w0:World} {i:It} (h:Nd lo hi w0 i) (h1:lo'≤lo) (h2:hi≤hi'):Nd lo' hi' w0 i:=by
 have hs:∀ w,Same lo' hi' w0 w→Same lo hi w0 w:=fun w s=>⟨Nat.le_trans h2 s.1,fun q q1 q2=>s.2 q (Nat.le_trans h1 q1) (Nat.lt_of_lt_of_le q2 h2)⟩
 obtain ⟨fs,a1,a2,a3⟩:=h.sized
 obtain ⟨fe,b1,b2,b3⟩:=h.emits
 exact ⟨⟨fs,a1,a2,fun w s=>a3 w (hs w s)⟩,⟨fe,b1,b2,fun w L n xs d dp next s hL=>b3 w L n xs d dp next (hs w s) (Nat.le_trans h2 hL)⟩,h.lens,h.sz,h.ddl⟩
theorem ret_int {a b:Int} (h:a=b):Ending.returned (.int .i64 a)=.returned (.int .i64 b):=by rw [h]
theorem ret_nat {a b:Nat} (h:a=b):Ending.returned (.int .i64 (a:Int))=.returned (.int .i64 (b:Int)):=by rw [h]
theorem box_safe {w:World} {L n:Nat} {xs:List Value} {d dp:Nat} (h:Ls w L n xs d dp) (o:Obj):SafeT L w.heap.size (w.alloc o):=by
 have hl:=h.lt
 have k0:=Kp.alloc [] w o
 refine ⟨by simp,by omega,fun v hv q=>?_⟩
 obtain ⟨v',h1,h2,_⟩:=h.code
 have e:v=v':=Option.some.inj (hv.symm.trans ((k0.cell (p:=⟨L,0,none⟩) hl (by simp)).trans h1))
 subst e
 have:=(h2.lt _ q).2
 omega
theorem up_le (d x:Nat):up d x≤d+x:=by unfold up;split <;> omega
theorem up_zero (d dp:Nat):max dp (up d 0)=dp:=by unfold up;simp
theorem up_max (d dp a b:Nat):max (max dp (up d a)) (up d b)=max dp (up d (max a b)):=by
 unfold up
 split <;> split <;> split <;> omega
theorem addI {L n:Nat} {xs:List In} {d dp:Nat} {w:World} (h:Ls w L n (flatI xs) d dp) (hn:n≤100000) (i:In) :
  Calls Tryz.prog 112 #[.pointer (some ⟨L,0,none⟩),.agg (insI i).toArray] w fun e w'=>e=.returned (.int .i64 n)∧Ls w' L (n+1) (flatI (xs++[i])) d dp∧Below L w w'∧Spares L w w':=by
 rw [flatI_append,flatI_one]
 exact listAddS h hn i.kind i.nx i.ot i.sl i.dp i.m
theorem addI0 {L n:Nat} {xs:List In} {d dp:Nat} {w:World} (h:Ls w L n (flatI xs) d dp) (hn:n≤100000) (kind nx ot sl depth:Nat) :
  Calls Tryz.prog 112 #[.pointer (some ⟨L,0,none⟩),.agg (ins0 kind nx ot sl depth).toArray] w fun e w'=>e=.returned (.int .i64 n)∧Ls w' L (n+1) (flatI (xs++[noIn kind nx ot sl depth])) d dp∧Below L w w'∧Spares L w w':=by
 have:=addI h hn (noIn kind nx ot sl depth)
 unfold insI at this
 rw [ins0_eq] at this
 exact this
theorem nd_one (lo hi:Nat) (w0:World) (m:Nat→Bool):Nd lo hi w0 (oneIt m):=
 ⟨⟨_,size_of_one _,(fun _ _=>by kernel_rfl),fun w _=>one_size m w⟩,⟨_,emit_of_one _,(fun _ _ _ _=>by kernel_rfl),fun w L n xs d dp next _ _ hn _ _ h=>by
   show Calls _ _ _ _ fun e w'=>_∧Ls w' L (n+1) (flatI (xs++[(⟨0,next,0,0,d,m⟩:In)])) d (max dp (up d 0))∧_∧_
   rw [up_zero,flatI_append,flatI_one]
   exact one_emitS h (by have:n+1≤1000:=hn;omega) next m⟩,fun _ _ _=>rfl,by show (1:Nat)≤301;omega,Nat.zero_le _⟩
theorem edge_emitS {L n:Nat} {xs:List Value} {d dp:Nat} {w:World} (h:Ls w L n xs d dp) (hn:n≤100000) (k next:Int) :
  Calls Tryz.prog 311 #[.agg #[.int .i64 k],.pointer (some ⟨L,0,none⟩),.int .i64 next] w fun e w'=>e=.returned (.int .i64 n)∧Ls w' L (n+1) (xs++ins0 k next 0 0 0) d dp∧Below L w w'∧Spares L w w':=by
 have hl:=h.lt
 go_enter Tryz.func311,Tryz.ntmps311
 go_wp2_with fail
 refine (listAddS0 (h.keep (Kp.alloc _ _ _)) hn k next 0 0 0).mono ?_
 rintro e w1 ⟨rfl,h1,b1,s1⟩
 go_wp2_with fail
 go_ret
 exact ⟨rfl,h1,((Below.refl L w).alloc (by omega) _).trans b1,(Spares.keep hl (Kp.alloc _ _ _)).trans s1⟩
theorem nd_edge (lo hi:Nat) (w0:World) (k:Nat):Nd lo hi w0 (edgeIt k):=
 ⟨⟨_,size_of_edge _,(fun _ _=>by kernel_rfl),fun w _=>edge_size k w⟩,⟨_,emit_of_edge _,(fun _ _ _ _=>by kernel_rfl),fun w L n xs d dp next _ _ hn _ _ h=>by
   show Calls _ _ _ _ fun e w'=>_∧Ls w' L (n+1) (flatI (xs++[noIn k next 0 0 0])) d (max dp (up d 0))∧_∧_
   rw [up_zero,flatI_append,flatI_one]
   have:=edge_emitS h (by have:n+1≤1000:=hn;omega) k next
   unfold insI
   rw [ins0_eq]
   exact this⟩,fun _ _ _=>rfl,by show (1:Nat)≤301;omega,Nat.zero_le _⟩
theorem szL_le {lo hi:Nat} {w0:World}:∀ l:List It,(∀ i∈l,Nd lo hi w0 i)→szL l≤l.length * 301
 | [],_=>Nat.le_refl _
 | p::l,h=>by
  have h1:=(h p (by simp)).sz
  have h2:=szL_le l (fun i hi=>h i (by simp [hi]))
  show p.sz+szL l≤(l.length+1) * 301
  omega
theorem ddL_le {lo hi:Nat} {w0:World}:∀ l:List It,(∀ i∈l,Nd lo hi w0 i)→ddL l≤lenL l
 | [],_=>Nat.le_refl _
 | p::l,h=>by
  have h1:=(h p (by simp)).ddl
  have h2:=ddL_le l (fun i hi=>h i (by simp [hi]))
  show max p.dd (ddL l)≤p.len+lenL l
  omega
theorem szL_take (l:List It) (k:Nat) (p:It) (h:l[k]? = some p):szL (l.take (k+1))=szL (l.take k)+p.sz:=by
 unfold szL
 rw [List.take_add_one,h]
 simp
theorem lens_row {lo hi:Nat} {w0:World}:∀ (l:List It),(∀ i∈l,Nd lo hi w0 i)→∀ n next d,(emRow l n next d).1.length=lenL l
 | [],_,_,_,_=>rfl
 | p::l,h,n,next,d=>by
  show ((p.em n next d).1++_).length=p.len+lenL l
  rw [List.length_append,(h p (by simp)).lens,lens_row l (fun i hi=>h i (by simp [hi]))]
theorem lenL_append (l m:List It):lenL (l++m)=lenL l+lenL m:=by simp [lenL]
theorem lenL_reverse (l:List It):lenL l.reverse=lenL l:=by simp [lenL]
theorem ddL_append:∀ l m:List It,ddL (l++m)=max (ddL l) (ddL m)
 | [],m=>by show ddL m=max 0 (ddL m);omega
 | p::l,m=>by
  show max p.dd (ddL (l++m))=max (max p.dd (ddL l)) (ddL m)
  rw [ddL_append l m];omega
theorem row_sizeN {lo hi B:Nat} {w0 w:World} {its:List It} {v:Value} (own:w0.ownsRow B 220 1 v its.length (its.map It.v)) (hb:∀ r,v.ownBlock=some r→lo≤r∧r < hi) (h:∀ i∈its,Nd lo hi w0 i) (hlen:its.length≤200) (hs:Same lo hi w0 w) :
  Calls Tryz.prog 310 #[v] w fun e w'=>e=.returned (.int .i64 ((min (szL its) 301:Nat):Int))∧Kp [] w w':=by
 have OWN:=hid own
 have HS:=hid hs
 have HN:=hid h
 obtain ⟨n,hn⟩:∃ n,its.length=n:=⟨_,rfl⟩
 have hsl:∃ ao c,v=.slice ao n c:=by
  rcases own_formP own with ⟨q,q2⟩ | ⟨g,c,q⟩
  ·exact ⟨none,0,by rw [q,←hn,q2]⟩
  ·exact ⟨_,c,by rw [q,hn]⟩
 obtain ⟨ao,c,rfl⟩:=hsl
 have hall:=szL_le its h
 rw [hn] at hlen hall
 have HNN:=hid hn
 clear own hs h hn
 go_enter Tryz.func310,Tryz.ntmps310
 go_wp2_with fail
 go_loopw [3,8] (fun s i wr=>∃ k z:Nat,k≤n∧z=szL (its.take k)∧z≤k * 301∧s=.int .i64 z∧i=.int .i64 k∧Kp [] w wr) (fun _ i _=>n - (intOf i).toNat)
 case atStart=>exact ⟨0,0,by omega,by simp [szL],by omega,rfl,rfl,Kp.refl _ _⟩
 case round=>
  obtain ⟨k,z,hk,hz,hzk,rfl,rfl,kr⟩:=hrel
  have HZ:=hid hz
  clear hz
  by_cases hlt:k < n
  ·obtain ⟨p,hp⟩:∃ p,its[k]? = some p:=⟨its[k]'(by have:=HNN.out;omega),List.getElem?_eq_getElem (by have:=HNN.out;omega)⟩
   have hpm:p∈its:=List.mem_of_getElem? hp
   obtain ⟨fs,m1,m2,cs⟩:=(HN.out p hpm).sized
   have psz:=(HN.out p hpm).sz
   rcases own_formP OWN.out with ⟨_,q⟩ | ⟨r,c',q⟩
   ·have:=HNN.out;omega
   ·simp only [Value.slice.injEq] at q
    obtain ⟨rfl,hx,rfl⟩:=q
    have o:=OWN.out
    rw [hx] at o
    have hc:=row_at o k p.v (by rw [List.getElem?_map,hp];rfl)
    rw [Nat.zero_add] at hc
    have hrb:lo≤r∧r < hi:=hb r rfl
    have hc2:wr.cell? ⟨r,k,none⟩=some (.iface p.tv p.xv):=(kr.cell (p:=⟨r,k,none⟩) (World.block_lt_of_cell? _ _ (HS.out.cell hc hrb)) (by simp)).trans (HS.out.cell hc hrb)
    have C:=hid (cs wr (HS.out.kp kr))
    have HP:=hid hp
    clear hc o hx hp cs hrb
    go_wp2_with fail
    refine C.out.mono ?_
    rintro e w1 ⟨rfl,k1⟩
    obtain ⟨z1,hz1⟩:∃ z1:Nat,z1=z+p.sz:=⟨_,rfl⟩
    have hsum:(z:Int)+(p.sz:Int)=(z1:Int):=by omega
    have wsum:=wrap_i64_nat z1 (by omega)
    have HZ1:=hid hz1
    have hz1k:z1≤(k+1) * 301:=by omega
    clear hz1
    go_wp2_with fail
    exact ⟨⟨k+1,z1,by omega,by rw [szL_take its k p HP.out,HZ1.out,HZ.out],hz1k,rfl,by go_num,kr.trans k1⟩,by simp [intOf];omega⟩
  ·have hkn:k=n:=by omega
   subst hkn
   have hmin:min (z:Int) 301=((min z 301:Nat):Int):=by omega
   go_wp2_with fail
   all_goals go_ret
   all_goals
    refine ⟨ret_int ?_,kr⟩
    have e1:=HZ.out
    rw [List.take_of_length_le (by have:=HNN.out;omega)] at e1
    rw [←e1]
    try omega
theorem row_emitN {lo hi B L n d dp next:Nat} {xs:List In} {w0 w:World} {its:List It} {v:Value} (own:w0.ownsRow B 220 1 v its.length (its.map It.v)) (hb:∀ r,v.ownBlock=some r→lo≤r∧r < hi) (h:∀ i∈its,Nd lo hi w0 i) (hlen:its.length≤200) (hs:Same lo hi w0 w) (hL:hi≤L) (hn:n+lenL its≤1000) (hd:d+lenL its≤2000) (hdp:dp≤10000) (hls:Ls w L n (flatI xs) d dp) :
  Calls Tryz.prog 309 #[v,.pointer (some ⟨L,0,none⟩),.int .i64 next] w fun e w'=>e=.returned (.int .i64 (emRow its.reverse n next d).2)∧Ls w' L (n+lenL its) (flatI (xs++(emRow its.reverse n next d).1)) d (max dp (up d (ddL its)))∧Below L w w'∧Spares L w w':=by
 have OWN:=hid own
 have HS:=hid hs
 have HN:=hid h
 have HL:=hid hls
 have hlL:=hls.lt
 obtain ⟨N,hN⟩:∃ N,its.length=N:=⟨_,rfl⟩
 have hsl:∃ ao c,v=.slice ao N c:=by
  rcases own_formP own with ⟨q,q2⟩ | ⟨g,c,q⟩
  ·exact ⟨none,0,by rw [q,←hN,q2]⟩
  ·exact ⟨_,c,by rw [q,hN]⟩
 obtain ⟨ao,c,rfl⟩:=hsl
 rw [hN] at hlen
 have HNN:=hid hN
 clear own h hs hls hN
 go_enter Tryz.func309,Tryz.ntmps309
 go_wp2_with fail
 go_loopw [2,7] (fun nx i wr=>∃ (k:Nat) (done todo:List It) (ys:List In) (nxv:Nat),k≤N∧i=.int .i64 ((k:Int) - 1)∧nx=.int .i64 nxv∧its=todo++done∧todo.length=k∧Ls wr L (n+lenL done) (flatI ys) d (max dp (up d (ddL done)))∧Below L w wr∧Spares L w wr ∧
   Hid (ys++(emRow todo.reverse (n+lenL done) nxv d).1=xs++(emRow its.reverse n next d).1∧(emRow todo.reverse (n+lenL done) nxv d).2=(emRow its.reverse n next d).2)) (fun _ i _=>((intOf i)+1).toNat)
 case atStart=>exact ⟨N,[],its,xs,next,Nat.le_refl _,by go_num,rfl,by simp,HNN.out,by rw [show ddL []=0 from rfl,up_zero];exact HL.out,Below.refl _ _,Spares.keep hlL (Kp.refl _ _),hid ⟨rfl,rfl⟩⟩
 case round=>
  obtain ⟨k,done,todo,ys,nxv,hk,rfl,rfl,hpc,htl,ls,bl,sp,eqs⟩:=hrel
  match k,htl,hk with
  | 0,htl,hk=>
   have htd:todo=[]:=List.length_eq_zero_iff.1 htl
   subst htd
   have q:=eqs.out
   simp only [List.reverse_nil,emRow,List.append_nil] at q
   have hdl:done=its:=by rw [hpc];simp
   have LS:=hid ls
   have Q:=hid (And.intro q hdl)
   clear ls q hpc eqs htl hdl
   go_wp2_with fail
   go_ret
   refine ⟨?_,?_,bl,sp⟩
   ·rw [←Q.out.1.2];go_num
   ·have:=LS.out
    rw [Q.out.1.1,Q.out.2] at this
    exact this
  | j+1,htl,hk=>
   rcases List.eq_nil_or_concat todo with hnil | ⟨td,p,hcons⟩
   ·rw [hnil] at htl;cases htl
   rw [List.concat_eq_append] at hcons
   subst hcons
   have htd:td.length=j:=by simpa using htl
   have ej:(((j+1:Nat)):Int) - 1=(j:Int):=by omega
   rw [ej]
   have hpm:p∈its:=by rw [hpc];simp
   have hdl:n+lenL done+p.len≤1000∧d+p.len≤2000∧max dp (up d (ddL done))≤10000:=by
    rw [hpc,lenL_append,lenL_append] at hn hd
    have e1:lenL [p]=p.len:=by simp [lenL]
    have e2:=up_le d (ddL done)
    have e3:=ddL_le done (fun i hi=>HN.out i (by rw [hpc];simp [hi]))
    omega
   obtain ⟨fe,m1,m2,ce⟩:=(HN.out p hpm).emits
   rcases own_formP OWN.out with ⟨_,q⟩ | ⟨r,c',q⟩
   ·rw [hpc] at q;simp at q
   ·simp only [Value.slice.injEq] at q
    obtain ⟨rfl,hx,rfl⟩:=q
    have o:=OWN.out
    rw [hx] at o
    have hc:=row_at o j p.v (by rw [List.getElem?_map,hpc,List.append_assoc,List.getElem?_append_right (by omega),htd,Nat.sub_self];rfl)
    rw [Nat.zero_add] at hc
    have hrb:lo≤r∧r < hi:=hb r rfl
    have hrl:r < hi:=hrb.2
    have hc2:wr.cell? ⟨r,j,none⟩=some (.iface p.tv p.xv):=(bl.cell (p:=⟨r,j,none⟩) (Nat.lt_of_lt_of_le hrl hL)).trans (HS.out.cell hc hrb)
    have C:=hid (ce wr L _ ys d _ nxv (HS.out.below bl hL) hL hdl.1 hdl.2.1 hdl.2.2 ls)
    have HPC:=hid (And.intro hpc htd)
    clear hc o hx hpc htl htd ej ls ce hrb hrl hpm
    go_wp2_with fail
    refine C.out.mono ?_
    rintro e w1 ⟨rfl,l1,b1,s1⟩
    have L1:=hid l1
    clear l1
    go_wp2_with fail
    refine ⟨⟨j,p::done,td,ys++(p.em (n+lenL done) nxv d).1,(p.em (n+lenL done) nxv d).2,by omega,by go_num,rfl,by rw [HPC.out.1];simp,HPC.out.2,?_,bl.trans b1,sp.trans s1,hid ?_⟩,by simp [intOf]⟩
    ·have:=L1.out
     rw [up_max,Nat.max_comm (ddL done) p.dd] at this
     rw [show n+lenL (p::done)=n+lenL done+p.len by show n+(p.len+lenL done)=_;omega]
     exact this
    ·have q:=eqs.out
     rw [List.reverse_append,List.reverse_singleton,List.singleton_append,emRow,←List.append_assoc] at q
     rw [show n+lenL (p::done)=n+lenL done+p.len by show n+(p.len+lenL done)=_;omega]
     exact q
theorem nd_row {lo hi B:Nat} {w0:World} {its:List It} {v:Value} (own:w0.ownsRow B 220 1 v its.length (its.map It.v)) (hb:∀ r,v.ownBlock=some r→lo≤r∧r < hi) (h:∀ i∈its,Nd lo hi w0 i) (hlen:its.length≤200):Nd lo hi w0 (rowIt v its):=
 ⟨⟨_,size_of_row _,(fun _ _=>by kernel_rfl),fun w hs=>row_sizeN own hb h hlen hs⟩,⟨_,emit_of_row _,(fun _ _ _ _=>by kernel_rfl),fun w L n xs d dp next hs hL hn hd hdp hls=>row_emitN own hb h hlen hs hL hn hd hdp hls⟩,
   fun n next d=>by show (emRow its.reverse n next d).1.length=lenL its;rw [lens_row its.reverse (fun i hi=>h i (by simpa using hi)),lenL_reverse],by show min (szL its) 301≤301;omega,ddL_le its h⟩
section
variable {L n:Nat} {xs:List In} {d dp:Nat} {w:World}
theorem addSplit (h:Ls w L n (flatI xs) d dp) (hn:n≤100000) (nx ot:Nat) :
  Calls Tryz.prog 112 #[.pointer (some ⟨L,0,none⟩),.agg (ins0 4 nx ot 0 0).toArray] w fun e w'=>e=.returned (.int .i64 n)∧Ls w' L (n+1) (flatI (xs++[noIn 4 nx ot 0 0])) d dp∧Below L w w'∧Spares L w w':=addI0 h hn 4 nx ot 0 0
theorem addNote (h:Ls w L n (flatI xs) d dp) (hn:n≤100000) (nx sl:Nat) :
  Calls Tryz.prog 112 #[.pointer (some ⟨L,0,none⟩),.agg (ins0 3 nx 0 sl 0).toArray] w fun e w'=>e=.returned (.int .i64 n)∧Ls w' L (n+1) (flatI (xs++[noIn 3 nx 0 sl 0])) d dp∧Below L w w'∧Spares L w w':=addI0 h hn 3 nx 0 sl 0
theorem addTurn (h:Ls w L n (flatI xs) d dp) (hn:n≤100000) (nx depth:Nat) :
  Calls Tryz.prog 112 #[.pointer (some ⟨L,0,none⟩),.agg (ins0 5 nx 0 0 depth).toArray] w fun e w'=>e=.returned (.int .i64 n)∧Ls w' L (n+1) (flatI (xs++[noIn 5 nx 0 0 depth])) d dp∧Below L w w'∧Spares L w w':=addI0 h hn 5 nx 0 0 depth
end
theorem lens_moreB {lo hi:Nat} {w0:World}:∀ (l:List It),(∀ i∈l,Nd lo hi w0 i)→∀ bg n next d,(emMoreB l bg n next d).1.length=lenL l+l.length
 | [],_,_,_,_,_=>rfl
 | p::l,h,bg,n,next,d=>by
  show ((p.em n next d).1++(_::_)).length=p.len+lenL l+(l.length+1)
  rw [List.length_append,List.length_cons,(h p (by simp)).lens,lens_moreB l (fun i hi=>h i (by simp [hi]))]
  omega
theorem lens_branches {lo hi:Nat} {w0:World} (l:List It) (h:∀ i∈l,Nd lo hi w0 i) (n next d:Nat):(emBranches l n next d).1.length=lenL l+(l.length - 1):=by
 cases l with
 | nil=>rfl
 | cons p l=>
  show ((p.em n next d).1++_).length=p.len+lenL l+(l.length+1 - 1)
  rw [List.length_append,(h p (by simp)).lens,lens_moreB l (fun i hi=>h i (by simp [hi]))]
  omega
theorem branches_sizeN {lo hi B:Nat} {w0 w:World} {its:List It} {v:Value} (own:w0.ownsRow B 220 1 v its.length (its.map It.v)) (hb:∀ r,v.ownBlock=some r→lo≤r∧r < hi) (h:∀ i∈its,Nd lo hi w0 i) (hlen:its.length≤200) (hne:0 < its.length) (hs:Same lo hi w0 w) :
  Calls Tryz.prog 308 #[v] w fun e w'=>e=.returned (.int .i64 ((min (szL its+(its.length - 1)) 301:Nat):Int))∧Kp [] w w':=by
 have OWN:=hid own
 have HS:=hid hs
 have HN:=hid h
 obtain ⟨n,hn⟩:∃ n,its.length=n:=⟨_,rfl⟩
 have hsl:∃ ao c,v=.slice ao n c:=by
  rcases own_formP own with ⟨q,q2⟩ | ⟨g,c,q⟩
  ·exact ⟨none,0,by rw [q,←hn,q2]⟩
  ·exact ⟨_,c,by rw [q,hn]⟩
 obtain ⟨ao,c,rfl⟩:=hsl
 have hall:=szL_le its h
 rw [hn] at hlen hall hne
 have HNN:=hid hn
 obtain ⟨n1,hn1⟩:∃ n1:Nat,(n:Int) - 1=(n1:Int):=⟨n - 1,by omega⟩
 have wn1:=wrap_i64_nat n1 (by omega)
 have HN1:Hid (n1=n - 1):=hid (by omega)
 clear own hs h hn
 go_enter Tryz.func308,Tryz.ntmps308
 go_wp2_with fail
 go_loopw [3,11] (fun s i wr=>∃ k z:Nat,k≤n∧z=n1+szL (its.take k)∧z≤n+k * 301∧s=.int .i64 z∧i=.int .i64 k∧Kp [] w wr) (fun _ i _=>n - (intOf i).toNat)
 case atStart=>exact ⟨0,n1,by omega,by simp [szL],by omega,rfl,rfl,Kp.refl _ _⟩
 case round=>
  obtain ⟨k,z,hk,hz,hzk,rfl,rfl,kr⟩:=hrel
  have HZ:=hid hz
  clear hz
  by_cases hlt:k < n
  ·obtain ⟨p,hp⟩:∃ p,its[k]? = some p:=⟨its[k]'(by have:=HNN.out;omega),List.getElem?_eq_getElem (by have:=HNN.out;omega)⟩
   have hpm:p∈its:=List.mem_of_getElem? hp
   obtain ⟨fs,m1,m2,cs⟩:=(HN.out p hpm).sized
   have psz:=(HN.out p hpm).sz
   rcases own_formP OWN.out with ⟨_,q⟩ | ⟨r,c',q⟩
   ·have:=HNN.out;omega
   ·simp only [Value.slice.injEq] at q
    obtain ⟨rfl,hx,rfl⟩:=q
    have o:=OWN.out
    rw [hx] at o
    have hc:=row_at o k p.v (by rw [List.getElem?_map,hp];rfl)
    rw [Nat.zero_add] at hc
    have hrb:lo≤r∧r < hi:=hb r rfl
    have hc2:wr.cell? ⟨r,k,none⟩=some (.iface p.tv p.xv):=(kr.cell (p:=⟨r,k,none⟩) (World.block_lt_of_cell? _ _ (HS.out.cell hc hrb)) (by simp)).trans (HS.out.cell hc hrb)
    have C:=hid (cs wr (HS.out.kp kr))
    have HP:=hid hp
    clear hc o hx hp cs hrb
    go_wp2_with fail
    refine C.out.mono ?_
    rintro e w1 ⟨rfl,k1⟩
    obtain ⟨z1,hz1⟩:∃ z1:Nat,z1=z+p.sz:=⟨_,rfl⟩
    have hsum:(z:Int)+(p.sz:Int)=(z1:Int):=by omega
    have wsum:=wrap_i64_nat z1 (by omega)
    have HZ1:=hid hz1
    have hz1k:z1≤n+(k+1) * 301:=by omega
    clear hz1
    go_wp2_with fail
    exact ⟨⟨k+1,z1,by omega,by rw [szL_take its k p HP.out,HZ1.out,HZ.out];omega,hz1k,rfl,by go_num,kr.trans k1⟩,by simp [intOf];omega⟩
  ·have hkn:k=n:=by omega
   subst hkn
   have hmin:min (z:Int) 301=((min z 301:Nat):Int):=by omega
   go_wp2_with fail
   all_goals go_ret
   all_goals
    refine ⟨ret_int ?_,kr⟩
    have e1:=HZ.out
    rw [List.take_of_length_le (by have:=HNN.out;omega)] at e1
    have e2:=HNN.out
    have e3:=HN1.out
    rw [e2]
    omega
theorem branches_emitN {lo hi B L n d dp next:Nat} {xs:List In} {w0 w:World} {its:List It} {v:Value} (own:w0.ownsRow B 220 1 v its.length (its.map It.v)) (hb:∀ r,v.ownBlock=some r→lo≤r∧r < hi) (h:∀ i∈its,Nd lo hi w0 i) (hlen:its.length≤200) (hne:0 < its.length) (hs:Same lo hi w0 w) (hL:hi≤L) (hn:n+(lenL its+(its.length - 1))≤1000) (hd:d+(lenL its+(its.length - 1))≤2000) (hdp:dp≤10000) (hls:Ls w L n (flatI xs) d dp) :
  Calls Tryz.prog 307 #[v,.pointer (some ⟨L,0,none⟩),.int .i64 next] w fun e w'=>e=.returned (.int .i64 (emBranches its.reverse n next d).2)∧Ls w' L (n+(lenL its+(its.length - 1))) (flatI (xs++(emBranches its.reverse n next d).1)) d (max dp (up d (ddL its)))∧Below L w w'∧Spares L w w':=by
 have OWN:=hid own
 have HS:=hid hs
 have HN:=hid h
 rcases List.eq_nil_or_concat its with hnil | ⟨ini,la,hcat⟩
 ·rw [hnil] at hne;cases hne
 rw [List.concat_eq_append] at hcat
 obtain ⟨N,hN⟩:∃ N,its.length=N+1:=⟨its.length - 1,by omega⟩
 have hini:ini.length=N:=by rw [hcat] at hN;simpa using hN
 rcases own_formP own with ⟨_,q2⟩ | ⟨r,c,q⟩
 ·omega
 rw [hN] at q
 subst q
 have o:=own
 rw [hN] at o
 have hrb:lo≤r∧r < hi:=hb r rfl
 have cellAt:Hid (∀ (k:Nat) (p:It),its[k]? = some p→∀ W,Same lo hi w0 W→W.cell? ⟨r,k,none⟩=some (.iface p.tv p.xv)):=hid (fun k p hp W hW=>by
  have hc:=row_at o k p.v (by rw [List.getElem?_map,hp];rfl)
  rw [Nat.zero_add] at hc
  exact hW.cell hc hrb)
 have hla:its[N]? = some la:=by rw [hcat,List.getElem?_append_right (by omega),hini,Nat.sub_self];rfl
 have c0:=cellAt.out N la hla w hs
 have hlam:la∈its:=List.mem_of_getElem? hla
 obtain ⟨fe,m1,m2,ce⟩:=(h la hlam).emits
 have hlen0:n+la.len≤1000∧d+la.len≤2000:=by
  rw [hcat,lenL_append] at hn hd
  have:lenL [la]=la.len:=by simp [lenL]
  omega
 have C:=hid (ce w L n xs d dp next hs hL hlen0.1 hlen0.2 hdp hls)
 have HD:=hid hd
 clear hd
 obtain ⟨N1,hN1⟩:∃ N1:Nat,N1=N+1:=⟨_,rfl⟩
 have eN1:(N1:Int) - 1=(N:Int):=by omega
 have wN:=wrap_i64_nat N (by omega)
 have hNlt:N < N1:=by omega
 have HH:=hid (And.intro hcat (And.intro hini (And.intro hn (And.intro hN hN1))))
 rw [←hN1]
 have hN300:N≤300:=by omega
 clear own h hs hls hN o hla ce hcat hini hn hlen hne hN1 hlam hlen0
 go_enter Tryz.func307,Tryz.ntmps307
 go_wp2_with fail
 refine C.out.mono ?_
 rintro e w1 ⟨rfl,l1,b1,s1⟩
 have H1:=hid (And.intro l1 (And.intro b1 s1))
 clear l1 b1 s1 c0 m1 m2 C
 obtain ⟨bg0,hbg0⟩:∃ bg0,bg0=(la.em n next d).2:=⟨_,rfl⟩
 rw [←hbg0]
 have HBG:=hid hbg0
 clear hbg0
 go_wp2_with fail
 go_loopw [8,9] (fun bgv i wr=>∃ (k:Nat) (done todo:List It) (ys:List In) (bg:Nat),k≤N∧i=.int .i64 ((k:Int) - 1)∧bgv=.int .i64 bg∧its=todo++done∧todo.length=k∧0 < done.length∧Ls wr L (n+(lenL done+(done.length - 1))) (flatI ys) d (max dp (up d (ddL done)))∧Below L w wr∧Spares L w wr ∧
   Hid (ys++(emMoreB todo.reverse bg (n+(lenL done+(done.length - 1))) next d).1=xs++(emBranches its.reverse n next d).1∧(emMoreB todo.reverse bg (n+(lenL done+(done.length - 1))) next d).2=(emBranches its.reverse n next d).2)) (fun _ i _=>((intOf i)+1).toNat)
 case atStart=>
  obtain ⟨hcat,hini,_⟩:=HH.out
  refine ⟨N,[la],ini,xs++(la.em n next d).1,bg0,Nat.le_refl _,by go_num,rfl,hcat,hini,by simp,?_,H1.out.2.1,H1.out.2.2,hid ?_⟩
  ·have:=H1.out.1
   simpa [lenL,ddL] using this
  ·rw [HBG.out,hcat,List.reverse_append,List.reverse_singleton,List.singleton_append,emBranches]
   simp [lenL]
 case round=>
  obtain ⟨k,done,todo,ys,bg,hk,rfl,rfl,hpc,htl,hdn,ls,bl,sp,eqs⟩:=hrel
  match k,htl,hk with
  | 0,htl,hk=>
   have htd:todo=[]:=List.length_eq_zero_iff.1 htl
   subst htd
   have q:=eqs.out
   simp only [List.reverse_nil,emMoreB,List.append_nil] at q
   have hdl:done=its:=by rw [hpc];simp
   have LS:=hid ls
   have Q:=hid (And.intro q hdl)
   clear ls q hpc eqs htl hdl
   go_wp2_with fail
   go_ret
   refine ⟨?_,?_,bl,sp⟩
   ·rw [←Q.out.1.2];rfl
   ·have:=LS.out
    rw [Q.out.1.1,Q.out.2] at this
    exact this
  | j+1,htl,hk=>
   rcases List.eq_nil_or_concat todo with hnil | ⟨td,p,hcons⟩
   ·rw [hnil] at htl;cases htl
   rw [List.concat_eq_append] at hcons
   subst hcons
   have htd:td.length=j:=by simpa using htl
   have ej:(((j+1:Nat)):Int) - 1=(j:Int):=by omega
   rw [ej]
   have hpi:its[j]? = some p:=by rw [hpc,List.append_assoc,List.getElem?_append_right (by omega),htd,Nat.sub_self];rfl
   have hpm:p∈its:=List.mem_of_getElem? hpi
   have hdl:n+(lenL done+(done.length - 1))+p.len+1≤1000∧d+p.len≤2000∧max dp (up d (ddL done))≤10000:=by
    have:=HH.out.2.2.1
    have q:=HD.out
    rw [hpc,lenL_append,lenL_append] at this q
    have e1:lenL [p]=p.len:=by simp [lenL]
    have e2:=up_le d (ddL done)
    have e3:=ddL_le done (fun i hi=>HN.out i (by rw [hpc];simp [hi]))
    simp only [List.length_append,List.length_singleton] at this q
    omega
   obtain ⟨fe,m1,m2,ce⟩:=(HN.out p hpm).emits
   have hc2:=cellAt.out j p hpi wr (HS.out.below bl hL)
   have C:=hid (ce wr L _ ys d _ next (HS.out.below bl hL) hL (by omega) hdl.2.1 hdl.2.2 ls)
   have HPC:=hid (And.intro hpc htd)
   have hjN:j < N1:=by omega
   clear hpc htl htd ej ls ce hpi hpm
   go_wp2_with fail
   refine C.out.mono ?_
   rintro e w1' ⟨rfl,l1,b1,s1⟩
   have L1:=hid (And.intro b1 s1)
   obtain ⟨nx,hnx⟩:∃ nx,nx=(p.em (n+(lenL done+(done.length - 1))) next d).2:=⟨_,rfl⟩
   rw [←hnx]
   have HNX:=hid hnx
   clear b1 s1 hnx
   have A:=hid (addSplit l1 (by omega) nx bg)
   clear l1
   go_wp2_with fail
   refine A.out.mono ?_
   rintro e w2' ⟨rfl,l2,b2,s2⟩
   have L2:=hid l2
   clear l2 A C
   go_wp2_with fail
   refine ⟨⟨j,p::done,td,ys++(p.em (n+(lenL done+(done.length - 1))) next d).1++[noIn 4 nx bg 0 0],n+(lenL done+(done.length - 1))+p.len,by omega,by go_num,rfl,by rw [HPC.out.1];simp,HPC.out.2,by simp,?_,bl.trans (L1.out.1.trans b2),sp.trans (L1.out.2.trans s2),hid ?_⟩,by simp [intOf]⟩
   ·have:=L2.out
    rw [up_max,Nat.max_comm (ddL done) p.dd] at this
    rw [show n+(lenL (p::done)+((p::done).length - 1))=n+(lenL done+(done.length - 1))+p.len+1 by show n+(p.len+lenL done+(done.length+1 - 1))=_;omega]
    exact this
   ·have q:=eqs.out
    rw [List.reverse_append,List.reverse_singleton,List.singleton_append,emMoreB] at q
    rw [show n+(lenL (p::done)+((p::done).length - 1))=n+(lenL done+(done.length - 1))+p.len+1 by show n+(p.len+lenL done+(done.length+1 - 1))=_;omega]
    rw [HNX.out]
    refine ⟨?_,q.2⟩
    rw [←q.1]
    simp [List.append_assoc]
theorem nd_branches {lo hi B:Nat} {w0:World} {its:List It} {v:Value} (own:w0.ownsRow B 220 1 v its.length (its.map It.v)) (hb:∀ r,v.ownBlock=some r→lo≤r∧r < hi) (h:∀ i∈its,Nd lo hi w0 i) (hlen:its.length≤200) (hne:0 < its.length):Nd lo hi w0 (branchesIt v its):=
 ⟨⟨_,size_of_branches _,(fun _ _=>by kernel_rfl),fun w hs=>branches_sizeN own hb h hlen hne hs⟩,⟨_,emit_of_branches _,(fun _ _ _ _=>by kernel_rfl),fun w L n xs d dp next hs hL hn hd hdp hls=>branches_emitN own hb h hlen hne hs hL hn hd hdp hls⟩,
   fun n next d=>by show (emBranches its.reverse n next d).1.length=lenL its+(its.length - 1);rw [lens_branches its.reverse (fun i hi=>h i (by simpa using hi)),lenL_reverse,List.length_reverse],by show min _ 301≤301;omega,Nat.le_trans (ddL_le its h) (Nat.le_add_right _ _)⟩
theorem size_of_group (v : Value) (w : World) : (method 477 358 v "ribbon/pattern.size").run Tryz.prog w = .ok (320, v) w := by kernel_rfl
theorem emit_of_group (v : Value) (w : World) : (method 477 358 v "ribbon/pattern.emit").run Tryz.prog w = .ok (319, v) w := by kernel_rfl
theorem group_sizeN {lo hi g:Nat} {w0 w:World} {i:It} (h:Nd lo hi w0 i) (hs:Same lo hi w0 w) :
  Calls Tryz.prog 320 #[.agg #[.int .i64 g,.iface i.tv i.xv]] w fun e w'=>e=.returned (.int .i64 ((min (i.sz+2) 301:Nat):Int))∧Kp [] w w':=by
 obtain ⟨fs,m1,m2,cs⟩:=h.sized
 have hsz:=h.sz
 have k0:=Kp.alloc [] w (.cells #[.int .i64 g,.iface i.tv i.xv] 358)
 have C:=hid (cs _ (hs.kp k0))
 obtain ⟨z1,hz1⟩:∃ z1:Nat,z1=i.sz+2:=⟨_,rfl⟩
 have hsum:(i.sz:Int)+2=(z1:Int):=by omega
 have wsum:=wrap_i64_nat z1 (by omega)
 have hmin:min (z1:Int) 301=((min z1 301:Nat):Int):=by omega
 have HZ:=hid hz1
 clear cs h hs hz1
 go_enter Tryz.func320,Tryz.ntmps320
 go_wp2_with fail
 refine C.out.mono ?_
 rintro e w1 ⟨rfl,k1⟩
 go_wp2_with fail
 all_goals go_ret
 all_goals
  refine ⟨ret_int ?_,k0.trans k1⟩
  have:=HZ.out
  omega
theorem group_emitN {lo hi g L n d dp next:Nat} {xs:List In} {w0 w:World} {i:It} (h:Nd lo hi w0 i) (hg:g≤9) (hs:Same lo hi w0 w) (hL:hi≤L) (hn:n+(i.len+2)≤1000) (hd:d+(i.len+2)≤2000) (hdp:dp≤10000) (hls:Ls w L n (flatI xs) d dp) :
  Calls Tryz.prog 319 #[.agg #[.int .i64 g,.iface i.tv i.xv],.pointer (some ⟨L,0,none⟩),.int .i64 next] w fun e w'=>e=.returned (.int .i64 ((n+1+i.len:Nat):Int))∧Ls w' L (n+(i.len+2)) (flatI (xs++(emGroup g i.len i.em n next d).1)) d (max dp (up d i.dd))∧Below L w w'∧Spares L w w':=by
 obtain ⟨fe,m1,m2,ce⟩:=h.emits
 have hl:=hls.lt
 obtain ⟨o,ho⟩:∃ o:Obj,o=.cells #[.int .i64 g,.iface i.tv i.xv] 358:=⟨_,rfl⟩
 have k0:=Kp.alloc [] w o
 have b0:Below L w (w.alloc o):=(Below.refl L w).alloc (by omega) _
 have h0:=hls.keep k0
 have s0:=Spares.keep hl k0
 have t0:=box_safe hls o
 obtain ⟨T,hT⟩:∃ T,w.heap.size=T:=⟨_,rfl⟩
 have g0:(w.alloc o).cell? ⟨T,0,none⟩=some (.int .i64 g):=by rw [ho,←hT];simp
 have i0:(w.alloc o).cell? ⟨T,1,none⟩=some (.iface i.tv i.xv):=by rw [ho,←hT];simp
 rw [hT] at t0
 have hs0:=hs.kp k0
 obtain ⟨g2,hg2⟩:∃ g2:Nat,g2=2 * g:=⟨_,rfl⟩
 obtain ⟨g3,hg3⟩:∃ g3:Nat,g3=2 * g+1:=⟨_,rfl⟩
 have e2:(2:Int) * (g:Int)=(g2:Int):=by omega
 have e3:(g2:Int)+1=(g3:Int):=by omega
 have w2:=wrap_i64_nat g2 (by omega)
 have w3:=wrap_i64_nat g3 (by omega)
 have HG:=hid (And.intro hg2 hg3)
 clear h hs hls hg2 hg3
 have A0:=hid (addNote h0 (by omega) next g3)
 go_enter Tryz.func319,Tryz.ntmps319
 go_wp2_with fail
 rw [←ho]
 refine A0.out.mono ?_
 rintro e w1 ⟨rfl,l1,b1,s1⟩
 have i1:=s1.cell t0 i0
 have g1:=s1.cell t0 g0
 have t1:=(s1 _ t0).1
 have B1:=b0.trans b1
 have S1:=s0.trans s1
 have sm1:=hs0.below b1 hL
 have HB:=hid (And.intro B1 S1)
 have C:=hid (ce w1.drew L (n+1) _ d dp n (sm1.kp (Kp.drew _ _)) hL (by omega) (by omega) hdp (l1.keep (Kp.drew _ _)))
 have hl1:=l1.lt
 have t2:=(Spares.keep hl1 (Kp.drew [] w1) _ t1).1
 have sd:=Spares.keep hl1 (Kp.drew [] w1)
 clear B1 S1 b0 b1 s0 s1 i0 g0 t0 h0 A0 ce l1 hs0 sm1
 go_wp2_with fail
 refine wp_region_noPanic ?_
 refine wp_region_T (fun w':World=>w'.cell? ⟨T,0,none⟩=some (.int .i64 (g:Int))∧w'.cell? ⟨T,1,none⟩=some (.iface i.tv i.xv)) 11 (by kernel_rfl) ?_
 have hS:(fun w':World=>w'.cell? ⟨T,0,none⟩=some (.int .i64 (g:Int))∧w'.cell? ⟨T,1,none⟩=some (.iface i.tv i.xv)) w1.drew:=⟨g1,i1⟩
 refine tk1 0 (v:=?_) rfl (by kernel_rfl) (fun _ _ _ h=>h) ⟨rfl,fun w hSw=>?_⟩ hS ?_;rotate_left;· ((try dsimp only at hSw);go_simp;(try with_reducible rfl))
 (try simp only [List.getElem_toArray,List.getElem_cons_succ,List.getElem_cons_zero,Act.put,List.setIfInBounds_toArray,List.set_cons_zero,List.set_cons_succ])
 refine tk1 1 (v:=?_) rfl (by kernel_rfl) (fun _ _ _ h=>h) ⟨rfl,fun w hSw=>?_⟩ hS ?_;rotate_left;· ((try dsimp only at hSw);go_simp;(try with_reducible rfl))
 (try simp only [List.getElem_toArray,List.getElem_cons_succ,List.getElem_cons_zero,Act.put,List.setIfInBounds_toArray,List.set_cons_zero,List.set_cons_succ])
 refine tk1 2 (v:=?_) rfl (by kernel_rfl) (fun _ _ _ h=>h) ⟨rfl,fun w hSw=>?_⟩ hS ?_;rotate_left;· ((try dsimp only at hSw);go_simp;(try with_reducible rfl))
 (try simp only [List.getElem_toArray,List.getElem_cons_succ,List.getElem_cons_zero,Act.put,List.setIfInBounds_toArray,List.set_cons_zero,List.set_cons_succ])
 refine tk1 3 (v:=?_) rfl (by kernel_rfl) (fun _ _ _ h=>h) ⟨rfl,fun w hSw=>?_⟩ hS ?_;rotate_left;· ((try dsimp only at hSw);go_simp;(try with_reducible rfl))
 (try simp only [List.getElem_toArray,List.getElem_cons_succ,List.getElem_cons_zero,Act.put,List.setIfInBounds_toArray,List.set_cons_zero,List.set_cons_succ])
 refine tk1 4 (v:=?_) rfl (by kernel_rfl) (fun _ _ _ h=>h) ⟨rfl,fun w hSw=>?_⟩ hS ?_;rotate_left;· ((try dsimp only at hSw);go_simp;(try with_reducible rfl))
 (try simp only [List.getElem_toArray,List.getElem_cons_succ,List.getElem_cons_zero,Act.put,List.setIfInBounds_toArray,List.set_cons_zero,List.set_cons_succ])
 refine tk1 6 (v:=?_) rfl (by kernel_rfl) (fun _ _ _ h=>h) ⟨rfl,fun w hSw=>?_⟩ hS ?_;rotate_left;· ((try dsimp only at hSw);go_simp;(try with_reducible rfl))
 (try simp only [List.getElem_toArray,List.getElem_cons_succ,List.getElem_cons_zero,Act.put,List.setIfInBounds_toArray,List.set_cons_zero,List.set_cons_succ])
 refine tk1 7 (v:=?_) rfl (by kernel_rfl) (fun _ _ _ h=>h) ⟨rfl,fun w hSw=>?_⟩ hS ?_;rotate_left;· ((try dsimp only at hSw);go_simp;(try with_reducible rfl))
 (try simp only [List.getElem_toArray,List.getElem_cons_succ,List.getElem_cons_zero,Act.put,List.setIfInBounds_toArray,List.set_cons_zero,List.set_cons_succ])
 refine tk1 8 (v:=?_) rfl (by kernel_rfl) (fun _ _ _ h=>h) ⟨rfl,fun w hSw=>?_⟩ hS ?_;rotate_left;· ((try dsimp only at hSw);go_simp;(try with_reducible rfl))
 (try simp only [List.getElem_toArray,List.getElem_cons_succ,List.getElem_cons_zero,Act.put,List.setIfInBounds_toArray,List.set_cons_zero,List.set_cons_succ])
 refine wpAnyT_one (i:=5) (by kernel_rfl) rfl (fun K hK=>?_)
 go_simp
 refine C.out.mono ?_
 rintro e w2 ⟨rfl,l2,b2,s2⟩
 have S2:(fun w':World=>w'.cell? ⟨T,0,none⟩=some (.int .i64 (g:Int))∧w'.cell? ⟨T,1,none⟩=some (.iface i.tv i.xv)) w2:=⟨s2.cell t2 g1,s2.cell t2 i1⟩
 refine hK.out _ _ (.inr S2) ?_
 clear hK K
 obtain ⟨nx,hnx⟩:∃ nx,nx=(i.em (n+1) n d).2:=⟨_,rfl⟩
 rw [←hnx]
 have HNX:=hid hnx
 have A2:=hid (addNote l2 (by omega) nx g2)
 have H2:=hid (And.intro b2 s2)
 clear b2 s2 l2 hnx C
 refine tk1 9 (v:=?_) rfl (by kernel_rfl) (fun _ _ _ h=>h) ⟨rfl,fun w hSw=>?_⟩ S2 ?_;rotate_left;· ((try dsimp only at hSw);go_simp;(try with_reducible rfl))
 (try simp only [List.getElem_toArray,List.getElem_cons_succ,List.getElem_cons_zero,Act.put,List.setIfInBounds_toArray,List.set_cons_zero,List.set_cons_succ])
 refine wpAnyT_one (i:=10) (by kernel_rfl) rfl (fun K hK=>?_)
 go_simp
 refine A2.out.mono ?_
 rintro e w3 ⟨rfl,l3,b3,s3⟩
 have t3:=(H2.out.2 _ t2).1
 have S3:(fun w':World=>w'.cell? ⟨T,0,none⟩=some (.int .i64 (g:Int))∧w'.cell? ⟨T,1,none⟩=some (.iface i.tv i.xv)) w3:=⟨s3.cell t3 S2.1,s3.cell t3 S2.2⟩
 refine hK.out _ _ (.inr S3) ?_
 clear hK K
 refine wpAnyT_one (i:=11) (by kernel_rfl) rfl (fun K hK=>?_)
 go_simp
 refine hK.out _ _ (.inr S3) ?_
 clear hK K
 refine wpAnyT_done (by kernel_rfl) ?_ _
 refine NoPanic.normal ?_
 have L3:=hid (And.intro l3 (And.intro b3 s3))
 clear l3 b3 s3 S3 S2 hS A2
 go_wp2_with fail
 go_ret
 have bd:Below L w1 w1.drew:=(Below.refl _ _).drew
 refine ⟨rfl,?_,HB.out.1.trans (bd.trans (H2.out.1.trans L3.out.2.1)),HB.out.2.trans (sd.trans (H2.out.2.trans L3.out.2.2))⟩
 have q:=L3.out.1
 rw [HNX.out,HG.out.1,HG.out.2] at q
 have e:xs++(emGroup g i.len i.em n next d).1=xs++[noIn 3 next 0 (2 * g+1) 0]++(i.em (n+1) n d).1++[noIn 3 (i.em (n+1) n d).2 0 (2 * g) 0]:=by unfold emGroup;simp
 rw [e,show n+(i.len+2)=n+1+i.len+1 by omega]
 exact q
theorem nd_group {lo hi g:Nat} {w0:World} {i:It} (h:Nd lo hi w0 i) (hg:g≤9):Nd lo hi w0 (groupIt g i):=
 ⟨⟨_,size_of_group _,(fun _ _=>by kernel_rfl),fun w hs=>group_sizeN h hs⟩,⟨_,emit_of_group _,(fun _ _ _ _=>by kernel_rfl),fun w L n xs d dp next hs hL hn hd hdp hls=>group_emitN h hg hs hL hn hd hdp hls⟩,
   fun n next d=>by show ((_::(_++[_])):List In).length=i.len+2;rw [List.length_cons,List.length_append,h.lens];rfl,by show min _ 301≤301;omega,Nat.le_trans h.ddl (Nat.le_add_right _ _)⟩
abbrev repA' (i:It) (least:Nat) (mv:Int):Value:=.agg #[.iface i.tv i.xv,.int .i64 least,.int .i64 mv]
theorem lens_times {em:Em} {len:Nat} (h:∀ n next d,(em n next d).1.length=len):∀ k n next d,(emTimes len em k n next d).1.length=k * len
 | 0,_,_,_=>by rw [Nat.zero_mul];rfl
 | k+1,n,next,d=>by
  show (_++_:List In).length=_
  rw [List.length_append,h,lens_times h k,Nat.add_mul,Nat.one_mul];omega
theorem lens_upTo {em:Em} {len:Nat} (h:∀ n next d,(em n next d).1.length=len):∀ k b n next d,(emUpTo len em k b n next d).1.length=k * (len+1)
 | 0,_,_,_,_=>by rw [Nat.zero_mul];rfl
 | k+1,b,n,next,d=>by
  show (_++(_::_):List In).length=_
  rw [List.length_append,List.length_cons,h,lens_upTo h k,Nat.add_mul,Nat.one_mul];omega
theorem times_snoc {em:Em} {len:Nat}:∀ k n next d,emTimes len em (k+1) n next d=((emTimes len em k n next d).1++(em (n+k * len) (emTimes len em k n next d).2 d).1,(em (n+k * len) (emTimes len em k n next d).2 d).2)
 | 0,n,next,d=>by simp [emTimes]
 | k+1,n,next,d=>by
  rw [emTimes,times_snoc k (n+len) (em n next d).2 d]
  conv=>rhs;rw [emTimes]
  rw [show n+len+k * len=n+(k+1) * len by rw [Nat.add_mul,Nat.one_mul];omega]
  simp [List.append_assoc]
theorem upTo_snoc {em:Em} {len:Nat}:∀ k b n next d,emUpTo len em (k+1) b n next d=((emUpTo len em k b n next d).1++((em (n+k * (len+1)) (emUpTo len em k b n next d).2 d).1++[noIn 4 (em (n+k * (len+1)) (emUpTo len em k b n next d).2 d).2 next 0 0]),n+k * (len+1)+len)
 | 0,b,n,next,d=>by simp [emUpTo]
 | k+1,b,n,next,d=>by
  rw [emUpTo,upTo_snoc k (n+len) (n+len+1) next d]
  conv=>rhs;rw [emUpTo]
  rw [show n+len+1+k * (len+1)=n+(k+1) * (len+1) by rw [Nat.add_mul,Nat.one_mul];omega]
  simp [List.append_assoc]
theorem more_emitN {lo hi L n d dp next least K kd:Nat} {xs:List In} {w0 w:World} {i:It} (h:Nd lo hi w0 i) (hs:Same lo hi w0 w) (hL:hi≤L) (hK:K≤20) (hkd:kd=if K=0 then 0 else i.dd) (hn:n+K * (i.len+1)≤1000) (hd:d+K * (i.len+1)≤2000) (hdp:dp≤10000) (hls:Ls w L n (flatI xs) d dp) :
  Calls Tryz.prog 316 #[repA' i least ((least+K:Nat):Int),.pointer (some ⟨L,0,none⟩),.int .i64 next] w fun e w'=>e=.returned (.int .i64 (emUpTo i.len i.em K next n next d).2)∧Ls w' L (n+K * (i.len+1)) (flatI (xs++(emUpTo i.len i.em K next n next d).1)) d (max dp (up d kd))∧Below L w w'∧Spares L w w':=by
 have HKD:=hid hkd
 have HDDL:=hid h.ddl
 clear hkd
 obtain ⟨fe,m1,m2,ce⟩:=h.emits
 have hl:=hls.lt
 obtain ⟨M,hM⟩:∃ M:Nat,M=least+K:=⟨_,rfl⟩
 rw [←hM]
 obtain ⟨o,ho⟩:∃ o:Obj,o=.cells #[.iface i.tv i.xv,.int .i64 least,.int .i64 (M:Int)] 348:=⟨_,rfl⟩
 have k0:=Kp.alloc [] w o
 have b0:Below L w (w.alloc o):=(Below.refl L w).alloc (by omega) _
 have h0:=hls.keep k0
 have s0:=Spares.keep hl k0
 have t0:=box_safe hls o
 obtain ⟨T,hT⟩:∃ T,w.heap.size=T:=⟨_,rfl⟩
 have c0:(w.alloc o).cell? ⟨T,0,none⟩=some (.iface i.tv i.xv):=by rw [ho,←hT];simp
 have c1:(w.alloc o).cell? ⟨T,1,none⟩=some (.int .i64 least):=by rw [ho,←hT];simp
 have c2:(w.alloc o).cell? ⟨T,2,none⟩=some (.int .i64 (M:Int)):=by rw [ho,←hT];simp
 rw [hT] at t0
 have hs0:=hs.kp k0
 have eK:(M:Int) - (least:Int)=(K:Int):=by omega
 have wK:=wrap_i64_nat K (by omega)
 have H0:=hid (And.intro hs0 (And.intro h0 (And.intro b0 (And.intro s0 (And.intro t0 c0)))))
 have HCE:=hid ce
 clear h hs hls hM ce hs0 h0 b0 s0 t0 c0
 go_enter Tryz.func316,Tryz.ntmps316
 go_wp2_with fail
 rw [←ho]
 generalize w.alloc o=W at *
 clear ho k0 c1 c2
 go_loopw [7,14] (fun bgv iv wr=>∃ k bg m:Nat,k≤K∧iv=.int .i64 k∧bgv=.int .i64 bg∧m=n+k * (i.len+1)∧bg=(emUpTo i.len i.em k next n next d).2∧Ls wr L m (flatI (xs++(emUpTo i.len i.em k next n next d).1)) d (max dp (up d (if k=0 then 0 else i.dd)))∧Same lo hi w0 wr∧SafeT L T wr∧wr.cell? ⟨T,0,none⟩=some (.iface i.tv i.xv)∧Below L w wr∧Spares L w wr) (fun _ iv _=>K - (intOf iv).toNat)
 case atStart=>
  obtain ⟨a1,a2,a3,a4,a5,a6⟩:=H0.out
  exact ⟨0,next,n,Nat.zero_le _,rfl,rfl,by omega,rfl,by rw [if_pos rfl,up_zero];simpa [emUpTo] using a2,a1,a5,a6,a3,a4⟩
 case round=>
  obtain ⟨k,bg,m,hk,rfl,rfl,hm,hbg,ls,sm,tt,c0,bl,sp⟩:=hrel
  have HH:=hid (And.intro hm hbg)
  by_cases hlt:k < K
  ·have hmk:m+(i.len+1)≤1000:=by
    have:=Nat.mul_le_mul_right (i.len+1) (show k+1≤K by omega)
    rw [Nat.add_mul,Nat.one_mul] at this
    omega
   have hdk:d+(i.len+1)≤2000:=by
    have:=Nat.mul_le_mul_right (i.len+1) (show 1≤K by omega)
    rw [Nat.one_mul] at this
    omega
   have hdpk:max dp (up d (if k=0 then 0 else i.dd))≤10000:=by
    have e2:=up_le d (if k=0 then 0 else i.dd)
    have e3:=HDDL.out
    have e4:(if k=0 then 0 else i.dd)≤i.dd:=by split <;> omega
    omega
   have C:=hid (HCE.out wr L m _ d _ bg sm hL (by omega) (by omega) hdpk ls)
   clear hdk hdpk
   have HT:=hid (And.intro tt sm)
   clear hm hbg ls sm tt
   go_wp2_with fail
   refine C.out.mono ?_
   rintro e w1 ⟨rfl,l1,b1,s1⟩
   have c0':=s1.cell HT.out.1 c0
   have t1:=(s1 _ HT.out.1).1
   have sm1:=HT.out.2.below b1 hL
   have L1:=hid (And.intro b1 (And.intro s1 (And.intro t1 sm1)))
   obtain ⟨nx,hnx⟩:∃ nx,nx=(i.em m bg d).2:=⟨_,rfl⟩
   rw [←hnx]
   have A:=hid (addSplit l1 (by omega) nx next)
   have HNX:=hid hnx
   clear l1 b1 s1 t1 sm1 hnx C c0
   go_wp2_with fail
   refine A.out.mono ?_
   rintro e w2 ⟨rfl,l2,b2,s2⟩
   obtain ⟨b1,s1,t1,sm1⟩:=L1.out
   have c0'':=s2.cell t1 c0'
   have t2:=(s2 _ t1).1
   have L2:=hid (And.intro l2 (And.intro b2 (And.intro s2 (And.intro t2 (sm1.below b2 hL)))))
   clear l2 b2 s2 t2 b1 s1 t1 sm1 A c0'
   go_wp2_with fail
   refine ⟨⟨k+1,m+i.len,m+i.len+1,by omega,by go_num,rfl,?_,?_,?_,L2.out.2.2.2.2,L2.out.2.2.2.1,c0'',bl.trans (L1.out.1.trans L2.out.2.1),sp.trans (L1.out.2.1.trans L2.out.2.2.1)⟩,by simp [intOf];omega⟩
   ·rw [HH.out.1,Nat.add_mul,Nat.one_mul];omega
   ·rw [upTo_snoc];show m+i.len=_;rw [HH.out.1]
   ·rw [upTo_snoc]
    have q:=L2.out.1
    rw [HNX.out,up_max] at q
    have e1:max (if k=0 then 0 else i.dd) i.dd=(if k+1=0 then 0 else i.dd):=by
     have hk1:¬ (k+1=0):=by omega
     rw [if_neg hk1];split <;> omega
    rw [e1] at q
    rw [←HH.out.1,←HH.out.2]
    simpa [List.append_assoc] using q
  ·have hkK:k=K:=by omega
   have HKK:=hid hkK
   clear hkK
   have L0:=hid (And.intro ls (And.intro bl sp))
   clear ls bl sp hm hbg
   go_wp2_with fail
   go_ret
   have hkK:=HKK.out
   refine ⟨ret_nat (by rw [HH.out.2,hkK]),?_,L0.out.2.1,L0.out.2.2⟩
   have q:=L0.out.1
   rw [HH.out.1,hkK,←HKD.out] at q
   exact q
theorem flatI_at:∀ (l:List In) (k:Nat) (i:In),l[k]? = some i→∀ j,j < 9→(flatI l)[k * 9+j]? = (insI i)[j]?
 | h::l,0,t,e,j,hj=>by
  have e':h=t:=by simpa using e
  subst e'
  show (insI h++flatI l)[0 * 9+j]? = _
  rw [Nat.zero_mul,Nat.zero_add,List.getElem?_append_left hj]
 | h::l,k+1,t,e,j,hj=>by
  have e':l[k]? = some t:=by simpa using e
  show (insI h++flatI l)[(k+1) * 9+j]? = _
  rw [List.getElem?_append_right (by show 9≤_;omega)]
  have:=flatI_at l k t e' j hj
  rwa [show (k+1) * 9+j - (insI h).length=k * 9+j by show (k+1) * 9+j - 9=_;omega]
theorem Ls.len {w:World} {L n:Nat} {xs:List In} {d dp:Nat} (h:Ls w L n (flatI xs) d dp):xs.length=n:=by
 obtain ⟨v,_,h2,_⟩:=h.code
 have:=h2.1
 rw [flatI_len] at this
 omega
theorem turns_emitN {lo hi L n d dp next least:Nat} {mv:Int} {xs:List In} {w0 w:World} {i:It} (h:Nd lo hi w0 i) (hs:Same lo hi w0 w) (hL:hi≤L) (hn:n+(i.len+2)≤1000) (hd:d+(i.len+2)≤2000) (hdp:dp≤10000) (hls:Ls w L n (flatI xs) d dp) :
  Calls Tryz.prog 315 #[repA' i least mv,.pointer (some ⟨L,0,none⟩),.int .i64 next] w fun e w'=>e=.returned (.int .i64 n)∧Ls w' L (n+(i.len+2)) (flatI (xs++(emTurns i.em n next d).1)) d (max dp (up d (i.dd+1)))∧Below L w w'∧Spares L w w':=by
 obtain ⟨fe,m1,m2,ce⟩:=h.emits
 have hl:=hls.lt
 have hxs:=Ls.len hls
 obtain ⟨n1,hn1⟩:∃ n1:Nat,n1=n+1:=⟨_,rfl⟩
 have HN1:=hid hn1
 obtain ⟨o,ho⟩:∃ o:Obj,o=.cells #[.iface i.tv i.xv,.int .i64 least,.int .i64 mv] 348:=⟨_,rfl⟩
 have k0:=Kp.alloc [] w o
 have b0:Below L w (w.alloc o):=(Below.refl L w).alloc (by omega) _
 have h0:=hls.keep k0
 have s0:=Spares.keep hl k0
 have t0:=box_safe hls o
 obtain ⟨T,hT⟩:∃ T,w.heap.size=T:=⟨_,rfl⟩
 have i0:(w.alloc o).cell? ⟨T,0,none⟩=some (.iface i.tv i.xv):=by rw [ho,←hT];simp
 rw [hT] at t0
 have hs0:=hs.kp k0
 have A0:=hid (addSplit h0 (by omega) 0 next)
 have HX:=hid hxs
 have ne:T≠L:=by rw [←hT];omega
 have HLEN:=hid h.lens
 clear h hs hls hxs
 go_enter Tryz.func315,Tryz.ntmps315
 go_wp2_with fail
 rw [←ho]
 refine A0.out.mono ?_
 rintro e w1 ⟨rfl,l1,b1,s1⟩
 have d1:=l1.c1
 have i1:=s1.cell t0 i0
 have t1:=(s1 _ t0).1
 have HB1:=hid (And.intro (b0.trans b1) (s0.trans s1))
 have sm1:=hs0.below b1 hL
 rw [←hn1] at l1
 have A1:=hid (addTurn l1 (by omega) n d)
 have HCE:=hid ce
 clear hn1 ce
 clear b0 b1 s0 s1 i0 t0 h0 hs0 A0 ho k0
 go_wp2_with fail
 refine A1.out.mono ?_
 rintro e w2 ⟨rfl,l2,b2,s2⟩
 have i2:=s2.cell t1 i1
 have t2:=(s2 _ t1).1
 have B2:=HB1.out.1.trans b2
 have S2:=HB1.out.2.trans s2
 have sm2:=sm1.below b2 hL
 have d2:=l2.c1
 have e2:=l2.c2
 have f1:=l2.free 1
 have f2:=l2.free 2
 have hl2:=l2.lt
 obtain ⟨dd1,hdd1⟩:∃ dd1:Nat,dd1=d+1:=⟨_,rfl⟩
 have hsum:(d:Int)+1=(dd1:Int):=by omega
 have wsum:=wrap_i64_nat dd1 (by omega)
 have HD:=hid hdd1
 have l3:=l2.depth dd1
 have s3:Spares L w2 (w2.setCell ⟨L,1,none⟩ (.int .i64 (dd1:Int))):=Spares.set (by omega) _
 have b3:Below L w2 (w2.setCell ⟨L,1,none⟩ (.int .i64 (dd1:Int))):=below_set _ (Nat.le_refl _)
 have H2:=hid (And.intro l3 (And.intro (S2.trans s3) (And.intro (B2.trans b3) (And.intro i2 (And.intro t2 (sm2.below b3 hL))))))
 clear l3 s3 b3 i2 t2 sm2 B2 S2 b2 s2 A1 HB1 sm1 t1 i1 l1 d1 hdd1
 go_wp2_with fail
 have c1:(w2.setCell ⟨L,1,none⟩ (.int .i64 (dd1:Int))).cell? ⟨L,1,none⟩=some (.int .i64 (dd1:Int)):=cell_same _ d2
 have c2:(w2.setCell ⟨L,1,none⟩ (.int .i64 (dd1:Int))).cell? ⟨L,2,none⟩=some (.int .i64 (dp:Int)):=(cell_other _ (by simp)).trans e2
 have f3:(w2.setCell ⟨L,1,none⟩ (.int .i64 (dd1:Int))).frozen? ⟨L,2,none⟩=false:=by simpa using f2
 obtain ⟨w3,hw3⟩:∃ w3:World,w2.setCell ⟨L,1,none⟩ (.int .i64 (dd1:Int))=w3:=⟨_,rfl⟩
 rw [hw3] at c1 c2 f3 ⊢
 obtain ⟨mx,hmx⟩:∃ mx:Nat,mx=max dp dd1:=⟨_,rfl⟩
 have hmax:max (dp:Int) (dd1:Int)=(mx:Int):=by omega
 have i3:w3.cell? ⟨T,0,none⟩=some (.iface i.tv i.xv):=by
  rw [←hw3]
  exact (cell_other _ (fun e=>by injection e with e1 _ _;exact ne e1.symm)).trans H2.out.2.2.2.1
 have H3:Hid (Ls w3 L (n1+1) (flatI (xs++[noIn 4 0 next 0 0]++[noIn 5 n 0 0 d])) dd1 dp∧Spares L w w3∧Below L w w3∧SafeT L T w3∧Same lo hi w0 w3):=by
  obtain ⟨a1,a2,a3,a4,a5,a6⟩:=H2.out
  rw [hw3] at a1 a2 a3 a6
  refine hid ⟨a1,a2,a3,?_,a6⟩
  have:=(Spares.set (L:=L) (i:=1) (w:=w2) (by omega) (.int .i64 (dd1:Int)) T a5).1
  rw [hw3] at this
  exact this
 have HMX:=hid hmx
 clear H2 d2 e2 f1 f2 l2 hw3 hmx
 go_region
 have hif:(if dp < dd1 then (dd1:Int) else (dp:Int))=(mx:Int):=by
  have:=HMX.out
  split <;> omega
 try rw [hif]
 clear hif hmax
 have l4:=H3.out.1.deep mx
 have hl4:=l4.lt
 have s4:Spares L w3 (w3.setCell ⟨L,2,none⟩ (.int .i64 (mx:Int))).drew:=(Spares.set (by omega) _).trans (Spares.keep hl4 (Kp.drew _ _))
 have b4:Below L w3 (w3.setCell ⟨L,2,none⟩ (.int .i64 (mx:Int))).drew:=(below_set _ (Nat.le_refl _)).trans ((Below.refl _ _).drew)
 have i4:=s4.cell H3.out.2.2.2.1 i3
 have l4':=l4.keep (Kp.drew [] _)
 have H4:=hid (And.intro (H3.out.2.1.trans s4) (And.intro (H3.out.2.2.1.trans b4) (s4 _ H3.out.2.2.2.1).1))
 have sm4:=H3.out.2.2.2.2.below b4 hL
 generalize (w3.setCell ⟨L,2,none⟩ (.int .i64 (mx:Int))).drew=w4 at *
 have C:=hid (HCE.out w4 L (n1+1) _ dd1 mx n1 sm4 hL (by have:=HN1.out;omega) (by have:=HD.out;omega) (by have:=HMX.out;have:=HD.out;omega) l4')
 clear l4 l4' s4 b4 sm4 hl4 c1 c2 f3 H3 i3 HCE
 go_wp2_with fail
 refine C.out.mono ?_
 rintro e w5 ⟨rfl,l5,b5,s5⟩
 have d5:=l5.c1
 have f5:=l5.free 1
 have l6:=l5.depth d
 have B6:=H4.out.2.1.trans (b5.trans (below_set (i:=1) (.int .i64 (d:Int)) (Nat.le_refl L)))
 have S6:=H4.out.1.trans (s5.trans (Spares.set (i:=1) (by omega) (.int .i64 (d:Int))))
 obtain ⟨v,hv,hown,hor⟩:=l6.code
 obtain ⟨nn,hnn⟩:∃ nn,n1+1+i.len=nn:=⟨_,rfl⟩
 rw [hnn] at l6 hown
 obtain ⟨g,c,rfl⟩:∃ g c,v=.slice (some ⟨g,0,none⟩) nn c:=by
  rcases hown.2 with ⟨_,e⟩ | ⟨g,c,_,e,_⟩
  ·have:=HN1.out;omega
  ·exact ⟨g,c,e⟩
 obtain ⟨ys,hys⟩:∃ ys:List In,xs++[noIn 4 0 next 0 0]++[noIn 5 n 0 0 d]++(i.em (n1+1) n1 dd1).1=ys:=⟨_,rfl⟩
 rw [hys] at l6 hown
 have hyn:ys[n]? = some (noIn 4 0 next 0 0):=by
  rw [←hys,List.append_assoc,List.append_assoc,List.getElem?_append_right (by have:=HX.out;omega),HX.out,Nat.sub_self];rfl
 have hnlt:n < nn:=by have:=HN1.out;omega
 have fz:(w5.setCell ⟨L,1,none⟩ (.int .i64 (d:Int))).frozen? ⟨g,n * 9+1,none⟩=false:=hown.frozenAt (n * 9+1)
 have cz:(w5.setCell ⟨L,1,none⟩ (.int .i64 (d:Int))).cell? ⟨g,n * 9+1,none⟩=some (.int .i64 0):=by
  rw [hown.cellAt (n * 9+1) (by omega),flatI_at ys n _ hyn 1 (by omega)];rfl
 have hv':(w5.setCell ⟨L,1,none⟩ (.int .i64 (d:Int))).cell? ⟨L,0,none⟩=some (.slice (some ⟨g,0,none⟩) nn c):=hv
 obtain ⟨bd,hbd⟩:∃ bd,bd=(i.em (n1+1) n1 dd1).2:=⟨_,rfl⟩
 rw [←hbd]
 have L7:=l6.stored hv (n * 9+1) (.int .i64 (bd:Int))
 rw [flatI_set ys n _ bd hyn] at L7
 have H6:=hid (And.intro L7 (And.intro B6 S6))
 have HY:=hid (And.intro hys (And.intro hbd hnn))
 have hdif:(dd1:Int) - 1=(d:Int):=by have:=HD.out;omega
 have wd1:=wrap_i64_nat d (by omega)
 clear hown hor L7 l6 B6 S6 b5 s5 i4 H4 l5 hys hbd hnn hyn C
 go_wp2_with fail
 go_ret
 obtain ⟨⟨a1,a2,a3⟩,a4,a5⟩:=H6.out
 obtain ⟨hys,hbd,hnn⟩:=HY.out
 refine ⟨rfl,?_,a4.trans a2,a5.trans a3⟩
 have e1:ys.set n { (noIn 4 0 next 0 0) with nx:=bd }=xs++(emTurns i.em n next d).1:=by
  rw [←hys,hbd,HD.out,HN1.out,List.append_assoc,List.append_assoc,List.set_append_right _ _ (by have:=HX.out;omega),HX.out,Nat.sub_self]
  unfold emTurns
  rfl
 rw [e1] at a1
 have e2:max mx (up dd1 i.dd)=max dp (up d (i.dd+1)):=by
  have h1:=HMX.out
  have h2:=HD.out
  unfold up
  rw [if_neg (show ¬ i.dd+1=0 by omega)]
  split <;> omega
 rw [e2] at a1
 rw [show n+(i.len+2)=nn by have:=HN1.out;omega]
 exact a1
def okB (least:Nat):Option Nat→Prop
 | some m=>least≤m∧m≤20
 | none=>least≤20
theorem rep_sizeN {lo hi least:Nat} {most:Option Nat} {w0 w:World} {i:It} (h:Nd lo hi w0 i) (hok:okB least most) (hs:Same lo hi w0 w) :
  Calls Tryz.prog 314 #[repA' i least (mostV most)] w fun e w'=>e=.returned (.int .i64 (repIt i least most).sz)∧Kp [] w w':=by
 obtain ⟨fs,m1,m2,cs⟩:=h.sized
 have hsz:=h.sz
 cases most with
 | some m=>
  obtain ⟨h1,h2⟩:=hok
  have k0:=Kp.alloc [] w (.cells #[.iface i.tv i.xv,.int .i64 least,.int .i64 (m:Int)] 348)
  have C:=hid (cs _ (hs.kp k0))
  obtain ⟨p,hp⟩:∃ p:Nat,p=m * i.sz:=⟨_,rfl⟩
  have hpb:p≤20 * 301:=by rw [hp];exact Nat.mul_le_mul h2 hsz
  have e1:(m:Int) * (i.sz:Int)=(p:Int):=by rw [hp];push_cast;rfl
  obtain ⟨q,hq⟩:∃ q:Nat,q=p+m:=⟨_,rfl⟩
  have e2:(p:Int)+(m:Int)=(q:Int):=by omega
  obtain ⟨z,hz⟩:∃ z:Nat,z=p+(m - least):=⟨_,rfl⟩
  have e3:(q:Int) - (least:Int)=(z:Int):=by omega
  have w1:=wrap_i64_nat p (by omega)
  have w2:=wrap_i64_nat q (by omega)
  have w3:=wrap_i64_nat z (by omega)
  have hmin:min (z:Int) 301=((min z 301:Nat):Int):=by omega
  have HZ:=hid (And.intro hp hz)
  have hne:((m:Int) == -1)=false:=by rw [beq_eq_false_iff_ne];omega
  show Calls Tryz.prog 314 #[.agg #[.iface i.tv i.xv,.int .i64 least,.int .i64 (m:Int)]] w fun e w'=>e=.returned (.int .i64 ((min (m * i.sz+(m - least)) 301:Nat):Int))∧Kp [] w w'
  clear cs h hs hp hq hz
  go_enter Tryz.func314,Tryz.ntmps314
  go_wp2_with fail
  refine C.out.mono ?_
  rintro e w4 ⟨rfl,k4⟩
  have c1:=(k4.cell (p:=⟨w.heap.size,1,none⟩) (by simp) (by simp)).trans (show (w.alloc (.cells #[.iface i.tv i.xv,.int .i64 least,.int .i64 (m:Int)] 348)).cell? ⟨w.heap.size,1,none⟩=some (.int .i64 least) by simp)
  have c2:=(k4.cell (p:=⟨w.heap.size,2,none⟩) (by simp) (by simp)).trans (show (w.alloc (.cells #[.iface i.tv i.xv,.int .i64 least,.int .i64 (m:Int)] 348)).cell? ⟨w.heap.size,2,none⟩=some (.int .i64 (m:Int)) by simp)
  have K4:=k0.trans k4
  clear k0 k4 C
  go_wp2_with fail
  all_goals go_ret
  all_goals
   refine ⟨ret_int ?_,K4⟩
   obtain ⟨a1,a2⟩:=HZ.out
   rw [←a1]
   omega
 | none=>
  have h1:least≤20:=hok
  have k0:=Kp.alloc [] w (.cells #[.iface i.tv i.xv,.int .i64 least,.int .i64 (-1)] 348)
  have C:=hid (cs _ (hs.kp k0))
  obtain ⟨l1,hl1⟩:∃ l1:Nat,l1=least+1:=⟨_,rfl⟩
  have e0:(least:Int)+1=(l1:Int):=by omega
  obtain ⟨p,hp⟩:∃ p:Nat,p=l1 * i.sz:=⟨_,rfl⟩
  have hpb:p≤21 * 301:=by rw [hp];exact Nat.mul_le_mul (by omega) hsz
  have e1:(l1:Int) * (i.sz:Int)=(p:Int):=by rw [hp];push_cast;rfl
  obtain ⟨z,hz⟩:∃ z:Nat,z=p+1:=⟨_,rfl⟩
  have e2:(p:Int)+1=(z:Int):=by omega
  have w0':=wrap_i64_nat l1 (by omega)
  have w1:=wrap_i64_nat p (by omega)
  have w2:=wrap_i64_nat z (by omega)
  have hmin:min (z:Int) 301=((min z 301:Nat):Int):=by omega
  have HZ:=hid (And.intro hl1 (And.intro hp hz))
  show Calls Tryz.prog 314 #[.agg #[.iface i.tv i.xv,.int .i64 least,.int .i64 (-1)]] w fun e w'=>e=.returned (.int .i64 ((min ((least+1) * i.sz+1) 301:Nat):Int))∧Kp [] w w'
  clear cs h hs hp hz hl1
  go_enter Tryz.func314,Tryz.ntmps314
  go_wp2_with fail
  refine C.out.mono ?_
  rintro e w4 ⟨rfl,k4⟩
  have c1:=(k4.cell (p:=⟨w.heap.size,1,none⟩) (by simp) (by simp)).trans (show (w.alloc (.cells #[.iface i.tv i.xv,.int .i64 least,.int .i64 (-1)] 348)).cell? ⟨w.heap.size,1,none⟩=some (.int .i64 least) by simp)
  have c2:=(k4.cell (p:=⟨w.heap.size,2,none⟩) (by simp) (by simp)).trans (show (w.alloc (.cells #[.iface i.tv i.xv,.int .i64 least,.int .i64 (-1)] 348)).cell? ⟨w.heap.size,2,none⟩=some (.int .i64 (-1)) by simp)
  have K4:=k0.trans k4
  clear k0 k4 C
  go_wp2_with fail
  all_goals go_ret
  all_goals
   refine ⟨ret_int ?_,K4⟩
   obtain ⟨a1,a2,a3⟩:=HZ.out
   rw [←a1,←a2]
   omega
theorem rep_emitN {lo hi L n d dp next least:Nat} {most:Option Nat} {xs:List In} {w0 w:World} {i:It} (h:Nd lo hi w0 i) (hok:okB least most) (hs:Same lo hi w0 w) (hL:hi≤L) (hn:n+(repIt i least most).len≤1000) (hd:d+(repIt i least most).len≤2000) (hdp:dp≤10000) (hls:Ls w L n (flatI xs) d dp) :
  Calls Tryz.prog 313 #[repA' i least (mostV most),.pointer (some ⟨L,0,none⟩),.int .i64 next] w fun e w'=>e=.returned (.int .i64 (emRep i.len i.em least most n next d).2)∧Ls w' L (n+(repIt i least most).len) (flatI (xs++(emRep i.len i.em least most n next d).1)) d (max dp (up d (repIt i least most).dd))∧Below L w w'∧Spares L w w':=by
 obtain ⟨fe,m1,m2,ce⟩:=h.emits
 have hl:=hls.lt
 obtain ⟨mv,hmv⟩:∃ mv,mostV most=mv:=⟨_,rfl⟩
 obtain ⟨o,ho⟩:∃ o:Obj,o=.cells #[.iface i.tv i.xv,.int .i64 least,.int .i64 mv] 348:=⟨_,rfl⟩
 have k0:=Kp.alloc [] w o
 have b0:Below L w (w.alloc o):=(Below.refl L w).alloc (by omega) _
 have h0:=hls.keep k0
 have s0:=Spares.keep hl k0
 have t0:=box_safe hls o
 obtain ⟨T,hT⟩:∃ T,w.heap.size=T:=⟨_,rfl⟩
 have c0:(w.alloc o).cell? ⟨T,0,none⟩=some (.iface i.tv i.xv):=by rw [ho,←hT];simp
 have c1:(w.alloc o).cell? ⟨T,1,none⟩=some (.int .i64 least):=by rw [ho,←hT];simp
 have c2:(w.alloc o).cell? ⟨T,2,none⟩=some (.int .i64 mv):=by rw [ho,←hT];simp
 rw [hT] at t0
 have hs0:=hs.kp k0
 have hlst:least≤20:=by
  cases most with
  | some m=>exact Nat.le_trans hok.1 hok.2
  | none=>exact hok
 -- what goes ahead of the least: its contract,as one
 have first:Hid (∃ (pre:Em) (ln dd1:Nat),Hid (dd1≤ln)∧(∀ fn,fn=(if mv = -1 then 315 else 316)→Calls Tryz.prog fn #[repA' i least mv,.pointer (some ⟨L,0,none⟩),.int .i64 next] (w.alloc o) fun e w'=>e=.returned (.int .i64 (pre n next d).2)∧Ls w' L (n+ln) (flatI (xs++(pre n next d).1)) d (max dp (up d dd1))∧Below L (w.alloc o) w'∧Spares L (w.alloc o) w') ∧
   n+ln+least * i.len=n+(repIt i least most).len∧max dp (up d (max dd1 (if least=0 then 0 else i.dd)))=max dp (up d (repIt i least most).dd) ∧
   emRep i.len i.em least most n next d=((pre n next d).1++(emTimes i.len i.em least (n+ln) (pre n next d).2 d).1,(emTimes i.len i.em least (n+ln) (pre n next d).2 d).2)):=by
  cases most with
  | some m=>
   have e1:mv=(m:Int):=hmv.symm
   have hlen:n+((m - least) * (i.len+1)+least * i.len)≤1000:=hn
   have hlen2:d+((m - least) * (i.len+1)+least * i.len)≤2000:=hd
   refine hid ⟨fun n next d=>emUpTo i.len i.em (m - least) next n next d,(m - least) * (i.len+1),(if m - least=0 then 0 else i.dd),hid ?_,?_,?_,?_,rfl⟩
   ·split
    ·exact Nat.zero_le _
    ·have q1:=Nat.mul_le_mul_right (i.len+1) (show 1≤m - least by omega)
     have q2:=h.ddl
     rw [Nat.one_mul] at q1
     omega
   ·intro fn hfn
    rw [if_neg (by omega)] at hfn
    subst hfn
    have:=more_emitN (least:=least) (K:=m - least) (next:=next) h hs0 hL (by have:=hok.2;omega) rfl (by omega) (by omega) hdp h0
    rw [show least+(m - least)=m by have:=hok.1;omega] at this
    rw [e1]
    exact this
   ·show _=n+((m - least) * (i.len+1)+least * i.len);omega
   ·show _=max dp (up d (if m=0 then 0 else i.dd))
    obtain ⟨o1,o2⟩:least≤m∧m≤20:=hok
    have e2:max (if m - least=0 then 0 else i.dd) (if least=0 then 0 else i.dd)=(if m=0 then 0 else i.dd):=by
     split <;> split <;> split <;> omega
    rw [e2]
  | none=>
   have e1:mv = -1:=hmv.symm
   have hlen:n+(i.len+2+least * i.len)≤1000:=hn
   have hlen2:d+(i.len+2+least * i.len)≤2000:=hd
   refine hid ⟨emTurns i.em,i.len+2,i.dd+1,hid (by have:=h.ddl;omega),?_,?_,?_,rfl⟩
   ·intro fn hfn
    rw [if_pos e1] at hfn
    subst hfn
    exact turns_emitN (n:=n) (next:=next) (xs:=xs) h hs0 hL (by have q:=hlen;generalize least * i.len=z at q;omega) (by have q:=hlen2;generalize least * i.len=z at q;omega) hdp h0
   ·show _=n+(i.len+2+least * i.len);omega
   ·show _=max dp (up d (i.dd+1))
    congr 2
    split <;> omega
 obtain ⟨pre,ln,dd1,hd1,cf,hln,hdd,hem⟩:=first.out
 have hmvb:mv = -1∨(0≤mv∧mv≤20):=by
  cases most with
  | some m=>right;rw [←hmv];show (0:Int)≤m∧(m:Int)≤20;have:=hok.2;omega
  | none=>left;rw [←hmv];rfl
 rw [hem,←hdd,hmv,←hln]
 have hnb:n+ln+least * i.len≤1000:=by omega
 have hdb:d+(ln+least * i.len)≤2000:=by omega
 have hdd1:dd1≤ln:=hd1.out
 have HDDL:=hid h.ddl
 clear hd
 have HCE:=hid ce
 have HCF:=hid cf
 have H0:=hid (And.intro b0 (And.intro s0 (And.intro t0 (And.intro hs0 (And.intro c0 c1)))))
 clear first cf hem hdd hln hok h hs hls h0 b0 s0 t0 hs0 ce hn hmv most
 obtain ⟨kd,hkd⟩:∃ kd,(if least=0 then 0 else i.dd)=kd:=⟨_,rfl⟩
 rw [hkd]
 have HKD:=hid hkd
 clear hkd
 obtain ⟨q,hq⟩:∃ q:List In×Nat,pre n next d=q:=⟨_,rfl⟩
 rw [hq]
 obtain ⟨n1,hn1⟩:∃ n1,n+ln=n1:=⟨_,rfl⟩
 rw [hn1] at hnb ⊢
 have CC:∃ fn,Hid (Calls Tryz.prog fn #[repA' i least mv,.pointer (some ⟨L,0,none⟩),.int .i64 next] (w.alloc o) fun e w'=>e=.returned (.int .i64 q.2)∧Ls w' L n1 (flatI (xs++q.1)) d (max dp (up d dd1))∧Below L (w.alloc o) w'∧Spares L (w.alloc o) w')∧((fn=315∧(mv == -1)=true)∨(fn=316∧(mv == -1)=false)):=by
  rcases hmvb with hm | ⟨hm0,hm1⟩
  ·have cc:=HCF.out 315 (by rw [if_pos hm])
   rw [hq,hn1] at cc
   exact ⟨_,hid cc,.inl ⟨rfl,by rw [hm];rfl⟩⟩
  ·have cc:=HCF.out 316 (by rw [if_neg (by omega)])
   rw [hq,hn1] at cc
   exact ⟨_,hid cc,.inr ⟨rfl,by rw [beq_eq_false_iff_ne];omega⟩⟩
 clear HCF hmvb
 obtain ⟨fn,CC,⟨rfl,hbe⟩ | ⟨rfl,hbe⟩⟩:=CC
 all_goals
  go_enter Tryz.func313,Tryz.ntmps313
  go_wp2_with fail
  rw [←ho]
  refine CC.out.mono ?_
  rintro e W ⟨rfl,l1,b1,s1⟩
  obtain ⟨a1,a2,a3,a4,a5,a6⟩:=H0.out
  have d0:=s1.cell a3 a5
  have d1:=s1.cell a3 a6
  have H1:=hid (And.intro l1 (And.intro (a1.trans b1) (And.intro (a2.trans s1) (And.intro (s1 _ a3).1 (And.intro (a4.below b1 hL) d0)))))
  clear l1 b1 s1 a1 a2 a3 a4 a5 a6 CC c0 c1 c2 d0
  obtain ⟨q1,bg0⟩:=q
  dsimp only
  go_wp2_with fail
  go_loopw [7,21] (fun bgv iv wr=>∃ k bg m:Nat,k≤least∧iv=.int .i64 k∧bgv=.int .i64 bg∧m=n1+k * i.len∧bg=(emTimes i.len i.em k n1 bg0 d).2∧Ls wr L m (flatI (xs++q1++(emTimes i.len i.em k n1 bg0 d).1)) d (max dp (up d (max dd1 (if k=0 then 0 else i.dd))))∧Same lo hi w0 wr∧SafeT L T wr∧wr.cell? ⟨T,0,none⟩=some (.iface i.tv i.xv)∧Below L w wr∧Spares L w wr) (fun _ iv _=>least - (intOf iv).toNat)
  case atStart=>
   obtain ⟨a1,a2,a3,a4,a5,a6⟩:=H1.out
   exact ⟨0,bg0,n1,Nat.zero_le _,rfl,rfl,by omega,rfl,by rw [if_pos rfl,Nat.max_eq_left (Nat.zero_le _)];simpa [emTimes] using a1,a5,a4,a6,a2,a3⟩
  case round=>
   obtain ⟨k,bg,m,hk,rfl,rfl,hm,hbg,ls,sm,tt,c0,bl,sp⟩:=hrel
   have HH:=hid (And.intro hm hbg)
   by_cases hlt:k < least
   ·have hmk:m+i.len≤1000:=by
     have:=Nat.mul_le_mul_right i.len (show k+1≤least by omega)
     rw [Nat.add_mul,Nat.one_mul] at this
     omega
    have hdk:d+i.len≤2000:=by
     have:=Nat.mul_le_mul_right i.len (show 1≤least by omega)
     rw [Nat.one_mul] at this
     omega
    have hdpk:max dp (up d (max dd1 (if k=0 then 0 else i.dd)))≤10000:=by
     have e2:=up_le d (max dd1 (if k=0 then 0 else i.dd))
     have e3:=HDDL.out
     have e4:(if k=0 then 0 else i.dd)≤i.dd:=by split <;> omega
     omega
    have C:=hid (HCE.out wr L m _ d _ bg sm hL (by omega) hdk hdpk ls)
    clear hdk hdpk
    have HT:=hid (And.intro tt sm)
    clear hm hbg ls sm tt
    go_wp2_with fail
    refine C.out.mono ?_
    rintro e w1 ⟨rfl,l1,b1,s1⟩
    have c0':=s1.cell HT.out.1 c0
    have L1:=hid (And.intro l1 (And.intro b1 (And.intro s1 (And.intro (s1 _ HT.out.1).1 (HT.out.2.below b1 hL)))))
    clear l1 b1 s1 C c0
    go_wp2_with fail
    refine ⟨⟨k+1,(i.em m bg d).2,m+i.len,by omega,by go_num,rfl,?_,?_,?_,L1.out.2.2.2.2,L1.out.2.2.2.1,c0',bl.trans L1.out.2.1,sp.trans L1.out.2.2.1⟩,by simp [intOf];omega⟩
    ·rw [HH.out.1,Nat.add_mul,Nat.one_mul];omega
    ·rw [times_snoc,←HH.out.1,←HH.out.2]
    ·rw [times_snoc]
     have q':=L1.out.1
     rw [up_max] at q'
     have e1:max (max dd1 (if k=0 then 0 else i.dd)) i.dd=max dd1 (if k+1=0 then 0 else i.dd):=by
      have hk1:¬ (k+1=0):=by omega
      rw [if_neg hk1];split <;> omega
     rw [e1] at q'
     rw [←HH.out.1,←HH.out.2]
     simpa [List.append_assoc] using q'
   ·have hkK:k=least:=by omega
    have HKK:=hid hkK
    clear hkK
    have L0:=hid (And.intro ls (And.intro bl sp))
    clear ls bl sp hm hbg
    go_wp2_with fail
    go_ret
    have hkK:=HKK.out
    refine ⟨ret_nat (by rw [HH.out.2,hkK]),?_,L0.out.2.1,L0.out.2.2⟩
    have q':=L0.out.1
    rw [HH.out.1,hkK,List.append_assoc,HKD.out] at q'
    exact q'
theorem lens_rep {lo hi least:Nat} {most:Option Nat} {w0:World} {i:It} (h:Nd lo hi w0 i) (n next d:Nat):(emRep i.len i.em least most n next d).1.length=(repIt i least most).len:=by
 cases most with
 | some m=>
  show (_++_:List In).length=(m - least) * (i.len+1)+least * i.len
  rw [List.length_append,lens_upTo h.lens,lens_times h.lens]
 | none=>
  show ((_::_::_)++_:List In).length=i.len+2+least * i.len
  rw [List.length_append,List.length_cons,List.length_cons,h.lens,lens_times h.lens]
theorem nd_rep {lo hi least:Nat} {most:Option Nat} {w0:World} {i:It} (h:Nd lo hi w0 i) (hok:okB least most):Nd lo hi w0 (repIt i least most):=
 ⟨⟨_,size_of_repeat _,(fun _ _=>by kernel_rfl),fun w hs=>rep_sizeN h hok hs⟩,⟨_,emit_of_repeat _,(fun _ _ _ _=>by kernel_rfl),fun w L n xs d dp next hs hL hn hd hdp hls=>rep_emitN h hok hs hL hn hd hdp hls⟩,
   lens_rep h,by cases most <;> (show min _ 301≤301;omega),by
    have hd:=h.ddl
    cases most with
    | some m=>
     show (if m=0 then 0 else i.dd)≤(m - least) * (i.len+1)+least * i.len
     split
     ·exact Nat.zero_le _
     ·obtain ⟨o1,_⟩:least≤m∧m≤20:=hok
      by_cases h0:m - least=0
      ·have:=Nat.mul_le_mul_right i.len (show 1≤least by omega)
       rw [Nat.one_mul] at this
       omega
      ·have:=Nat.mul_le_mul_right (i.len+1) (show 1≤m - least by omega)
       rw [Nat.one_mul] at this
       omega
    | none=>show i.dd+1≤i.len+2+least * i.len;omega⟩
