import PyProof.Rows.All
import Wide.All
import OpenK.AllK
import Wide.FinOn
import Lean
import PyProof.EqAt
import PyProof.EqKinds
import PyProof.TupleCall
import PyProof.ExcInit
import KE.KLam
import KE.KNestM
import KE.KSortTup
import PyProof.Rows.SortBase
import PyProof.Rows.SortWalk
import PyProof.Rows.SortShellK
import PyProof.Rows.SortRuns
import PyProof.SetScanFacts
import PyProof.TupleKey
import PyProof.WalksMore
import PySem.Challenge.RW_sheetlay_k13_spots
set_option Elab.async false
set_option linter.all false
set_option maxRecDepth 100000
set_option compiler.extract_closed false
namespace PySem
open Sem (wp)
section
variable{prog:Program}{w:World}{K:Type}[DecidableEq K](knd:KeyKind prog w K)
inductive iz(h:Heap):List (List K)→List Value→Prop
 |nil:iz h [] []
 |cons {ks:List K}{a:Addr}{fm:List (List K)}{vs:List Value}:IsTupleKey knd h ks a→iz h fm vs→iz h (ks::fm) (.ref a::vs)
def dj(h:Heap)(fm:List (List K))(a:Addr):Prop:=∃ob its m,h.get? a=some ob∧ob.cls= .type "tuple"∧ob.data= .seq its m∧iz knd h fm its.toList
variable{knd}
theorem iz.inj{h:Heap}{x y:List (List K)}{vs:List Value}(p:iz knd h x vs):iz knd h y vs→x=y:=by
 induction p generalizing y with
 |nil=>intro q;cases q;rfl
 |cons h1 _ ih=>
  intro q
  cases q with
  |cons h2 t2=>rw[h1.inj h2,ih t2]
theorem dj.typeIs{s:Shared}{fm:List (List K)}{a:Addr}(x:dj knd s.heap fm a):s.TypeIs (.ref a) "tuple":=by
 obtain⟨ob,_,_,ho,hc,_⟩:=x
 exact⟨ob,ho,hc⟩
theorem dj.inj{h:Heap}{a:Addr}{x y:List (List K)}(p:dj knd h x a)(q:dj knd h y a):x=y:=by
 obtain⟨o1,i1,n1,a1,_,b1,c1⟩:=p
 obtain⟨o2,i2,n2,a2,_,b2,c2⟩:=q
 rw[a1]at a2
 cases a2
 rw[b1]at b2
 injection b2 with b2 _
 subst b2
 exact c1.inj c2
theorem iz.keeps{h h':Heap}{fm:List (List K)}{vs:List Value}{d:Addr}{ob:Obj}{es ep}(x:iz knd h fm vs)(ho:h.get? d=some ob)(hd:ob.data= .dict es ep)(hs:Heap.SameBut d h h'):iz knd h' fm vs:=by
 induction x with
 |nil=>exact .nil
 |cons h1 _ ih=>exact .cons (h1.keeps ho hd hs) ih
theorem dj.keeps{h h':Heap}{fm:List (List K)}{a d:Addr}{ob:Obj}{es ep}(x:dj knd h fm a)(ho:h.get? d=some ob)(hd:ob.data= .dict es ep)(hs:Heap.SameBut d h h'):dj knd h' fm a:=by
 obtain⟨o1,i1,n1,a1,c1,b1,r1⟩:=x
 have ne:a≠d:=by
  intro e
  rw[e,ho]at a1
  cases a1
  rw[hd]at b1
  cases b1
 exact⟨o1,i1,n1,(hs.2 a ne).trans a1,c1,b1,r1.keeps ho hd hs⟩
def xW(knd:KeyKind prog w K)(fm:List (List K)):Int:=reduceHash (Builtin.Tuple.tupleHashOf (fm.map (tupleKeyHash knd)))
def js:List (List K)→Nat
 |[]=>0
 |ks::r=>(ks.length+1)+js r
theorem tS:∀(x y:List (List K)),js (x++y)=js x+js y
 |[],y=>by simp[js]
 |a::x,y=>by simp only[List.cons_append,js,tS x y];omega
variable{A:Around}{E:Value→Shared→Prop}{s:Shared}
theorem B0{fm:List (List K)}{a:Addr}{Q:Int→Shared→Prop}(hu:A.units+4<cLine)(hk:dj knd s.heap fm a)(q:Q (xW knd fm) { s with toks:=s.toks+(js fm+1) }):
  wpAny (model prog w) A (pyHash (.ref a)) Q E s:=by
 have ty:=hk.typeIs
 obtain⟨ob,its,m,ho,_,hd,hi⟩:=hk
 unfold pyHash
 first|unfold pyHashByItsType|skip
 first|refine wpAny_bind (wpAny_cRoomFor_or (.inr (by omega)) ?_)|skip
 refine wpAny_bind (wpAny_specialOf ty F.slot_tuple_hash.lookup ?_)
 show wpAny _ _ (if (some (Value.builtin "tuple.__hash__")==some Value.none)=true then _ else _) Q E s
 rw[if_neg (by rw[beq_builtin_none];exact Bool.false_ne_true)]
 refine wpAny_bind (wpAny_specialOf ty F.slot_tuple_hash.lookup ?_)
 show wpAny _ _ (callSpecialIfBoundUnlessNone? (.ref a) "__hash__" _ >>= _) Q E s
 refine wpAny_bind (wpAny_callSpecialIfBoundUnlessNone?_slot ty F.slot_tuple_hash (wpAny_call_entry F.slot_tuple_hash ty F.entry_tuple_hash ?_ (F.args_tuple_hash_1 _)))
 show wpAny _ _ (Builtin.Tuple.tupleItemsOf (.ref a) >>= _) _ _ s
 refine wpAny_bind (wpAny_tupleItemsOf ho hd (wpAny_bind ?_))
 rw[←Array.forIn_toList]
 refine wpAny_forIn_list _ (fun rest (b:Array Int) s'=>∃done left,fm=done++left∧iz knd s.heap left rest∧b.toList=done.map (tupleKeyHash knd)∧s'= { s with toks:=s.toks+js done }) _ ?_ ?_ _ _ ⟨[],fm,rfl,hi,rfl,rfl⟩
 ·rintro x rest b s' ⟨done,left,rfl,hl,hb,rfl⟩
  cases hl with
  |@cons ks c vW _ h1 pT=>
   refine wpAny_bind (wpAny_pyHash_tuple (s:={ s with toks:=s.toks+js done }) (by show A.units+1<cLine;omega) h1 ?_)
   have fin:∃dn lf,done++ks::vW=dn++lf∧iz knd s.heap lf rest∧(b.push (tupleKeyHash knd ks)).toList=dn.map (tupleKeyHash knd)∧({ s with toks:=s.toks+js done+(ks.length+1) }:Shared)= { s with toks:=s.toks+js dn }:=
    ⟨done++[ks],vW,by simp,pT,by simp[hb],by rw[tS];simp[js,Nat.add_assoc]⟩
   first
    |exact wpAny_pure fin
    |exact wpAny_bind (wpAny_pure (wpAny_pure fin))
 ·rintro b s' ⟨done,left,rfl,hl,hb,rfl⟩
  cases hl
  rw[List.append_nil]at q
  show wpAny _ _ (retInt (Builtin.Tuple.tupleHashOf b.toList)) _ _ _
  rw[hb]
  refine wpAny_ret_mkInt ?_
  show wpAny _ _ (if (decide (-(2:Int) ^ 63≤Builtin.Tuple.tupleHashOf (done.map (tupleKeyHash knd)))&&decide (Builtin.Tuple.tupleHashOf (done.map (tupleKeyHash knd))<2 ^ 63))=true then _ else _) Q E _
  unfold xW reduceHash at q
  by_cases hr:(decide (-(2:Int) ^ 63≤Builtin.Tuple.tupleHashOf (done.map (tupleKeyHash knd)))&&decide (Builtin.Tuple.tupleHashOf (done.map (tupleKeyHash knd))<2 ^ 63))=true
  ·rw[if_pos hr]at q ⊢
   exact wpAny_pure (by simpa[Nat.add_assoc]using q)
  ·rw[if_neg hr]at q ⊢
   exact wpAny_bind (wpAny_rule (wpAny_pure (by simpa[Nat.add_assoc]using q)))
theorem B2{x y:List (List K)}{a b:Addr}{P:Fin→Shared→Prop}(hu:A.units+2<cLine)(hx:dj knd s.heap x a)(hy:dj knd s.heap y b)(q:P (.done (.ret (.bool (decide (x=y))))) s):
  wpAny (model prog w) A (Builtin.«tuple.__eq__» ⟨[.ref a,.ref b],[]⟩) P E s:=by
 have ty:=hy.typeIs
 obtain⟨o1,xs,n1,xX,_,Rh,I0⟩:=hx
 obtain⟨o2,ys,n2,AG,_,hd2,I8⟩:=hy
 show wpAny _ _ (isInstance (.ref b) (.type "tuple") >>= _) _ _ s
 refine wpAny_bind (wpAny_isInstance ty isSubtype_tuple_tuple ?_)
 simp only[Bool.not_true,Bool.false_eq_true,if_false]
 refine wpAny_bind (wpAny_tupleItemsOf xX Rh (wpAny_bind (wpAny_tupleItemsOf AG hd2 (wpAny_bind ?_))))
 refine wpAny_forIn_list _ (fun rest r s'=>r.1=none∧s'=s∧∃x' y' AH B3,rest=List.zip AH B3∧iz knd s.heap x' AH∧iz knd s.heap y' B3∧decide (x'=y')=decide (x=y)∧(AH.length==B3.length)=(xs.size==ys.size)) _ ?_ ?_ _ _ ⟨rfl,rfl,x,y,xs.toList,ys.toList,rfl,I0,I8,rfl,by simp⟩
 ·rintro⟨u,v⟩ rest r s' ⟨hr,rfl,x',y',AH,B3,hz,cB,qw,zJ,hlen⟩
  cases cB with
  |nil=>simp at hz
  |@cons k1 c1 x2 Ri h1 ET=>
   cases qw with
   |nil=>simp at hz
   |@cons k2 c2 y2 Rj h2 Rk=>
    simp only[List.zip_cons_cons,List.cons.injEq,Prod.mk.injEq]at hz
    obtain⟨⟨rfl,rfl⟩,rfl⟩:=hz
    refine wpAny_bind (wpAny_eqBool_tuple (x:=k1) (y:=k2) (by omega) h1 h2 ?_)
    by_cases hk:k1=k2
    ·subst hk
     rw[decide_eq_true rfl]
     simp only[Bool.not_true,Bool.false_eq_true,if_false]
     refine wpAny_pure ⟨rfl,rfl,x2,y2,Ri,Rj,rfl,ET,Rk,?_,by simpa using hlen⟩
     rw[←zJ]
     by_cases uB:x2=y2
     ·simp[uB]
     ·simp[uB]
    ·rw[decide_eq_false hk]
     simp only[Bool.not_false,if_true]
     have hf:decide (x=y)=false:=by rw[←zJ];simp[hk]
     rw[hf]at q
     exact wpAny_bind (wpAny_pure (wpAny_pure (wpAny_pure q)))
 ·rintro⟨r1,r2⟩ s' ⟨hr,rfl,x',y',AH,B3,hz,cB,qw,zJ,hlen⟩
  simp only at hr
  subst hr
  refine wpAny_pure ?_
  have fin:(xs.size==ys.size)=decide (x=y):=by
   rw[←zJ,←hlen]
   cases cB with
   |nil=>
    cases qw with
    |nil=>simp
    |cons _ _=>simp
   |cons _ _=>
    cases qw with
    |nil=>simp
    |cons _ _=>simp at hz
  show P (.done (.ret (.bool (xs.size==ys.size)))) s'
  rw[fin]
  exact q
theorem B4{x y:List (List K)}{a b:Addr}{Q:Bool→Shared→Prop}(hu:A.units+4<cLine)(hx:dj knd s.heap x a)(hy:dj knd s.heap y b)(q:Q (decide (x=y)) s):
  wpAny (model prog w) A (eqBool (.ref a) (.ref b)) Q E s:=by
 unfold eqBool
 try with_reducible refine wpAny_holding ?_
 show wpAny _ _ (if (Value.ref a==Value.ref b)=true then _ else _) Q E s
 by_cases xY:(Value.ref a==Value.ref b)=true
 ·rw[if_pos xY]
  have e:a=b:=by have:=eq_of_beq xY;injection this
  subst e
  obtain rfl:=hx.inj hy
  exact wpAny_bind (wpAny_rule (wpAny_pure (by simpa using q)))
 ·rw[if_neg xY]
  exact wpAny_bind (wpAny_richCompare_same_room (op:=.Eq) hx.typeIs hy.typeIs F.slot_tuple_eq
   (wpAny_call_entry F.slot_tuple_eq hx.typeIs F.entry_tuple_eq (B2 (by show A.units+1+2<cLine;omega) hx hy ⟨_,rfl,(fun e=>nomatch e),wpAny_truthy_bool q⟩) (F.args_tuple_eq_2 _ _)) (by omega))
theorem EU{ks:List K}{n:Nat}{a:Addr}{Q:Bool→Shared→Prop}(hk:IsTupleKey knd s.heap ks a)(q:Q true s):wpAny (model prog w) A (eqIsQuiet (n+1) (.ref a)) Q E s:=by
 have ty:=hk.typeIs
 obtain⟨ob,its,m,ho,_,hd,hi⟩:=hk
 unfold eqIsQuiet
 refine wpAny_bind (wpAny_specialOf ty F.slot_tuple_eq.lookup ?_)
 show wpAny _ _ (isInstance (.ref a) (.type "tuple") >>= _) _ _ s
 refine wpAny_bind (wpAny_isInstance ty isSubtype_tuple_tuple ?_)
 simp only[Bool.not_true,Bool.false_eq_true,if_false]
 refine wpAny_bind (wpAny_seqItems ho hd (wpAny_bind ?_))
 show wpAny _ _ (forIn its _ _) _ _ s
 rw[←Array.forIn_toList]
 refine wpAny_forIn_list _ (fun rest r s'=>r.1=none∧s'=s∧∀v∈rest,carriedByValue v=true) _ ?_ ?_ _ _ ⟨rfl,rfl,hi.byValue⟩
 ·rintro v rest r s' ⟨hr,rfl,nk⟩
  rw[eqIsQuiet_byValue _ (nk v List.mem_cons_self)]
  refine wpAny_bind (wpAny_pure ?_)
  simp only[Bool.not_true,Bool.false_eq_true,if_false]
  exact wpAny_pure ⟨rfl,rfl,fun u I9=>nk u (List.mem_cons_of_mem _ I9)⟩
 ·rintro⟨r1,r2⟩ s' ⟨hr,rfl,_⟩
  simp only at hr
  subst hr
  exact wpAny_pure q
theorem EV{fm:List (List K)}{a:Addr}{Q:Bool→Shared→Prop}(hk:dj knd s.heap fm a)(q:Q true s):wpAny (model prog w) A (eqIsQuiet 8 (.ref a)) Q E s:=by
 have ty:=hk.typeIs
 obtain⟨ob,its,m,ho,_,hd,hi⟩:=hk
 unfold eqIsQuiet
 refine wpAny_bind (wpAny_specialOf ty F.slot_tuple_eq.lookup ?_)
 show wpAny _ _ (isInstance (.ref a) (.type "tuple") >>= _) _ _ s
 refine wpAny_bind (wpAny_isInstance ty isSubtype_tuple_tuple ?_)
 simp only[Bool.not_true,Bool.false_eq_true,if_false]
 refine wpAny_bind (wpAny_seqItems ho hd (wpAny_bind ?_))
 show wpAny _ _ (forIn its _ _) _ _ s
 rw[←Array.forIn_toList]
 refine wpAny_forIn_list _ (fun rest r s'=>r.1=none∧s'=s∧∃vW,iz knd s.heap vW rest) _ ?_ ?_ _ _ ⟨rfl,rfl,fm,hi⟩
 ·rintro v rest r s' ⟨hr,rfl,vW,hl⟩
  cases hl with
  |@cons ks c MB _ h1 pT=>
   refine wpAny_bind (EU (n:=6) h1 ?_)
   simp only[Bool.not_true,Bool.false_eq_true,if_false]
   exact wpAny_pure ⟨rfl,rfl,MB,pT⟩
 ·rintro⟨r1,r2⟩ s' ⟨hr,rfl,_⟩
  simp only at hr
  subst hr
  exact wpAny_pure q
end
def I_{prog:Program}{w:World}{K:Type}[DecidableEq K](knd:KeyKind prog w K):HeapKind prog w (List (List K)) where
 is:=dj knd
 hash:=xW knd
 draws:=fun fm=>js fm+1
 room:=fun A=>A.units+4<cLine
 inj:=fun hx hy=>hx.inj hy
 keeps:=fun x ho hd hs=>x.keeps ho hd hs
 pyHash:=fun hu hk h=>B0 hu hk h
 eqBool:=fun hu hx hy h=>B4 hu hx hy h
 quiet:=fun hk h=>EV hk h
end PySem
namespace PySem
open Sem (wp)
def qx(h:Heap)(d:Addr)(es:Array DictEntry)(ep:Nat):Prop:=∃ob,h.get? d=some ob∧ob.ExactDict∧ob.data= .dict es ep
section
variable{prog:Program}{w:World}{A:Around}{E:Value→Shared→Prop}{s:Shared}
theorem qx.at{h h':Heap}{d:Addr}{es:Array DictEntry}{ep:Nat}(x:qx h d es ep)(k:∀o,h.get? d=some o→h'.get? d=some o):qx h' d es ep:=by
 obtain⟨ob,h1,h2⟩:=x
 exact⟨ob,k _ h1,h2⟩
theorem qx.lt{h:Heap}{d:Addr}{es:Array DictEntry}{ep:Nat}(x:qx h d es ep):d<h.objs.size:=by
 obtain⟨ob,h1,_⟩:=x
 exact Heap.lt_size h1
end
end PySem
namespace L2
open PySem PySem.Spec PyProof.Rows
abbrev Key:=Sum Int Str
def B5:Key→Value→Bool
 |.inl k,v=>Value.isInt k v
 |.inr x,v=>Value.isStrOf x v
def MC(w:World):Key→Int
 |.inl k=>hashInt k
 |.inr x=>hashStr w x
theorem cH:∀{k:Key}{v:Value},B5 k v=true→(∃i t,k=Sum.inl i∧v=Value.int i t)∨(∃x t,k=Sum.inr x∧v=Value.str x t)
 |.inl i,v,h=>by
  obtain⟨t,e⟩:=Value.isInt_shape (k:=i) (v:=v) h
  exact .inl ⟨i,t,rfl,e⟩
 |.inr x,v,h=>by
  obtain⟨t,e⟩:=Value.isStrOf_shape (x:=x) (v:=v) h
  exact .inr ⟨x,t,rfl,e⟩
theorem EW(a b:Int):decide ((Sum.inl a:Key)=Sum.inl b)=(a==b):=by
 by_cases e:a=b
 ·subst e;simp
 ·have h:¬(Sum.inl a:Key)=Sum.inl b:=fun q=>e (Sum.inl.inj q)
  rw[decide_eq_false h]
  exact(beq_eq_false_iff_ne.mpr e).symm
theorem EX(a b:Str):decide ((Sum.inr a:Key)=Sum.inr b)=decide (a=b):=by
 by_cases e:a=b
 ·subst e;simp
 ·have h:¬(Sum.inr a:Key)=Sum.inr b:=fun q=>e (Sum.inr.inj q)
  rw[decide_eq_false h,decide_eq_false e]
theorem EY(a:Int)(b:Str):decide ((Sum.inl a:Key)=Sum.inr b)=false:=decide_eq_false (fun q=>nomatch q)
theorem EZ(a:Str)(b:Int):decide ((Sum.inr a:Key)=Sum.inl b)=false:=decide_eq_false (fun q=>nomatch q)
def qy(prog:Program)(w:World):PySem.KeyKind prog w Key where
 is:=B5
 hash:=MC w
 inj:=fun v a b ha hb=>by
  rcases cH ha with⟨i,t,rfl,rfl⟩|⟨x,t,rfl,rfl⟩
  ·rcases cH hb with⟨j,u,rfl,e⟩|⟨y,u,rfl,e⟩
   ·injection e with e1 _;rw[e1]
   ·exact nomatch e
  ·rcases cH hb with⟨j,u,rfl,e⟩|⟨y,u,rfl,e⟩
   ·exact nomatch e
   ·injection e with e1 _;rw[e1]
 byValue:=fun k v h=>by
  rcases cH h with⟨i,t,rfl,rfl⟩|⟨x,t,rfl,rfl⟩<;>rfl
 pyHash:=fun hv h=>by
  rcases cH hv with⟨i,t,rfl,rfl⟩|⟨x,t,rfl,rfl⟩
  ·exact wpAny_pyHash_int h
  ·exact wpAny_pyHash_str h
 eqBool:=fun hu hv h=>by
  rcases cH hu with⟨i,t,rfl,rfl⟩|⟨x,t,rfl,rfl⟩
  ·rcases cH hv with⟨j,u,rfl,rfl⟩|⟨y,u,rfl,rfl⟩
   ·rw[EW]at h;exact wpAny_eqBool_int h
   ·rw[EY]at h;exact SeqAt.EqAt.int_str i t y u _ _ _ _ h
  ·rcases cH hv with⟨j,u,rfl,rfl⟩|⟨y,u,rfl,rfl⟩
   ·rw[EZ]at h;exact SeqAt.EqAt.str_int x t j u _ _ _ _ h
   ·rw[EX]at h;exact wpAny_eqBool_str h
 «strs»:=fun k x t v h=>by
  rcases cH h with⟨i,u,rfl,e⟩|⟨y,u,rfl,e⟩
  ·exact nomatch e
  ·injection e with e1 _
   subst e1
   cases v<;>rfl
end L2
namespace L2
open PySem PySem.Spec PyProof.Rows
inductive V where
 |bL|bl(b:Bool)|int(i:Int)|str(x:Str)|qz(b:Array UInt8)|AI(b:UInt64)|ref(a:Addr)|ty(n:String)
 deriving DecidableEq
def RelV:V→Value→Prop
 |.bL,u=>u=Value.none
 |.bl b,u=>u=Value.bool b
 |.int i,u=>∃t,u=Value.int i t
 |.str x,u=>∃t,u=Value.str x t
 |.qz b,u=>∃t,u=Value.bytes b t
 |.AI b,u=>∃t,u=Value.float b t
 |.ref a,u=>u=Value.ref a
 |.ty n,u=>u=Value.type n
abbrev Vals:List V→List Value→Prop:=Paired RelV
theorem Vals.length{xs:List V}{us:List Value}(r:Vals xs us):xs.length=us.length:=Paired.length r
theorem Vals.get:∀{xs:List V}{us:List Value}{i:Nat}{x:V},Vals xs us→xs[i]? =some x→∃u,us[i]? =some u∧RelV x u
 |_,_,_,_,.nil,e=>by simp at e
 |_,_,0,_,.cons r _,e=>by simp at e;subst e;exact⟨_,rfl,r⟩
 |_,_,i+1,x,.cons _ t,e=>by
  obtain⟨u,h1,h2⟩:=Vals.get (i:=i) (x:=x) t (by simpa using e)
  exact⟨u,by simpa using h1,h2⟩
theorem Vals.set{x:V}{u:Value}(r:RelV x u):∀{xs:List V}{us:List Value} (i:Nat),Vals xs us→Vals (xs.set i x) (us.set i u)
 |_,_,_,.nil=>.nil
 |_,_,0,.cons _ t=>.cons r t
 |_,_,i+1,.cons q t=>.cons q (Vals.set r i t)
theorem Vals.append:∀{xs ys:List V}{us ws:List Value},Vals xs us→Vals ys ws→Vals (xs++ys) (us++ws)
 |_,_,_,_,.nil,s=>s
 |_,_,_,_,.cons r t,s=>.cons r (Vals.append t s)
theorem Vals.take:∀{xs:List V}{us:List Value} (n:Nat),Vals xs us→Vals (xs.take n) (us.take n)
 |_,_,0,_=>.nil
 |_,_,_+1,.nil=>.nil
 |_,_,n+1,.cons r t=>.cons r (Vals.take n t)
theorem Vals.drop:∀{xs:List V}{us:List Value} (n:Nat),Vals xs us→Vals (xs.drop n) (us.drop n)
 |_,_,0,r=>r
 |_,_,_+1,.nil=>.nil
 |_,_,n+1,.cons _ t=>Vals.drop n t
def B6:Option V→Option Value→Prop
 |some v,some u=>RelV v u
 |none,none=>True
 |_,_=>False
def KV{κ:Type}:List (κ×V)→List (κ×Value)→Prop:=Paired fun(p:κ×V) (q:κ×Value)=>p.1=q.1∧RelV p.2 q.2
def kV:Key→V
 |.inl i=>.int i
 |.inr x=>.str x
inductive HO where
 |lst(xs:List V)
 |tup(xs:List V)
 |dK(bg:List (Key×V))|dT(bg:List (List Key×V))|dU(bg:List (List (List Key)×V))
 |set(S:Int→Bool)(n:Nat)
 |ins(C dx:Addr)(fs:List (Str×V))
 |own(x:Addr)
 |xd(fs:List (Str×V))
 |met(f x:Addr)
 |eg(lo hi:Int)
 |eG(o:Obj)(u:HO)
 |kj(ps:Array Value)
 |ext(φ:Heap→Prop)
abbrev Hp:=Addr→Option HO
def upd(H:Hp)(a:Addr)(o:HO):Hp:=fun b=>if b=a then some o else H b
theorem bQ{H:Hp}{a:Addr}{o:HO}:upd H a o a=some o:=by unfold upd;rw[if_pos rfl]
theorem aG{H:Hp}{a b:Addr}{o:HO}(h:b≠a):upd H a o b=H b:=by unfold upd;rw[if_neg h]
theorem bX{H:Hp}{a b:Addr}{o:HO}(h:H a=some o)(h':H b=none):a≠b:=by
 intro e;subst e;rw[h]at h';cases h'
def vX(H:Hp)(fm:List (List Key))(b:Addr):Prop:=∃as:List Addr,H b=some (.tup (as.map V.ref))∧Paired (fun(ks:List Key) (a:Addr)=>H a=some (.tup (ks.map kV))) fm as
section
variable(P:Program)(w:World)
def cC(H:Hp)(h:Heap)(a:Addr):HO→Prop
 |.lst xs=>xs.length≤sizeLine∧∃(its:List Value) (n:Nat),Vals xs its∧h.get? a=some { cls:=.type "list",data:=.seq its.toArray n }
 |.tup xs=>xs.length≤sizeLine∧∃its:List Value,Vals xs its∧IsTup h a its.toArray
 |.dK bg=>bg.length≤sizeLine∧(a==sysModules)=false∧∃vs,KV bg vs∧h.DictOf (qy P w) a vs
 |.dT bg=>bg.length≤sizeLine∧(a==sysModules)=false∧∃xs:List (List Key×Addr×Value),
   Paired (fun(p:List Key×V) (q:List Key×Addr×Value)=>p.1=q.1∧H q.2.1=some (.tup (p.1.map kV))∧RelV p.2 q.2.2) bg xs∧
   ∃o es ep,h.get? a=some o∧o.ExactDict∧o.data= .dict es ep∧es.toList=xs.map (entryOfKey (tupleKind (qy P w)))∧(xs.map (·.1)).Nodup
 |.dU bg=>bg.length≤sizeLine∧(a==sysModules)=false∧∃xs:List (List (List Key)×Addr×Value),
   Paired (fun(p:List (List Key)×V) (q:List (List Key)×Addr×Value)=>p.1=q.1∧vX H p.1 q.2.1∧RelV p.2 q.2.2) bg xs∧
   ∃o es ep,h.get? a=some o∧o.ExactDict∧o.data= .dict es ep∧es.toList=xs.map (entryOfKey (I_ (qy P w)))∧(xs.map (·.1)).Nodup
 |.set S n=>h.SetOf (intKind P w) a S n
 |.ins C dx fs=>H dx=some (.own a)∧fs.length≤1000∧dx≠a∧h.get? a=some (PySem.W.instObj C dx)∧
   ∃mA,h.Ns1 dx mA∧(∀f,B6 (fs.lookup f) (mA f))∧PySem.Within mA (fs.map (·.1))
 |.own _=>∃o,h.get? a=some o
 |.xd fs=>∃mA,h.Ns1 a mA∧∀f,B6 (fs.lookup f) (mA f)
 |.eg lo hi=>∃t u v,h.get? a=some { cls:=.type "range",data:=.fields #[.int lo t,.int hi u,.int 1 v] }
 |.eG o u=>h.get? a=some o∧cC H h a u
 |.kj ps=>h.get? a=some { cls:=.none,data:=.fields ps }
 |.met f x=>h.get? a=some (PySem.W.methodObj (.ref f) (.ref x))
 |.ext φ=>φ h∧(∃o,h.get? a=some o)∧∀h1 h2:Heap,φ h1→(∀o,h1.get? a=some o→h2.get? a=some o)→φ h2
def gF(H:Hp)(h:Heap):Prop:=∀a o,H a=some o→cC P w H h a o
end
section
variable{P:Program}{w:World}{H H':Hp}{h h':Heap}{a:Addr}{o:HO}
theorem cC.lt(x:cC P w H h a o):a<h.objs.size:=by
 cases o with
 |lst xs=>obtain⟨_,_,_,_,e⟩:=x;exact Heap.lt_size e
 |tup xs=>obtain⟨_,_,_,p⟩:=x;exact p.lt
 |dK bg=>obtain⟨_,_,_,_,o,_,_,e,_⟩:=x;exact Heap.lt_size e
 |dT bg=>obtain⟨_,_,_,_,o,_,_,e,_⟩:=x;exact Heap.lt_size e
 |dU bg=>obtain⟨_,_,_,_,o,_,_,e,_⟩:=x;exact Heap.lt_size e
 |set S n=>obtain⟨o,_,_,_,e,_⟩:=x;exact Heap.lt_size e
 |ins C dx fs=>obtain⟨_,_,_,e,_⟩:=x;exact Heap.lt_size e
 |own y=>obtain⟨_,e⟩:=x;exact Heap.lt_size e
 |xd fs=>obtain⟨_,⟨_,_,_,e,_⟩,_⟩:=x;exact Heap.lt_size e
 |eg lo hi=>obtain⟨_,_,_,e⟩:=x;exact Heap.lt_size e
 |eG ob u=>obtain⟨e,_⟩:=x;exact Heap.lt_size e
 |kj ps=>exact Heap.lt_size (show h.get? a=some _ from x)
 |met f y=>exact Heap.lt_size (show h.get? a=some _ from x)
 |ext φ=>obtain⟨_,⟨_,e⟩,_⟩:=x;exact Heap.lt_size e
theorem Paired.tT{α β:Type}{F G:α→β→Prop}:∀{l₁:List α}{HY:List β},Paired F l₁ HY→(∀a b,F a b→G a b)→Paired G l₁ HY
 |_,_,.nil,_=>.nil
 |_,_,.cons r t,f=>.cons (f _ _ r) (Paired.tT t f)
theorem vX.more{H H':Hp}{fm:List (List Key)}{b:Addr}(x:vX H fm b)(ht:∀b xs,H b=some (.tup xs)→H' b=some (.tup xs)):vX H' fm b:=by
 obtain⟨as,h1,h2⟩:=x
 exact⟨as,ht _ _ h1,Paired.tT h2 fun _ _ z=>ht _ _ z⟩
theorem cC.mn(x:cC P w H h a o)(k:∀b u,(b=a∨H b=some (.own a))→h.get? b=some u→h'.get? b=some u)
  (ho:∀b,H b=some (.own a)→H' b=some (.own a))(ht:∀b xs,H b=some (.tup xs)→H' b=some (.tup xs)):cC P w H' h' a o:=by
 induction o with
 |lst xs=>obtain⟨z,its,n,r,e⟩:=x;exact⟨z,its,n,r,k _ _ (.inl rfl) e⟩
 |tup xs=>obtain⟨z,its,r,ob,e,c⟩:=x;exact⟨z,its,r,ob,k _ _ (.inl rfl) e,c⟩
 |dK bg=>obtain⟨z,y,vs,r,ob,es,ep,e,c⟩:=x;exact⟨z,y,vs,r,ob,es,ep,k _ _ (.inl rfl) e,c⟩
 |dT bg=>
  obtain⟨z,y,xs,r,ob,es,ep,e,c⟩:=x
  exact⟨z,y,xs,Paired.tT r fun p q z=>⟨z.1,ht _ _ z.2.1,z.2.2⟩,ob,es,ep,k _ _ (.inl rfl) e,c⟩
 |dU bg=>
  obtain⟨z,y,xs,r,ob,es,ep,e,c⟩:=x
  exact⟨z,y,xs,Paired.tT r fun p q z=>⟨z.1,z.2.1.more ht,z.2.2⟩,ob,es,ep,k _ _ (.inl rfl) e,c⟩
 |set S n=>obtain⟨ob,es,ep,t,e,c⟩:=x;exact⟨ob,es,ep,t,k _ _ (.inl rfl) e,c⟩
 |ins C dx fs=>
  obtain⟨d,z,ne,e,mA,⟨od,es,ep,e2,c⟩,r⟩:=x
  exact⟨ho _ d,z,ne,k _ _ (.inl rfl) e,mA,⟨od,es,ep,k _ _ (.inr d) e2,c⟩,r⟩
 |own y=>obtain⟨ob,e⟩:=x;exact⟨ob,k _ _ (.inl rfl) e⟩
 |xd fs=>obtain⟨mA,⟨od,es,ep,e,c⟩,r⟩:=x;exact⟨mA,⟨od,es,ep,k _ _ (.inl rfl) e,c⟩,r⟩
 |eg lo hi=>obtain⟨t,u,v,e⟩:=x;exact⟨t,u,v,k _ _ (.inl rfl) e⟩
 |eG ob u ih=>obtain⟨e,q⟩:=x;exact⟨k _ _ (.inl rfl) e,ih q⟩
 |kj ps=>
  have e:h.get? a=some { cls:=.none,data:=.fields ps }:=x
  show h'.get? a=some { cls:=.none,data:=.fields ps }
  exact k a _ (.inl rfl) e
 |met f y=>
  have e:h.get? a=some (PySem.W.methodObj (.ref f) (.ref y)):=x
  show h'.get? a=some (PySem.W.methodObj (.ref f) (.ref y))
  exact k a _ (.inl rfl) e
 |ext φ=>obtain⟨p,⟨o,e⟩,st⟩:=x;exact⟨st _ _ p fun o q=>k _ _ (.inl rfl) q,⟨o,k _ _ (.inl rfl) e⟩,st⟩
theorem gF.lt(x:gF P w H h)(e:H a=some o):a<h.objs.size:=(x a o e).lt
theorem gF.fresh(x:gF P w H h)(e:h.objs.size≤a):H a=none:=by
 cases q:H a with
 |none=>rfl
 |some u=>exact absurd (Nat.lt_of_lt_of_le (x.lt q) e) (Nat.lt_irrefl _)
theorem gF.kept(x:gF P w H h)(k:∀b u,h.get? b=some u→h'.get? b=some u):gF P w H h':=fun a o e=>
 (x a o e).mn (fun b u _ q=>k b u q) (fun _ q=>q) fun _ _ q=>q
theorem gF.laid(x:gF P w H h)(k:∀b u,h.get? b=some u→h'.get? b=some u)(hp:h.objs.size≤a)(new:cC P w (upd H a o) h' a o):gF P w (upd H a o) h':=fun b u e=>by
 have hn:=x.fresh hp
 by_cases hb:b=a
 ·subst hb;rw[bQ]at e;cases e;exact new
 ·rw[aG hb]at e
  exact(x b u e).mn (fun c v _ q=>k c v q) (fun c q=>by rw[aG (bX q hn)];exact q) fun c xs q=>by rw[aG (bX q hn)];exact q
end
def Rd(H:Hp)(a:Addr)(u:HO):Prop:=H a=some u∨∃o,H a=some (.eG o u)
theorem Rd.ok{P:Program}{w:World}{H:Hp}{h:Heap}{a:Addr}{u:HO}(r:Rd H a u)(x:gF P w H h):cC P w H h a u:=by
 rcases r with r|⟨o,r⟩
 ·exact x a u r
 ·obtain⟨_,q⟩:=x a _ r
  exact q
def E1:Option HO→Prop
 |some (.lst _)=>True
 |some (.dK _)=>True
 |some (.dT _)=>True
 |some (.dU _)=>True
 |some (.set _ _)=>True
 |some (.ins _ _ _)=>True
 |some (.ext _)=>True
 |_=>False
section
variable{P:Program}{w:World}{H:Hp}{h h':Heap}{x e:Addr}{o':HO}
theorem gF.write(ok:gF P w H h)(mu:E1 (H x))(he:e=x∨H e=some (.own x))(k:∀b u,b≠e→h.get? b=some u→h'.get? b=some u)(AJ:∃u,h'.get? e=some u)
  (new:cC P w (upd H x o') h' x o'):gF P w (upd H x o') h':=fun b u q=>by
 have HZ:∀c y,H c=some (.own y)→c≠x:=fun c y r z=>by subst z;rw[r]at mu;exact mu
 have MD:∀c xs,H c=some (.tup xs)→c≠x:=fun c xs r z=>by subst z;rw[r]at mu;exact mu
 by_cases hb:b=x
 ·subst hb;rw[bQ]at q;cases q;exact new
 ·rw[aG hb]at q
  by_cases xZ:b=e
  ·have q':H b=some (.own x):=by
    rcases he with z|z
    ·exact absurd (xZ.trans z) hb
    ·rw[xZ];exact z
   rw[q]at q';cases q'
   obtain⟨v,hv⟩:=AJ
   exact⟨v,by rw[xZ];exact hv⟩
  ·refine(ok b u q).mn (fun c v hc r=>k c v ?_ r) (fun c r=>by rw[aG (HZ c b r)];exact r) fun c xs r=>by rw[aG (MD c xs r)];exact r
   rcases hc with rfl|hc
   ·exact xZ
   ·rintro rfl
    rcases he with z|z
    ·exact HZ c b hc z
    ·rw[hc]at z;cases z;exact hb rfl
end
structure Un(fs ex:List Addr)(H H':Hp)(h h':Heap):Prop where
 keep:∀b o,h.get? b=some o→H b=none→b∉fs→b∉ex→h'.get? b=some o
 slot:∀b o,h.get? b=some o→H b=none→b∈fs→b∉ex→∃sl,h'.get? b=some { o with slots:=sl }
 free:∀b o,h.get? b=some o→H b=none→b∉ex→H' b=none
 there:∀b o,h.get? b=some o→b∉ex→∃o',h'.get? b=some o'
 nq:∀b xs,H b=some (.tup xs)→H' b=some (.tup xs)
 kh:∀b o u,H b=some (.eG o u)→H' b=some (.eG o u)
 mq:∀b ps,H b=some (.kj ps)→∃more,H' b=some (.kj (ps++more))
section
variable{fs Rl ex U_:List Addr}{H H1 H2:Hp}{h h1 h2 h':Heap}{a x e:Addr}{o:HO}
theorem Un.any(u:Un fs ex H H1 h h1){b:Addr}{ob:Obj}(q:h.get? b=some ob)(n:H b=none)(hx:b∉ex):∃sl,h1.get? b=some { ob with slots:=sl }:=by
 by_cases hb:b∈fs
 ·exact u.slot b ob q n hb hx
 ·exact⟨ob.slots,u.keep b ob q n hb hx⟩
theorem Un.kept(k:∀b u,h.get? b=some u→h'.get? b=some u):Un fs ex H H h h':=
 ⟨fun b ob q _ _ _=>k b ob q,fun b ob q _ _ _=>⟨ob.slots,k b ob q⟩,fun _ _ _ n _=>n,fun b ob q _=>⟨ob,k b ob q⟩,fun _ _ q=>q,fun _ _ _ q=>q,fun _ ps q=>⟨#[],by rw[q];simp⟩⟩
theorem Un.refl:Un fs ex H H h h:=Un.kept fun _ _ q=>q
theorem Un.laid(k:∀b u,h.get? b=some u→h'.get? b=some u)(hp:h.objs.size≤a)(hn:H a=none):Un fs ex H (upd H a o) h h' where
 keep:=fun b u q _ _ _=>k b u q
 slot:=fun b u q _ _ _=>⟨u.slots,k b u q⟩
 free:=fun b u q n _=>by rw[aG (Nat.ne_of_lt (Nat.lt_of_lt_of_le (Heap.lt_size q) hp))];exact n
 there:=fun b u q _=>⟨u,k b u q⟩
 nq:=fun b xs q=>by rw[aG (bX q hn)];exact q
 kh:=fun b u xs q=>by rw[aG (bX q hn)];exact q
 mq:=fun b ps q=>⟨#[],by rw[aG (bX q hn),q];simp⟩
theorem Un.write(mu:E1 (H x))(he:e=x∨H e=some (.own x))(k:∀b u,b≠e→h.get? b=some u→h'.get? b=some u)(AJ:∃u,h'.get? e=some u):Un fs ex H (upd H x o) h h':=by
 have hx:∀b,H b=none→b≠x:=fun b n z=>by subst z;rw[n]at mu;exact mu
 have hb:∀b,H b=none→b≠e:=fun b n z=>by
  subst z
  rcases he with r|r
  ·exact hx b n r
  ·rw[n]at r;cases r
 have hm:∀b u,H b=some u→¬E1 (some u)→b≠x:=fun b u q nm z=>by subst z;rw[q]at mu;exact nm mu
 refine⟨fun b u q n _ _=>k b u (hb b n) q,fun b u q n _ _=>⟨u.slots,k b u (hb b n) q⟩,fun b u q n _=>by rw[aG (hx b n)];exact n,fun b u q _=>?_,
  fun b xs q=>by rw[aG (hm b _ q fun z=>z)];exact q,fun b u xs q=>by rw[aG (hm b _ q fun z=>z)];exact q,fun b ps q=>⟨#[],by rw[aG (hm b _ q fun z=>z),q];simp⟩⟩
 by_cases xZ:b=e
 ·subst xZ;exact AJ
 ·exact⟨u,k b u xZ q⟩
end
def E2(h:Heap)(H:Hp):List Addr:=(List.range h.objs.size).filter fun a=>(H a).isSome
def nt(h:Heap)(H:Hp):Heap:=PySem.W.hideAll h (E2 h H)
theorem x4(h:Heap)(H:Hp):(nt h H).objs.size=h.objs.size:=PySem.W.hideAll_size _ _
theorem AK{h:Heap}{H:Hp}{b:Addr}{o:Obj}(e:h.get? b=some o)(n:H b=none):(nt h H).get? b=some o:=
 PySem.W.hideAll_get _ e fun hm=>by
  have q:(H b).isSome=true:=(List.mem_filter.mp hm).2
  rw[n]at q;simp at q
theorem B7{h:Heap}{H:Hp}{b:Addr}{o:Obj}(e:(nt h H).get? b=some o):h.get? b=some o∧H b=none:=by
 have e':h.get? b=some o:=PySem.W.of_hideAll (E2 h H) e
 refine⟨e',?_⟩
 cases q:H b with
 |none=>rfl
 |some x=>
  have hm:b∈E2 h H:=List.mem_filter.mpr ⟨List.mem_range.mpr (Heap.lt_size e'),by simp[q]⟩
  have z:(nt h H).get? b=none:=PySem.W.hideAll_none (E2 h H) hm
  rw[z]at e;cases e
def jt(g h:Heap)(L:Addr):List (Addr×Obj):=(List.range h.objs.size).filterMap fun a=>if a=L∨(g.get? a).isSome=true then none else(h.get? a).map fun o=>(a,o)
theorem nu{g h:Heap}{L a:Addr}{o:Obj}(h1:a≠L)(h2:g.get? a=none)(h3:h.get? a=some o):(a,o)∈jt g h L:=
 List.mem_filterMap.mpr ⟨a,List.mem_range.mpr (Heap.lt_size h3),by simp[h1,h2,h3]⟩
theorem pU{g h:Heap}{L:Addr}{p:Addr×Obj}(hp:p∈jt g h L):p.1≠L∧g.get? p.1=none∧h.get? p.1=some p.2:=by
 obtain⟨b,_,e⟩:=List.mem_filterMap.mp hp
 split at e
 ·cases e
 ·rename_i hn
  cases q:h.get? b with
  |none=>rw[q]at e;simp at e
  |some u=>
   rw[q]at e
   simp only[Option.map_some,Option.some.injEq]at e
   subst e
   refine⟨fun z=>hn (.inl z),?_,q⟩
   show g.get? b=none
   cases r:g.get? b with
   |none=>rfl
   |some v=>exact(hn (.inr (by simp[r]))).elim
def rest(g h:Heap)(L d:Addr):List (Addr×Obj):=(jt g h L).filter fun p=>decide (p.1≠d)
theorem AL{g h:Heap}{L:Addr}:News g L h (jt g h L):=fun p hp=>let ⟨a,b,c⟩:=pU hp;⟨c,a,b⟩
end L2
namespace L2
open PySem PySem.Spec PyProof.Rows
structure Mod(K:PySem.W.Frag)(mg:Str→Option Value)(base:Heap):Prop where
 tm:K.In base
 glob:base.Ns mainGlobals mg
 blt:∃mb,base.Ns builtinsNs mb∧∀x:Str,x≠"__name__"→mb x=bootBuiltins x
 nolimit:base.NoLimit
 bmain:∃bm ob,mg "__builtins__" =some (.ref bm)∧bm≠builtinsNs∧base.get? bm=some ob∧ob.cls= .type "module"∧ob.dict=some builtinsNs∧ob.data= .plain
structure Cx where
 prog:Program
 w:World
 K:PySem.W.Frag
 mg:Str→Option Value
 base:Heap
 A:Around
 N:List Str
 aY:Shared
 ck:Hp
 env:Env
 outer:List Env
 stack:List Env
 ex:List Addr
 fn:Str→Bool
 calm:Bool
 pn:List (Addr×Obj)
 xe:Value→Shared→Prop
def qA(l:List Env):List Addr:=l.filterMap (·.frame)
abbrev Cx.fs(X:Cx):List Addr:=qA X.outer
def B8(sc:Scope)(x:Str):Prop:=sc.names.lookup x=some .local∨sc.names.lookup x=some .cell∨sc.names.lookup x=some .free
def Loc(sc:Scope)(x:Str):Prop:=sc.names.lookup x=some .local∨sc.names.lookup x=some .cell
def Look(env:Env)(h:Heap)(m:Str→Option Value)(x:Str)(u:Value):Prop:=
 (env.kindOf x=some .local∧m x=some u)∨((env.kindOf x=some .cell∨env.kindOf x=some .free)∧∃c,env.cells.lookup x=some c∧h.IsCell c (some u))
structure Cx.Ok(X:Cx):Prop where
 mod:Mod X.K X.mg X.base
 kind:X.env.scope.kind= .function
 glob:X.env.globals=mainGlobals
 blt:X.env.builtins=builtinsNs
 above:X.aY.heap.objs.size≤X.env.locals
 inj:∀x y c,X.env.cells.lookup x=some c→X.env.cells.lookup y=some c→x=y
 has:∀x,(X.env.kindOf x=some .cell∨X.env.kindOf x=some .free)→∃c,X.env.cells.lookup x=some c
 AM:∀x c,X.fn x=true→X.env.cells.lookup x=some c→X.aY.heap.objs.size≤c
 hd:X.calm=true→X.A.handled=none
 frames:X.A.frames=some X.stack
 B9:X.stack=X.outer∨(X.stack=X.env::X.outer∧X.env.frame=some X.env.locals)
 B_:∀b∈X.ex,b≠X.env.locals∧∀x c,X.env.cells.lookup x=some c→c≠b
 bs:∀b o,X.base.get? b=some o→X.aY.heap.get? b=some o∧X.ck b=none
 qB:X.base.objs.size≤X.aY.heap.objs.size
 tU:∀b o,X.base.get? b=some o→b∉X.ex
 tW:∀b∈X.ex,b∉X.fs
 ju:X.aY.heap.FunFrames X.base X.outer
 vY:∀b∈X.fs,X.ck b=none
structure Inv(X:Cx)(pins:List (Addr×Obj))(σ:List (Option V))(H:Hp)(s:Shared):Prop where
 ok:X.Ok
 os:s.os=X.aY.os
 bare:AllBare s.gens
 base:Un X.fs X.ex X.ck H X.aY.heap s.heap
 loc:∃m,s.heap.Ns X.env.locals m∧∀(i:Nat) (x:Str) (v:V),X.N[i]? =some x→σ[i]? =some (some v)→B8 X.env.scope x→∃u,RelV v u∧Look X.env s.heap m x u
 cell:∀x c,X.env.cells.lookup x=some c→∃v,s.heap.IsCell c v
 free:H X.env.locals=none
 fW:∀x c,X.env.cells.lookup x=some c→H c=none∨(X.fn x=false∧∃o u,H c=some (.eG o u))
 pin:∀p∈X.pn++pins,s.heap.get? p.1=some p.2∧H p.1=none∧p.1≠X.env.locals∧p.1∉X.fs∧∀v,p.2.data≠.cell v
 aO:gF X.prog X.w H s.heap
 len:σ.length=X.N.length
section
variable{X:Cx}{pins:List (Addr×Obj)}{σ:List (Option V)}{H H':Hp}{s:Shared}{h':Heap}
theorem Cx.Ok.ME(ok:X.Ok){b:Addr}{o:Obj}(e:X.base.get? b=some o):b∉X.fs:=fun hb=>by
 have:=(ok.ju.mem hb).1
 rw[e]at this;cases this
theorem Inv.bs(I:Inv X pins σ H s):∀b o,X.base.get? b=some o→s.heap.get? b=some o∧H b=none:=fun b o e=>
 ⟨I.base.keep b o (I.ok.bs b o e).1 (I.ok.bs b o e).2 (I.ok.ME e) (I.ok.tU b o e),I.base.free b o (I.ok.bs b o e).1 (I.ok.bs b o e).2 (I.ok.tU b o e)⟩
theorem Inv.bk(I:Inv X pins σ H s):∀b o,X.base.get? b=some o→s.heap.get? b=some o:=fun b o e=>(I.bs b o e).1
theorem Inv.mod(I:Inv X pins σ H s):Mod X.K X.mg X.base:=I.ok.mod
theorem Inv.jN(I:Inv X pins σ H s):X.K.In s.heap:=I.ok.mod.tm.keeps I.bk
theorem Inv.fr(I:Inv X pins σ H s):∃m,Fr X.base X.env.locals s.heap m:=
 let ⟨m,hn,_⟩:=I.loc
 ⟨m,hn,I.bk,Nat.le_trans I.ok.qB I.ok.above⟩
theorem Inv.lt(I:Inv X pins σ H s):X.env.locals<s.heap.objs.size:=let ⟨_,hn,_⟩:=I.loc;hn.lt
theorem Inv.sz(I:Inv X pins σ H s):X.aY.heap.objs.size≤s.heap.objs.size:=Nat.le_trans I.ok.above (Nat.le_of_lt I.lt)
theorem Inv.H_(I:Inv X pins σ H s){a:Addr}(h:s.heap.objs.size≤a):a∉X.fs:=fun hb=>by
 obtain⟨_,o,ho,_⟩:=I.ok.ju.mem hb
 exact absurd (Nat.lt_of_lt_of_le (Heap.lt_size ho) (Nat.le_trans I.sz h)) (Nat.lt_irrefl _)
theorem Inv.vZ(I:Inv X pins σ H s):∀x c,X.env.cells.lookup x=some c→c≠X.env.locals:=fun x c e z=>by
 obtain⟨v,o,ho,hd⟩:=I.cell x c e
 obtain⟨m,⟨o',es,ep,x5,Rm,_⟩,_⟩:=I.loc
 rw[z,x5]at ho;cases ho;rw[Rm]at hd;cases hd
theorem Inv.ju(I:Inv X pins σ H s):s.heap.FunFrames X.base X.outer:=by
 have all:∀(l:List Env),(∀b∈qA l,b∈X.fs)→X.aY.heap.FunFrames X.base l→s.heap.FunFrames X.base l:=by
  intro l
  induction l with
  |nil=>intro _ _;trivial
  |cons env r ih=>
   intro hs hl
   obtain⟨hk,⟨L,o,hf,hn,ho,hd⟩,hr⟩:=hl
   have hL:L∈X.fs:=hs L (by unfold qA;rw[List.filterMap_cons,hf];exact List.mem_cons_self)
   obtain⟨sl,e⟩:=I.base.slot L o ho (I.ok.vY L hL) hL fun z=>I.ok.tW L z hL
   exact⟨hk,⟨L,_,hf,hn,e,hd⟩,ih (fun b hb=>hs b (by unfold qA;rw[List.filterMap_cons,hf];exact List.mem_cons_of_mem _ hb)) hr⟩
 exact all X.outer (fun _ hb=>hb) I.ok.ju
theorem Inv.stack(I:Inv X pins σ H s):s.heap.FunFrames X.base X.stack:=by
 rcases I.ok.B9 with e|⟨e,hf⟩
 ·rw[e];exact I.ju
 ·rw[e]
  obtain⟨m,hn,_⟩:=I.loc
  refine .cons (by rw[I.ok.kind];decide) hf hn ?_ I.ju
  exact Heap.get?_none_of_le (Nat.le_trans I.ok.qB I.ok.above)
theorem Inv.uC(I:Inv X pins σ H s):∀b∈qA X.stack,b∈X.env.locals::X.fs:=fun b hb=>by
 rcases I.ok.B9 with e|⟨e,hf⟩
 ·rw[e]at hb;exact List.mem_cons_of_mem _ hb
 ·rw[e]at hb
  unfold qA at hb
  rw[List.filterMap_cons,hf]at hb
  exact hb
theorem Inv.v7(I:Inv X pins σ H s):∀b∈qA X.stack,H b=none:=fun b hb=>by
 rcases List.mem_cons.mp (I.uC b hb)with e|hb
 ·rw[e];exact I.free
 ·obtain⟨_,o,ho,_⟩:=I.ok.ju.mem hb
  exact I.base.free b o ho (I.ok.vY b hb) fun z=>I.ok.tW b z hb
theorem Inv.step{g':Array GenState}{t':Nat}{d':Drawn}{ch:List Addr}(I:Inv X pins σ H s)
  (eQ:∀b∈ch,(b∈X.ex∨X.aY.heap.objs.size≤b)∧b≠X.env.locals∧(∀x c,X.env.cells.lookup x=some c→c≠b)∧∀p∈X.pn++pins,p.1≠b)
  (keep:∀b o,b≠X.env.locals→b∉X.fs→b∉ch→s.heap.get? b=some o→H b=none→h'.get? b=some o)
  (slot:∀b o,b≠X.env.locals→b∈X.fs→b∉ch→s.heap.get? b=some o→H b=none→∃sl,h'.get? b=some { o with slots:=sl })(free:∀b o,b∉ch→s.heap.get? b=some o→H b=none→H' b=none)
  (there:∀b o,b∉ch→s.heap.get? b=some o→∃o',h'.get? b=some o')
  (nq:∀b xs,H b=some (.tup xs)→H' b=some (.tup xs))(kh:∀b o u,H b=some (.eG o u)→H' b=some (.eG o u))(mq:∀b ps,H b=some (.kj ps)→∃more,H' b=some (.kj (ps++more)))
  (ns:∀m,s.heap.Ns X.env.locals m→h'.Ns X.env.locals m)(aO:gF X.prog X.w H' h')(hg:AllBare g'):
  Inv X pins σ H' { s with heap:=h',gens:=g',drawn:=d',toks:=t' }:=by
 have MG:∀b o,X.aY.heap.get? b=some o→b≠X.env.locals:=fun b o e=>Nat.ne_of_lt (Nat.lt_of_lt_of_le (Heap.lt_size e) I.ok.above)
 have E3:∀b o,X.aY.heap.get? b=some o→b∉X.ex→b∉ch:=fun b o e hx hb=>by
  rcases(eQ b hb).1 with z|z
  ·exact hx z
  ·exact absurd (Nat.lt_of_lt_of_le (Heap.lt_size e) z) (Nat.lt_irrefl _)
 have cellK:∀x c,X.env.cells.lookup x=some c→∀v,s.heap.IsCell c v→h'.IsCell c v:=by
  rintro x c e v ⟨o,ho,hd⟩
  have Ca:c∉ch:=fun z=>(eQ c z).2.2.1 x c e rfl
  rcases I.fW x c e with nn|⟨_,o',u,nn⟩
  ·by_cases hc:c∈X.fs
   ·obtain⟨sl,q⟩:=slot c o (I.vZ x c e) hc Ca ho nn
    exact⟨_,q,hd⟩
   ·exact⟨o,keep c o (I.vZ x c e) hc Ca ho nn,hd⟩
  ·have e1:s.heap.get? c=some o':=(I.aO c _ nn).1
   have e2:h'.get? c=some o':=(aO c _ (kh c o' u nn)).1
   rw[ho]at e1;cases e1
   exact⟨o,e2,hd⟩
 refine⟨I.ok,I.os,hg,⟨fun b o e n hb hx=>?_,fun b o e n hb hx=>?_,fun b o e n hx=>?_,fun b o e hx=>?_,fun b xs e=>nq b xs (I.base.nq b xs e),fun b o xs e=>kh b o xs (I.base.kh b o xs e),fun b ps e=>?_⟩,?_,fun x c e=>?_,?_,fun x c e=>?_,fun p hp=>?_,aO,I.len⟩
 ·exact keep b o (MG b o e) hb (E3 b o e hx) (I.base.keep b o e n hb hx) (I.base.free b o e n hx)
 ·obtain⟨sl,e1⟩:=I.base.slot b o e n hb hx
  obtain⟨Rn,e2⟩:=slot b _ (MG b o e) hb (E3 b o e hx) e1 (I.base.free b o e n hx)
  exact⟨Rn,e2⟩
 ·obtain⟨o',e1⟩:=I.base.there b o e hx
  exact free b o' (E3 b o e hx) e1 (I.base.free b o e n hx)
 ·obtain⟨o',e1⟩:=I.base.there b o e hx
  exact there b o' (E3 b o e hx) e1
 ·obtain⟨m1,e1⟩:=I.base.mq b ps e
  obtain⟨m2,e2⟩:=mq b _ e1
  exact⟨m1++m2,by rw[e2,Array.append_assoc]⟩
 ·obtain⟨m,hn,hl⟩:=I.loc
  refine⟨m,ns m hn,fun i x v e1 e2 e3=>?_⟩
  obtain⟨u,r,l⟩:=hl i x v e1 e2 e3
  refine⟨u,r,?_⟩
  rcases l with l|⟨k,c,e,z⟩
  ·exact .inl l
  ·exact .inr ⟨k,c,e,cellK x c e _ z⟩
 ·obtain⟨v,z⟩:=I.cell x c e
  exact⟨v,cellK x c e v z⟩
 ·obtain⟨m,⟨o,_,_,ho,_⟩,_⟩:=I.loc
  exact free _ o (fun z=>(eQ _ z).2.1 rfl) ho I.free
 ·obtain⟨v,o,ho,hd⟩:=I.cell x c e
  rcases I.fW x c e with nn|⟨hf,o',u,nn⟩
  ·exact .inl (free c o (fun z=>(eQ c z).2.2.1 x c e rfl) ho nn)
  ·exact .inr ⟨hf,o',u,kh c o' u nn⟩
 ·obtain⟨e,n,ne,nf,d⟩:=I.pin p hp
  have Ca:p.1∉ch:=fun z=>(eQ p.1 z).2.2.2 p hp rfl
  exact⟨keep p.1 p.2 ne nf Ca e n,free p.1 p.2 Ca e n,ne,nf,d⟩
theorem Inv.un{t':Nat}(I:Inv X pins σ H s)(u:Un X.fs [] H H' s.heap h')(aO:gF X.prog X.w H' h'):Inv X pins σ H' { s with heap:=h',toks:=t' }:=by
 obtain⟨m,⟨o,es,ep,ho,r⟩,_⟩:=id I.loc
 obtain⟨sl,hL⟩:=u.any ho I.free (by simp)
 exact I.step (g':=s.gens) (d':=s.drawn) (ch:=[]) (fun _ z=>nomatch z) (fun b o _ hb _ e n=>u.keep b o e n hb (by simp)) (fun b o _ hb _ e n=>u.slot b o e n hb (by simp)) (fun b o _ e n=>u.free b o e n (by simp)) (fun b o _ e=>u.there b o e (by simp)) u.nq u.kh u.mq (fun m' hm=>by
  obtain⟨o',Ja,Jb,x5,r'⟩:=hm
  rw[ho]at x5;cases x5
  exact⟨_,Ja,Jb,hL,r'⟩) aO I.bare
theorem Inv.call{g':Array GenState}{t':Nat}{d':Drawn}{ch:List Addr}(I:Inv X pins σ H s)(u:Un (qA X.stack) ch H H' s.heap h')(aO:gF X.prog X.w H' h')(hg:AllBare g')
  (eQ:∀b∈ch,(b∈X.ex∨X.aY.heap.objs.size≤b)∧b≠X.env.locals∧(∀x c,X.env.cells.lookup x=some c→c≠b)∧∀p∈X.pn++pins,p.1≠b):
  Inv X pins σ H' { s with heap:=h',gens:=g',drawn:=d',toks:=t' }:=by
 obtain⟨m,⟨o,es,ep,ho,r⟩,_⟩:=id I.loc
 obtain⟨sl,hL⟩:=u.any ho I.free fun z=>(eQ _ z).2.1 rfl
 exact I.step (ch:=ch) eQ (fun b o hL hb hc e n=>u.keep b o e n (fun z=>(List.mem_cons.mp (I.uC b z)).elim hL hb) hc) (fun b o _ _ hc e n=>u.any e n hc) (fun b o hc e n=>u.free b o e n hc) (fun b o hc e=>u.there b o e hc) u.nq u.kh u.mq (fun m' hm=>by
  obtain⟨o',Ja,Jb,x5,r'⟩:=hm
  rw[ho]at x5;cases x5
  exact⟨_,Ja,Jb,hL,r'⟩) aO hg
theorem Inv.turned{t':Nat}{it:Addr}(I:Inv X pins σ H s)(k:∀b o,b≠it→s.heap.get? b=some o→h'.get? b=some o)(hn:H it=none)(hL:it≠X.env.locals)
  (h1:it∈X.ex∨X.aY.heap.objs.size≤it)(h2:∀x c,X.env.cells.lookup x=some c→c≠it)(h3:∀p∈X.pn++pins,p.1≠it):Inv X pins σ H { s with heap:=h',toks:=t' }:=by
 have MH:∀b u,H b=some u→b≠it:=fun b u e z=>by rw[z,hn]at e;cases e
 refine I.step (g':=s.gens) (d':=s.drawn) (ch:=[it]) (fun b hb=>?_) (fun b o _ _ hc e _=>k b o (fun z=>hc (by simp[z])) e) (fun b o _ _ hc e _=>⟨o.slots,k b o (fun z=>hc (by simp[z])) e⟩) (fun _ _ _ _ n=>n)
  (fun b o hc e=>⟨o,k b o (fun z=>hc (by simp[z])) e⟩) (fun _ _ e=>e) (fun _ _ _ e=>e) (fun b ps e=>⟨#[],by rw[e];simp⟩) (fun m hm=>?_) (fun b u e=>?_) I.bare
 ·have e:b=it:=by simpa using hb
  subst e
  exact⟨h1,hL,h2,h3⟩
 ·obtain⟨o,es,ep,ho,r⟩:=hm
  exact⟨o,es,ep,k _ o (Ne.symm hL) ho,r⟩
 ·refine(I.aO b u e).mn (fun c v hc q=>k c v ?_ q) (fun _ q=>q) fun _ _ q=>q
  rcases hc with z|z
  ·rw[z];exact MH b u e
  ·exact MH c _ z
theorem Inv.tok(I:Inv X pins σ H s)(t:Nat):Inv X pins σ H { s with toks:=t }:=I.un (h':=s.heap) (t':=t) Un.refl I.aO
theorem Inv.kept{t':Nat}(I:Inv X pins σ H s)(k:∀b u,s.heap.get? b=some u→h'.get? b=some u):Inv X pins σ H { s with heap:=h',toks:=t' }:=I.un (Un.kept k) (I.aO.kept k)
theorem Inv.laid{a:Addr}{o:HO}{t':Nat}(I:Inv X pins σ H s)(k:∀b u,s.heap.get? b=some u→h'.get? b=some u)(hp:s.heap.objs.size≤a)(new:cC X.prog X.w (upd H a o) h' a o):
  Inv X pins σ (upd H a o) { s with heap:=h',toks:=t' }:=I.un (Un.laid k hp (I.aO.fresh hp)) (I.aO.laid k hp new)
theorem Inv.write{x e:Addr}{o:HO}{t':Nat}(I:Inv X pins σ H s)(mu:E1 (H x))(he:e=x∨H e=some (.own x))(k:∀b u,b≠e→s.heap.get? b=some u→h'.get? b=some u)(AJ:∃u,h'.get? e=some u)
  (new:cC X.prog X.w (upd H x o) h' x o):Inv X pins σ (upd H x o) { s with heap:=h',toks:=t' }:=I.un (Un.write mu he k AJ) (I.aO.write mu he k AJ new)
theorem Inv.qC{Cb:List (Addr×Obj)}(I:Inv X pins σ H s)(h:∀p∈Cb,s.heap.get? p.1=some p.2∧H p.1=none∧p.1≠X.env.locals∧p.1∉X.fs∧∀v,p.2.data≠.cell v):Inv X Cb σ H s:=
 ⟨I.ok,I.os,I.bare,I.base,I.loc,I.cell,I.free,I.fW,fun p hp=>(List.mem_append.mp hp).elim (fun z=>I.pin p (List.mem_append_left _ z)) (h p),I.aO,I.len⟩
theorem tX{N:List Str}(hN:N.Nodup){i j:Nat}{x:Str}(a:N[i]? =some x)(b:N[j]? =some x):i=j:=by
 obtain⟨h1,e1⟩:=List.getElem?_eq_some_iff.mp a
 obtain⟨h2,e2⟩:=List.getElem?_eq_some_iff.mp b
 exact(List.getElem_inj hN).mp (e1.trans e2.symm)
theorem x6{M:Model}{A:Around}{E:Value→Shared→Prop}{i:Nat}{x:Str}{v:V}{u:Value}{Q:Unit→Shared→Prop}(I:Inv X pins σ H s)(hN:X.N.Nodup)(hi:X.N[i]? =some x)(hx:Loc X.env.scope x)(r:RelV v u)
  (h:∀s',Inv X pins (σ.set i (some v)) H s'→(∃a,Heap.SameBut a s.heap s'.heap∧(a=X.env.locals∨X.env.cells.lookup x=some a))→Q () s')(hf:X.fn x=true∨X.env.scope.names.lookup x=some .local:=by first|exact .inl rfl|exact .inr rfl|assumption):wpAny M A (storeName X.env x u) Q E s:=by
 obtain⟨m,hn,hl⟩:=id I.loc
 have MJ:(X.env.scope.kind==.class||(X.env.scope.kind==.module&&X.env.locals != X.env.globals))=false:=by rw[I.ok.kind];rfl
 have Ia:i<σ.length:=by rw[I.len];exact(List.getElem?_eq_some_iff.mp hi).1
 have vZ:=I.vZ
 have tracked:∀{a:Addr}{h':Heap},(∃o,s.heap.get? a=some o∧H a=none)→Heap.SameBut a s.heap h'→gF X.prog X.w H h':=fun {a h'} ha hs b ob e=>by
  obtain⟨_,_,oG⟩:=ha
  refine(I.aO b ob e).mn (fun c w' hc q=>(hs.2 c ?_).trans q) (fun _ q=>q) fun _ _ q=>q
  rintro rfl
  rcases hc with rfl|hc
  ·rw[oG]at e;cases e
  ·rw[oG]at hc;cases hc
 rcases hx with hk|hk
 ·refine wpAny_storeName_local hk hn (fun h' Ro hs=>?_) MJ
  obtain⟨oL,_,_,Rp,_⟩:=id hn
  refine h _ ⟨I.ok,I.os,I.bare,⟨fun b o e n hb hx=>?_,fun b o e n hb hx=>?_,I.base.free,fun b o e hx=>?_,I.base.nq,I.base.kh,I.base.mq⟩,⟨_,Ro,fun j y v' e1 e2 e3=>?_⟩,fun y c e=>?_,I.free,I.fW,fun p hp=>?_,tracked ⟨oL,Rp,I.free⟩ hs,by simpa using I.len⟩ ⟨_,hs,.inl rfl⟩
  ·exact(hs.2 b (Nat.ne_of_lt (Nat.lt_of_lt_of_le (Heap.lt_size e) I.ok.above))).trans (I.base.keep b o e n hb hx)
  ·obtain⟨sl,e1⟩:=I.base.slot b o e n hb hx
   exact⟨sl,(hs.2 b (Nat.ne_of_lt (Nat.lt_of_lt_of_le (Heap.lt_size e) I.ok.above))).trans e1⟩
  ·obtain⟨o',e1⟩:=I.base.there b o e hx
   exact⟨o',(hs.2 b (Nat.ne_of_lt (Nat.lt_of_lt_of_le (Heap.lt_size e) I.ok.above))).trans e1⟩
  ·by_cases hj:j=i
   ·subst hj
    rw[hi]at e1;cases e1
    rw[List.getElem?_set_self Ia]at e2
    cases e2
    exact⟨u,r,.inl ⟨hk,by simp⟩⟩
   ·rw[List.getElem?_set_ne (Ne.symm hj)]at e2
    obtain⟨u',r',q⟩:=hl j y v' e1 e2 e3
    refine⟨u',r',?_⟩
    rcases q with⟨k,e⟩|⟨k,c,e,z⟩
    ·refine .inl ⟨k,?_⟩
     have:y≠x:=fun e=>hj (tX hN e1 (e ▸ hi))
     simp[this,e]
    ·exact .inr ⟨k,c,e,z.sameBut hs (vZ y c e)⟩
  ·obtain⟨w',z⟩:=I.cell y c e
   exact⟨w',z.sameBut hs (vZ y c e)⟩
  ·obtain⟨e,n,ne,nf,d⟩:=I.pin p hp
   exact⟨(hs.2 p.1 ne).trans e,n,ne,nf,d⟩
 ·have E4:X.fn x=true:=by
   rcases hf with z|z
   ·exact z
   ·rw[z]at hk;cases hk
  obtain⟨c,hc⟩:=I.ok.has x (.inl hk)
  obtain⟨w',z⟩:=I.cell x c hc
  refine wpAny_storeName_cell I.ok.kind hk hc z (fun h' dq hs=>?_)
  obtain⟨oc,v8,MK⟩:=id z
  refine h { s with heap:=h' } ⟨I.ok,I.os,I.bare,⟨fun b o e n hb hx=>?_,fun b o e n hb hx=>?_,I.base.free,fun b o e hx=>?_,I.base.nq,I.base.kh,I.base.mq⟩,⟨m,hn.sameBut hs (Ne.symm (vZ x c hc)),fun j y v' e1 e2 e3=>?_⟩,fun y c' e=>?_,I.free,I.fW,fun p hp=>?_,tracked ⟨oc,v8,(I.fW x c hc).resolve_right fun z=>by rw[E4]at z;cases z.1⟩ hs,by simpa using I.len⟩ ⟨c,hs,.inr hc⟩
  ·exact(hs.2 b (Nat.ne_of_lt (Nat.lt_of_lt_of_le (Heap.lt_size e) (I.ok.AM x c E4 hc)))).trans (I.base.keep b o e n hb hx)
  ·obtain⟨sl,e1⟩:=I.base.slot b o e n hb hx
   exact⟨sl,(hs.2 b (Nat.ne_of_lt (Nat.lt_of_lt_of_le (Heap.lt_size e) (I.ok.AM x c E4 hc)))).trans e1⟩
  ·obtain⟨o',e1⟩:=I.base.there b o e hx
   exact⟨o',(hs.2 b (Nat.ne_of_lt (Nat.lt_of_lt_of_le (Heap.lt_size e) (I.ok.AM x c E4 hc)))).trans e1⟩
  ·by_cases hj:j=i
   ·subst hj
    rw[hi]at e1;cases e1
    rw[List.getElem?_set_self Ia]at e2
    cases e2
    exact⟨u,r,.inr ⟨.inl hk,c,hc,dq⟩⟩
   ·rw[List.getElem?_set_ne (Ne.symm hj)]at e2
    obtain⟨u',r',q⟩:=hl j y v' e1 e2 e3
    refine⟨u',r',?_⟩
    rcases q with q|⟨k,c',e,z'⟩
    ·exact .inl q
    ·refine .inr ⟨k,c',e,z'.sameBut hs ?_⟩
     rintro rfl
     exact hj (tX hN e1 (I.ok.inj _ _ _ e hc ▸ hi))
  ·by_cases AN:c'=c
   ·subst AN;exact⟨_,dq⟩
   ·obtain⟨w2,z2⟩:=I.cell y c' e
    exact⟨w2,z2.sameBut hs AN⟩
  ·obtain⟨e,n,ne,nf,d⟩:=I.pin p hp
   refine⟨(hs.2 p.1 ?_).trans e,n,ne,nf,d⟩
   intro q
   rw[q,v8]at e
   have q':oc=p.2:=Option.some.inj e
   exact d w' (by rw[←q'];exact MK)
theorem fX{M:Model}{A:Around}{E:Value→Shared→Prop}{i:Nat}{x:Str}{v:V}{u:Value}{Q:Unit→Shared→Prop}(I:Inv X pins σ H s)(hN:X.N.Nodup)(hi:X.N[i]? =some x)(hx:Loc X.env.scope x)(r:RelV v u)
  (h:∀s',Inv X pins (σ.set i (some v)) H s'→Q () s')(hf:X.fn x=true∨X.env.scope.names.lookup x=some .local:=by first|exact .inl rfl|exact .inr rfl|assumption):wpAny M A (storeName X.env x u) Q E s:=
 x6 I hN hi hx r (fun s' I' _=>h s' I') hf
theorem Inv.Jc{s':Shared}{ch:List Addr}(I:Inv X pins σ H s)(ho:s'.os=s.os)(u:Un (qA X.stack) ch H H' s.heap s'.heap)(aO:gF X.prog X.w H' s'.heap)(hg:AllBare s'.gens)
  (eQ:∀b∈ch,(b∈X.ex∨X.aY.heap.objs.size≤b)∧b≠X.env.locals∧(∀x c,X.env.cells.lookup x=some c→c≠b)∧∀p∈X.pn++pins,p.1≠b):Inv X pins σ H' s':=by
 obtain⟨h',g',d',t',o'⟩:=s'
 have e:o'=s.os:=ho
 subst e
 exact I.call (g':=g') (t':=t') (d':=d') u aO hg eQ
end
abbrev XK:=Value→Option Addr→Hp→Prop
abbrev St:=List (Option V)
abbrev VK:=V→Hp→Prop
abbrev TE:=St→Hp→VK→Prop
abbrev TT:=St→Hp→(Bool→Hp→Prop)→Prop
abbrev TA:=St→Hp→(List V→Hp→Prop)→Prop
structure Ends where
 nx:St→Hp→Prop
 rt:VK
 bk:St→Hp→Prop:=fun _ _=>False
 ct:St→Hp→Prop:=fun _ _=>False
abbrev TS:=Ends→St→Hp→Prop
def EP(X:Cx)(pins:List (Addr×Obj))(σ:St)(Q:VK)(u:Value)(s':Shared):Prop:=∃v H',Inv X pins σ H' s'∧RelV v u∧Q v H'
def TP(X:Cx)(pins:List (Addr×Obj))(σ:St)(Q:Bool→Hp→Prop)(b:Bool)(s':Shared):Prop:=∃H',Inv X pins σ H' s'∧Q b H'
def AP(X:Cx)(pins:List (Addr×Obj))(σ:St)(Q:List V→Hp→Prop)(us:List Value)(s':Shared):Prop:=∃vs H',Inv X pins σ H' s'∧Vals vs us∧Q vs H'
def SP(X:Cx)(pins:List (Addr×Obj))(D:Ends)(f:Flow)(s':Shared):Prop:=
 match f with
 |.next=>∃σ' H',Inv X pins σ' H' s'∧D.nx σ' H'
 |.brk=>∃σ' H',Inv X pins σ' H' s'∧D.bk σ' H'
 |.cont=>∃σ' H',Inv X pins σ' H' s'∧D.ct σ' H'
 |.ret u=>∃v σ' H',Inv X pins σ' H' s'∧RelV v u∧D.rt v H'
namespace Zu
set_option allowUnsafeReducibility true in
@[scoped irreducible] def _root_.L2.PE(X:Cx)(e:Expr)(t:TE):Prop:=
 ∀(pins:List (Addr×Obj)) (s:Shared) (σ:St) (H:Hp) (Q:VK),Inv X pins σ H s→t σ H Q→wpAny (model X.prog X.w) X.A (eval e X.env) (EP X pins σ Q) X.xe s
end Zu
namespace Zu
set_option allowUnsafeReducibility true in
@[scoped irreducible] def _root_.L2.PT(X:Cx)(e:Expr)(t:TT):Prop:=
 ∀(pins:List (Addr×Obj)) (s:Shared) (σ:St) (H:Hp) (Q:Bool→Hp→Prop),Inv X pins σ H s→t σ H Q→wpAny (model X.prog X.w) X.A (isTrue e X.env (eval e X.env)) (TP X pins σ Q) X.xe s
end Zu
namespace Zu
set_option allowUnsafeReducibility true in
@[scoped irreducible] def _root_.L2.PW(X:Cx)(e:Expr)(t:TT):Prop:=
 ∀(whole:Sem Value) (pins:List (Addr×Obj)) (s:Shared) (σ:St) (H:Hp) (Q:Bool→Hp→Prop),Inv X pins σ H s→t σ H Q→wpAny (model X.prog X.w) X.A (isTrue e X.env whole) (TP X pins σ Q) X.xe s
end Zu
theorem PW.pt{X:Cx}{e:Expr}{t:TT}(h:PW X e t):PT X e t:=h _
namespace Zu
set_option allowUnsafeReducibility true in
@[scoped irreducible] def _root_.L2.PA(X:Cx)(es:List Expr)(t:TA):Prop:=
 ∀(pos:Pos) (pins:List (Addr×Obj)) (s:Shared) (σ:St) (H:Hp) (Q:List V→Hp→Prop),Inv X pins σ H s→t σ H Q→wpAny (model X.prog X.w) X.A (spliced (backTo pos (starEach es X.env))) (AP X pins σ Q) X.xe s
end Zu
namespace Zu
set_option allowUnsafeReducibility true in
@[scoped irreducible] def _root_.L2.PS(X:Cx)(st:Stmt)(t:TS):Prop:=
 ∀(pins:List (Addr×Obj)) (s:Shared) (σ:St) (H:Hp) (D:Ends),Inv X pins σ H s→t D σ H→wpAny (model X.prog X.w) X.A (exec st X.env) (SP X pins D) X.xe s
end Zu
namespace Zu
set_option allowUnsafeReducibility true in
@[scoped irreducible] def _root_.L2.kl(X:Cx)(st:List Stmt)(t:TS):Prop:=
 ∀(pins:List (Addr×Obj)) (s:Shared) (σ:St) (H:Hp) (D:Ends),Inv X pins σ H s→t D σ H→wpAny (model X.prog X.w) X.A (execs st X.env) (SP X pins D) X.xe s
end Zu
theorem bF{α:Type}{t:Sem α}{Q Q':α→Shared→Prop}{M:Model}{A:Around}{E:Value→Shared→Prop}{s:Shared}(h:wpAny M A t Q E s)(hQ:∀a s,Q a s→Q' a s):wpAny M A t Q' E s:=wpAny_mono h hQ fun _ _ x=>x
end L2
namespace L2
open PySem PySem.Spec PyProof.Rows
section
variable{X:Cx}
theorem bin{a b:Expr}{ta tb:TE}(ha:PE X a ta)(hb:PE X b tb){pins:List (Addr×Obj)}{s:Shared}{σ:St}{H:Hp}{R:V→V→Hp→Prop}(I:Inv X pins σ H s)(h:ta σ H fun x H1=>tb σ H1 fun y H2=>R x y H2)
  {α:Type}{Q:α→Shared→Prop}{f:Value→Value→Sem α}
  (hf:∀v u s2 x y H2,Inv X pins σ H2 s2→RelV x v→RelV y u→R x y H2→wpAny (model X.prog X.w) X.A (f v u) Q X.xe s2):
  wpAny (model X.prog X.w) X.A (eval a X.env) (fun v bD=>wpAny (model X.prog X.w) X.A (eval b X.env) (fun u pF=>wpAny (model X.prog X.w) X.A (f v u) Q X.xe pF) X.xe bD) X.xe s:=by
 refine bF (ha pins s σ H _ I h) fun v s1 aZ=>?_
 obtain⟨x,H1,I1,r1,q1⟩:=aZ
 refine bF (hb pins s1 σ H1 _ I1 q1) fun u s2 aZ=>?_
 obtain⟨y,H2,I2,r2,q2⟩:=aZ
 exact hf v u s2 x y H2 I2 r1 r2 q2
def Cc(i:Nat):TE:=fun σ H Q=>∃v,σ[i]? =some (some v)∧Q v H
def tC(v:V):TE:=fun _ H Q=>Q v H
theorem E5{i:Nat}{x:Str}{pos:Pos}(hN:X.N[i]? =some x)(hv:B8 X.env.scope x)(hd:(x==("__debug__":Str))=false:=by decide)(km:(x==("__classdict__":Str))=false:=by decide):PE X (.Name x pos) (Cc i):=by
 intro pins s σ H Q I h
 obtain⟨v,e,h⟩:=h
 obtain⟨m,hn,hl⟩:=I.loc
 obtain⟨u,r,l⟩:=hl i x v hN e hv
 have fin:EP X pins σ Q u s:=⟨v,H,I,r,h⟩
 rcases l with⟨hk,hm⟩|⟨hk,c,hc,uD⟩
 ·exact wpAny_Name (wpAny_loadName_local I.ok.kind hk hn hm fin) hd
 ·rcases hk with hk|hk
  ·exact wpAny_Name (wpAny_loadName_cell I.ok.kind hk hc uD fin) hd
  ·exact wpAny_Name (wpAny_loadName_free I.ok.kind hk hc uD fin km) hd
theorem E6{i j pos}:PE X (.Constant (.int i) j pos) (tC (.int i)):=fun _ _ _ H _ I h=>wpAny_Constant_int ⟨.int i,H,I.tok _,⟨_,rfl⟩,h⟩
theorem Jd{b j pos}:PE X (.Constant (.bool b) j pos) (tC (.bl b)):=fun _ _ _ H _ I h=>Constant_bool ⟨.bl b,H,I,rfl,h⟩
def Gl(X:Cx)(x:Str):Prop:=X.env.kindOf x=some .globalImplicit
theorem v9{E:Value→Shared→Prop}{pins:List (Addr×Obj)}{s:Shared}{σ:St}{H:Hp}{x:Str}{u:Value}{pos:Pos}{Q:Value→Shared→Prop}(I:Inv X pins σ H s)(hg:Gl X x)(hm:X.mg x=some u)(h:Q u s)
  (hd:(x==("__debug__":Str))=false:=by decide):wpAny (model X.prog X.w) X.A (eval (.Name x pos) X.env) Q E s:=
 Calls.Name_function_global I.ok.kind hg (Calls.loadGlobal_global (by rw[I.ok.glob];exact I.mod.glob.keeps I.bk) hm h) hd
theorem gX{E:Value→Shared→Prop}{pins:List (Addr×Obj)}{s:Shared}{σ:St}{H:Hp}{x:Str}{u:Value}{pos:Pos}{Q:Value→Shared→Prop}(I:Inv X pins σ H s)(hg:Gl X x)(hm:X.mg x=none)(hv:bootBuiltins x=some u)(h:Q u s)
  (hn:x≠"__name__":=by decide)(hd:(x==("__debug__":Str))=false:=by decide):wpAny (model X.prog X.w) X.A (eval (.Name x pos) X.env) Q E s:=by
 obtain⟨mb,h1,h2⟩:=I.mod.blt
 exact Calls.Name_function_global I.ok.kind hg (Calls.loadGlobal_builtin (by rw[I.ok.glob];exact I.mod.glob.keeps I.bk) hm (by rw[I.ok.blt];exact h1.keeps I.bk) ((h2 x hn).trans hv) h) hd
theorem Cd{x:Str}{v:V}{u:Value}{pos:Pos}(hg:Gl X x)(hm:X.mg x=some u)(r:RelV v u)(hd:(x==("__debug__":Str))=false:=by decide):PE X (.Name x pos) (tC v):=
 fun _ _ _ H _ I h=>v9 I hg hm ⟨v,H,I,r,h⟩ hd
theorem kn{x:Str}{v:V}{u:Value}{pos:Pos}(hg:Gl X x)(hm:X.mg x=none)(hv:bootBuiltins x=some u)(r:RelV v u)(hn:x≠"__name__":=by decide)(hd:(x==("__debug__":Str))=false:=by decide):PE X (.Name x pos) (tC v):=
 fun _ _ _ H _ I h=>gX I hg hm hv ⟨v,H,I,r,h⟩ hn hd
variable{a b:Expr}{ta tb:TE}{pos:Pos}
def PC(X:Cx)(op:CmpOp)(a b:Expr)(t:TE):Prop:=
 ∀(pins:List (Addr×Obj)) (s:Shared) (σ:St) (H:Hp) (Q:VK),Inv X pins σ H s→t σ H Q→
  wpAny (model X.prog X.w) X.A (eval a X.env) (fun v bD=>wpAny (model X.prog X.w) X.A (eval b X.env) (fun u pF=>wpAny (model X.prog X.w) X.A (compareOp op v u) (EP X pins σ Q) X.xe pF) X.xe bD) X.xe s
theorem AO(b:Expr){op:CmpOp}(h:op≠.In)(h2:op≠.NotIn):behindInMarks op b=false:=by
 have e1:(op==CmpOp.In)=false:=by cases op<;>first|rfl|exact absurd rfl h
 have e2:(op==CmpOp.NotIn)=false:=by cases op<;>first|rfl|exact absurd rfl h2
 cases b<;>simp[behindInMarks,e1,e2]
def tB(t:TE):TT:=fun σ H Q=>t σ H fun x H1=>∃c,x= .bl c∧Q c H1
theorem Rf{op:CmpOp}{t:TE}(h:PC X op a b t)(h1:behindInMarks op b=false:=by first|exact AO _ (by decide) (by decide)|rfl):PT X (.Compare a [op] [b] pos) (tB t):=by
 intro pins s σ H Q I hw
 refine wpAny_isTrue_Compare1 (bF (h pins s σ H _ I hw) fun v s1 h1=>bF h1 fun u s2 h2=>bF h2 fun c s3 aZ=>?_) h1
 obtain⟨x,H1,I1,r1,q1⟩:=aZ
 obtain⟨d,rfl,q⟩:=q1
 cases r1
 exact wpAny_truthy_bool ⟨H1,I1,q⟩
theorem E7{e:Expr}{t:TE}(h:PE X e t)(he:∀whole,isTrue e X.env whole=(do let v ←whole;standAt e.pos;holding [v] (truthy v)):=by intro _;rfl):PT X e (tB t):=by
 intro pins s σ H Q I hw
 refine isTrue_plain (bF (h pins s σ H _ I hw) fun v s1 aZ=>?_) (he _)
 obtain⟨x,H1,I1,r1,q1⟩:=aZ
 obtain⟨d,rfl,q⟩:=q1
 cases r1
 exact wpAny_truthy_bool ⟨H1,I1,q⟩
variable{tA E8:TT}{rest:List Expr}
def gQ(t u:TT):TT:=fun σ H Q=>t σ H fun c H1=>if c=true then u σ H1 Q else Q false H1
def l_(t u:TT):TT:=fun σ H Q=>t σ H fun c H1=>if c=true then Q true H1 else u σ H1 Q
def eY(t:TT):TT:=fun σ H Q=>t σ H fun c H1=>Q (!c) H1
theorem Ce(ha:PT X a tA):PW X (.BoolOp .And [a] pos) tA:=by
 intro wh pins s σ H Q I h
 refine isTrue_and (bF (ha pins s σ H Q I h) fun c s1 e=>?_)
 cases c with
 |true=>exact isTrue_and_nil e
 |false=>exact e
theorem E9(ha:PT X a tA):PW X (.BoolOp .Or [a] pos) tA:=by
 intro wh pins s σ H Q I h
 refine isTrue_or (bF (ha pins s σ H Q I h) fun c s1 e=>?_)
 cases c with
 |false=>exact isTrue_or_nil e
 |true=>exact e
theorem E_(ha:PT X a tA)(hb:PW X (.BoolOp .And (b::rest) pos) E8):PW X (.BoolOp .And (a::b::rest) pos) (gQ tA E8):=by
 intro wh pins s σ H Q I h
 refine isTrue_and (bF (ha pins s σ H _ I h) fun c s1 aZ=>?_)
 obtain⟨H1,I1,q1⟩:=aZ
 cases c with
 |true=>exact hb wh pins s1 σ H1 Q I1 q1
 |false=>exact⟨H1,I1,q1⟩
theorem Je(ha:PT X a tA)(hb:PW X (.BoolOp .Or (b::rest) pos) E8):PW X (.BoolOp .Or (a::b::rest) pos) (l_ tA E8):=by
 intro wh pins s σ H Q I h
 refine isTrue_or (bF (ha pins s σ H _ I h) fun c s1 aZ=>?_)
 obtain⟨H1,I1,q1⟩:=aZ
 cases c with
 |true=>exact⟨H1,I1,q1⟩
 |false=>exact hb wh pins s1 σ H1 Q I1 q1
theorem Fb(ha:PT X a tA):PT X (.UnaryOp .Not a pos) (eY tA):=by
 intro pins s σ H Q I h
 exact isTrue_not (ha pins s σ H (fun c H1=>Q (!c) H1) I h)
def Jf(ta tb:TE):TE:=fun σ H Q=>ta σ H fun x H1=>∃c,x= .bl c∧if c=true then tb σ H1 Q else Q (.bl false) H1
def MM(ta tb:TE):TE:=fun σ H Q=>ta σ H fun x H1=>∃c,x= .bl c∧if c=true then Q (.bl true) H1 else tb σ H1 Q
def Jg(ta:TE):TE:=fun σ H Q=>ta σ H fun x H1=>∃c,x= .bl c∧Q (.bl (!c)) H1
theorem Fc{op}{t:TE}(h:PE X a t):PE X (.BoolOp op [a] pos) t:=fun pins s σ H Q I hw=>BoolOp_one (h pins s σ H Q I hw)
theorem Fd(ha:PE X a ta)(hb:PE X (.BoolOp .And (b::rest) pos) tb):PE X (.BoolOp .And (a::b::rest) pos) (Jf ta tb):=by
 intro pins s σ H Q I h
 refine BoolOp_and (bF (ha pins s σ H _ I h) fun v s1 aZ=>?_)
 obtain⟨x,H1,I1,r1,q1⟩:=aZ
 obtain⟨c,rfl,q1⟩:=q1
 cases r1
 refine wpAny_truthy_bool ?_
 cases c with
 |true=>exact hb pins s1 σ H1 Q I1 q1
 |false=>exact⟨.bl false,H1,I1,rfl,q1⟩
theorem Jh(ha:PE X a ta)(hb:PE X (.BoolOp .Or (b::rest) pos) tb):PE X (.BoolOp .Or (a::b::rest) pos) (MM ta tb):=by
 intro pins s σ H Q I h
 refine BoolOp_or (bF (ha pins s σ H _ I h) fun v s1 aZ=>?_)
 obtain⟨x,H1,I1,r1,q1⟩:=aZ
 obtain⟨c,rfl,q1⟩:=q1
 cases r1
 refine wpAny_truthy_bool ?_
 cases c with
 |false=>exact hb pins s1 σ H1 Q I1 q1
 |true=>exact⟨.bl true,H1,I1,rfl,q1⟩
theorem Fe(ha:PE X a ta):PE X (.UnaryOp .Not a pos) (Jg ta):=by
 intro pins s σ H Q I h
 refine UnaryOp_ (bF (ha pins s σ H _ I h) fun v s1 aZ=>?_)
 obtain⟨x,H1,I1,r1,q1⟩:=aZ
 obtain⟨c,rfl,q1⟩:=q1
 cases r1
 exact not_of (wpAny_truthy_bool ⟨.bl (!c),H1,I1,rfl,q1⟩)
def Rq(t:TT)(ta tb:TE):TE:=fun σ H Q=>t σ H fun c H1=>if c=true then ta σ H1 Q else tb σ H1 Q
theorem AS{c:Expr}(hc:PT X c tA)(ha:PE X a ta)(hb:PE X b tb):PE X (.IfExp c a b pos) (Rq tA ta tb):=by
 intro pins s σ H Q I h
 refine wpAny_IfExp (bF (hc pins s σ H _ I h) fun d s1 aZ=>?_)
 obtain⟨H1,I1,q1⟩:=aZ
 cases d with
 |true=>exact ha pins s1 σ H1 Q I1 q1
 |false=>exact hb pins s1 σ H1 Q I1 q1
end
end L2
namespace L2
open PySem PySem.Spec PyProof.Rows
def cD(K:PySem.W.Frag)(H:Hp)(a:Addr)(xs:List V):Prop:=
 Rd H a (.lst xs)∨
  ∃(o:Obj) (its:Array Value) (n:Nat),K.lookup a=some o∧o.cls= .type "list"∧o.dict=none∧o.data= .seq its n∧its.size≤sizeLine∧Vals xs its.toList
def df(K:PySem.W.Frag)(H:Hp)(a:Addr)(xs:List V):Prop:=
 Rd H a (.tup xs)∨
  ∃(o:Obj) (its:Array Value) (n:Nat),K.lookup a=some o∧o.cls= .type "tuple"∧o.data= .seq its n∧its.size≤sizeLine∧Vals xs its.toList
def MN:Value→Option V
 |.none=>some .bL
 |.bool b=>some (.bl b)
 |.int i _=>some (.int i)
 |.str x _=>some (.str x)
 |.bytes b _=>some (.qz b)
 |.float b _=>some (.AI b)
 |.ref a=>some (.ref a)
 |.type n=>some (.ty n)
 |_=>none
theorem RelV.abs{x:V}{u:Value}(r:RelV x u):MN u=some x:=by
 cases x with
 |bL=>cases r;rfl
 |bl _=>cases r;rfl
 |int _=>obtain⟨t,rfl⟩:=r;rfl
 |str _=>obtain⟨t,rfl⟩:=r;rfl
 |qz _=>obtain⟨t,rfl⟩:=r;rfl
 |AI _=>obtain⟨t,rfl⟩:=r;rfl
 |ref _=>cases r;rfl
 |ty _=>cases r;rfl
theorem RelV.inj{x y:V}{u:Value}(r:RelV x u)(q:RelV y u):x=y:=Option.some.inj (r.abs.symm.trans q.abs)
theorem Vals.inj:∀{xs ys:List V}{us:List Value},Vals xs us→Vals ys us→xs=ys
 |_,_,_,.nil,.nil=>rfl
 |_,_,_,.cons r t,.cons r' t'=>by rw[r.inj r',Vals.inj t t']
section
variable{X:Cx}{pins:List (Addr×Obj)}{σ:St}{H:Hp}{s:Shared}{a:Addr}{xs ys:List V}
theorem cD.of{K:PySem.W.Frag}(h:H a=some (.lst xs)):cD K H a xs:=.inl (.inl h)
theorem df.of{K:PySem.W.Frag}(h:H a=some (.tup xs)):df K H a xs:=.inl (.inl h)
theorem Inv.list(I:Inv X pins σ H s)(h:cD X.K H a xs):∃its:List Value,Vals xs its∧PlainL s.heap a its.toArray∧xs.length≤sizeLine:=by
 rcases h with h|⟨o,its,n,hk,hc,hd,hs,hz,r⟩
 ·obtain⟨z,its,n,r,e⟩:=h.ok I.aO
  exact⟨its,r,⟨_,n,e,rfl,rfl,rfl⟩,z⟩
 ·refine⟨its.toList,r,⟨o,n,I.jN a o hk,hc,hd,by simpa using hs⟩,?_⟩
  have e:=r.length
  simp only[Array.length_toList]at e
  omega
theorem Inv.tuple(I:Inv X pins σ H s)(h:df X.K H a xs):∃its:List Value,Vals xs its∧IsTup s.heap a its.toArray∧xs.length≤sizeLine:=by
 rcases h with h|⟨o,its,n,hk,hc,hs,hz,r⟩
 ·obtain⟨z,its,r,p⟩:=h.ok I.aO
  exact⟨its,r,p,z⟩
 ·refine⟨its.toList,r,⟨o,I.jN a o hk,hc,n,by simpa using hs⟩,?_⟩
  have e:=r.length
  simp only[Array.length_toList]at e
  omega
theorem Inv.tY(I:Inv X pins σ H s)(h:cD X.K H a xs)(h':cD X.K H a ys):xs=ys:=by
 obtain⟨its,r,⟨o,n,e,_,_,d⟩,_⟩:=I.list h
 obtain⟨its',r',⟨o',n',e',_,_,d'⟩,_⟩:=I.list h'
 rw[e]at e';cases e'
 rw[d]at d'
 injection d' with d1 _
 have:its=its':=by simpa using congrArg Array.toList d1
 subst this
 exact r.inj r'
theorem Inv.x8(I:Inv X pins σ H s)(h:df X.K H a xs)(h':df X.K H a ys):xs=ys:=by
 obtain⟨its,r,⟨o,e,_,n,d⟩,_⟩:=I.tuple h
 obtain⟨its',r',⟨o',e',_,n',d'⟩,_⟩:=I.tuple h'
 rw[e]at e';cases e'
 rw[d]at d'
 injection d' with d1 _
 have:its=its':=by simpa using congrArg Array.toList d1
 subst this
 exact r.inj r'
end
abbrev Cx.ko(X:Cx)(E:Value→Shared→Prop):Cx:={ X with xe:=E }
abbrev Cx.qD(X:Cx):Cx:=X.ko fun _ _=>False
theorem Cx.Ok.ko{X:Cx}(ok:X.Ok)(E:Value→Shared→Prop):(X.ko E).Ok:=
 ⟨ok.mod,ok.kind,ok.glob,ok.blt,ok.above,ok.inj,ok.has,ok.AM,ok.hd,ok.frames,ok.B9,ok.B_,ok.bs,ok.qB,ok.tU,ok.tW,ok.ju,ok.vY⟩
theorem Cx.Ok.gY{X:Cx}{E:Value→Shared→Prop}(ok:(X.ko E).Ok):X.Ok:=
 ⟨ok.mod,ok.kind,ok.glob,ok.blt,ok.above,ok.inj,ok.has,ok.AM,ok.hd,ok.frames,ok.B9,ok.B_,ok.bs,ok.qB,ok.tU,ok.tW,ok.ju,ok.vY⟩
section
variable{X:Cx}{pins:List (Addr×Obj)}{σ:St}{H:Hp}{s:Shared}{E:Value→Shared→Prop}
theorem Inv.ko(I:Inv X pins σ H s)(E:Value→Shared→Prop):Inv (X.ko E) pins σ H s:=⟨I.ok.ko E,I.os,I.bare,I.base,I.loc,I.cell,I.free,I.fW,I.pin,I.aO,I.len⟩
theorem Inv.gY(I:Inv (X.ko E) pins σ H s):Inv X pins σ H s:=⟨I.ok.gY,I.os,I.bare,I.base,I.loc,I.cell,I.free,I.fW,I.pin,I.aO,I.len⟩
theorem SP.gY{D:Ends}{f:Flow}{s':Shared}(h:SP (X.ko E) pins D f s'):SP X pins D f s':=by
 cases f with
 |next=>obtain⟨σ',H',I,q⟩:=h;exact⟨σ',H',I.gY,q⟩
 |brk=>obtain⟨σ',H',I,q⟩:=h;exact⟨σ',H',I.gY,q⟩
 |cont=>obtain⟨σ',H',I,q⟩:=h;exact⟨σ',H',I.gY,q⟩
 |ret u=>obtain⟨v,σ',H',I,r,q⟩:=h;exact⟨v,σ',H',I.gY,r,q⟩
theorem kl.qD{st:List Stmt}{t:TS}(h:kl X.qD st t):kl X st t:=fun pins s σ H D I hw=>
 wpAny_mono (h pins s σ H D (I.ko _) hw) (fun _ _ q=>q.gY) fun _ _ z=>False.elim z
end
section
variable{X:Cx}{st:Stmt}{rest:List Stmt}{t u:TS}{e:Expr}{te:TE}{pos:Pos}
def Ji:TS:=fun D σ H=>D.nx σ H
def Ib(t u:TS):TS:=fun D σ H=>t { D with nx:=u D } σ H
theorem Cf:kl X [] Ji:=fun _ _ σ H _ I h=>wpAny_execs_nil ⟨σ,H,I,h⟩
theorem AU(h1:PS X st t)(h2:kl X rest u):kl X (st::rest) (Ib t u):=by
 intro pins s σ H D I h
 refine wpAny_execs_cons (bF (h1 pins s σ H { D with nx:=u D } I h) fun f s1 q=>?_)
 cases f with
 |next=>
  obtain⟨σ',H',I',q⟩:=q
  exact h2 pins s1 σ' H' D I' q
 |ret v=>exact q
 |brk=>exact q
 |cont=>exact q
theorem Cg(h1:PS X st t):kl X [st] t:=by
 intro pins s σ H D I h
 refine wpAny_execs_cons (bF (h1 pins s σ H D I h) fun f s1 q=>?_)
 cases f with
 |next=>exact wpAny_execs_nil q
 |ret v=>exact q
 |brk=>exact q
 |cont=>exact q
theorem Inv.quiet{pins:List (Addr×Obj)}{σ:St}{H:Hp}{s:Shared}(I:Inv X pins σ H s):interactive X.env=false:=by simp[interactive,I.ok.kind]
def Jj(te:TE):TS:=fun D σ H=>te σ H fun _ H1=>D.nx σ H1
theorem Ci(he:PE X e te)(hs:swapsWith e none pos.line X.env=pure false:=by rfl):PS X (.Expr e pos) (Jj te):=by
 intro pins s σ H D I h
 exact wpAny_Expr_any (bF (he pins s σ H _ I h) fun v s1 ⟨x,H1,I1,r1,q1⟩=>⟨σ,H1,I1,q1⟩) I.quiet hs
def MO(te:TE):TS:=fun D σ H=>te σ H D.rt
theorem Ff(he:PE X e te):PS X (.Return (some e) pos) (MO te):=by
 intro pins s σ H D I h
 exact wpAny_Return_some (bF (he pins s σ H _ I h) fun v s1 ⟨x,H1,I1,r1,q1⟩=>⟨x,σ,H1,I1,r1,q1⟩)
def MP(c:TT)(t u:TS):TS:=fun D σ H=>c σ H fun b H1=>if b=true then t D σ H1 else u D σ H1
theorem Jk{c:Expr}{a b:List Stmt}{tc:TT}(hc:PT X c tc)(ha:kl X a t)(hb:kl X b u):PS X (.If c a b pos) (MP tc t u):=by
 intro pins s σ H D I h
 refine wpAny_If (bF (hc pins s σ H _ I h) fun d s1 aZ=>?_)
 obtain⟨H1,I1,q1⟩:=aZ
 cases d with
 |true=>exact ha pins s1 σ H1 D I1 q1
 |false=>exact hb pins s1 σ H1 D I1 q1
end
abbrev TG:=V→St→Hp→(St→Hp→Prop)→Prop
abbrev uE:=List V→St→Hp→(St→Hp→Prop)→Prop
namespace Zu
set_option allowUnsafeReducibility true in
@[scoped irreducible] def _root_.L2.PG(X:Cx)(target:Expr)(t:TG):Prop:=
 ∀(pins:List (Addr×Obj)) (s:Shared) (σ:St) (H:Hp) (v:V) (u:Value) (Q:St→Hp→Prop),Inv X pins σ H s→RelV v u→t v σ H Q→
  wpAny (model X.prog X.w) X.A (assign target X.env u) (fun _ s'=>∃σ' H',Inv X pins σ' H' s'∧Q σ' H') X.xe s
end Zu
namespace Zu
set_option allowUnsafeReducibility true in
@[scoped irreducible] def _root_.L2.v_(X:Cx)(ts:List Expr)(t:uE):Prop:=
 ∀(pins:List (Addr×Obj)) (s:Shared) (σ:St) (H:Hp) (vs:List V) (us:List Value) (Q:St→Hp→Prop),Inv X pins σ H s→Vals vs us→t vs σ H Q→
  wpAny (model X.prog X.w) X.A (assignInOrder ((assignEach ts X.env).map (·.2)) us) (fun _ s'=>∃σ' H',Inv X pins σ' H' s'∧Q σ' H') X.xe s
end Zu
abbrev Cj:=V→V→V→Hp→(Hp→Prop)→Prop
def Ic(X:Cx)(t:Cj):Prop:=
 ∀(pins:List (Addr×Obj)) (s:Shared) (σ:St) (H:Hp) (o i v:V) (ov iv u:Value) (Q:Hp→Prop),Inv X pins σ H s→RelV o ov→RelV i iv→RelV v u→t o i v H Q→
  wpAny (model X.prog X.w) X.A (setItem ov iv u) (fun _ s'=>∃H',Inv X pins σ H' s'∧Q H') X.xe s
section
variable{X:Cx}{pos:Pos}
def aI(i:Nat):TG:=fun v σ H Q=>Q (σ.set i (some v)) H
theorem wa{i:Nat}{x:Str}(hN:X.N.Nodup)(hi:X.N[i]? =some x)(hx:Loc X.env.scope x)(hf:X.fn x=true∨X.env.scope.names.lookup x=some .local:=by first|exact .inl rfl|exact .inr rfl|assumption):PG X (.Name x pos) (aI i):=by
 intro pins s σ H v u Q I r h
 exact wpAny_assign_Name (fX I hN hi hx r (fun s' I'=>⟨_,H,I',h⟩) hf)
def jv:uE:=fun vs σ H Q=>vs=[]∧Q σ H
def cE(t:TG)(u:uE):uE:=fun vs σ H Q=>∃v r,vs=v::r∧t v σ H fun σ' H'=>u r σ' H' Q
theorem Ck:v_ X [] jv:=by
 intro pins s σ H vs us Q I r h
 obtain⟨e,h⟩:=h
 subst e
 cases r
 exact assignInOrder_nil ⟨σ,H,I,h⟩
theorem AV{e:Expr}{es:List Expr}{t:TG}{u:uE}(h1:PG X e t)(h2:v_ X es u)
  (hs:(assignEach (e::es) X.env).map (·.2)=assign e X.env::(assignEach es X.env).map (·.2):=by rfl):v_ X (e::es) (cE t u):=by
 intro pins s σ H vs us Q I r h
 obtain⟨v,vr,e1,h⟩:=h
 subst e1
 cases r with
 |cons r rr=>
  rw[hs]
  refine assignInOrder_cons (bF (h1 pins s σ H _ _ _ I r h) fun _ s1 aZ=>?_)
  obtain⟨σ1,H1,I1,q1⟩:=aZ
  exact h2 pins s1 σ1 H1 _ _ Q I1 rr q1
def jw(K:PySem.W.Frag)(n:Nat)(t:uE):TG:=fun v σ H Q=>∃a xs,v= .ref a∧df K H a xs∧xs.length=n∧t xs σ H Q
theorem Fg{es:List Expr}{k:Nat}{t:uE}{n:Nat}(hc:X.calm=true)(h:v_ X es t)
  (hn:(assignEach es X.env).length=n:=by rfl)(qE:(assignEach es X.env).findIdx? (·.1)=none:=by rfl):PG X (.Tuple es k pos) (jw X.K n t):=by
 intro pins s σ H v u Q I r hw
 obtain⟨a,xs,e1,hq,hl,hw⟩:=hw
 subst e1
 cases r
 obtain⟨its,rv,ht,hz⟩:=I.tuple hq
 refine assign_Tuple_tuple (I.ok.hd hc) ht (by simp[hn,←hl,rv.length]) qE fun h' hx=>?_
 have I1:Inv X pins σ H { s with heap:=h' }:=I.kept (t':=s.toks) fun b o e=>hx b o (Nat.ne_of_lt (Heap.lt_size e)) e
 exact h pins _ σ H xs _ Q I1 (by simpa using rv) hw
def bR(to ti:TE)(t:Cj):TG:=fun v σ H Q=>to σ H fun o H1=>ti σ H1 fun i H2=>t o i v H2 fun H3=>Q σ H3
theorem Fh{o i:Expr}{to ti:TE}{t:Cj}(ho:PE X o to)(hi:PE X i ti)(hs:Ic X t)
  (ha:∀v,assign (.Subscript o i pos) X.env v=(do
   let ov ←holding [v] (eval o X.env)
   let iv ←holding [v,ov] (eval i X.env)
   standAt pos
   holding [v,ov,iv] (setItem ov iv v)
   release [v,ov,iv] []):=by intro _;rfl):PG X (.Subscript o i pos) (bR to ti t):=by
 intro pins s σ H v u Q I r h
 rw[ha]
 refine wpAny_bind (wpAny_holding (bF (ho pins s σ H _ I h) fun ov s1 aZ=>?_))
 obtain⟨x,H1,I1,r1,q1⟩:=aZ
 refine wpAny_bind (wpAny_holding (bF (hi pins s1 σ H1 _ I1 q1) fun iv s2 aZ=>?_))
 obtain⟨y,H2,I2,r2,q2⟩:=aZ
 refine wpAny_bind (wpAny_standAt (wpAny_bind (wpAny_holding (bF (hs pins s2 σ H2 x y v ov iv u _ I2 r1 r2 r q2) fun _ s3 aZ=>?_))))
 obtain⟨H3,I3,q3⟩:=aZ
 exact wpAny_release ⟨σ,H3,I3,q3⟩
def Cm(te:TE)(g:TG):TS:=fun D σ H=>te σ H fun x H1=>g x σ H1 D.nx
theorem Fi{tg e:Expr}{te:TE}{g:TG}(he:PE X e te)(hg:PG X tg g)(hs:swapsWithSole [tg] e pos.line X.env=pure false:=by rfl)(hw:swappedStores [tg] e X.env=pure none:=by rfl)
  (h1:(assignEach [tg] X.env).map (·.2)=[assign tg X.env]:=by rfl):PS X (.Assign [tg] e pos) (Cm te g):=by
 intro pins s σ H D I h
 refine wpAny_Assign_stores (bF (he pins s σ H _ I h) fun v s1 aZ=>?_) hs hw
 obtain⟨x,H1,I1,r1,q1⟩:=aZ
 rw[h1]
 exact bF (hg pins s1 σ H1 x v _ I1 r1 q1) fun _ s2 q=>q
theorem Fj{i:Nat}{x:Str}{e:Expr}{te:TE}{pos':Pos}(hN:X.N.Nodup)(hi:X.N[i]? =some x)(hx:Loc X.env.scope x)(he:PE X e te)(hs:swapsWith e (some (.Name x pos')) pos.line X.env=pure false:=by rfl)(hf:X.fn x=true∨X.env.scope.names.lookup x=some .local:=by first|exact .inl rfl|exact .inr rfl|assumption):
  PS X (.Assign [.Name x pos'] e pos) (Cm te (aI i)):=by
 intro pins s σ H D I h
 refine wpAny_Assign_Name (bF (he pins s σ H _ I h) fun v s1 aZ=>?_) hs
 obtain⟨y,H1,I1,r1,q1⟩:=aZ
 exact fX I1 hN hi hx r1 (fun s2 I2=>⟨_,H1,I2,q1⟩) hf
def MS(i j:Nat)(ta:TA):TS:=fun D σ H=>ta σ H fun vs H1=>∃v w,vs=[v,w]∧D.nx ((σ.set i (some v)).set j (some w)) H1
theorem Fm{i j:Nat}{x y:Str}{a b:Expr}{ta:TA}{px py pt:Pos}{kt k2 mM}(hc:X.calm=true)(hN:X.N.Nodup)(hi:X.N[i]? =some x)(hj:X.N[j]? =some y)(cX:i≠j)
  (hx:X.env.scope.names.lookup x=some .local)(hy:X.env.scope.names.lookup y=some .local)(ha:PA X [a,b] ta)
  (hw:swappedStores [.Tuple [.Name x px,.Name y py] kt pt] (.Tuple [a,b] k2 mM) X.env=pure (some [x,y]))
  (hs:swapsWithSole [.Tuple [.Name x px,.Name y py] kt pt] (.Tuple [a,b] k2 mM) pos.line X.env=pure false:=by rfl):
  PS X (.Assign [.Tuple [.Name x px,.Name y py] kt pt] (.Tuple [a,b] k2 mM) pos) (MS i j ta):=by
 intro pins s σ H D I h
 rw[exec_Assign_arm]
 refine wpAny_bind (wpAny_standAt ?_)
 rw[hs]
 refine wpAny_bind (wpAny_pure ?_)
 rw[if_neg (by decide)]
 refine wpAny_bind (Tuple_ (bF (ha _ pins s σ H _ I h) fun us s1 aZ=>?_))
 obtain⟨vs,H1,I1,r1,q1⟩:=aZ
 obtain⟨v,w,e1,q1⟩:=q1
 subst e1
 obtain⟨u1,u2,rfl,rv,tp⟩:∃u1 u2,us=[u1,u2]∧RelV v u1∧RelV w u2:=by
  cases r1 with
  |cons p q=>
   cases q with
   |cons p' q'=>
    cases q'
    exact⟨_,_,rfl,p,p'⟩
 refine wpAny_newObj_type ?_ (by show 2≤sizeLine;decide)
 have I2:Inv X pins σ H1 { s1 with heap:=s1.heap.push { cls:=.type "tuple",data:=.seq [u1,u2].toArray } }:=I1.kept (t':=s1.toks) fun b o e=>Heap.get?_push_of_some _ e
 rw[hw]
 refine wpAny_bind (wpAny_pure ?_)
 show wpAny (model X.prog X.w) X.A (do rule "assign.swapped-stores";let items ←unpackItems (.ref s1.heap.objs.size) 2 none;assignInOrder [fun v=>bindName X.env y v,fun v=>bindName X.env x v] items.reverse;pure Flow.next) _ _ _
 refine wpAny_bind (wpAny_rule (wpAny_bind (unpackItems_tuple (items:=#[u1,u2]) (I.ok.hd hc) (IsTup.new s1.heap _) fun h' cB=>?_)))
 have I3:=I2.kept (h':=h') (t':=s1.toks) fun b o e=>cB b o (Nat.ne_of_lt (Heap.lt_size e)) e
 show wpAny _ _ (assignInOrder [fun v=>bindName X.env y v,fun v=>bindName X.env x v] [u2,u1] >>= fun _=>pure Flow.next) _ _ _
 refine wpAny_bind (assignInOrder_cons (wpAny_bindName (fX I3 hN hj (.inl hy) tp (fun s2 I4=>?_) (.inr hy))))
 refine assignInOrder_cons (wpAny_bindName (fX I4 hN hi (.inl hx) rv (fun s3 I5=>assignInOrder_nil (wpAny_pure ?_)) (.inr hx)))
 rw[List.set_comm _ _ (Ne.symm cX)]at I5
 exact⟨_,H1,I5,q1⟩
end
section
variable{X:Cx}{pos:Pos}
def Fn(c:TT)(tb:TS):TS:=fun D σ H=>∃W:Nat→St→Hp→Prop,(∃m,W m σ H)∧∀m σ H,W m σ H→
 c σ H fun b H1=>if b=true then ∃N:St→Hp→Prop,(∀σ' H',N σ' H'→∃m',m'<m∧W m' σ' H')∧tb { D with nx:=N,ct:=N,bk:=D.nx } σ H1 else D.nx σ H1
theorem AW{c:Expr}{body:List Stmt}{tc:TT}{tb:TS}(hp:PassesOwn (model X.prog X.w) X.A X.env X.xe)(hc:PT X c tc)(hb:kl X body tb):PS X (.While c body [] pos) (Fn tc tb):=by
 intro pins s σ H D I h
 obtain⟨W,⟨m0,w0⟩,turn⟩:=h
 refine wpAny_While (codeAny_whileLoop (fun n s'=>∃σ' H',Inv X pins σ' H' s'∧W n σ' H') ?_ m0 ⟨σ,H,I,w0⟩)
 rintro n s1 ⟨σ1,H1,I1,w1⟩
 refine wpAny_passesOwn hp (bF (hc pins s1 σ1 H1 _ I1 (turn n σ1 H1 w1)) fun b s2 aZ=>?_)
 obtain⟨H2,I2,q2⟩:=aZ
 cases b with
 |true=>
  obtain⟨N,hN,q2⟩:=q2
  rw[if_pos rfl]
  refine wpAny_passesOwn hp (bF (hb pins s2 σ1 H2 _ I2 q2) fun f s3 q3=>?_)
  cases f with
  |next=>
   obtain⟨oH,H3,I3,n3⟩:=q3
   obtain⟨m',hm,w3⟩:=hN oH H3 n3
   exact⟨m',hm,oH,H3,I3,w3⟩
  |cont=>
   obtain⟨oH,H3,I3,n3⟩:=q3
   obtain⟨m',hm,w3⟩:=hN oH H3 n3
   exact⟨m',hm,oH,H3,I3,w3⟩
  |brk=>exact q3
  |ret v=>exact q3
 |false=>
  rw[if_neg Bool.false_ne_true]
  exact wpAny_execs_nil ⟨σ1,H2,I2,q2⟩
end
structure It where
 go:Nat→Hp→Prop
 Cn:Nat→Hp→V→Hp→Prop
 stop:Nat→Hp→Prop
def iR(X:Cx)(pins:List (Addr×Obj))(H:Hp)(b:Addr):Prop:=
 H b=none∧b≠X.env.locals∧b∉X.fs∧(b∈X.ex∨X.aY.heap.objs.size≤b)∧(∀x c,X.env.cells.lookup x=some c→c≠b)∧∀p∈X.pn++pins,p.1≠b
theorem Inv.wb{X:Cx}{pins:List (Addr×Obj)}{σ:St}{H H':Hp}{s:Shared}{b:Addr}(I:Inv X pins σ H s)(hb:s.heap.objs.size≤b)(hn:H' b=none):iR X pins H' b:=by
 refine⟨hn,Nat.ne_of_gt (Nat.lt_of_lt_of_le I.lt hb),I.H_ hb,.inr (Nat.le_trans I.sz hb),fun x c e z=>?_,fun p hp z=>?_⟩
 ·obtain⟨v,q⟩:=I.cell x c e
  exact absurd (Nat.lt_of_lt_of_le q.lt (by rw[z];exact hb)) (Nat.lt_irrefl _)
 ·exact absurd (Nat.lt_of_lt_of_le (Heap.lt_size (I.pin p hp).1) (by rw[z];exact hb)) (Nat.lt_irrefl _)
structure Turn(P:Program)(w:World)(K:PySem.W.Frag)(tg:Expr)(J:It)(fp:List Addr)(it:Addr)(tn:Nat→Heap→Prop):Prop where
 mem:it∈fp
 obj:∀i h,tn i h→∀b∈fp,∃o,h.get? b=some o∧∀v,o.data≠.cell v
 keep:∀i h h',tn i h→(∀b∈fp,∀o,h.get? b=some o→h'.get? b=some o)→tn i h'
 item:∀(X:Cx),X.prog=P→X.w=w→X.K=K→X.calm=true→∀(i:Nat) (pins:List (Addr×Obj)) (s:Shared) (σ:St) (H:Hp) (E:Value→Shared→Prop),Inv X pins σ H s→(∀b∈fp,iR X pins H b)→tn i s.heap→J.go i H→
  wpAny (model P w) X.A (pyNext (.ref it)) (fun r s1=>∃u,r=some u∧
   wpAny (model P w) X.A (letOwnedTupleGo tg (.ref it) u) (fun _ s2=>∃x H',Inv X pins σ H' s2∧RelV x u∧J.Cn i H x H'∧tn (i+1) s2.heap∧∀b∈fp,H' b=none) E s1) E s
 done:∀(X:Cx),X.prog=P→X.w=w→X.K=K→X.calm=true→∀(i:Nat) (pins:List (Addr×Obj)) (s:Shared) (σ:St) (H:Hp) (E:Value→Shared→Prop),Inv X pins σ H s→(∀b∈fp,iR X pins H b)→tn i s.heap→J.stop i H→
  wpAny (model P w) X.A (pyNext (.ref it)) (fun r s1=>r=none∧Inv X pins σ H s1) E s
 self:∀(A:Around) (i:Nat) (s:Shared) (Q:Value→Shared→Prop) (E:Value→Shared→Prop),tn i s.heap→Q (.ref it) s→wpAny (model P w) A (pyIter (.ref it)) Q E s
abbrev TI:=St→Hp→(It→Hp→Prop)→Prop
def Jl(X:Cx)(pins:List (Addr×Obj))(σ:St)(tg:Expr)(R:It→Hp→Prop)(Fo:Value)(s2:Shared):Prop:=
 ∃(it:Addr) (fp:List Addr) (tn:Nat→Heap→Prop) (J:It) (H':Hp),Fo= .ref it∧Inv X pins σ H' s2∧Turn X.prog X.w X.K tg J fp it tn∧tn 0 s2.heap∧(∀b∈fp,iR X pins H' b)∧R J H'
namespace Zu
set_option allowUnsafeReducibility true in
@[scoped irreducible] def _root_.L2.PI(X:Cx)(tg iter:Expr)(wi:TI):Prop:=
 ∀(pins:List (Addr×Obj)) (s:Shared) (σ:St) (H:Hp) (R:It→Hp→Prop),Inv X pins σ H s→wi σ H R→
  wpAny (model X.prog X.w) X.A (eval iter X.env) (fun v s1=>wpAny (model X.prog X.w) X.A (pyIter v) (Jl X pins σ tg R) X.xe s1) X.xe s
end Zu
theorem uF{M:Model}{A:Around}{E:Value→Shared→Prop}{s:Shared}{tg:Expr}{it:Addr}{u:Value}{o:Obj}{n:String}{vs:Array Value}{Q:Unit→Shared→Prop}(ho:s.heap.get? it=some o)(hc:o.cls= .type n)(hd:o.data= .fields vs)
  (hn: ["enumerate","zip","dict_itemiterator","dict_reverseitemiterator","odict_iterator","itertools.zip_longest","itertools.pairwise"].contains n=false)(hQ:Q () s):wpAny M A (letOwnedTupleGo tg (.ref it) u) Q E s:=by
 unfold letOwnedTupleGo
 cases tg<;>first
  |exact wpAny_pure hQ
  |(cases u<;>first
    |exact wpAny_pure hQ
    |(refine wpAny_bind (wpAny_load ho ?_)
      rw[hc,hd]
      show wpAny M A (if (["enumerate","zip","dict_itemiterator","dict_reverseitemiterator","odict_iterator","itertools.zip_longest","itertools.pairwise"].contains n&&vs[0]?==some (rawInt _))=true then _ else _) Q E s
      rw[if_neg (by intro h;rw[hn,Bool.false_and]at h;cases h)]
      exact wpAny_pure hQ))
def MT(K:PySem.W.Frag)(a:Addr):It:=
 ⟨fun i H=>∃xs x,cD K H a xs∧xs[i]? =some x,fun i H x H'=>H'=H∧∀xs,cD K H a xs→xs[i]? =some x,fun i H=>∃xs,cD K H a xs∧xs.length≤i⟩
def MU(K:PySem.W.Frag)(a:Addr):It:=
 ⟨fun i H=>∃xs x,df K H a xs∧xs[i]? =some x,fun i H x H'=>H'=H∧∀xs,df K H a xs→xs[i]? =some x,fun i H=>∃xs,df K H a xs∧xs.length≤i⟩
def Co(lo:Int)(n:Nat):It:=⟨fun i _=>i<n,fun i H x H'=>H'=H∧x= .int (lo+i),fun i _=>n≤i⟩
theorem x9{P:Program}{w:World}{K:PySem.W.Frag}{tg:Expr}(a it:Addr):Turn P w K tg (MT K a) [it] it (fun i h=>h.IsListIter it a i) where
 mem:=by simp
 obj:=fun i h st b hb=>by
  have e:b=it:=by simpa using hb
  subst e
  obtain⟨o,e,c,d⟩:=st
  exact⟨o,e,fun v z=>by rw[d]at z;cases z⟩
 keep:=fun i h h' st k=>st.at fun o e=>k it (by simp) o e
 item:=by
  intro X hP hw hK hc i pins s σ H E I hf st hg
  subst hP hw hK
  obtain⟨xs,x,hq,hx⟩:=hg
  obtain⟨its,rv,p,hz⟩:=I.list hq
  obtain⟨u,hu,ru⟩:=rv.get hx
  obtain⟨f0,f1,f2,f3,f4,f5⟩:=hf it (by simp)
  refine wpAny_pyNext_list_item st p.isList (x:=u) (by simpa using hu) fun h' aA sb=>?_
  have I1:Inv X pins σ H { s with heap:=h' }:=I.turned (t':=s.toks) (fun b o hb e=>(sb.2 b hb).trans e) f0 f1 f3 f4 f5
  obtain⟨o,e,c,d⟩:=id aA
  exact⟨u,rfl,uF (s:={ s with heap:=h' }) e c d (by decide) ⟨x,H,I1,ru,⟨rfl,fun ys hy=>by rw[I.tY hy hq];exact hx⟩,aA,fun b hb=>(hf b hb).1⟩⟩
 done:=by
  intro X hP hw hK hc i pins s σ H E I hf st hg
  subst hP hw hK
  obtain⟨xs,hq,hx⟩:=hg
  obtain⟨its,rv,p,hz⟩:=I.list hq
  obtain⟨f0,f1,f2,f3,f4,f5⟩:=hf it (by simp)
  have hl:=rv.length
  exact wpAny_pyNext_list_end (I.ok.hd hc) st p.isList (by simp;omega) fun h' eb=>⟨rfl,I.turned (t':=s.toks) (fun b o hb e=>eb b o hb e) f0 f1 f3 f4 f5⟩
 self:=fun _ _ _ _ _ st h=>wpAny_pyIter_listiter st h
theorem wc{P:Program}{w:World}{K:PySem.W.Frag}{tg:Expr}(a it:Addr):Turn P w K tg (MU K a) [it] it (fun i h=>h.IsTupleIter it a i) where
 mem:=by simp
 obj:=fun i h st b hb=>by
  have e:b=it:=by simpa using hb
  subst e
  obtain⟨o,e,c,d⟩:=st
  exact⟨o,e,fun v z=>by rw[d]at z;cases z⟩
 keep:=fun i h h' st k=>st.at fun o e=>k it (by simp) o e
 item:=by
  intro X hP hw hK hc i pins s σ H E I hf st hg
  subst hP hw hK
  obtain⟨xs,x,hq,hx⟩:=hg
  obtain⟨its,rv,p,hz⟩:=I.tuple hq
  obtain⟨u,hu,ru⟩:=rv.get hx
  obtain⟨f0,f1,f2,f3,f4,f5⟩:=hf it (by simp)
  refine wpAny_pyNext_tuple_item st (show s.heap.IsTuple a its.toArray from p) (x:=u) (by simpa using hu) fun h' aA sb=>?_
  have I1:Inv X pins σ H { s with heap:=h' }:=I.turned (t':=s.toks) (fun b o hb e=>(sb.2 b hb).trans e) f0 f1 f3 f4 f5
  obtain⟨o,e,c,d⟩:=id aA
  exact⟨u,rfl,uF (s:={ s with heap:=h' }) e c d (by decide) ⟨x,H,I1,ru,⟨rfl,fun ys hy=>by rw[I.x8 hy hq];exact hx⟩,aA,fun b hb=>(hf b hb).1⟩⟩
 done:=by
  intro X hP hw hK hc i pins s σ H E I hf st hg
  subst hP hw hK
  obtain⟨xs,hq,hx⟩:=hg
  obtain⟨its,rv,p,hz⟩:=I.tuple hq
  obtain⟨f0,f1,f2,f3,f4,f5⟩:=hf it (by simp)
  have hl:=rv.length
  exact wpAny_pyNext_tuple_end (I.ok.hd hc) st (show s.heap.IsTuple a its.toArray from p) (by simp;omega) fun h' eb=>⟨rfl,I.turned (t':=s.toks) (fun b o hb e=>eb b o hb e) f0 f1 f3 f4 f5⟩
 self:=fun _ _ _ _ _ st h=>wpAny_pyIter_tupleiter st h
theorem wd{P:Program}{w:World}{K:PySem.W.Frag}{tg:Expr}(it:Addr)(lo:Int)(n:Nat):Turn P w K tg (Co lo n) [it] it (fun i h=>IsRangeIter h it (lo+(i:Nat)*1) ((n:Int) - (i:Nat)) 1) where
 mem:=by simp
 obj:=fun i h st b hb=>by
  have e:b=it:=by simpa using hb
  subst e
  exact⟨_,st,fun v z=>by
   have z':Data.fields _=Data.cell v:=z
   cases z'⟩
 keep:=fun i h h' st k=>k it (by simp) _ st
 item:=by
  intro X hP hw hK hc i pins s σ H E I hf st hg
  subst hP hw hK
  obtain⟨f0,f1,f2,f3,f4,f5⟩:=hf it (by simp)
  have W:=Walks.range (prog:=X.prog) (w:=X.w) (I.ok.hd hc) it lo 1 n
  refine W.item i s _ _ hg st fun v h' tk hv aA kk=>?_
  obtain⟨t,rfl⟩:=hv
  have I1:Inv X pins σ H { s with heap:=h',toks:=tk }:=I.turned (fun b o hb e=>kk b o (by simpa using hb) e) f0 f1 f3 f4 f5
  refine⟨_,rfl,uF (s:={ s with heap:=h',toks:=tk }) (n:="range_iterator") aA rfl rfl (by decide) ⟨.int (lo+i),H,I1,⟨t,?_⟩,⟨rfl,rfl⟩,aA,fun b hb=>(hf b hb).1⟩⟩
  rw[Int.mul_one]
 done:=by
  intro X hP hw hK hc i pins s σ H E I hf st hg
  subst hP hw hK
  obtain⟨f0,f1,f2,f3,f4,f5⟩:=hf it (by simp)
  exact wpAny_pyNext_range_end (I.ok.hd hc) st (by have:n≤i:=hg;omega) fun h' eb=>⟨rfl,I.turned (t':=s.toks) (fun b o hb e=>eb b o hb e) f0 f1 f3 f4 f5⟩
 self:=fun _ _ _ _ _ st h=>wpAny_pyIter_rangeiter st h
end L2
namespace L2
open PySem PySem.Spec PyProof.Rows
section
variable{X:Cx}{tg:Expr}
def Jm(K:PySem.W.Frag)(tl:TE):TI:=fun σ H R=>tl σ H fun x H1=>∃a,x= .ref a∧(∃xs,cD K H1 a xs)∧R (MT K a) H1
def qF(K:PySem.W.Frag)(tl:TE):TI:=fun σ H R=>tl σ H fun x H1=>∃a,x= .ref a∧(∃xs,df K H1 a xs)∧R (MU K a) H1
theorem Cp{l:Expr}{tl:TE}(hl:PE X l tl):PI X tg l (Jm X.K tl):=by
 intro pins s σ H R I h
 refine bF (hl pins s σ H _ I h) fun v s1 aZ=>?_
 obtain⟨x,H1,I1,r1,q1⟩:=aZ
 obtain⟨a,e,⟨xs,hq⟩,q⟩:=q1
 subst e
 cases r1
 obtain⟨its,rv,p,hz⟩:=I1.list hq
 refine wpAny_pyIter_list p.isList ?_
 refine⟨s1.heap.objs.size,[s1.heap.objs.size],_,_,H1,rfl,I1.kept (t':=s1.toks) fun b o e=>Heap.get?_push_of_some _ e,x9 a _,⟨_,Heap.get?_push_size _ rfl,rfl,rfl⟩,fun b hb=>?_,q⟩
 have e:b=s1.heap.objs.size:=by simpa using hb
 subst e
 exact I1.wb (Nat.le_refl _) (I1.aO.fresh (Nat.le_refl _))
theorem Fp{l:Expr}{tl:TE}(hl:PE X l tl):PI X tg l (qF X.K tl):=by
 intro pins s σ H R I h
 refine bF (hl pins s σ H _ I h) fun v s1 aZ=>?_
 obtain⟨x,H1,I1,r1,q1⟩:=aZ
 obtain⟨a,e,⟨xs,hq⟩,q⟩:=q1
 subst e
 cases r1
 obtain⟨its,rv,p,hz⟩:=I1.tuple hq
 refine wpAny_pyIter_tuple (show s1.heap.IsTuple a its.toArray from p) ?_
 refine⟨s1.heap.objs.size,[s1.heap.objs.size],_,_,H1,rfl,I1.kept (t':=s1.toks) fun b o e=>Heap.get?_push_of_some _ e,wc a _,⟨_,Heap.get?_push_size _ rfl,rfl,rfl⟩,fun b hb=>?_,q⟩
 have e:b=s1.heap.objs.size:=by simpa using hb
 subst e
 exact I1.wb (Nat.le_refl _) (I1.aO.fresh (Nat.le_refl _))
theorem tZ{pins:List (Addr×Obj)}{σ:St}{H:Hp}{s:Shared}{R:It→Hp→Prop}{E:Value→Shared→Prop}{lo hi:Int}{t u v:Tok}{tk:Nat}(I:Inv X pins σ H s)(h1: -(2 ^ 62)≤lo)(h2:lo<2 ^ 62)(h3: -(2 ^ 62)≤hi)(h4:hi<2 ^ 62)
  (q:R (Co lo (hi - lo).toNat) H):wpAny (model X.prog X.w) X.A (pyIter (.ref s.heap.objs.size)) (Jl X pins σ tg R) E { s with heap:=s.heap.push { cls:=.type "range",data:=.fields #[.int lo t,.int hi u,.int 1 v] },toks:=tk }:=by
 refine wpAny_pyIter_range (IsRange.new ..) (small_one h1 h2 h3 h4) ?_
 have I1:Inv X pins σ H { s with heap:=s.heap.push { cls:=.type "range",data:=.fields #[.int lo t,.int hi u,.int 1 v] },toks:=tk }:=I.kept fun b o e=>Heap.get?_push_of_some _ e
 refine⟨(s.heap.push { cls:=.type "range",data:=.fields #[.int lo t,.int hi u,.int 1 v] }).objs.size,[(s.heap.push { cls:=.type "range",data:=.fields #[.int lo t,.int hi u,.int 1 v] }).objs.size],_,_,H,rfl,
  I1.kept (t':=tk) fun b o e=>Heap.get?_push_of_some _ e,wd _ lo (hi - lo).toNat,?_,fun b hb=>?_,q⟩
 ·have e1:lo+((0:Nat):Int)*1=lo:=by simp
  have e2:(((hi - lo).toNat:Nat):Int) - ((0:Nat):Int)=Builtin.Range.rangeSize lo hi 1:=by rw[rangeSize_one];split<;>omega
  show IsRangeIter _ _ (lo+((0:Nat):Int)*1) ((((hi - lo).toNat:Nat):Int) - ((0:Nat):Int)) 1
  rw[e1,e2]
  exact Heap.get?_push_size _ rfl
 ·have e:b=(s.heap.push { cls:=.type "range",data:=.fields #[.int lo t,.int hi u,.int 1 v] }).objs.size:=by simpa using hb
  subst e
  exact I1.wb (Nat.le_refl _) (I1.aO.fresh (Nat.le_refl _))
def fB(ta:TA):TI:=fun σ H R=>ta σ H fun vs H1=>∃j:Int,vs=[.int j]∧-(2 ^ 62)≤j∧j<2 ^ 62∧R (Co 0 j.toNat) H1
def jb(ta:TA):TI:=fun σ H R=>ta σ H fun vs H1=>∃i j:Int,vs=[.int i,.int j]∧(-(2 ^ 62)≤i∧i<2 ^ 62∧-(2 ^ 62)≤j∧j<2 ^ 62)∧R (Co i (j - i).toNat) H1
theorem x_{a:Expr}{ta:TA}{p pos:Pos}(hg:Gl X "range")(hm:X.mg "range" =none)(ha:PA X [a] ta)(hs:starEach [a] X.env=[(false,eval a X.env)]:=by rfl):PI X tg (.Call (.Name "range" p) [a] [] pos) (fB ta):=by
 intro pins s σ H R I h
 refine Call_ (gX I hg hm boot_range (PyProof.Rows.callWith_type1 (bF (ha pos pins s σ H _ I h) fun us s1 aZ=>?_) hs rfl))
 obtain⟨vs,H1,I1,r1,q1⟩:=aZ
 obtain⟨j,e,q1,q2,q⟩:=q1
 subst e
 cases r1 with
 |cons r rr=>
  cases rr
  obtain⟨t,rfl⟩:=r
  exact call_range_1 (tZ I1 (by omega) (by omega) q1 q2 (by simpa using q))
theorem ya{a b:Expr}{ta:TA}{p pos:Pos}(hg:Gl X "range")(hm:X.mg "range" =none)(ha:PA X [a,b] ta)(hs:starEach [a,b] X.env=[(false,eval a X.env),(false,eval b X.env)]:=by rfl)(md:starEach [b] X.env=[(false,eval b X.env)]:=by rfl):
  PI X tg (.Call (.Name "range" p) [a,b] [] pos) (jb ta):=by
 intro pins s σ H R I h
 refine Call_ (gX I hg hm boot_range (PyProof.Rows.callWith_type1 (bF (ha pos pins s σ H _ I h) fun us s1 aZ=>?_) (by rw[hs,md]) (by rw[md];rfl)))
 obtain⟨vs,H1,I1,r1,q1⟩:=aZ
 obtain⟨i,j,e,⟨q1,q2,q3,q4⟩,q⟩:=q1
 subst e
 cases r1 with
 |cons r rr=>
  cases rr with
  |cons r' rr=>
   cases rr
   obtain⟨t,rfl⟩:=r
   obtain⟨t',rfl⟩:=r'
   exact call_range_2 (tZ I1 q1 q2 q3 q4 q)
def MV(wi:TI)(g:TG)(tb:TS):TS:=fun D σ H=>wi σ H fun J H1=>∃W:Nat→Nat→St→Hp→Prop,(∃m,W 0 m σ H1)∧∀i m σ H,W i m σ H→
 (J.stop i H∧D.nx σ H)∨(J.go i H∧∃N:St→Hp→Prop,(∀σ' H',N σ' H'→∃m',m'<m∧W (i+1) m' σ' H')∧∀x H',J.Cn i H x H'→g x σ H' fun AX H2=>tb { D with nx:=N,ct:=N,bk:=D.nx } AX H2)
def nv(fp:List Addr)(h:Heap):List (Addr×Obj):=fp.filterMap fun b=>(h.get? b).map fun o=>(b,o)
theorem iS{fp:List Addr}{h:Heap}{b:Addr}{o:Obj}(hb:b∈fp)(e:h.get? b=some o):(b,o)∈nv fp h:=List.mem_filterMap.mpr ⟨b,hb,by rw[e];rfl⟩
theorem yb{fp:List Addr}{h:Heap}{p:Addr×Obj}(hp:p∈nv fp h):p.1∈fp∧h.get? p.1=some p.2:=by
 obtain⟨b,hb,e⟩:=List.mem_filterMap.mp hp
 cases q:h.get? b with
 |none=>rw[q]at e;cases e
 |some o=>
  rw[q]at e
  have e':(b,o)=p:=Option.some.inj e
  subst e'
  exact⟨hb,q⟩
theorem Inv.pinned{pins:List (Addr×Obj)}{σ:St}{H:Hp}{s:Shared}{fp:List Addr}(I:Inv X pins σ H s)(hf:∀b∈fp,iR X pins H b)(ho:∀b∈fp,∃o,s.heap.get? b=some o∧∀v,o.data≠.cell v):Inv X (pins++nv fp s.heap) σ H s:=
 I.qC fun p hp=>(List.mem_append.mp hp).elim (fun z=>I.pin p (List.mem_append_right _ z)) fun z=>by
  obtain⟨hb,e⟩:=yb z
  obtain⟨f0,f1,f2,_⟩:=hf p.1 hb
  obtain⟨o,e',d⟩:=ho p.1 hb
  rw[e]at e';cases e'
  exact⟨e,f0,f1,f2,d⟩
theorem Inv.jx{pins pl:List (Addr×Obj)}{σ:St}{H:Hp}{s:Shared}(I:Inv X (pins++pl) σ H s):Inv X pins σ H s:=I.qC fun p hp=>I.pin p (List.mem_append_right _ (List.mem_append_left _ hp))
theorem Fq{iter:Expr}{body:List Stmt}{wi:TI}{g:TG}{tb:TS}{pos:Pos}(hp:PassesOwn (model X.prog X.w) X.A X.env X.xe)(hc:X.calm=true)(hi:PI X tg iter wi)(hg:PG X tg g)(hb:kl X body tb)
  (hs:∀x,foldedSetIterable iter X.env x=pure x:=by intro _;rfl):PS X (.For tg iter body [] pos) (MV wi g tb):=by
 intro pins s σ H D I h
 refine wpAny_For (bF (hi pins s σ H _ I h) fun v s1 h1=>bF h1 fun Fo s2 h2=>?_) hs
 obtain⟨it,fp,tn,J,H2,e,I2,T,bz,f2,W,⟨m0,w0⟩,turn⟩:=h2
 subst e
 -- U2 stays true of yc Ie objects through yc loop
 have Cq:∀{H':Hp},(∀b∈fp,H' b=none)→∀b∈fp,iR X pins H' b:=fun hn b hb=>⟨hn b hb,(f2 b hb).2⟩
 refine codeAny_forLoop_any (fun n s'=>∃i σ' H',Inv X pins σ' H' s'∧tn i s'.heap∧(∀b∈fp,H' b=none)∧W i n σ' H') ?_ m0 ⟨0,σ,H2,I2,bz,fun b hb=>(f2 b hb).1,w0⟩
 rintro n s3 ⟨i,oH,H3,I3,jy,MW,w3⟩
 rcases turn i n oH H3 w3 with⟨stop,qn⟩|⟨go,N,hN,step⟩
 ·refine wpAny_passesOwn hp (bF (T.done X rfl rfl rfl hc i pins s3 oH H3 X.xe I3 (Cq MW) jy stop) fun r s4 aZ=>?_)
  obtain⟨hr,I4⟩:=aZ
  subst hr
  exact wpAny_execs_nil ⟨oH,H3,I4,qn⟩
 ·refine wpAny_passesOwn hp (bF (T.item X rfl rfl rfl hc i pins s3 oH H3 X.xe I3 (Cq MW) jy go) fun r s4 aZ=>?_)
  obtain⟨u,hr,h4⟩:=aZ
  subst hr
  refine wpAny_passesOwn hp (bF h4 fun _ s5 aZ=>?_)
  obtain⟨x,H5,I5,r5,y5,Fs,Rr⟩:=aZ
  have Jn:=I5.pinned (Cq Rr) (T.obj _ _ Fs)
  refine wpAny_passesOwn hp (bF (hg _ s5 oH H5 x u _ Jn r5 (step x H5 y5)) fun _ s6 aZ=>?_)
  obtain⟨Jo,H6,I6,q6⟩:=aZ
  refine wpAny_passesOwn hp (bF (hb _ s6 Jo H6 _ I6 q6) fun f s7 q7=>?_)
  have again:∀{qG:St}{H7:Hp},Inv X (pins++nv fp s5.heap) qG H7 s7→N qG H7→∃m,m<n∧∃i σ' H',Inv X pins σ' H' s7∧tn i s7.heap∧(∀b∈fp,H' b=none)∧W i m σ' H':=fun {qG H7} I7 n7=>by
   obtain⟨m',hm,w7⟩:=hN qG H7 n7
   refine⟨m',hm,i+1,qG,H7,I7.jx,T.keep _ _ _ Fs fun b hb o e=>(I7.pin (b,o) (List.mem_append_right _ (List.mem_append_right _ (iS hb e)))).1,fun b hb=>?_,w7⟩
   obtain⟨o,e,d⟩:=T.obj _ _ Fs b hb
   exact(I7.pin (b,o) (List.mem_append_right _ (List.mem_append_right _ (iS hb e)))).2.1
  cases f with
  |next=>obtain⟨qG,H7,I7,n7⟩:=q7;exact again I7 n7
  |cont=>obtain⟨qG,H7,I7,n7⟩:=q7;exact again I7 n7
  |brk=>obtain⟨qG,H7,I7,q7⟩:=q7;exact⟨qG,H7,I7.jx,q7⟩
  |ret v=>obtain⟨x7,qG,H7,I7,r7,q7⟩:=q7;exact⟨x7,qG,H7,I7.jx,r7,q7⟩
end
end L2
namespace L2
open PySem PySem.Spec PyProof.Rows
abbrev R2:=V→V→Hp→VK→Prop
def eR(X:Cx)(f:Value→Value→Sem Value)(r:R2):Prop:=
 ∀(pins:List (Addr×Obj)) (s:Shared) (σ:St) (H:Hp) (x y:V) (v u:Value) (Q:VK),Inv X pins σ H s→RelV x v→RelV y u→r x y H Q→
  wpAny (model X.prog X.w) X.A (f v u) (EP X pins σ Q) X.xe s
def Jp(X:Cx)(f:Value→Sem Value)(r:V→Hp→VK→Prop):Prop:=
 ∀(pins:List (Addr×Obj)) (s:Shared) (σ:St) (H:Hp) (x:V) (v:Value) (Q:VK),Inv X pins σ H s→RelV x v→r x H Q→
  wpAny (model X.prog X.w) X.A (f v) (EP X pins σ Q) X.xe s
def fC(X:Cx)(f:Value)(r:List V→Hp→VK→Prop):Prop:=
 ∀(pins:List (Addr×Obj)) (s:Shared) (σ:St) (H:Hp) (xs:List V) (us:List Value) (Q:VK),Inv X pins σ H s→Vals xs us→r xs H Q→
  wpAny (model X.prog X.w) X.A (call f us) (EP X pins σ Q) X.xe s
def Cr(r:R2)(ta tb:TE):TE:=fun σ H Q=>ta σ H fun x H1=>tb σ H1 fun y H2=>r x y H2 Q
def Rt(r:V→Hp→VK→Prop)(ta:TE):TE:=fun σ H Q=>ta σ H fun x H1=>r x H1 Q
def rI(C:Int→Int→Prop)(g:Int→Int→V):R2:=fun x y H Q=>∃i j,x= .int i∧y= .int j∧C i j∧Q (g i j) H
def pV(g:Int→Int→V):R2:=fun x y H Q=>∃i j,x= .int i∧y= .int j∧Q (g i j) H
def rU(g:Int→V):V→Hp→VK→Prop:=fun x H Q=>∃i,x= .int i∧Q (g i) H
section
variable{X:Cx}{a b c:Expr}{ta tb tc:TE}{pos:Pos}
theorem Cs(ha:PE X a ta)(hb:PE X b tb){pins:List (Addr×Obj)}{s:Shared}{σ:St}{H:Hp}{R:V→V→Hp→Prop}(I:Inv X pins σ H s)
  (h:ta σ H fun x H1=>tb σ H1 fun y H2=>R x y H2){Q:Value→Shared→Prop}{f:Value→Value→Sem Value}
  (hf:∀v u s2 x y H2,Inv X pins σ H2 s2→RelV x v→RelV y u→R x y H2→wpAny (model X.prog X.w) X.A (f v u) Q X.xe s2):
  wpAny (model X.prog X.w) X.A (eval a X.env) (fun v bD=>wpAny (model X.prog X.w) X.A (eval b X.env) (fun u pF=>wpAny (model X.prog X.w) X.A (f v u) Q X.xe pF) X.xe bD) X.xe s:=by
 refine bF (ha pins s σ H _ I h) fun v s1 aZ=>?_
 obtain⟨x,H1,I1,r1,q1⟩:=aZ
 refine bF (hb pins s1 σ H1 _ I1 q1) fun u s2 aZ=>?_
 obtain⟨y,H2,I2,r2,q2⟩:=aZ
 exact hf v u s2 x y H2 I2 r1 r2 q2
theorem Jq{op:Operator}{r:R2}(ho:eR X (binaryOp op) r)(ha:PE X a ta)(hb:PE X b tb):PE X (.BinOp a op b pos) (Cr r ta tb):=by
 intro pins s σ H Q I h
 exact wpAny_BinOp (Cs ha hb I h fun v u s2 x y H2 I2 rx ry q=>ho pins s2 σ H2 x y v u Q I2 rx ry q)
theorem Jr{op:UnaryOp}{r:V→Hp→VK→Prop}(ho:Jp X (unaryOp op) r)(ha:PE X a ta):PE X (.UnaryOp op a pos) (Rt r ta):=by
 intro pins s σ H Q I h
 exact UnaryOp_ (bF (ha pins s σ H _ I h) fun v s1 ⟨x,H1,I1,r1,q1⟩=>ho pins s1 σ H1 x v Q I1 r1 q1)
theorem Ft{f:Value→Value→Sem Value}{C:Int→Int→Prop}{g:Int→Int→Int}
  (rule:∀(i j:Int) (t u:Tok) (s:Shared) (Q:Value→Shared→Prop) (E:Value→Shared→Prop),C i j→Q (.int (g i j) s.toks) { s with toks:=s.toks+1 }→wpAny (model X.prog X.w) X.A (f (.int i t) (.int j u)) Q E s):
  eR X f (rI C fun i j=>.int (g i j)):=by
 intro pins s σ H x y v u Q I rx ry h
 obtain⟨i,j,rfl,rfl,hc,q⟩:=h
 obtain⟨t,rfl⟩:=rx
 obtain⟨t',rfl⟩:=ry
 exact rule i j t t' s _ _ hc ⟨.int (g i j),H,I.tok _,⟨_,rfl⟩,q⟩
theorem Ig{f:Value→Value→Sem Value}{g:Int→Int→Int}
  (rule:∀(i j:Int) (t u:Tok) (s:Shared) (Q:Value→Shared→Prop) (E:Value→Shared→Prop),Q (.int (g i j) s.toks) { s with toks:=s.toks+1 }→wpAny (model X.prog X.w) X.A (f (.int i t) (.int j u)) Q E s):
  eR X f (pV fun i j=>.int (g i j)):=by
 intro pins s σ H x y v u Q I rx ry h
 obtain⟨i,j,rfl,rfl,q⟩:=h
 obtain⟨t,rfl⟩:=rx
 obtain⟨t',rfl⟩:=ry
 exact rule i j t t' s _ _ ⟨.int (g i j),H,I.tok _,⟨_,rfl⟩,q⟩
theorem Ih{f:Value→Value→Sem Value}{g:Int→Int→Bool}
  (rule:∀(i j:Int) (t u:Tok) (s:Shared) (Q:Value→Shared→Prop) (E:Value→Shared→Prop),Q (.bool (g i j)) s→wpAny (model X.prog X.w) X.A (f (.int i t) (.int j u)) Q E s):
  eR X f (pV fun i j=>.bl (g i j)):=by
 intro pins s σ H x y v u Q I rx ry h
 obtain⟨i,j,rfl,rfl,q⟩:=h
 obtain⟨t,rfl⟩:=rx
 obtain⟨t',rfl⟩:=ry
 exact rule i j t t' s _ _ ⟨.bl (g i j),H,I,rfl,q⟩
def Ii(i j:Int):Prop:=0≤j∧j≤1000000∧i.natAbs<2 ^ 64
theorem Fu:eR X (binaryOp .Add) (pV fun i j=>.int (i+j)):=Ig fun _ _ _ _ _ _ _ q=>add_int q
theorem cu:eR X (binaryOp .Sub) (pV fun i j=>.int (i - j)):=Ig fun _ _ _ _ _ _ _ q=>sub_int q
theorem eK:eR X (binaryOp .Mod) (rI (fun _ j=>j≠0) fun i j=>.int (i.fmod j)):=Ft fun _ _ _ _ _ _ _ hc q=>mod_int' hc q
theorem gi:eR X (binaryOp .Pow) (rI Ii fun i j=>.int (i ^ j.toNat)):=Ft fun _ _ _ _ _ _ _ hc q=>pow_int_small hc.1 hc.2.1 hc.2.2 q
theorem Ru{f:Value→Sem Value}{g:Int→Int}
  (rule:∀(i:Int) (t:Tok) (s:Shared) (Q:Value→Shared→Prop) (E:Value→Shared→Prop),Q (.int (g i) s.toks) { s with toks:=s.toks+1 }→wpAny (model X.prog X.w) X.A (f (.int i t)) Q E s):
  Jp X f (rU fun i=>.int (g i)):=by
 intro pins s σ H x v Q I rx h
 obtain⟨i,rfl,q⟩:=h
 obtain⟨t,rfl⟩:=rx
 exact rule i t s _ _ ⟨.int (g i),H,I.tok _,⟨_,rfl⟩,q⟩
theorem Fv:Jp X (unaryOp .USub) (rU fun i=>.int (-i)):=Ru fun _ _ _ _ _ q=>neg_int q
end
def Ij:V→V→Bool
 |.bL,.bL=>true|.bL,.int _=>true|.int _,.bL=>true|.bL,.bl _=>true|.bl _,.bL=>true|.bL,.str _=>true|.str _,.bL=>true
 |.int _,.int _=>true|.bl _,.bl _=>true|.str _,.str _=>true|.qz _,.qz _=>true
 |.int _,.str _=>true|.str _,.int _=>true|.bl _,.str _=>true|.str _,.bl _=>true
 |_,_=>false
def Fw:R2:=fun x y H Q=>Ij x y=true∧Q (.bl (decide (x=y))) H
def Fx:R2:=fun x y H Q=>Ij x y=true∧Q (.bl (!decide (x=y))) H
theorem we{i j:Int}:decide (V.int i=V.int j)=(i==j):=by
 rw[Bool.eq_iff_iff]
 simp
theorem qg{i j:Bool}:decide (V.bl i=V.bl j)=(i==j):=by
 rw[Bool.eq_iff_iff]
 simp
theorem wg{i j:Str}:decide (V.str i=V.str j)=(i==j):=by
 rw[Bool.eq_iff_iff]
 simp
theorem wj{i j:Array UInt8}:decide (V.qz i=V.qz j)=(i.toList==j.toList):=by
 rw[Bool.eq_iff_iff]
 cases i
 cases j
 simp
section
variable{X:Cx}{a b c:Expr}{ta tb tc:TE}{pos:Pos}
theorem bB{pins:List (Addr×Obj)}{σ:St}{H:Hp}{s:Shared}{Q:VK}{k k':Bool}(I:Inv X pins σ H s)(q:Q (.bl k) H)(e:k=k'):EP X pins σ Q (.bool k') s:=by
 subst e
 exact⟨.bl k,H,I,rfl,q⟩
theorem Js:eR X (compareOp .Eq) Fw:=by
 intro pins s σ H x y v u Q I rx ry h
 obtain⟨hs,q⟩:=h
 cases x with
 |bL=>
  cases rx
  cases y with
  |bL=>cases ry;exact PySem.EqNone.eq_none_none (bB I q (by simp))
  |bl j=>cases ry;exact PySem.EqNone.eq_none_bool (bB I q (by simp))
  |int j=>obtain⟨t',rfl⟩:=ry;exact PySem.EqNone.eq_none_int (bB I q (by simp))
  |str j=>obtain⟨t',rfl⟩:=ry;exact PySem.EqNone.eq_none_str (bB I q (by simp))
  |_=>exact absurd (show false=true from hs) Bool.false_ne_true
 |bl i=>
  cases rx
  cases y with
  |bL=>cases ry;exact PySem.EqNone.eq_bool_none (bB I q (by simp))
  |bl j=>cases ry;exact eq_bool (bB I q qg)
  |str j=>obtain⟨t',rfl⟩:=ry;exact PySem.EqMixed.eq_bool_str (bB I q (by simp))
  |_=>exact absurd (show false=true from hs) Bool.false_ne_true
 |int i=>
  obtain⟨t,rfl⟩:=rx
  cases y with
  |bL=>cases ry;exact PySem.EqNone.eq_int_none (bB I q (by simp))
  |int j=>obtain⟨t',rfl⟩:=ry;exact eq_int (bB I q we)
  |str j=>obtain⟨t',rfl⟩:=ry;exact PySem.EqMixed.eq_int_str (bB I q (by simp))
  |_=>exact absurd (show false=true from hs) Bool.false_ne_true
 |str i=>
  obtain⟨t,rfl⟩:=rx
  cases y with
  |bL=>cases ry;exact PySem.EqNone.eq_str_none (bB I q (by simp))
  |bl j=>cases ry;exact PySem.EqMixed.eq_str_bool (bB I q (by simp))
  |int j=>obtain⟨t',rfl⟩:=ry;exact PySem.EqMixed.eq_str_int (bB I q (by simp))
  |str j=>obtain⟨t',rfl⟩:=ry;exact eq_str (bB I q wg)
  |_=>exact absurd (show false=true from hs) Bool.false_ne_true
 |qz i=>
  obtain⟨t,rfl⟩:=rx
  cases y with
  |qz j=>obtain⟨t',rfl⟩:=ry;exact PySem.W.eq_bytes (bB I q wj)
  |_=>exact absurd (show false=true from hs) Bool.false_ne_true
 |_=>cases y<;>exact absurd (show false=true from hs) Bool.false_ne_true
theorem Jt:eR X (compareOp .NotEq) Fx:=by
 intro pins s σ H x y v u Q I rx ry h
 obtain⟨hs,q⟩:=h
 cases x with
 |bL=>
  cases rx
  cases y with
  |bL=>cases ry;exact PySem.EqNone.ne_none_none (bB I q (by simp))
  |bl j=>cases ry;exact PySem.EqNone.ne_none_bool (bB I q (by simp))
  |int j=>obtain⟨t',rfl⟩:=ry;exact PySem.EqNone.ne_none_int (bB I q (by simp))
  |str j=>obtain⟨t',rfl⟩:=ry;exact PySem.EqNone.ne_none_str (bB I q (by simp))
  |_=>exact absurd (show false=true from hs) Bool.false_ne_true
 |bl i=>
  cases rx
  cases y with
  |bL=>cases ry;exact PySem.EqNone.ne_bool_none (bB I q (by simp))
  |bl j=>cases ry;exact ne_bool (bB I q (congrArg not qg))
  |str j=>obtain⟨t',rfl⟩:=ry;exact PySem.EqMixed.ne_bool_str (bB I q (by simp))
  |_=>exact absurd (show false=true from hs) Bool.false_ne_true
 |int i=>
  obtain⟨t,rfl⟩:=rx
  cases y with
  |bL=>cases ry;exact PySem.EqNone.ne_int_none (bB I q (by simp))
  |int j=>obtain⟨t',rfl⟩:=ry;exact ne_int (bB I q (congrArg not we))
  |str j=>obtain⟨t',rfl⟩:=ry;exact PySem.EqMixed.ne_int_str (bB I q (by simp))
  |_=>exact absurd (show false=true from hs) Bool.false_ne_true
 |str i=>
  obtain⟨t,rfl⟩:=rx
  cases y with
  |bL=>cases ry;exact PySem.EqNone.ne_str_none (bB I q (by simp))
  |bl j=>cases ry;exact PySem.EqMixed.ne_str_bool (bB I q (by simp))
  |int j=>obtain⟨t',rfl⟩:=ry;exact PySem.EqMixed.ne_str_int (bB I q (by simp))
  |str j=>obtain⟨t',rfl⟩:=ry;exact ne_str (bB I q (congrArg not wg))
  |_=>exact absurd (show false=true from hs) Bool.false_ne_true
 |qz i=>
  obtain⟨t,rfl⟩:=rx
  cases y with
  |qz j=>obtain⟨t',rfl⟩:=ry;exact PySem.W.ne_bytes (bB I q (congrArg not wj))
  |_=>exact absurd (show false=true from hs) Bool.false_ne_true
 |_=>cases y<;>exact absurd (show false=true from hs) Bool.false_ne_true
theorem eH:eR X (compareOp .Lt) (pV fun i j=>.bl (decide (i<j))):=Ih fun _ _ _ _ _ _ _ q=>lt_int q
theorem qH:eR X (compareOp .Gt) (pV fun i j=>.bl (decide (j<i))):=Ih fun _ _ _ _ _ _ _ q=>gt_int q
theorem eR.or{f:Value→Value→Sem Value}{r r':R2}(h:eR X f r)(h':eR X f r'):eR X f (fun x y H Q=>r x y H Q∨r' x y H Q):=by
 intro pins s σ H x y v u Q I rx ry q
 rcases q with q|q
 ·exact h pins s σ H x y v u Q I rx ry q
 ·exact h' pins s σ H x y v u Q I rx ry q
theorem aQ(b:Expr){op:CmpOp}(h:op≠.In:=by decide)(h2:op≠.NotIn:=by decide):behindInMarks op b=false:=by
 have e1:(op==CmpOp.In)=false:=by cases op<;>first|rfl|exact absurd rfl h
 have e2:(op==CmpOp.NotIn)=false:=by cases op<;>first|rfl|exact absurd rfl h2
 cases b<;>simp[behindInMarks,e1,e2]
theorem Ct{op:CmpOp}{r:R2}(ho:eR X (compareOp op) r)(ha:PE X a ta)(hb:PE X b tb)(hm:behindInMarks op b=false):PE X (.Compare a [op] [b] pos) (Cr r ta tb):=by
 intro pins s σ H Q I h
 exact wpAny_Compare1 (Cs ha hb I h fun v u s2 x y H2 I2 rx ry q=>ho pins s2 σ H2 x y v u Q I2 rx ry q) hm
def Ju(t:TE):TT:=fun σ H Q=>t σ H fun x H'=>∃k,x= .bl k∧Q k H'
theorem Cu{op:CmpOp}{r:R2}(ho:eR X (compareOp op) r)(ha:PE X a ta)(hb:PE X b tb)(hm:behindInMarks op b=false):PT X (.Compare a [op] [b] pos) (Ju (Cr r ta tb)):=by
 intro pins s σ H Q I h
 refine wpAny_isTrue_Compare1 (bF (ha pins s σ H _ I h) fun v s1 ⟨x,H1,I1,r1,q1⟩=>bF (hb pins s1 σ H1 _ I1 q1) fun u s2 ⟨y,H2,I2,r2,q2⟩=>
  bF (ho pins s2 σ H2 x y v u _ I2 r1 r2 q2) fun c s3 ⟨z,H3,I3,r3,k,e,q3⟩=>?_) hm
 subst e
 cases r3
 exact wpAny_truthy_bool ⟨H3,I3,q3⟩
theorem ny:(sizeLine:Nat)<2 ^ 63:=by rw[sizeLine_eq];decide
theorem vals1{x:V}{us:List Value}(r:Vals [x] us):∃u,us=[u]∧RelV x u:=by
 cases r with
 |cons r1 r2=>cases r2;exact⟨_,rfl,r1⟩
theorem vals2{x y:V}{us:List Value}(r:Vals [x,y] us):∃u w',us=[u,w']∧RelV x u∧RelV y w':=by
 cases r with
 |cons r1 r2=>
  cases r2 with
  |cons r3 r4=>cases r4;exact⟨_,_,rfl,r1,r3⟩
theorem cq:fC X (.builtin "abs") (fun xs H Q=>∃i,xs=[.int i]∧Q (.int (if i<0 then -i else i)) H):=by
 intro pins s σ H xs us Q I r h
 obtain⟨i,rfl,q⟩:=h
 obtain⟨u,rfl,t,rfl⟩:=vals1 r
 exact call_abs_int fun u tk=>⟨.int (if i<0 then -i else i),H,I.tok _,⟨_,rfl⟩,q⟩
theorem fY:fC X (.type "int") (fun xs H Q=>(∃i,xs=[.int i]∧Q (.int i) H)∨∃k,xs=[.bl k]∧Q (.int (if k then 1 else 0)) H):=by
 intro pins s σ H xs us Q I r h
 rcases h with⟨i,rfl,q⟩|⟨k,rfl,q⟩
 ·obtain⟨u,rfl,t,rfl⟩:=vals1 r
  exact call_int_int ⟨.int i,H,I,⟨_,rfl⟩,q⟩
 ·obtain⟨u,rfl,r1⟩:=vals1 r
  cases r1
  exact call_int_bool ⟨.int (if k then 1 else 0),H,I.tok _,⟨_,rfl⟩,q⟩
end
end L2
namespace L2
open PySem PySem.Spec PyProof.Rows
structure Cv(h:Heap)(x dx C:Addr)(mA:Str→Option Value):Prop where
 obj:h.get? x=some (PySem.W.instObj C dx)
 ns:h.Ns1 dx mA
 ne:dx≠x
theorem yd{h:Heap}{dx:Addr}{mA:Str→Option Value}(n:h.Ns1 dx mA):∃od,h.get? dx=some od∧∀name,PySem.W.lookIn name od=some (mA name):=by
 obtain⟨o,es,ep,ho,hd,hk,_,hm⟩:=n
 refine⟨o,ho,fun name=>?_⟩
 have e:=hm name
 unfold nsFind findBy at e
 rw[←Array.find?_toList]at e
 unfold PySem.W.lookIn
 rw[hd]
 dsimp only
 split
 ·rename_i y q
  rw[q]at e
  exact congrArg some e
 ·rename_i q
  rw[q]at e
  have a:es.toList.any (·.refKey)=false:=by
   rw[List.any_eq_false]
   intro y hy
   obtain⟨z,t,MX⟩:=hk y (Array.mem_toList_iff.mp hy)
   simp[DictEntry.refKey,MX]
  have a':¬es.toList.any (·.refKey)=true:=by rw[a];exact Bool.false_ne_true
  rw[if_neg a']
  exact congrArg some e
theorem Cv.look{h:Heap}{x dx C:Addr}{mA:Str→Option Value}(I:Cv h x dx C mA):∃od,PySem.W.InstAt h x (PySem.W.instObj C dx) C (some od)∧∀name,PySem.W.lookIn name od=some (mA name):=
 let ⟨od,ho,hl⟩:=yd I.ns
 ⟨od,⟨I.obj,rfl,rfl,ho⟩,hl⟩
section
variable{prog:Program}{w:World}{A:Around}{E:Value→Shared→Prop}{s:Shared}{K:PySem.W.Frag}{x dx C f:Addr}{mA:Str→Option Value}{name:Str}{v:Value}
end
section
variable{P:Program}{w:World}{H H':Hp}{h h':Heap}{a C dx:Addr}{fs Rl:List (Str×V)}
theorem Cw(aO:gF P w H h)(e:H a=some (.ins C dx fs)):∃mA,Cv h a dx C mA∧(∀f,B6 (fs.lookup f) (mA f))∧PySem.Within mA (fs.map (·.1))∧fs.length≤1000∧H dx=some (.own a):=by
 obtain⟨d,z,ne,ob,mA,n,r,q⟩:=(show cC P w H h a (.ins C dx fs)from aO a _ e)
 exact⟨mA,⟨ob,n,ne⟩,r,q,z,d⟩
end
structure Jv(K:PySem.W.Frag)(C:Addr):Prop where
 pg:PySem.W.plainGet K C Str.empty=true
 hd:PySem.W.hasDictIn K C=true
 po:PySem.W.plainOver K C=true
 sa:PySem.W.findIn K (.ref C) "__setattr__" =some (some (.builtin "object.__setattr__"))
theorem Jv.get{K:PySem.W.Frag}{C:Addr}(c:Jv K C)(f:Str):PySem.W.plainGet K C f=true:=c.pg
section
variable{X:Cx}{pins:List (Addr×Obj)}{σ:St}{H:Hp}{s:Shared}{a C dx:Addr}{fs:List (Str×V)}{f:Str}{v:V}{A:Around}{E:Value→Shared→Prop}
end
section
variable{X:Cx}{o e value:Expr}{f:Str}{pos pos' MY:Pos}{ta tv:TE}
end
section
variable{X:Cx}{pins:List (Addr×Obj)}{σ:St}{H:Hp}{s:Shared}{A:Around}{E:Value→Shared→Prop}{Q:Value→Shared→Prop}{c:Value}{b:Bool}
inductive iT(K:PySem.W.Frag)(H:Hp):V→Value→Prop where
 |bL:iT K H .bL (.type "NoneType")
 |bl (x:Bool):iT K H (.bl x) (.type "bool")
 |int (i:Int):iT K H (.int i) (.type "int")
 |str (x:Str):iT K H (.str x) (.type "str")
 |AI (x:UInt64):iT K H (.AI x) (.type "float")
 |lst {a:Addr}{xs:List V} (e:H a=some (.lst xs)):iT K H (.ref a) (.type "list")
 |eG {a:Addr}{o:Obj}{xs:List V} (e:H a=some (.eG o (.lst xs))):iT K H (.ref a) (.type "list")
 |tup {a:Addr}{xs:List V} (e:H a=some (.tup xs)):iT K H (.ref a) (.type "tuple")
 |dK {a:Addr}{bg:List (Key×V)} (e:H a=some (.dK bg)):iT K H (.ref a) (.type "dict")
 |dT {a:Addr}{bg:List (List Key×V)} (e:H a=some (.dT bg)):iT K H (.ref a) (.type "dict")
 |ins {a C dx:Addr}{fs:List (Str×V)} (e:H a=some (.ins C dx fs)) (cl:Jv K C) (ha:PySem.W.findIn K (.ref C) "__class__" =some (some (.builtin "object.__class__")))
   (hn:PySem.W.specialIn K (.builtin "object.__class__") "__get__" =some (some (.builtin "getset_descriptor.__get__"))) (AY:PySem.W.takesIn K (.builtin "object.__class__")=some true)
   (hm:PySem.W.mroIn K C (.type "object")=some true):iT K H (.ref a) (.ref C)
theorem ye{x:V}{u t:Value}(I:Inv X pins σ H s)(rx:RelV x u)(ty:iT X.K H x t)(e:PySem.W.kitOne X.K t c=some b)(h:∀tk,Q (.bool b) { s with toks:=tk }):
  wpAny (model X.prog X.w) A (call (.builtin "isinstance") [u,c]) Q E s:=by
 cases ty with
 |bL=>cases (show u=Value.none from rx);exact PySem.W.kia_one PySem.W.kitx_none I.jN True.intro e (fun z=>nomatch z) h
 |bl y=>cases (show u=Value.bool y from rx);exact PySem.W.kia_one PySem.W.kitx_bool I.jN True.intro e (fun z=>nomatch z) h
 |int i=>obtain⟨t,q⟩:=(show ∃t,u=Value.int i t from rx);cases q;exact PySem.W.kia_one PySem.W.kitx_int I.jN True.intro e (fun z=>nomatch z) h
 |str y=>obtain⟨t,q⟩:=(show ∃t,u=Value.str y t from rx);cases q;exact PySem.W.kia_one PySem.W.kitx_str I.jN True.intro e (fun z=>nomatch z) h
 |AI y=>obtain⟨t,q⟩:=(show ∃t,u=Value.float y t from rx);cases q;exact PySem.W.kia_one PySem.W.kitx_float I.jN True.intro e (fun z=>nomatch z) h
 |@lst a xs ea=>
  cases (show u=Value.ref a from rx)
  obtain⟨_,_,n,_,h1⟩:=(show cC X.prog X.w H s.heap a (.lst xs)from I.aO a _ ea)
  exact PySem.W.kia_one PySem.W.kitx_list I.jN ⟨_,h1,rfl⟩ e (fun z=>nomatch z) h
 |@eG a ob xs ea=>
  cases (show u=Value.ref a from rx)
  obtain⟨_,_,_,n,_,h1⟩:=(show cC X.prog X.w H s.heap a (.eG ob (.lst xs))from I.aO a _ ea)
  exact PySem.W.kia_one PySem.W.kitx_list I.jN ⟨_,h1,rfl⟩ e (fun z=>nomatch z) h
 |@tup a xs ea=>
  cases (show u=Value.ref a from rx)
  obtain⟨_,_,_,p⟩:=(show cC X.prog X.w H s.heap a (.tup xs)from I.aO a _ ea)
  obtain⟨o,h1,h2,_⟩:=p
  exact PySem.W.kia_one PySem.W.kitx_tuple I.jN ⟨o,h1,h2⟩ e (fun z=>nomatch z) h
 |@dK a bg ea=>
  cases (show u=Value.ref a from rx)
  obtain⟨_,_,vs,_,p⟩:=(show cC X.prog X.w H s.heap a (.dK bg)from I.aO a _ ea)
  obtain⟨o,es,ep,h1,h2,_⟩:=p
  exact PySem.W.kia_one PySem.W.kitx_dict I.jN ⟨o,h1,h2.1⟩ e (fun z=>nomatch z) h
 |@dT a bg ea=>
  cases (show u=Value.ref a from rx)
  obtain⟨_,_,xs,_,o,es,ep,h1,h2,_⟩:=(show cC X.prog X.w H s.heap a (.dT bg)from I.aO a _ ea)
  exact PySem.W.kia_one PySem.W.kitx_dict I.jN ⟨o,h1,h2.1⟩ e (fun z=>nomatch z) h
 |@ins a C dx fs ea cl ha hn AY hm=>
  cases (show u=Value.ref a from rx)
  obtain⟨mA,O,_⟩:=Cw I.aO ea
  obtain⟨od,J,_⟩:=O.look
  exact PySem.W.kia_one (PySem.W.kitx_own (cl.get _) cl.hd ha hn AY hm) I.jN J e (fun z=>nomatch z) h
end
end L2
namespace L2
open PySem PySem.Spec PyProof.Rows
structure cS(k:Nat)(A:Around):Prop where
 hd:A.handled=none
 dp:A.depth+3*k+5<recursionLimit
 un:A.units+16*k+200<cLine
theorem cS.mono{j k:Nat}{A:Around}(r:cS k A)(h:j≤k):cS j A:=⟨r.hd,by have:=r.dp;omega,by have:=r.un;omega⟩
theorem cS.deeper{k:Nat}{A:Around}(r:cS (k+1) A)(env:Env):cS k (A.deeper env):=
 ⟨r.hd,by have:=r.dp;show A.depth+1+3*k+5<_;omega,by have:=r.un;show A.units+3+16*k+200<_;omega⟩
theorem cS.depth{k:Nat}{A:Around}(r:cS k A):A.depth<recursionLimit:=by have:=r.dp;omega
theorem cS.units{k:Nat}{A:Around}(r:cS k A):A.units+64<cLine:=by have:=r.un;omega
def MZ:TA:=fun _ H Q=>Q [] H
def Jw(ta:TE)(tr:TA):TA:=fun σ H Q=>ta σ H fun x H1=>tr σ H1 fun xs H2=>Q (x::xs) H2
section
variable{X:Cx}{e:Expr}{es:List Expr}{te:TE}{t:TA}{pos:Pos}
theorem Fy:PA X [] MZ:=fun _ _ _ _ H Q I h=>Calls.spliced_nil ⟨[],H,I,.nil,h⟩
theorem Cy(ha:PE X e te)(hr:PA X es t)(hs:starEach (e::es) X.env=(false,eval e X.env)::starEach es X.env:=by rfl):PA X (e::es) (Jw te t):=by
 intro pos pins s σ H Q I h
 rw[hs]
 show wpAny _ _ (spliced ((false,eval e X.env)::backTo pos (starEach es X.env))) _ _ s
 refine Calls.spliced_cons (bF (ha pins s σ H _ I h) fun u s1 aZ=>?_)
 obtain⟨x,H1,I1,r1,q1⟩:=aZ
 exact bF (hr pos pins s1 σ H1 _ I1 q1) fun us s2 ⟨xs,H2,I2,r2,q2⟩=>⟨x::xs,H2,I2,.cons r1 r2,q2⟩
def M0(t:TA):TE:=fun σ H Q=>t σ H fun xs H1=>xs.length≤sizeLine∧∀p,H1 p=none→Q (.ref p) (upd H1 p (.tup xs))
def M1(t:TA):TE:=fun σ H Q=>t σ H fun xs H1=>xs.length≤sizeLine∧∀p,H1 p=none→Q (.ref p) (upd H1 p (.lst xs))
theorem Fz{x1}(h:PA X es t):PE X (.Tuple es x1 pos) (M0 t):=by
 intro pins s σ H Q I hq
 refine wpAny_Tuple_spliced (bF (h pos pins s σ H _ I hq) fun us s1 ⟨xs,H1,I1,r,z,q⟩=>⟨by rw[←r.length];exact z,?_⟩)
 have hf:H1 s1.heap.objs.size=none:=I1.aO.fresh (Nat.le_refl _)
 refine⟨.ref s1.heap.objs.size,upd H1 s1.heap.objs.size (.tup xs),I1.laid (t':=s1.toks) (fun b u e=>Heap.get?_push_of_some _ e) (Nat.le_refl _) ?_,rfl,q _ hf⟩
 exact⟨z,us,r,⟨_,Heap.get?_push_size _ rfl,rfl,_,rfl⟩⟩
theorem FA(h:PA X es t):PE X (.List es pos) (M1 t):=by
 intro pins s σ H Q I hq
 refine wpAny_List_spliced (bF (h pos pins s σ H _ I hq) fun us s1 ⟨xs,H1,I1,r,z,q⟩=>⟨by rw[←r.length];exact z,?_⟩)
 have hf:H1 s1.heap.objs.size=none:=I1.aO.fresh (Nat.le_refl _)
 refine⟨.ref s1.heap.objs.size,upd H1 s1.heap.objs.size (.lst xs),I1.laid (t':=s1.toks) (fun b u e=>Heap.get?_push_of_some _ e) (Nat.le_refl _) ?_,rfl,q _ hf⟩
 exact⟨z,us,0,r,Heap.get?_push_size _ rfl⟩
end
abbrev Sp:=List V→Hp→VK→XK→Prop
abbrev qI:=List Env→Hp→Shared→XK→Value→Shared→Prop
structure wk(P:Program)(w:World)(K:PySem.W.Frag)(mg:Str→Option Value)(base:Heap)(A:Around)(outer:List Env)(s:Shared)(H:Hp):Prop where
 frames:A.frames=some outer
 mod:Mod K mg base
 bs:∀b o,base.get? b=some o→s.heap.get? b=some o∧H b=none
 qB:base.objs.size≤s.heap.objs.size
 ju:s.heap.FunFrames base outer
 vY:∀b∈qA outer,H b=none
 aO:gF P w H s.heap
 bare:AllBare s.gens
def CE(outer:List Env)(P:Program)(w:World)(H:Hp)(s:Shared)(Q:VK)(u:Value)(s':Shared):Prop:=
 ∃v H',s'.os=s.os∧AllBare s'.gens∧Un (qA outer) [] H H' s.heap s'.heap∧gF P w H' s'.heap∧RelV v u∧Q v H'
def CR(CX:qI)(outer:List Env)(P:Program)(w:World)(H:Hp)(s:Shared)(Q:VK)(E:XK)(r:Result)(s':Shared):Prop:=
 match r with
 |.ok (.ret u)=>CE outer P w H s Q u s'
 |.ok _=>False
 |.error e=>CX outer H s E e s'
structure bY(P:Program)(w:World)(K:PySem.W.Frag)(mg:Str→Option Value)(base:Heap)(CX:qI)(k:Nat)(f:Addr)(fd:FuncData)(ps:List Str)(sp:Sp):Prop where
 len:∀vs H Q E,sp vs H Q E→vs.length=ps.length
 run:∀(A:Around) (outer:List Env) (s:Shared) (H:Hp) (args:Args) (us:List Value) (vs:List V) (Q:VK) (E:XK),cS k A→wk P w K mg base A outer s H→BindsTo s fd args (ps.zip us)→Vals vs us→sp vs H Q E→
  codeAny (model P w) A (.call (.ref f) args) (CR CX outer P w H s Q E) s
theorem bY.imp{P:Program}{w:World}{K:PySem.W.Frag}{mg:Str→Option Value}{base:Heap}{CX:qI}{k:Nat}{f:Addr}{fd:FuncData}{ps:List Str}{sp M3:Sp}(F:bY P w K mg base CX k f fd ps sp)
  (h:∀vs H Q E,M3 vs H Q E→sp vs H Q E):bY P w K mg base CX k f fd ps M3:=
 ⟨fun vs H Q E q=>F.len vs H Q E (h _ _ _ _ q),fun A outer s H args us vs Q E hr he hb hv hs=>F.run A outer s H args us vs Q E hr he hb hv (h _ _ _ _ hs)⟩
section
variable{X:Cx}{pins:List (Addr×Obj)}{σ:St}{H:Hp}{s s':Shared}
theorem Inv.Ik(I:Inv X pins σ H s):wk X.prog X.w X.K X.mg X.base X.A X.stack s H:=
 ⟨I.ok.frames,I.ok.mod,I.bs,Nat.le_trans I.ok.qB I.sz,I.stack,I.v7,I.aO,I.bare⟩
theorem Inv.after{Q:VK}{u:Value}(I:Inv X pins σ H s)(h:CE X.stack X.prog X.w H s Q u s'):EP X pins σ Q u s':=by
 obtain⟨v,H',os,bare,un,aO,r,q⟩:=h
 obtain⟨hh,g,d,t,Rv⟩:=s'
 obtain rfl:Rv=s.os:=os
 exact⟨v,H',I.call (h':=hh) (g':=g) (d':=d) (t':=t) (ch:=[]) un aO bare (fun b z=>absurd z (by simp)),r,q⟩
end
def yg(sp:Sp)(mN:List V)(E:XK)(t:TA):TE:=fun σ H Q=>t σ H fun vs H1=>sp (vs++mN) H1 Q E
def Binds(K:PySem.W.Frag)(fd:FuncData)(ps:List Str)(ds:List Value):Prop:=
 ∀(s:Shared) (us:List Value),K.In s.heap→(us++ds).length=ps.length→BindsTo s fd ⟨us,[]⟩ (ps.zip (us++ds))
theorem Binds.all{K:PySem.W.Frag}{fd:FuncData}{ps:List Str}(h:∀us:List Value,us.length=ps.length→bindArgs fd ⟨us,[]⟩=pure (ps.zip us)):Binds K fd ps []:=fun s us _ hl=>by
 rw[List.append_nil]at hl ⊢
 exact .of_eq (h us hl)
def Passes(CX:qI)(X:Cx)(E:XK):Prop:=∀(pins:List (Addr×Obj)) (σ:St) (H:Hp) (s:Shared) (e:Value) (s':Shared),Inv X pins σ H s→CX X.stack H s E e s'→X.xe e s'
section
variable{X:Cx}{CX:qI}{k:Nat}{f C:Addr}{fd:FuncData}{ps:List Str}{sp:Sp}{mN:List V}{ds:List Value}{E:XK}{x m:Str}{p pos apos:Pos}{e o:Expr}{es:List Expr}{ta:TE}{t:TA}
theorem zK{pins:List (Addr×Obj)}{σ:St}{H:Hp}{s:Shared}{Q:VK}{us:List Value}{vs:List V}(F:bY X.prog X.w X.K X.mg X.base CX k f fd ps sp)(hr:cS k X.A)(hb:Binds X.K fd ps ds)(hd:Vals mN ds)(hx:Passes CX X E)
  (I:Inv X pins σ H s)(r:Vals vs us)(h:sp (vs++mN) H Q E):wpAny (model X.prog X.w) X.A (call (.ref f) us) (EP X pins σ Q) X.xe s:=by
 have r2:Vals (vs++mN) (us++ds):=r.append hd
 have hl:(us++ds).length=ps.length:=by rw[←r2.length];exact F.len _ _ _ _ h
 refine wpAny_call (codeAny_mono (F.run X.A X.stack s H ⟨us,[]⟩ (us++ds) (vs++mN) Q E hr I.Ik (hb s us I.jN hl) r2 h) fun r s' hq=>?_)
 cases r with
 |error e=>exact hx pins σ H s e s' I hq
 |ok fl=>
  cases fl with
  |ret u=>exact I.after hq
  |next=>exact False.elim hq
  |brk=>exact False.elim hq
  |cont=>exact False.elim hq
theorem Cz(F:bY X.prog X.w X.K X.mg X.base CX k f fd ps sp)(hr:cS k X.A)(hg:Gl X x)(hm:X.mg x=some (.ref f))(hk:PySem.W.keepIn X.K (.ref f)=true)(hb:Binds X.K fd ps ds)(hd:Vals mN ds)(hx:Passes CX X E)
  (ha:PA X (e::es) t)(qJ:(x==("__debug__":Str))=false:=by decide)(he:starEach (e::es) X.env=(false,eval e X.env)::starEach es X.env:=by rfl)(dS:(backTo pos (starEach es X.env)).any (·.1)=false:=by rfl):
  PE X (.Call (.Name x p) (e::es) [] pos) (yg sp mN E t):=by
 intro pins s σ H Q I h
 refine wpAny_Call_Name_kw (v9 I hg hm ?_ qJ)
 refine PySem.W.callWith_K (h₀:=X.base) I.ok.mod.tm hk (bF (ha pos pins s σ H _ I h) fun us s1 ⟨vs,H1,I1,r,q⟩=>⟨I1.jN,?_⟩) he dS
 exact zK F hr hb hd hx I1 r q
end
section
variable{X:Cx}{CX:qI}{k:Nat}{f C:Addr}{fd:FuncData}{ps ks:List Str}{sp:Sp}{E:XK}{x m:Str}{p pos apos U3:Pos}{e o:Expr}{es:List Expr}{Va:List Keyword}{te ta:TE}{t tk:TA}{nm:Option Str}
variable{g:List Value→List Value→List Value}{gV:List V→List V→List V}
end
structure bp(N P:List Str)(sc:Scope):Prop where
 kind:sc.kind= .function
 co:sc.isCoroutine=false
 gen:sc.isGenerator=false
 nd:N.Nodup
 pre:N.take P.length=P
 par:∀x∈P,sc.names.lookup x=some .local∨sc.names.lookup x=some .cell
 FC:∀y∈sc.names,y.2≠.free
theorem qK{kindOf:Str→Option NameKind}{x:Str}:∀{binds:List (Str×Value)}{m:Str→Option Value},(∀v,(x,v)∉binds)→bindL kindOf binds m x=m x
 |[],_,_=>rfl
 |(n,v)::r,m,h=>by
  unfold bindL
  rw[qK fun w hw=>h w (List.mem_cons_of_mem _ hw)]
  split
  ·have:x≠n:=by rintro rfl;exact h v List.mem_cons_self
   simp[this]
  ·rfl
theorem qL{kindOf:Str→Option NameKind}{x:Str}:∀{binds:List (Str×Value)}{m:Str→Option Value},(∀v,(x,v)∉binds)→bindC kindOf binds m x=m x
 |[],_,_=>rfl
 |(n,v)::r,m,h=>by
  unfold bindC
  rw[qL fun w hw=>h w (List.mem_cons_of_mem _ hw)]
  split
  ·rfl
  ·have:x≠n:=by rintro rfl;exact h v List.mem_cons_self
   simp[this]
theorem qM{kindOf:Str→Option NameKind}{x:Str}{v:Value}:∀{P:List Str}{vs:List Value}{i:Nat}{m:Str→Option Value},P.Nodup→P[i]? =some x→vs[i]? =some v→kindOf x=some .local→
  bindL kindOf (P.zip vs) m x=some v
 |[],_,_,_,_,h,_,_=>by simp at h
 |_::_,[],_,_,_,_,h,_=>by simp at h
 |p::P,w::vs,0,m,nd,h1,h2,hk=>by
  simp at h1 h2;subst h1;subst h2
  show bindL kindOf ((p,w)::P.zip vs) m p=_
  unfold bindL
  rw[qK fun v hv=>(List.nodup_cons.mp nd).1 (List.of_mem_zip hv).1,if_pos hk]
  simp
 |p::P,w::vs,i+1,m,nd,h1,h2,hk=>by
  show bindL kindOf ((p,w)::P.zip vs) m x=_
  unfold bindL
  exact qM (i:=i) (List.nodup_cons.mp nd).2 (by simpa using h1) (by simpa using h2) hk
theorem qN{kindOf:Str→Option NameKind}{x:Str}{v:Value}:∀{P:List Str}{vs:List Value}{i:Nat}{m:Str→Option Value},P.Nodup→P[i]? =some x→vs[i]? =some v→kindOf x≠some .local→
  bindC kindOf (P.zip vs) m x=some v
 |[],_,_,_,_,h,_,_=>by simp at h
 |_::_,[],_,_,_,_,h,_=>by simp at h
 |p::P,w::vs,0,m,nd,h1,h2,hk=>by
  simp at h1 h2;subst h1;subst h2
  show bindC kindOf ((p,w)::P.zip vs) m p=_
  unfold bindC
  rw[qL fun v hv=>(List.nodup_cons.mp nd).1 (List.of_mem_zip hv).1,if_neg hk]
  simp
 |p::P,w::vs,i+1,m,nd,h1,h2,hk=>by
  show bindC kindOf ((p,w)::P.zip vs) m x=_
  unfold bindC
  exact qN (i:=i) (List.nodup_cons.mp nd).2 (by simpa using h1) (by simpa using h2) hk
def start(N:List Str)(vs:List V):St:=vs.map some++List.replicate (N.length - vs.length) none
def gR(CX:qI)(P:Program)(w:World)(K:PySem.W.Frag)(mg:Str→Option Value)(base:Heap)(N:List Str)(qual:Str)(scope:Scope)(f:Addr)(cd:Value)(A:Around)(outer:List Env)(s:Shared)(H:Hp)(E:XK):Cx where
 prog:=P
 w:=w
 K:=K
 mg:=mg
 base:=base
 A:=A.deeper (envOfC qual scope s.heap.objs.size f cd)
 N:=N
 aY:=s
 ck:=H
 env:=envOfC qual scope s.heap.objs.size f cd
 outer:=outer
 stack:=envOfC qual scope s.heap.objs.size f cd::outer
 ex:=[]
 calm:=true
 fn:=fun _=>true
 pn:=[]
 xe:=fun e s'=>wpAny (model P w) (A.deeper (envOfC qual scope s.heap.objs.size f cd)) (leaving (envOfC qual scope s.heap.objs.size f cd) e) (fun _ Jx=>CX outer H s E e Jx) (fun e' Jx=>CX outer H s E e' Jx) s'
theorem t4{sc:Scope}{n:Nat}{x:Str}(h:sc.names.lookup x=some .cell):∃c,(cellsFrom n sc.names []).lookup x=some c:=by
 have q:=PySem.W.cellsFrom_some sc.names n [] (.inl h)
 exact Option.isSome_iff_exists.mp q
theorem mO{CX:qI}{P:Program}{w:World}{K:PySem.W.Frag}{mg:Str→Option Value}{base:Heap}{N ps:List Str}{qual:Str}{scope:Scope}{f:Addr}{cd:Value}{A:Around}{outer:List Env}{s s1:Shared}{H:Hp}{E:XK}{us:List Value}{vs:List V}
  (S:bp N ps scope)(hd:A.handled=none)(e0:wk P w K mg base A outer s H)(hl:vs.length=ps.length)(r:Vals vs us)
  (x:InCallC s s.heap.objs.size (bindL (envOfC qual scope s.heap.objs.size f cd).kindOf (ps.zip us) fun _=>none) (cellsFrom (s.heap.objs.size+1) scope.names []) (bindC (envOfC qual scope s.heap.objs.size f cd).kindOf (ps.zip us) fun _=>none) s1):
  Inv (gR CX P w K mg base N qual scope f cd A outer s H E) [] (start N vs) H s1:=by
 have dS:ps.length≤N.length:=by have:=congrArg List.length S.pre;rw[List.length_take]at this;omega
 obtain⟨h1,tk,rfl,hk⟩:=x.done
 have uG:∀b:Addr,b∉(gR CX P w K mg base N qual scope f cd A outer s H E).ex:=fun b z=>absurd (show b∈([]:List Addr)from z) (by simp)
 refine⟨⟨e0.mod,S.kind,rfl,rfl,Nat.le_refl _,fun y z c h1 h2=>?_,fun y hy=>?_,fun y c _ h=>?_,fun _=>hd,Around.frames_deeper e0.frames,.inr ⟨rfl,rfl⟩,fun b z=>absurd z (uG b),e0.bs,e0.qB,fun b _ _=>uG b,fun b z=>absurd z (uG b),e0.ju,e0.vY⟩,
  rfl,e0.bare,Un.kept hk,⟨_,x.toInCall.ns,fun i y v h1 h2 h3=>?_⟩,fun y c h=>⟨_,x.cell y c h⟩,e0.aO.fresh (Nat.le_refl _),fun y c h=>?_,fun p hp=>absurd (show p∈([]:List (Addr×Obj))from hp) (by simp),e0.aO.kept hk,?_⟩
 ·exact name_of_addr x.apart (PySem.mem_of_lookup h1) (PySem.mem_of_lookup h2)
 ·have hy:scope.names.lookup y=some .cell∨scope.names.lookup y=some .free:=hy
  rcases hy with hy|hy
  ·exact t4 hy
  ·exact absurd rfl (S.FC _ (PySem.mem_of_lookup hy))
 ·exact Nat.le_of_lt (x.above y c (PySem.mem_of_lookup h))
 ·have hi:i<vs.length:=by
   unfold start at h2
   by_cases hi:i<vs.length
   ·exact hi
   ·rw[List.getElem?_append_right (by simpa using hi)]at h2
    rw[List.getElem?_replicate]at h2
    split at h2<;>cases h2
  have ha:vs[i]? =some v:=by
   unfold start at h2
   rw[List.getElem?_append_left (by simpa using hi),List.getElem?_map]at h2
   cases e:vs[i]? with
   |none=>rw[e]at h2;cases h2
   |some a=>rw[e]at h2;cases h2;rfl
  obtain⟨u,hu,rv⟩:=r.get ha
  have hp:ps[i]? =some y:=by
   rw[←S.pre,List.getElem?_take_of_lt (by omega)];exact h1
  have FD:ps.Nodup:=by rw[←S.pre];exact S.nd.sublist (List.take_sublist _ _)
  refine⟨u,rv,?_⟩
  rcases S.par y (List.mem_of_getElem? hp)with k|k
  ·exact .inl ⟨k,qM FD hp hu k⟩
  ·obtain⟨c,e⟩:=t4 (n:=s.heap.objs.size+1) k
   refine .inr ⟨.inl k,c,e,?_⟩
   have q:=x.cell y c e
   rw[qN FD hp hu (by show scope.names.lookup y≠_;rw[k];decide)]at q
   exact q
 ·exact .inl (e0.aO.fresh (Nat.le_of_lt (x.above y c (PySem.mem_of_lookup h))))
 ·unfold start
  show _=N.length
  rw[List.length_append,List.length_map,List.length_replicate]
  omega
theorem CA{CX:qI}{P:Program}{w:World}{K:PySem.W.Frag}{mg:Str→Option Value}{base:Heap}{k:Nat}{f:Addr}{name qual:Str}{params:Arguments}{body:List Stmt}{scope:Scope}{dV kV doc pm bP ct oc:Value}{an od:Option Addr}
  {iA:Array (Option Value)}{N ps:List Str}{sp:Sp}(lk:K.lookup f=some ⟨oc,od,.func (PySem.W.fnOf name qual params body scope dV kV doc pm an bP ct),iA⟩)(km:PySem.W.codeIn K bP qual=true)(S:bp N ps scope)
  (len:∀vs H Q E,sp vs H Q E→vs.length=ps.length)
  (eS:∀(A:Around) (outer:List Env) (s:Shared) (H:Hp) (vs:List V) (Q:VK) (E:XK),cS k (A.deeper (envOfC qual scope s.heap.objs.size f bP))→sp vs H Q E→
   ∃t,kl (gR CX P w K mg base N qual scope f bP A outer s H E) body t∧t { nx:=fun _ H'=>Q .bL H',rt:=Q } (start N vs) H):
  bY P w K mg base CX (k+1) f (PySem.W.fnOf name qual params body scope dV kV doc pm an bP ct) ps sp:=by
 refine⟨len,fun A outer s H args us vs Q E hr e0 hb r me=>?_⟩
 have hl:=len _ _ _ _ me
 have KX:K.In s.heap:=e0.mod.tm.keeps fun b o e=>(e0.bs b o e).1
 have lim:s.heap.NoLimit:=e0.mod.nolimit.keeps fun b o e=>(e0.bs b o e).1
 have qO:∀y∈ps.zip us,scope.names.lookup y.1=some .local∨(scope.names.lookup y.1=some .cell∧((cellsFrom (s.heap.objs.size+1) scope.names []).lookup y.1).isSome=true):=by
  rintro⟨n,v⟩ hy
  rcases S.par n (List.of_mem_zip hy).1 with q|q
  ·exact .inl q
  ·exact .inr ⟨q,PySem.W.cellsFrom_some _ _ _ (.inl q)⟩
 refine codeAny_call_function hr.depth (KX _ _ lk) rfl S.co S.gen rfl (PySem.W.codeRec_of KX km) (hb _ _ _ _ ?_)
 refine wpAny_newFunctionEnv_cells S.kind qO fun env he s1 x=>?_
 subst he
 refine⟨lim.keeps x.toInCall.keep,codeAny_func ?_⟩
 obtain⟨t,ht,hq⟩:=eS A outer s H vs Q E (hr.deeper _) me
 have I:Inv (gR CX P w K mg base N qual scope f bP A outer s H E) [] (start N vs) H s1:=mO S hr.hd e0 hl r x
 refine wpAny_mono (ht [] s1 (start N vs) H _ I hq) (fun fl s' hs=>?_) fun e s' hs=>hs
 have fin:∀{σ':St}{H':Hp}{v:V}{u:Value},Inv (gR CX P w K mg base N qual scope f bP A outer s H E) [] σ' H' s'→RelV v u→Q v H'→CE outer P w H s Q u s':=
  fun {σ' H' v u} J rv q=>⟨v,H',J.os,J.bare,J.base,J.aO,rv,q⟩
 cases fl with
 |ret u=>
  obtain⟨v,σ',H',J,rv,q⟩:=hs
  exact fin J rv q
 |next=>
  obtain⟨σ',H',J,q⟩:=hs
  exact fin (v:=V.bL) (u:=Value.none) J rfl q
 |brk=>
  obtain⟨_,_,_,q⟩:=hs
  exact False.elim q
 |cont=>
  obtain⟨_,_,_,q⟩:=hs
  exact False.elim q
end L2
namespace L2
open PySem PySem.Spec PyProof.Rows
section
variable{X:Cx}{x:Str}{p pos:Pos}{e:Expr}{es:List Expr}{t:TA}{id T:String}{r:List V→Hp→VK→Prop}
def Jy(r:List V→Hp→VK→Prop)(t:TA):TE:=fun σ H Q=>t σ H fun vs H1=>r vs H1 Q
theorem AZ(hc:fC X (.builtin id) r)(hg:Gl X x)(hm:X.mg x=none)(hv:bootBuiltins x=some (.builtin id))(ha:PA X (e::es) t)(hn:x≠"__name__":=by decide)(qJ:(x==("__debug__":Str))=false:=by decide)
  (he:starEach (e::es) X.env=(false,eval e X.env)::starEach es X.env:=by rfl)(dS:(backTo pos (starEach es X.env)).any (·.1)=false:=by rfl):PE X (.Call (.Name x p) (e::es) [] pos) (Jy r t):=by
 intro pins s σ H Q I h
 refine wpAny_Call_Name_kw (gX I hg hm hv ?_ hn qJ)
 exact PyProof.Rows.callWith_builtin1 (bF (ha pos pins s σ H _ I h) fun us s1 ⟨vs,H1,I1,r1,q1⟩=>hc pins s1 σ H1 vs us Q I1 r1 q1) he dS
theorem yh(hc:fC X (.type T) r)(hg:Gl X x)(hm:X.mg x=none)(hv:bootBuiltins x=some (.type T))(ha:PA X (e::es) t)(hn:x≠"__name__":=by decide)(qJ:(x==("__debug__":Str))=false:=by decide)
  (he:starEach (e::es) X.env=(false,eval e X.env)::starEach es X.env:=by rfl)(dS:(backTo pos (starEach es X.env)).any (·.1)=false:=by rfl):PE X (.Call (.Name x p) (e::es) [] pos) (Jy r t):=by
 intro pins s σ H Q I h
 refine wpAny_Call_Name_kw (gX I hg hm hv ?_ hn qJ)
 exact PyProof.Rows.callWith_type1 (bF (ha pos pins s σ H _ I h) fun us s1 ⟨vs,H1,I1,r1,q1⟩=>hc pins s1 σ H1 vs us Q I1 r1 q1) he dS
end
end L2
namespace HT
open PySem PyProof.Rows
section
open PySem.SeqAt
open PySem.AutoSeq1 (wpAny_loadPart')
open PySem.MeetsSeq PySem.MeetsSeq2 PySem.MeetsSeq3
end
section
variable{prog:Program}{w:World}{A:Around}{E:Value→Shared→Prop}{s:Shared}
theorem CB{t b:Addr}{vs ws:List Value}{Q:Value→Shared→Prop}(ht:IsTup s.heap t vs.toArray)(hb:IsTup s.heap b ws.toArray)(hv:vs≠[])
  (h1:ws=[]→Q (.ref t) s)(h2:ws≠[]→Q (.ref s.heap.objs.size) { s with heap:=s.heap.push { cls:=.type "tuple",data:=.seq (vs++ws).toArray } })
  (qP:vs.length+ws.length≤sizeLine):wpAny (model prog w) A (binaryOp .Add (.ref t) (.ref b)) Q E s:=by
 obtain⟨⟨cls,dd,data,sl⟩,ho,hc,n,hd⟩:=id ht
 obtain⟨⟨U4,M4,data2,FE⟩,AG,M5,n2,hd2⟩:=id hb
 simp only at hc hd M5 hd2
 subst hc hd M5 hd2
 have e:vs.toArray++ws.toArray=(vs++ws).toArray:=by simp
 by_cases hw:ws=[]
 ·exact concat_meets ⟨_,ho,rfl⟩ ⟨_,AG,rfl⟩ noFill_tuple_add seq_tuple_add PySem.F.slot_tuple_add PySem.F.entry_tuple_add (PySem.F.args_tuple_add_2 _ _)
   (tuple_addW1 t b vs.toArray ws.toArray n n2 dd M4 sl FE (by simpa using hv) (by simp[hw])) ⟨ho,AG,h1 hw⟩
 ·refine concat_meets ⟨_,ho,rfl⟩ ⟨_,AG,rfl⟩ noFill_tuple_add seq_tuple_add PySem.F.slot_tuple_add PySem.F.entry_tuple_add (PySem.F.args_tuple_add_2 _ _)
   (tuple_addW2 t b vs.toArray ws.toArray n n2 dd M4 sl FE (by simpa using hv) (by simpa using hw) (by rw[List.size_toArray,List.size_toArray];exact qP)) ⟨ho,AG,?_⟩
  rw[e]
  exact h2 hw
def bU(n d:Nat):Option Int→Nat
 |none=>d
 |some v=>if v<0 then(v+(n:Int)).toNat else min v.toNat n
theorem FG(n d:Nat)(hd:d≤n)(o:Option Int):bU n d o≤n:=by
 cases o with
 |none=>exact hd
 |some v=>
  show(if v<0 then(v+(n:Int)).toNat else min v.toNat n)≤n
  by_cases hv:v<0
  ·rw[if_pos hv];omega
  ·rw[if_neg hv];exact Nat.min_le_right _ _
theorem wm(v:Int)(n d:Nat):(if v<0 then max (v+(n:Int)) 0 else min v (n:Int))=((bU n d (some v):Nat):Int):=by
 show(if v<0 then max (v+(n:Int)) 0 else min v (n:Int))=(((if v<0 then(v+(n:Int)).toNat else min v.toNat n):Nat):Int)
 by_cases hv:v<0
 ·simp only[if_pos hv];omega
 ·simp only[if_neg hv];omega
theorem wo(lo hi:Option Int)(n:Nat):Builtin.Slice.sliceAdjust lo hi 1 (n:Int)=(((bU n 0 lo:Nat):Int),((bU n n hi:Nat):Int)):=by
 have h1:¬((1:Int)<0):=by omega
 unfold Builtin.Slice.sliceAdjust
 simp only[h1,if_false]
 refine Prod.ext ?_ ?_
 ·cases lo with
  |none=>rfl
  |some v=>exact wm v n 0
 ·cases hi with
  |none=>rfl
  |some v=>exact wm v n n
theorem wq(i j:Nat):Builtin.Slice.slicePlaces (i:Int) (j:Int) 1=j - i:=by
 unfold Builtin.Slice.slicePlaces
 have h1:(1:Int) > 0:=by omega
 simp only[h1,if_true,Int.ediv_one]
 split<;>omega
theorem pG{v:Value}{o:Option Int}{Q:Option Int→Shared→Prop}(p:IsPart v o)(h:Q o s):wpAny (model prog w) A (Builtin.Slice.slicePartIndex v) Q E s:=by
 cases p with
 |none=>exact slicePart_none h
 |int i t=>exact slicePart_int h
theorem iU{sl:Addr}{vl vu:Value}{lo hi:Option Int}{n:Nat}{Q:Int×Int×Nat→Shared→Prop}(hs:s.heap.IsSliceOf sl vl vu .none)(pl:IsPart vl lo)(pu:IsPart vu hi)
  (h:Q (((bU n 0 lo:Nat):Int),1,bU n n hi - bU n 0 lo) s):wpAny (model prog w) A (Builtin.Slice.sliceApplied (.ref sl) (pure (n:Int))) Q E s:=by
 obtain⟨os,yi,qQ,CC⟩:=id hs
 unfold Builtin.Slice.sliceApplied Builtin.Slice.sliceFields
 refine wpAny_bind (wpAny_bind (wpAny_field yi CC (x:=vl) rfl (wpAny_bind (wpAny_field yi CC (x:=vu) rfl (wpAny_bind (wpAny_field yi CC (x:=.none) rfl (wpAny_pure ?_)))))))
 refine wpAny_bind (slicePart_none ?_)
 show wpAny _ _ (if ((1:Int)==0)=true then _ else _) _ _ s
 rw[if_neg (by decide)]
 refine wpAny_bind (pG pl (wpAny_bind (pG pu (wpAny_bind (wpAny_pure ?_)))))
 show wpAny _ _ (match Builtin.Slice.sliceAdjust lo hi 1 (n:Int)with|(lo,hi)=>pure (lo,(1:Int),Builtin.Slice.slicePlaces lo hi 1)) _ _ s
 rw[wo lo hi n]
 show wpAny _ _ (pure (((bU n 0 lo:Nat):Int),(1:Int),Builtin.Slice.slicePlaces ((bU n 0 lo:Nat):Int) ((bU n n hi:Nat):Int) 1)) _ _ s
 rw[wq]
 exact wpAny_pure h
theorem A0(xs:Array Value)(i k:Nat):((List.range k).filterMap fun(m:Nat)=>xs[((i:Int)+(m:Int)*1).toNat]?).toArray=((xs.toList.drop i).take k).toArray:=by
 have e:(fun(m:Nat)=>xs[((i:Int)+(m:Int)*1).toNat]?)=fun m=>xs[i+m]? :=by
  funext m
  have:((i:Int)+(m:Int)*1).toNat=i+m:=by omega
  rw[this]
 rw[e]
 have:=pick_run xs i k
 rw[List.filterMap_map]at this
 have e2:((fun x=>xs[x]?) ∘ fun x=>i+x)=fun m=>xs[i+m]? :=rfl
 rw[e2]at this
 rw[this]
theorem mP{t sl:Addr}{items:Array Value}{vl vu:Value}{lo hi:Option Int}{Q:Value→Shared→Prop}(ht:IsTup s.heap t items)(hs:s.heap.IsSliceOf sl vl vu .none)(pl:IsPart vl lo)(pu:IsPart vu hi)
  (hw:¬(bU items.size 0 lo=0∧bU items.size items.size hi=items.size))
  (h:Q (.ref s.heap.objs.size) { s with heap:=s.heap.push { cls:=.type "tuple",data:=.seq ((items.toList.drop (bU items.size 0 lo)).take (bU items.size items.size hi - bU items.size 0 lo)).toArray } })
  (qP:items.size≤sizeLine):wpAny (model prog w) A (getItem (.ref t) (.ref sl)) Q E s:=by
 have uH:sizeOk (.seq ((items.toList.drop (bU items.size 0 lo)).take (bU items.size items.size hi - bU items.size 0 lo)).toArray):=by
  show((items.toList.drop (bU items.size 0 lo)).take (bU items.size items.size hi - bU items.size 0 lo)).toArray.size≤sizeLine
  rw[List.size_toArray,List.length_take,List.length_drop,Array.length_toList]
  omega
 have hj:bU items.size items.size hi≤items.size:=FG _ _ (Nat.le_refl _) hi
 obtain⟨os,yi,qQ,CC⟩:=id hs
 have Jz:s.TypeIs (.ref sl) "slice":=⟨os,yi,qQ⟩
 unfold getItem
 try with_reducible refine wpAny_holding ?_
 first|refine wpAny_bind (wpAny_pure ?_)|skip
 refine wpAny_bind (wpAny_sequenceKey ht.typeIs (by decide) ?_)
 refine wpAny_bind (wpAny_callSpecial?_slot (name:=Str.ofString "__getitem__") ht.typeIs PyProof.Rows.slot_tuple_getitem
  (wpAny_call_entry PyProof.Rows.slot_tuple_getitem ht.typeIs entry_tuple_getitem ?_ (args_tuple_getitem _ _)))
 show wpAny _ _ (Builtin.Tuple.tupleItemsOf (.ref t) >>= _) _ _ s
 refine wpAny_bind (tupleItemsOf_ ht ?_)
 refine wpAny_bind (wpAny_typeOf Jz ?_)
 rw[if_pos (by decide)]
 refine wpAny_bind (iU hs pl pu ?_)
 have CD:¬((((bU items.size 0 lo:Nat):Int)==0&&(1:Int)==1&&(bU items.size items.size hi - bU items.size 0 lo)==items.size)=true):=by
  intro q
  rw[Bool.and_eq_true,Bool.and_eq_true]at q
  have q1:((bU items.size 0 lo:Nat):Int)=0:=eq_of_beq q.1.1
  have q2:bU items.size items.size hi - bU items.size 0 lo=items.size:=eq_of_beq q.2
  exact hw ⟨by omega,by omega⟩
 show wpAny _ _ (if (((bU items.size 0 lo:Nat):Int)==0&&(1:Int)==1&&(bU items.size items.size hi - bU items.size 0 lo)==items.size)=true then _ else _) _ _ s
 rw[if_neg CD,A0]
 first
  |exact wpAny_bind (m:=Builtin.Tuple.tupleExact _) (wpAny_newObj_type (wpAny_pure ⟨_,rfl,wpAny_pure h⟩) uH)
  |exact wpAny_bind (m:=Builtin.Tuple.tupleExact _) (wpAny_newObj_type (wpAny_bind (wpAny_pure (wpAny_pure ⟨_,rfl,wpAny_pure h⟩))) uH)
  |exact wpAny_bind (wpAny_bind (m:=Builtin.Tuple.tupleExact _) (wpAny_newObj_type (wpAny_pure (wpAny_pure ⟨_,rfl,wpAny_pure h⟩)) uH))
  |exact wpAny_bind (wpAny_bind (m:=Builtin.Tuple.tupleExact _) (wpAny_newObj_type (wpAny_pure ⟨_,rfl,wpAny_pure h⟩) uH))
end
end HT
namespace L2
open PySem PySem.Spec PyProof.Rows
abbrev TO:=St→Hp→(Option Int→Hp→Prop)→Prop
namespace Zu
set_option allowUnsafeReducibility true in
@[scoped irreducible] def _root_.L2.PO(X:Cx)(e:Option Expr)(t:TO):Prop:=
 ∀(pins:List (Addr×Obj)) (s:Shared) (σ:St) (H:Hp) (Q:Option Int→Hp→Prop),Inv X pins σ H s→t σ H Q→
  wpAny (model X.prog X.w) X.A (evalPart e X.env) (fun u s'=>∃o H',Inv X pins σ H' s'∧IsPart u o∧Q o H') X.xe s
end Zu
def CF:TO:=fun _ H Q=>Q none H
def JA(t:TE):TO:=fun σ H Q=>t σ H fun x H1=>∃i,x= .int i∧Q (some i) H1
section
variable{X:Cx}{e:Expr}{te:TE}{lo hi:Option Expr}{tl th:TO}{pos p2:Pos}
theorem CG:PO X none CF:=by
 intro pins s σ H Q I h
 rw[evalPart_none]
 exact wpAny_pure ⟨none,H,I,.none,h⟩
theorem CJ(h:PE X e te):PO X (some e) (JA te):=by
 intro pins s σ H Q I hw
 rw[evalPart_some]
 refine bF (h pins s σ H _ I hw) fun u s1 aZ=>?_
 obtain⟨x,H1,I1,r1,q1⟩:=aZ
 obtain⟨i,rfl,q⟩:=q1
 obtain⟨t,rfl⟩:=r1
 exact⟨some i,H1,I1,.int i t,q⟩
def uI(X:Cx)(r:V→Option Int→Option Int→Hp→VK→Prop):Prop:=
 ∀(pins:List (Addr×Obj)) (s:Shared) (σ:St) (H:Hp) (x:V) (v vl vu:Value) (lo hi:Option Int) (sl:Addr) (Q:VK),Inv X pins σ H s→RelV x v→s.heap.IsSliceOf sl vl vu .none→IsPart vl lo→IsPart vu hi→r x lo hi H Q→
  ∃T id,typeLookup (.type T) "__getitem__" =pure (some (.builtin id))∧s.TypeIs v T∧wpAny (model X.prog X.w) X.A (getItem v (.ref sl)) (EP X pins σ Q) X.xe s
theorem uI.or{r r':V→Option Int→Option Int→Hp→VK→Prop}(h:uI X r)(h':uI X r'):uI X (fun x lo hi H Q=>r x lo hi H Q∨r' x lo hi H Q):=by
 intro pins s σ H x v vl vu lo hi sl Q I rx hs pl pu q
 rcases q with q|q
 ·exact h pins s σ H x v vl vu lo hi sl Q I rx hs pl pu q
 ·exact h' pins s σ H x v vl vu lo hi sl Q I rx hs pl pu q
def Rw(r:V→Option Int→Option Int→Hp→VK→Prop)(te:TE)(tl th:TO):TE:=fun σ H Q=>te σ H fun x H1=>tl σ H1 fun l H2=>th σ H2 fun u H3=>r x l u H3 Q
theorem A2{r:V→Option Int→Option Int→Hp→VK→Prop}(hr:uI X r)(he:PE X e te)(hl:PO X lo tl)(hu:PO X hi th):PE X (.Subscript e (.Slice lo hi none p2) pos) (Rw r te tl th):=by
 intro pins s σ H Q I h
 refine Subscript_ (bF (he pins s σ H _ I h) fun v s1 aZ=>?_)
 obtain⟨x,H1,I1,r1,q1⟩:=aZ
 refine wpAny_Slice (bF (hl pins s1 σ H1 _ I1 q1) fun vl s2 ⟨l,H2,I2,pl,q2⟩=>bF (hu pins s2 σ H2 _ I2 q2) fun vu s3 aZ=>?_)
 obtain⟨u,H3,I3,pu,q3⟩:=aZ
 rw[evalPart_none]
 refine wpAny_pure ?_
 have I4:Inv X pins σ H3 { s3 with heap:=s3.heap.push { cls:=.type "slice",data:=.fields #[vl,vu,.none] } }:=I3.kept (t':=s3.toks) fun b ob q=>Heap.get?_push_of_some _ q
 obtain⟨T,id,hT,ht,hg⟩:=hr pins { s3 with heap:=s3.heap.push { cls:=.type "slice",data:=.fields #[vl,vu,.none] } } σ H3 x v vl vu l u s3.heap.objs.size Q I4 r1 (Heap.IsSliceOf.new ..) pl pu q3
 show wpAny (model X.prog X.w) X.A (subscriptTail e (.Slice lo hi none p2) v (.ref s3.heap.objs.size)) (EP X pins σ Q) X.xe { s3 with heap:=s3.heap.push { cls:=.type "slice",data:=.fields #[vl,vu,.none] } }
 exact tail_any (ops:=[.ref s3.heap.objs.size,v]) ht hT hg (by with_unfolding_all rfl)
def kr(xs:List V)(lo hi:Option Int):List V:=(xs.drop (HT.bU xs.length 0 lo)).take (HT.bU xs.length xs.length hi - HT.bU xs.length 0 lo)
theorem nz(xs:List V)(lo hi:Option Int):(kr xs lo hi).length≤xs.length:=by
 unfold kr
 rw[List.length_take,List.length_drop]
 omega
def Il(K:PySem.W.Frag):V→Option Int→Option Int→Hp→VK→Prop:=fun x lo hi H Q=>∃a xs,x= .ref a∧df K H a xs∧
 ¬(HT.bU xs.length 0 lo=0∧HT.bU xs.length xs.length hi=xs.length)∧∀p,H p=none→Q (.ref p) (upd H p (.tup (kr xs lo hi)))
theorem FH:uI X (Il X.K):=by
 intro pins s σ H x v vl vu lo hi sl Q I rx hs pl pu h
 obtain⟨a,xs,rfl,hx,hw,q⟩:=h
 cases rx
 obtain⟨its,r,ht,hz⟩:=I.tuple hx
 have hlen:its.toArray.size=xs.length:=by rw[List.size_toArray];exact r.length.symm
 refine⟨"tuple",_,PyProof.Rows.slot_tuple_getitem.lookup,ht.typeIs,?_⟩
 refine HT.mP ht hs pl pu (by rw[hlen];exact hw) ?_ (by rw[hlen];exact hz)
 rw[hlen]
 refine⟨.ref s.heap.objs.size,_,I.laid (t':=s.toks) (o:=.tup (kr xs lo hi)) (fun b ob q=>Heap.get?_push_of_some _ q) (Nat.le_refl _) ?_,rfl,q _ (I.aO.fresh (Nat.le_refl _))⟩
 exact⟨Nat.le_trans (nz xs lo hi) hz,_,(r.drop (HT.bU xs.length 0 lo)).take (HT.bU xs.length xs.length hi - HT.bU xs.length 0 lo),IsTup.new _ _⟩
def yj(K:PySem.W.Frag):R2:=fun x y H Q=>∃a b xs ys,x= .ref a∧y= .ref b∧df K H a xs∧df K H b ys∧xs≠[]∧xs.length+ys.length≤sizeLine∧
 (ys=[]→Q (.ref a) H)∧(ys≠[]→∀p,H p=none→Q (.ref p) (upd H p (.tup (xs++ys))))
theorem Vals.qR{xs:List V}{us:List Value}(r:Vals xs us):us=[]↔xs=[]:=by
 cases r with
 |nil=>simp
 |cons _ _=>simp
theorem CK:eR X (binaryOp .Add) (yj X.K):=by
 intro pins s σ H x y v u Q I rx ry h
 obtain⟨a,b,xs,ys,rfl,rfl,ha,hb,hx,hz,q1,q2⟩:=h
 cases rx
 cases ry
 obtain⟨its,r1,p1,_⟩:=I.tuple ha
 obtain⟨mr,r2,p2,_⟩:=I.tuple hb
 refine HT.CB p1 p2 (fun z=>hx (r1.qR.mp z)) (fun z=>⟨.ref a,H,I,rfl,q1 (r2.qR.mp z)⟩) (fun z=>?_) (by rw[←r1.length,←r2.length];exact hz)
 refine⟨.ref s.heap.objs.size,_,I.laid (t':=s.toks) (o:=.tup (xs++ys)) (fun b ob q=>Heap.get?_push_of_some _ q) (Nat.le_refl _) ?_,rfl,q2 (fun w=>z (r2.qR.mpr w)) _ (I.aO.fresh (Nat.le_refl _))⟩
 exact⟨by rw[List.length_append];exact hz,_,r1.append r2,IsTup.new _ _⟩
end
end L2
namespace L2
open PySem PySem.Spec PyProof.Rows
def yk(n:Nat)(i:Int):Option Nat:=if 0≤i then(if i<n then some i.toNat else none)else if -(n:Int)≤i then some (i+n).toNat else none
def A3{α:Type}(xs:List α)(i:Int):Option α:=(yk xs.length i).bind fun j=>xs[j]?
theorem wt{n:Nat}{i:Int}{j:Nat}(h:yk n i=some j):seqIndex? i n=some j∧j<n∧-(n:Int)≤i∧i<n:=by
 unfold yk at h
 by_cases h0: 0≤i
 ·rw[if_pos h0]at h
  by_cases h1:i<n
  ·rw[if_pos h1]at h
   have e:i.toNat=j:=Option.some.inj h
   exact⟨by rw[seqIndex_of h0 h1,e],by omega,by omega,h1⟩
  ·rw[if_neg h1]at h;cases h
 ·rw[if_neg h0]at h
  by_cases h1: -(n:Int)≤i
  ·rw[if_pos h1]at h
   have e:(i+n).toNat=j:=Option.some.inj h
   exact⟨by rw[seqIndex_neg (by omega) h1,e],by omega,h1,by omega⟩
  ·rw[if_neg h1]at h;cases h
theorem qS{α:Type}{xs:List α}{i:Int}{v:α}(h:A3 xs i=some v):∃j,seqIndex? i xs.length=some j∧xs[j]? =some v∧j<xs.length∧-(xs.length:Int)≤i∧i<xs.length:=by
 unfold A3 at h
 cases e:yk xs.length i with
 |none=>rw[e]at h;cases h
 |some j=>
  rw[e]at h
  obtain⟨h1,h2,h3,h4⟩:=wt e
  exact⟨j,h1,h,h2,h3,h4⟩
def qT(b:Expr):Prop:=∀o i,subscripted b false o i=operate [o,i] (getItem o i)
def tu(X:Cx)(r:R2):Prop:=
 ∀(value slice:Expr) (pins:List (Addr×Obj)) (s:Shared) (σ:St) (H:Hp) (x y:V) (v u:Value) (Q:VK),Inv X pins σ H s→RelV x v→RelV y u→r x y H Q→
  subscripted slice false v u=operate [v,u] (getItem v u)→wpAny (model X.prog X.w) X.A (subscriptTail value slice v u) (EP X pins σ Q) X.xe s
def M6(X:Cx)(id:String)(r:V→List V→Hp→VK→Prop):Prop:=
 ∀(pins:List (Addr×Obj)) (s:Shared) (σ:St) (H:Hp) (x:V) (xs:List V) (v:Value) (us:List Value) (Q:VK),Inv X pins σ H s→RelV x v→Vals xs us→r x xs H Q→
  wpAny (model X.prog X.w) X.A (call (.builtin id) (v::us)) (EP X pins σ Q) X.xe s
section
variable{X:Cx}{a b:Expr}{ta tb:TE}{pos:Pos}
theorem tu.or{r r':R2}(h:tu X r)(h':tu X r'):tu X (fun x y H Q=>r x y H Q∨r' x y H Q):=by
 intro value slice pins s σ H x y v u Q I rx ry q hs
 rcases q with q|q
 ·exact h value slice pins s σ H x y v u Q I rx ry q hs
 ·exact h' value slice pins s σ H x y v u Q I rx ry q hs
theorem JB{r:R2}(hr:tu X r)(ha:PE X a ta)(hb:PE X b tb)(hs:qT b):PE X (.Subscript a b pos) (Cr r ta tb):=by
 intro pins s σ H Q I h
 exact Subscript_ (Cs ha hb I h fun v u s2 x y H2 I2 rx ry q=>hr a b pins s2 σ H2 x y v u Q I2 rx ry q (hs _ _))
def Im(K:PySem.W.Frag):R2:=fun x y H Q=>∃p xs i v,x= .ref p∧y= .int i∧cD K H p xs∧A3 xs i=some v∧Q v H
def Io(K:PySem.W.Frag):R2:=fun x y H Q=>∃p xs i v,x= .ref p∧y= .int i∧df K H p xs∧A3 xs i=some v∧Q v H
def Ip:R2:=fun x y H Q=>∃z i c,x= .str z∧y= .int i∧z.length≤sizeLine∧A3 z.cps.toList i=some c∧Q (.str ⟨#[c]⟩) H
theorem CL:tu X (Im X.K):=by
 intro value slice pins s σ H x y v u Q I rx ry h hs
 obtain⟨p,xs,i,z,rfl,rfl,hq,he,q⟩:=h
 cases rx
 obtain⟨t,rfl⟩:=ry
 obtain⟨its,r,pl,hz⟩:=I.list hq
 obtain⟨j,h1,h2,h3,h4,h5⟩:=qS he
 obtain⟨w,ew,tp⟩:=r.get h2
 have hl:=r.length
 have hn:=ny
 have fin:EP X pins σ Q w s:=⟨z,H,I,tp,q⟩
 by_cases h0: 0≤i
 ·have hj:i.toNat=j:=by
   rw[seqIndex_of h0 h5]at h1
   exact Option.some.inj h1
  exact item_listR pl.isList h0 (by omega) (by rw[hj];simpa using ew) fin hs
 ·have hj:(i+(its.toArray.size:Int)).toNat=j:=by
   rw[seqIndex_neg (by omega) h4]at h1
   rw[List.size_toArray,←hl]
   exact Option.some.inj h1
  exact subscriptTail_builtinR (x:=w) pl.isList.typeIs slot_list_getitem.lookup
   (wpAny_getItem_list_neg (Q:=fun r s'=>r=w∧EP X pins σ Q r s') pl.isList (by omega) (by rw[List.size_toArray]<;>omega) (by omega) (by rw[hj];simpa using ew) ⟨rfl,fin⟩) hs
theorem FI:tu X (Io X.K):=by
 intro value slice pins s σ H x y v u Q I rx ry h hs
 obtain⟨p,xs,i,z,rfl,rfl,hq,he,q⟩:=h
 cases rx
 obtain⟨t,rfl⟩:=ry
 obtain⟨its,r,pl,hz⟩:=I.tuple hq
 obtain⟨j,h1,h2,h3,h4,h5⟩:=qS he
 obtain⟨w,ew,tp⟩:=r.get h2
 have hl:=r.length
 have hn:=ny
 have fin:EP X pins σ Q w s:=⟨z,H,I,tp,q⟩
 exact subscriptTail_builtinR (x:=w) pl.typeIs slot_tuple_getitem.lookup
  (getItem_tuple (j:=j) (Q:=fun r s'=>r=w∧EP X pins σ Q r s') pl (by omega) (by omega) (by rw[List.size_toArray,←hl];exact h1) (by simpa using ew) ⟨rfl,fin⟩) hs
theorem FJ:tu X Ip:=by
 intro value slice pins s σ H x y v u Q I rx ry h hs
 obtain⟨z,i,c,rfl,rfl,hz,he,q⟩:=h
 obtain⟨t,rfl⟩:=rx
 obtain⟨t',rfl⟩:=ry
 obtain⟨j,h1,h2,h3,h4,h5⟩:=qS he
 have hl:z.cps.toList.length=z.length:=by simp[Str.length]
 rw[hl]at h1 h4 h5
 have hn:=ny
 exact tail_any (typeIs_str s z t) slot_str_getitem.lookup (getItem_str (c:=c) (by
  have e1:decide (i< -(2 ^ 63:Int))=false:=decide_eq_false (by omega)
  have e2:decide (i≥2 ^ 63)=false:=decide_eq_false (by omega)
  rw[e1,e2,Bool.or_false]) (by rw[h1];simpa using h2) ⟨.str ⟨#[c]⟩,H,I.tok _,⟨_,rfl⟩,q⟩) hs
def M7(K:PySem.W.Frag):R2:=fun x y H Q=>Im K x y H Q∨Io K x y H Q∨Ip x y H Q
theorem FK:tu X (M7 X.K):=CL.or (FI.or FJ)
theorem wu(its:List Value)(n j:Nat)(u:Value):Obj.mapSeq (·.setIfInBounds j u) { cls:=.type "list",data:=.seq its.toArray n } = { cls:=.type "list",data:=.seq (its.set j u).toArray n }:=by
 simp[Obj.mapSeq]
theorem Inv.lst{pins:List (Addr×Obj)}{σ:St}{H:Hp}{s:Shared}{p:Addr}{xs:List V}(I:Inv X pins σ H s)(h:H p=some (.lst xs)):
  ∃(its:List Value) (n:Nat),Vals xs its∧s.heap.get? p=some { cls:=.type "list",data:=.seq its.toArray n }∧xs.length≤sizeLine:=by
 obtain⟨z,its,n,r,e⟩:=I.aO p _ h
 exact⟨its,n,r,e,z⟩
theorem Inv.FO{pins:List (Addr×Obj)}{σ:St}{H:Hp}{s:Shared}{p:Addr}{xs ys:List V}{its its':List Value}{n n':Nat}{f:Obj→Obj}(I:Inv X pins σ H s)(h:H p=some (.lst xs))
  (ho:s.heap.get? p=some { cls:=.type "list",data:=.seq its.toArray n })(hf:f { cls:=.type "list",data:=.seq its.toArray n } = { cls:=.type "list",data:=.seq its'.toArray n' })(r:Vals ys its')(hz:ys.length≤sizeLine)(t:Nat):
  Inv X pins σ (upd H p (.lst ys)) { s with heap:=s.heap.update p f,toks:=t }:=by
 have e:(s.heap.update p f).get? p=some { cls:=.type "list",data:=.seq its'.toArray n' }:=by
  rw[Heap.get?_update_self f ho (by rw[hf]<;>rfl),hf]
 refine I.write (x:=p) (e:=p) (by rw[h];trivial) (.inl rfl) (fun b u hb q=>(Heap.get?_update_other _ _ (Ne.symm hb)).trans q) ⟨_,e⟩ ?_
 exact⟨hz,its',n',r,e⟩
def JC:V→V→V→Hp→(Hp→Prop)→Prop:=fun o i v H Q=>∃p xs k j,o= .ref p∧i= .int k∧H p=some (.lst xs)∧yk xs.length k=some j∧Q (upd H p (.lst (xs.set j v)))
theorem set_list:Ic X JC:=by
 intro pins s σ H o i v ov iv u Q I ro ri rv h
 obtain⟨p,xs,k,j,rfl,rfl,hp,hj,q⟩:=h
 cases ro
 obtain⟨t,rfl⟩:=ri
 obtain⟨its,n,r,ho,hz⟩:=I.lst hp
 obtain⟨h1,h2,h3,h4⟩:=wt hj
 have hl:=r.length
 have hn:=ny
 have I':Inv X pins σ (upd H p (.lst (xs.set j v))) { s with heap:=s.heap.update p (Obj.mapSeq (·.setIfInBounds j u)) }:=
  I.FO hp ho (wu its n j u) (r.set rv j) (by rw[List.length_set];exact hz) s.toks
 by_cases h0: 0≤k
 ·have hk:k.toNat=j:=by
   rw[seqIndex_of h0 h4]at h1
   exact Option.some.inj h1
  exact PySem.W.ki_setAt ho h0 (by omega) (by rw[List.size_toArray,←hl];exact h4) (by rw[hk];exact⟨_,I',q⟩)
 ·have hk:(k+(its.toArray.size:Int)).toNat=j:=by
   rw[seqIndex_neg (by omega) h3]at h1
   rw[List.size_toArray,←hl]
   exact Option.some.inj h1
  exact PySem.W.ki_setBack ho (by omega) (by rw[List.size_toArray,←hl];exact h3) (by omega) (by rw[hk];exact⟨_,I',q⟩)
theorem tw(lo hi:Option Int)(n:Nat):(sliceBounds lo hi none n).1=((HT.bU n 0 lo:Nat):Int)∧(sliceBounds lo hi none n).2.1=((HT.bU n n hi:Nat):Int)∧(sliceBounds lo hi none n).2.2=1:=by
 refine⟨?_,?_,rfl⟩
 ·cases lo with
  |none=>simp[sliceBounds,HT.bU]
  |some i=>
   simp only[sliceBounds,HT.bU,Option.getD_none,show(1:Int) > 0 by decide,if_true]
   by_cases h:i<0
   ·simp only[h,if_true]<;>omega
   ·simp only[h,if_false]<;>omega
 ·cases hi with
  |none=>simp[sliceBounds,HT.bU]
  |some i=>
   simp only[sliceBounds,HT.bU,Option.getD_none,show(1:Int) > 0 by decide,if_true]
   by_cases h:i<0
   ·simp only[h,if_true]<;>omega
   ·simp only[h,if_false]<;>omega
theorem qU(its:List Value)(lo hi:Option Int):slicePick its.toArray lo hi none=((its.drop (HT.bU its.length 0 lo)).take (HT.bU its.length its.length hi - HT.bU its.length 0 lo)).toArray:=by
 obtain⟨h1,h2,h3⟩:=tw lo hi its.toArray.size
 unfold slicePick
 rw[h1,h2,h3]
 simp only[sliceRange_one,pick_run,List.size_toArray]<;>rfl
def Iq(K:PySem.W.Frag):V→Option Int→Option Int→Hp→VK→Prop:=fun x lo hi H Q=>∃a xs,x= .ref a∧cD K H a xs∧∀p,H p=none→Q (.ref p) (upd H p (.lst (kr xs lo hi)))
theorem CM:uI X (Iq X.K):=by
 intro pins s σ H x v vl vu lo hi sl Q I rx hs pl pu h
 obtain⟨a,xs,rfl,hx,q⟩:=h
 cases rx
 obtain⟨its,r,ht,hz⟩:=I.list hx
 have hlen:=r.length
 refine⟨"list",_,slot_list_getitem.lookup,ht.isList.typeIs,?_⟩
 refine wpAny_getItem_list_slice ht.isList hs pl pu .none (by simp) ?_ (by rw[List.size_toArray]<;>omega)
 rw[qU,←hlen]
 refine⟨.ref s.heap.objs.size,_,I.laid (t':=s.toks) (o:=.lst (kr xs lo hi)) (fun b ob q=>Heap.get?_push_of_some _ q) (Nat.le_refl _) ?_,rfl,q _ (I.aO.fresh (Nat.le_refl _))⟩
 exact⟨Nat.le_trans (nz xs lo hi) hz,_,0,(r.drop (HT.bU xs.length 0 lo)).take (HT.bU xs.length xs.length hi - HT.bU xs.length 0 lo),Heap.get?_push_size _ rfl⟩
theorem br:fC X (.builtin "len") (fun xs H Q=>∃p ys,xs=[.ref p]∧(cD X.K H p ys∨df X.K H p ys)∧Q (.int ys.length) H):=by
 intro pins s σ H xs us Q I r h
 obtain⟨p,ys,rfl,hq,q⟩:=h
 obtain⟨u,rfl,rx⟩:=vals1 r
 cases rx
 have hn:=ny
 rcases hq with hq|hq
 ·obtain⟨its,r',pl,hz⟩:=I.list hq
  have hlen:=r'.length
  exact Calls.call_len_list pl.isList (by simp only[List.size_toArray]<;>omega) ⟨.int ys.length,H,I.tok _,⟨s.toks+1,by rw[List.size_toArray,hlen]⟩,q⟩
 ·obtain⟨its,r',pl,hz⟩:=I.tuple hq
  have hlen:=r'.length
  exact len_tuple pl (by simp only[List.size_toArray]<;>omega) ⟨.int ys.length,H,I.tok _,⟨s.toks+1,by rw[List.size_toArray,hlen]⟩,q⟩
theorem tD:fC X (.type "list") (fun xs H Q=>∃p ys,xs=[.ref p]∧(cD X.K H p ys∨df X.K H p ys)∧∀l,H l=none→Q (.ref l) (upd H l (.lst ys))):=by
 intro pins s σ H xs us Q I r h
 obtain⟨p,ys,rfl,hq,q⟩:=h
 obtain⟨u,rfl,rx⟩:=vals1 r
 cases rx
 have fin:∀(its:List Value),Vals ys its→ys.length≤sizeLine→∀(h':Heap) (c':Nat),(∀b o',s.heap.get? b=some o'→h'.get? b=some o')→
   h'.get? s.heap.objs.size=some { cls:=.type "list",dict:=none,data:=.seq its.toArray c',slots:=#[] }→EP X pins σ Q (.ref s.heap.objs.size) { s with heap:=h' }:=fun its r' hz h' c' kp e=>
  ⟨.ref s.heap.objs.size,_,I.laid (t':=s.toks) kp (Nat.le_refl _) (show cC X.prog X.w _ h' _ (.lst ys)from⟨hz,its,c',r',e⟩),rfl,q _ (I.aO.fresh (Nat.le_refl _))⟩
 rcases hq with hq|hq
 ·obtain⟨its,r',pl,hz⟩:=I.list hq
  have hlen:=r'.length
  obtain⟨o,ho,hc,n,hd⟩:=pl.isList
  exact call_list_seq p (.inl rfl) ho hc hd (fun h' c' kp e=>fin its r' hz h' c' kp e) (by simp only[List.size_toArray]<;>omega)
 ·obtain⟨its,r',pl,hz⟩:=I.tuple hq
  have hlen:=r'.length
  obtain⟨o,ho,hc,n,hd⟩:=pl
  exact call_list_seq p (.inr rfl) ho hc hd (fun h' c' kp e=>fin its r' hz h' c' kp e) (by simp only[List.size_toArray]<;>omega)
def FP(K:PySem.W.Frag)(T:String)(x:V)(H:Hp):Prop:=match x with
 |.str _=>T= "str"
 |.int _=>T= "int"
 |.ref p=>(T= "list"∧∃xs,cD K H p xs)∨(T= "tuple"∧∃o,K.lookup p=some o∧o.cls= .type "tuple"∧o.dict=none)∨
   (T= "dict"∧((∃bg,H p=some (.dK bg))∨∃bg,H p=some (.dT bg)))∨(T= "set"∧∃S n,H p=some (.set S n))
 |_=>False
theorem zL{pins:List (Addr×Obj)}{σ:St}{H:Hp}{s:Shared}{T:String}{x:V}{v:Value}(I:Inv X pins σ H s)(r:RelV x v)(ty:FP X.K T x H):
  s.TypeIs v T∧∀a,v= .ref a→∃ob,s.heap.get? a=some ob∧ob.dict=none:=by
 cases x with
 |str z=>
  obtain⟨t,rfl⟩:=r
  cases (show T= "str" from ty)
  exact⟨typeIs_str s z t,fun _ e=>nomatch e⟩
 |int i=>
  obtain⟨t,rfl⟩:=r
  cases (show T= "int" from ty)
  exact⟨typeIs_int s i t,fun _ e=>nomatch e⟩
 |ref p=>
  cases r
  rcases ty with⟨rfl,xs,hq⟩|⟨rfl,o,hk,hc,hd⟩|⟨rfl,hk⟩|⟨rfl,S,n,hk⟩
  ·obtain⟨its,_,pl,_⟩:=I.list hq
   refine⟨pl.isList.typeIs,fun a e=>?_⟩
   cases e
   obtain⟨o,n,e,c,hd,_⟩:=pl
   exact⟨o,e,hd⟩
  ·refine⟨⟨o,I.jN p o hk,hc⟩,fun a e=>?_⟩
   cases e
   exact⟨o,I.jN _ o hk,hd⟩
  ·have z:∃o,s.heap.get? p=some o∧o.ExactDict:=by
    rcases hk with⟨bg,hk⟩|⟨bg,hk⟩
    ·obtain⟨_,_,_,_,o,_,_,e,ex,_⟩:=I.aO p _ hk
     exact⟨o,e,ex⟩
    ·obtain⟨_,_,_,_,o,_,_,e,ex,_⟩:=I.aO p _ hk
     exact⟨o,e,ex⟩
   obtain⟨o,e,ex⟩:=z
   refine⟨⟨o,e,ex.1⟩,fun a e2=>?_⟩
   cases e2
   exact⟨o,e,ex.2.1⟩
  ·obtain⟨o,_,_,_,e,ex,_⟩:=I.aO p _ hk
   refine⟨⟨o,e,ex.1⟩,fun a e2=>?_⟩
   cases e2
   exact⟨o,e,ex.2.1⟩
 |_=>exact False.elim ty
def M8(K:PySem.W.Frag)(T:String)(r:V→List V→Hp→VK→Prop)(to:TE):TE:=fun σ H Q=>to σ H fun x H1=>FP K T x H1∧r x [] H1 Q
def Rx(K:PySem.W.Frag)(T:String)(r:V→List V→Hp→VK→Prop)(to:TE)(t:TA):TE:=fun σ H Q=>to σ H fun x H1=>FP K T x H1∧t σ H1 fun xs H2=>r x xs H2 Q
variable{o e:Expr}{es:List Expr}{to:TE}{t:TA}{name:Str}{apos dW:Pos}{T id:String}{r:V→List V→Hp→VK→Prop}
theorem FQ(pa:PlainAttrs T)(slot:Slot T name id)(ym:typeOf (.builtin id)=pure (.type "method_descriptor"))(hm:M6 X id r)(ho:PE X o to)
  (mQ:attributeBase o name X.env (eval o X.env)=eval o X.env:=by rfl)(mR:(apos.endLine==dW.line)=true:=by rfl):PE X (.Call (.Attribute o name apos) [] [] dW) (M8 X.K T r to):=by
 intro pins s σ H Q I h
 refine wpAny_Call_method0_late mQ mR (bF (ho pins s σ H _ I h) fun v s1 aZ=>?_)
 obtain⟨x,H1,I1,r1,ty,q1⟩:=aZ
 obtain⟨h1,h2⟩:=zL I1 r1 ty
 exact⟨T,id,pa,slot,ym,h1,h2,Calls.callWith_builtin rfl (PySem.evalArgs_none (hm pins s1 σ H1 x [] v [] Q I1 r1 .nil q1))⟩
theorem JD(pa:PlainAttrs T)(slot:Slot T name id)(ym:typeOf (.builtin id)=pure (.type "method_descriptor"))(hm:M6 X id r)(ho:PE X o to)(ha:PA X (e::es) t)
  (mQ:attributeBase o name X.env (eval o X.env)=eval o X.env:=by rfl)
  (CN:((backTo dW (starEach (e::es) X.env)).all (fun x=>!x.1)&&(backToKw dW (keywordEach [] X.env)).all (fun x=>x.1.isSome)
   &&decide ((e::es).length+([]:List Keyword).length+(if ([]:List Keyword).isEmpty then 0 else 1)<30))=true:=by rfl)
  (mR:(apos.endLine==dW.line)=true:=by rfl)(hs:starEach (e::es) X.env=(false,eval e X.env)::starEach es X.env:=by rfl)(uJ:(backTo dW (starEach es X.env)).any (·.1)=false:=by rfl):
  PE X (.Call (.Attribute o name apos) (e::es) [] dW) (Rx X.K T r to t):=by
 intro pins s σ H Q I h
 refine wpAny_Call_method_late mQ CN mR rfl (bF (ho pins s σ H _ I h) fun v s1 aZ=>?_)
 obtain⟨x,H1,I1,r1,ty,q1⟩:=aZ
 obtain⟨h1,h2⟩:=zL I1 r1 ty
 refine⟨T,id,pa,slot,ym,h1,h2,?_⟩
 have hA:=ha dW pins s1 σ H1 _ I1 q1
 rw[hs]at hA ⊢
 refine Calls.callWith_builtin (by show(false||(backTo dW (starEach es X.env)).any (·.1))=false;rw[uJ]<;>rfl) (Calls.evalArgs_plain ?_)
 exact bF hA fun us s2 ⟨vs,H2,I2,r2,q2⟩=>hm pins s2 σ H2 x vs v us Q I2 r1 r2 q2
end
end L2
namespace L2
open PySem PySem.Spec PyProof.Rows
def yn(X:Cx)(id:String)(r:V→List V→Hp→VK→Prop):Prop:=
 ∀(pins:List (Addr×Obj)) (s:Shared) (σ:St) (H:Hp) (x:V) (xs:List V) (v:Value) (us:List Value) (Q:VK),Inv X pins σ H s→RelV x v→Vals xs us→r x xs H Q→
  wpAny (model X.prog X.w) X.A (call (.builtin id) (v::us)) (EP X pins σ Q) X.xe s
theorem Vals.one:∀{x:V}{us:List Value},Vals [x] us→∃u,us=[u]∧RelV x u
 |_,_,.cons r .nil=>⟨_,rfl,r⟩
theorem Vals.two:∀{x y:V}{us:List Value},Vals [x,y] us→∃u v,us=[u,v]∧RelV x u∧RelV y v
 |_,_,_,.cons r (.cons q .nil)=>⟨_,_,rfl,r,q⟩
theorem Vals.zero:∀{us:List Value},Vals [] us→us=[]
 |_,.nil=>rfl
theorem Vals.dropLast{xs:List V}{us:List Value}(h:Vals xs us):Vals xs.dropLast us.dropLast:=by
 induction h with
 |nil=>exact .nil
 |cons r t ih=>
  cases t with
  |nil=>exact .nil
  |cons q t'=>exact .cons r ih
theorem wx{α:Type}(l:List α):l.eraseIdx (l.length - 1)=l.dropLast:=by
 induction l with
 |nil=>rfl
 |cons a r ih=>
  cases r with
  |nil=>rfl
  |cons b r=>
   have e:(a::b::r).length - 1=((b::r).length - 1)+1:=by
    have h1:(a::b::r).length=r.length+2:=rfl
    have h2:(b::r).length=r.length+1:=rfl
    omega
   rw[e,List.eraseIdx_cons_succ,ih]
   all_goals rfl
section
variable{X:Cx}{pins:List (Addr×Obj)}{σ:St}{H:Hp}{s:Shared}{l b:Addr}{xs ys zs:List V}
theorem Inv.zM{its its':List Value}{n:Nat}{f:Array Value→Array Value}{t':Nat}(I:Inv X pins σ H s)(hH:H l=some (.lst xs))
  (e:s.heap.get? l=some { cls:=.type "list",data:=.seq its.toArray n })(hf:f its.toArray=its'.toArray)(hv:Vals ys its')(hz:ys.length≤sizeLine):
  Inv X pins σ (upd H l (.lst ys)) { s with heap:=s.heap.update l (Obj.mapSeq f),toks:=t' }:=by
 have q:=PySem.IsL.update e f
 rw[hf]at q
 refine I.write (x:=l) (e:=l) (by rw[hH];exact trivial) (.inl rfl) (fun b' u hb hu=>(Heap.get?_update_other s.heap (Obj.mapSeq f) (Ne.symm hb)).trans hu) ⟨_,q⟩ ?_
 exact⟨hz,its',_,hv,q⟩
theorem Inv.Ir{its:List Value}{t':Nat}(I:Inv X pins σ H s)(hv:Vals ys its)(hz:ys.length≤sizeLine):
  Inv X pins σ (upd H s.heap.objs.size (.lst ys)) { s with heap:=s.heap.push { cls:=.type "list",data:=.seq its.toArray },toks:=t' }:=
 I.laid (fun _ _ q=>Heap.get?_push_of_some _ q) (Nat.le_refl _) ⟨hz,its,0,hv,Heap.get?_push_size _ rfl⟩
theorem Inv.fresh(I:Inv X pins σ H s):H s.heap.objs.size=none:=I.aO.fresh (Nat.le_refl _)
theorem Inv.pH(I:Inv X pins σ H s)(hH:H l=some (.lst xs)):xs.length≤sizeLine∧∃(its:List Value) (n:Nat),Vals xs its∧xs.length=its.length∧s.heap.get? l=some { cls:=.type "list",data:=.seq its.toArray n }:=by
 obtain⟨z,its,n,r,e⟩:=I.aO l _ hH
 exact⟨z,its,n,r,r.length,e⟩
theorem A4{n:Nat}(h:n≤sizeLine):Builtin.List.listTooLong n=false:=by
 unfold Builtin.List.listTooLong
 exact decide_eq_false (by omega)
end
section
variable{X:Cx}
def wy:V→List V→Hp→VK→Prop:=fun x vs H Q=>∃l xs y,x= .ref l∧vs=[y]∧H l=some (.lst xs)∧xs.length<sizeLine∧Q .bL (upd H l (.lst (xs++[y])))
theorem eT:yn X "list.append" wy:=by
 intro pins s σ H x vs v us Q I rx rv h
 obtain⟨l,xs,y,rfl,rfl,hH,hz,q⟩:=h
 cases rx
 obtain⟨u,rfl,ru⟩:=rv.one
 obtain⟨z,its,n,r,hl,e⟩:=I.pH hH
 refine call_meets F.slot_list_append ⟨_,e,rfl⟩ F.entry_list_append (F.args_list_append_2 _ _) (PySem.list_append l its.toArray n u (by rw[List.size_toArray];omega)) ⟨e,?_⟩
 refine⟨.bL,_,I.zM (its':=its++[u]) hH e (by simp) (r.append (.cons ru .nil)) ?_,rfl,q⟩
 rw[List.length_append,List.length_singleton]
 omega
def wz:V→List V→Hp→VK→Prop:=fun x vs H Q=>∃l b xs zs,x= .ref l∧vs=[.ref b]∧H l=some (.lst xs)∧H b=some (.lst zs)∧xs.length+zs.length≤sizeLine∧Q .bL (upd H l (.lst (xs++zs)))
theorem yo:yn X "list.extend" wz:=by
 intro pins s σ H x vs v us Q I rx rv h
 obtain⟨l,b,xs,zs,rfl,rfl,hH,hB,hz,q⟩:=h
 cases rx
 obtain⟨u,rfl,ru⟩:=rv.one
 cases ru
 obtain⟨z,its,n,r,hl,e⟩:=I.pH hH
 obtain⟨z2,mr,n2,r2,Ry,e2⟩:=I.pH hB
 have qP:its.toArray.size+mr.toArray.size≤sizeLine:=by rw[List.size_toArray,List.size_toArray];omega
 have JE:¬(!its.toArray.isEmpty&&Builtin.List.listTooLong (its.toArray.size+mr.toArray.size))=true:=by
  rw[A4 qP,Bool.and_false]
  exact Bool.false_ne_true
 refine call_meets F.slot_list_extend ⟨_,e,rfl⟩ F.entry_list_extend (F.args_list_extend_2 _ _)
  (AutoSeq1.list_extend_list_list_0 l its.toArray n b mr.toArray n2 JE (by rw[List.size_toArray];omega) (by omega)) ⟨e,e2,?_⟩
 refine⟨.bL,_,I.zM (its':=its++mr) hH e (by simp) (r.append r2) ?_,rfl,q⟩
 rw[List.length_append]
 omega
def M9:V→List V→Hp→VK→Prop:=fun x vs H Q=>∃l xs y,x= .ref l∧vs=[]∧H l=some (.lst xs)∧xs[xs.length - 1]? =some y∧Q y (upd H l (.lst xs.dropLast))
theorem Rg:yn X "list.pop" M9:=by
 intro pins s σ H x vs v us Q I rx rv h
 obtain⟨l,xs,y,rfl,rfl,hH,hy,q⟩:=h
 cases rx
 have JF:=rv.zero
 subst JF
 obtain⟨z,its,n,r,hl,e⟩:=I.pH hH
 obtain⟨u,hu,ru⟩:=r.get hy
 have qw:its.toArray[its.toArray.size - 1]? =some u:=by
  show its.toArray[its.length - 1]? =some u
  rw[←Array.getElem?_toList,←hl]
  exact hu
 refine call_meets F.slot_list_pop ⟨_,e,rfl⟩ F.entry_list_pop (F.args_list_pop_1 _) (MeetsSeq.list_pop_last l its.toArray n u qw (by rw[List.size_toArray];omega)) ⟨e,?_⟩
 refine⟨y,_,I.zM (its':=its.dropLast) hH e ?_ r.dropLast ?_,ru,q⟩
 ·show its.toArray.eraseIdxIfInBounds (its.toArray.size - 1)=its.dropLast.toArray
  rw[List.size_toArray,List.eraseIdxIfInBounds_toArray,wx]
 ·rw[List.length_dropLast]
  omega
def zN:V→List V→Hp→VK→Prop:=fun x vs H Q=>∃l xs,x= .ref l∧vs=[]∧H l=some (.lst xs)∧Q .bL (upd H l (.lst []))
theorem A5:yn X "list.clear" zN:=by
 intro pins s σ H x vs v us Q I rx rv h
 obtain⟨l,xs,rfl,rfl,hH,q⟩:=h
 cases rx
 have JF:=rv.zero
 subst JF
 obtain⟨z,its,n,r,hl,e⟩:=I.pH hH
 refine call_meets F.slot_list_clear ⟨_,e,rfl⟩ F.entry_list_clear (F.args_list_clear_1 _) (AutoSeq1.list_clear_list_0 l its.toArray n (by rw[List.size_toArray];omega)) ⟨e,?_⟩
 exact⟨.bL,_,I.zM (its':=[]) (ys:=[]) hH e rfl .nil (Nat.zero_le _),rfl,q⟩
def CP:R2:=fun x y H Q=>∃l b xs zs,x= .ref l∧y= .ref b∧H l=some (.lst xs)∧H b=some (.lst zs)∧xs.length+zs.length≤sizeLine∧∀p,H p=none→Q (.ref p) (upd H p (.lst (xs++zs)))
theorem FR:eR X (binaryOp .Add) CP:=by
 intro pins s σ H x y v u Q I rx ry h
 obtain⟨l,b,xs,zs,rfl,rfl,hH,hB,hz,q⟩:=h
 cases rx
 cases ry
 obtain⟨z,its,n,r,hl,e⟩:=I.pH hH
 obtain⟨z2,mr,n2,r2,Ry,e2⟩:=I.pH hB
 refine PySem.P.add_list e e2 ?_ (by rw[List.size_toArray,List.size_toArray];omega)
 have ea:its.toArray++mr.toArray=(its++mr).toArray:=by simp
 rw[ea]
 exact⟨.ref _,_,I.Ir (t':=s.toks) (r.append r2) (by rw[List.length_append];omega),rfl,q _ I.fresh⟩
end
section
variable{prog:Program}{w:World}{A:Around}{E:Value→Shared→Prop}{s:Shared}
end
section
variable{X:Cx}
end
end L2
namespace M_
open PySem PySem.W PySem.Calls PyProof.Rows
theorem oI{P:Params}{h:Heap}:∀(ns:List Int) (vs:List Value),WellAll P h vs (ns.map WData.int)→IntsAre vs ns:=by
 intro ns
 induction ns with
 |nil=>
  intro vs w
  rw[List.map_nil]at w
  cases w
  exact .nil
 |cons n ns ih=>
  intro vs w
  rw[List.map_cons]at w
  cases w with
  |cons a b=>
   cases a
   exact .cons _ _ (ih _ b)
theorem yp{l:OpenLaw}{n:Nat}(hn:l.most=some n){P:Params}{h:Heap}{args:List WData}{vals:List Value}
  (zO:l.row.toRowW.claim.pre args=true)(JG:WellAll P h vals args):
  ∃a vs ns,vals=[Value.ref a]∧args=[WData.list (ns.map WData.int)]∧h.get? a=some { cls:=.type "list",data:=.seq vs.toArray }∧IntsAre vs ns∧ns.length≤n:=by
 have Rz:WShape.hasAll [] args [.list .int]=true:=(pre_splitW zO).1
 have hc:l.pre.holds [] { args:=args } =true:=(pre_splitW zO).2
 obtain⟨d,r,rfl,h1,h2⟩:=hasAllW_cons Rz
 obtain rfl:=hasAllW_nil h2
 obtain⟨xs,rfl,h3⟩:=hasW_list h1
 obtain⟨ns,rfl⟩:=items_int h3
 have hlen:ns.length≤n:=by
  unfold OpenLaw.pre at hc
  have h4:(WTm.not (.lt (.lit (.int (n:Int))) (.len (.arg 0)))).holds [] { args:=[.list (ns.map .int)] } =true:=by
   have h4:=(holds_andW hc).1
   rw[hn]at h4
   exact h4
  have h5:=condW_of h4 (w_not (w_lt w_lit (w_len_list (w_arg rfl))))
  rw[List.length_map]at h5
  refine Nat.le_of_not_lt fun q=>?_
  have q':(n:Int)<((ns.length:Nat):Int):=by omega
  first
   |(rw[decide_eq_true q']at h5;exact absurd h5 (by decide))
   |(simp at h5;omega)
 cases JG with
 |cons w1 w2=>
  cases w2
  cases w1 with
  |list ho nk=>exact⟨_,_,ns,rfl,rfl,ho,oI ns _ nk,hlen⟩
theorem yq(l:OpenLaw)(args:List WData):l.row.toRowW.claim.post args (.bool true) args=true:=
 postW_of (r:=l.row.toRowW) (X:=(true==true))
  (show WShape.has [] (.bool true) .bool=true by first|rfl|decide|simp[WShape.has,WShape.arms,WShape.armsAll])
  (show(WTm.eq .res (.lit (.bool true))).value [] { args:=args,res:=some (.bool true),after:=args } =some (.bool (true==true))from w_eq_bool (w_res rfl) w_lit) rfl
theorem uK{l:OpenLaw}{n:Nat}{q:Program}{loose:List Str}{XP:(Str→Option Value)→Heap→Prop}{YP:World→Heap→Prop}{d:DefRec}
  (hn:l.most=some n)(yr:d.params.defaults=[])
  (call:∀(w:World) (aY bD:Shared) (mg mb:Str→Option Value) (fa:Addr) (o:Obj) (pm cd doc:Value) (a:Addr) (vs:List Value) (ns:List Int),
   Ground q loose [] XP w aY mg mb bD.heap→YP w bD.heap→
   bD.heap.get? fa=some o→o.data= .func (docDef d.name d.params d.body d.scope pm cd doc)→bD.heap.CodeRec cd d.name→mg d.name=some (.ref fa)→
   bD.heap.get? a=some { cls:=.type "list",data:=.seq vs.toArray }→IntsAre vs ns→ns.length≤n→bD.gens= #[]→
   codeAny (model l.prog w) callerA (.call (.ref fa) ⟨[.ref a],[]⟩) (fun r s'=>r= .ok (.ret (.bool true))∧OldK bD.heap s'.heap∧s'.os=bD.os∧AllBare s'.gens) bD):
  WalkO q loose XP YP l.row.toRowW d [] (fun f vs=>PySem.call f vs):=by
 intro w aY bD mg mb G Y fa o pm cd doc dV kV ho hd km hD yt hg args vals as zO U5 Vb JG Na
 obtain rfl:dV= .none:=Dflts.none hD yr
 obtain rfl:kV= .none:=Dflts.noKw hD
 obtain⟨a,vs,ns,rfl,rfl,CQ,hints,hlen⟩:=yp hn zO JG
 refine enter_call (codeAny_mono (call w aY bD mg mb fa o pm cd doc a vs ns G Y ho (fd_plain hd) km yt CQ hints hlen hg) fun r s' hq=>?_)
 obtain⟨rfl,h2,h3,h4⟩:=hq
 exact⟨.inl ⟨.bool true,.bool true,[],rfl,fun _=>rfl,.bool true,yq l _,fun _=>⟨List.Pairwise.nil,fun _ hm=>(nomatch hm)⟩⟩,h2,h3,h4⟩
section
variable{prog:Program}{w:World}{A:Around}{E:Value→Shared→Prop}{s:Shared}{K:Frag}
end
end M_
namespace L2
open PySem PySem.Spec PyProof.Rows
theorem qV:∀{vs:List Value}{ns:List Int},IntsAre vs ns→Vals (ns.map V.int) vs
 |_,_,.nil=>.nil
 |_,_,.cons n t h=>.cons ⟨t,rfl⟩ (qV h)
end L2
namespace L2
open PySem PySem.Spec PyProof.Rows
abbrev Nb{K:PySem.W.Frag}{h:Heap}(_:K.In h):PySem.W.Frag:=K
end L2
namespace L2
open PySem PySem.Spec PyProof.Rows
def aV(s:Stmt):Arguments:=match s with
 |.FunctionDef _ a _ _ _ _ _ _ _ _=>a
 |_=>{ posonlyargs:=[],args:=[],vararg:=none,kwonlyargs:=[],kw_defaults:=[],kwarg:=none,defaults:=[] }
def aL(s:Stmt):List Stmt:=match s with
 |.FunctionDef _ _ b _ _ _ _ _ _ _=>b
 |_=>[]
def ao(s:Stmt):Scope:=match s with
 |.FunctionDef _ _ _ _ _ _ sc _ _ _=>sc
 |_=>{ kind:=.function,names:=[],isGenerator:=false,isCoroutine:=false }
abbrev cF:qI:=fun _ _ _ _ _ _=>False
abbrev E0:XK:=fun _ _ _=>False
theorem CS{X:Cx}:Passes cF X E0:=fun _ _ _ _ _ _ _ h=>h.elim
structure gZ(K:PySem.W.Frag)(x qual:Str)(st:Stmt)(f:Addr)(fd:FuncData):Prop where
 ex:∃(oc:Value) (od:Option Addr) (kV doc pm:Value) (an:Option Addr) (bP ct:Value) (iA:Array (Option Value)),
  fd=PySem.W.fnOf x qual (aV st) (aL st) (ao st) .none kV doc pm an bP ct∧K.lookup f=some ⟨oc,od,.func fd,iA⟩∧PySem.W.codeIn K bP qual=true
 kp:PySem.W.keepIn K (.ref f)=true
section
variable{P:Program}{w:World}{K:PySem.W.Frag}{mg:Str→Option Value}{base:Heap}
theorem gZ.ok{x qual:Str}{st:Stmt}{f:Addr}{fd:FuncData}{N ps:List Str}{k:Nat}{sp:Sp}(F:gZ K x qual st f fd)(S:bp N ps (ao st))(len:∀vs H Q E,sp vs H Q E→vs.length=ps.length)
  (eS:∀(bP:Value) (A:Around) (outer:List Env) (s:Shared) (H:Hp) (vs:List V) (Q:VK) (E:XK),cS k (A.deeper (envOfC qual (ao st) s.heap.objs.size f bP))→sp vs H Q E→
   ∃t,kl (gR cF P w K mg base N qual (ao st) f bP A outer s H E).qD (aL st) t∧t { nx:=fun _ H'=>Q .bL H',rt:=Q } (start N vs) H):bY P w K mg base cF (k+1) f fd ps sp:=by
 obtain⟨oc,od,kV,doc,pm,an,bP,ct,iA,rfl,lk,km⟩:=F.ex
 refine CA lk km S len fun A outer s H vs Q E hr me=>?_
 obtain⟨t,h,q⟩:=eS bP A outer s H vs Q E hr me
 exact⟨t,h.qD,q⟩
theorem gZ.binds{x qual:Str}{st:Stmt}{f:Addr}{fd:FuncData}{ps:List Str}(F:gZ K x qual st f fd)
  (h:∀(kV doc pm:Value) (an:Option Addr) (bP ct:Value) (us:List Value),us.length=ps.length→bindArgs (PySem.W.fnOf x qual (aV st) (aL st) (ao st) .none kV doc pm an bP ct) ⟨us,[]⟩=pure (ps.zip us)):Binds K fd ps []:=by
 obtain⟨oc,od,kV,doc,pm,an,bP,ct,iA,rfl,lk,km⟩:=F.ex
 exact .all (h kV doc pm an bP ct)
theorem c_{x qual:Str}{st:Stmt}{f:Addr}{oc:Value}{od an:Option Addr}{iA:Array (Option Value)}{kV doc pm bP ct:Value}(l:K.lookup f=some ⟨oc,od,.func (PySem.W.fnOf x qual (aV st) (aL st) (ao st) .none kV doc pm an bP ct),iA⟩)
  (c:PySem.W.codeIn K bP qual=true)(k:PySem.W.keepIn K (.ref f)=true):gZ K x qual st f (PySem.W.fnOf x qual (aV st) (aL st) (ao st) .none kV doc pm an bP ct):=⟨⟨oc,od,kV,doc,pm,an,bP,ct,iA,rfl,l,c⟩,k⟩
end
section
variable{X:Cx}
theorem pv(i:Nat){x:Str}{pos:Pos}(hN:X.N[i]? =some x:=by rfl)(hv:B8 X.env.scope x:=by first|exact Or.inl rfl|exact Or.inr (Or.inl rfl)|exact Or.inr (Or.inr rfl))(hd:(x==("__debug__":Str))=false:=by decide)
  (km:(x==("__classdict__":Str))=false:=by decide):PE X (.Name x pos) (Cc i):=E5 hN hv hd km
end
def dZ(H H':Hp):Prop:=∀b o,H b=some o→H' b=some o
theorem dZ.refl(H:Hp):dZ H H:=fun _ _ h=>h
theorem dZ.trans{H H1 H2:Hp}(a:dZ H H1)(b:dZ H1 H2):dZ H H2:=fun c o h=>b c o (a c o h)
theorem dZ.seq{K:PySem.W.Frag}{H H':Hp}{a:Addr}{xs:List V}(e:dZ H H')(h:cD K H a xs):cD K H' a xs:=by
 rcases h with(h|⟨o,h⟩)|h
 ·exact .inl (.inl (e _ _ h))
 ·exact .inl (.inr ⟨o,e _ _ h⟩)
 ·exact .inr h
end L2
namespace L2
open PySem PySem.Spec PyProof.Rows
section
variable{κ:Type}[DecidableEq κ]
def zP(bg:List (κ×V))(k:κ):Option V:=(bg.find? fun kv=>decide (kv.1=k)).map (·.2)
def putK(bg:List (κ×V))(k:κ)(v:V):List (κ×V):=
 if (bg.any fun kv=>decide (kv.1=k))=true then bg.map (fun kv=>if kv.1=k then(kv.1,v)else kv)else bg++[(k,v)]
theorem KV.length{bg:List (κ×V)}{vs:List (κ×Value)}(r:KV bg vs):bg.length=vs.length:=Paired.length r
end
abbrev KT(H:Hp):List (List Key×V)→List (List Key×Addr×Value)→Prop:=Paired fun p q=>p.1=q.1∧H q.2.1=some (.tup (p.1.map kV))∧RelV p.2 q.2.2
section
variable{P:Program}{w:World}{H:Hp}{h:Heap}{a:Addr}
end
def zQ(H:Hp)(a:Addr)(y:V)(r:Option V):Prop:=
 (∃bg k,Rd H a (.dK bg)∧y=kV k∧r=zP bg k)∨∃bg k b,Rd H a (.dT bg)∧y= .ref b∧H b=some (.tup (k.map kV))∧r=zP bg k
def zR(H:Hp)(a:Addr)(y v:V)(H':Hp):Prop:=
 (∃bg k,H a=some (.dK bg)∧y=kV k∧bg.length<sizeLine∧H'=upd H a (.dK (putK bg k v)))∨
 ∃bg k b,H a=some (.dT bg)∧y= .ref b∧H b=some (.tup (k.map kV))∧bg.length<sizeLine∧H'=upd H a (.dT (putK bg k v))
theorem zQ.k{H:Hp}{a:Addr}{bg:List (Key×V)}{k:Key}(e:H a=some (.dK bg)):zQ H a (kV k) (zP bg k):=.inl ⟨bg,k,.inl e,rfl,rfl⟩
theorem zQ.t{H:Hp}{a b:Addr}{bg:List (List Key×V)}{k:List Key}(e:H a=some (.dT bg))(eb:H b=some (.tup (k.map kV))):zQ H a (.ref b) (zP bg k):=.inr ⟨bg,k,b,.inl e,rfl,eb,rfl⟩
theorem zR.k{H:Hp}{a:Addr}{bg:List (Key×V)}{k:Key}{v:V}(e:H a=some (.dK bg))(hl:bg.length<sizeLine):zR H a (kV k) v (upd H a (.dK (putK bg k v))):=.inl ⟨bg,k,e,rfl,hl,rfl⟩
theorem zR.t{H:Hp}{a b:Addr}{bg:List (List Key×V)}{k:List Key}{v:V}(e:H a=some (.dT bg))(eb:H b=some (.tup (k.map kV)))(hl:bg.length<sizeLine):
  zR H a (.ref b) v (upd H a (.dT (putK bg k v))):=.inr ⟨bg,k,b,e,rfl,eb,hl,rfl⟩
section
variable{X:Cx}{pins:List (Addr×Obj)}{σ:St}{H:Hp}{s:Shared}{a:Addr}{y v:V}{u r:Value}{o:Option V}{A:Around}{E:Value→Shared→Prop}
end
section
variable{X:Cx}{pins:List (Addr×Obj)}{σ:St}{H:Hp}{s:Shared}{a:Addr}{bg:List (Key×V)}{k:Key}{u:Value}{A:Around}{E:Value→Shared→Prop}
end
section
variable{X:Cx}{o i e value:Expr}{pos pos' MY:Pos}{td ty tv:TE}
end
section
variable{X:Cx}{pos:Pos}
end
section
variable{X:Cx}{pins:List (Addr×Obj)}{σ:St}{H:Hp}{s:Shared}{a:Addr}{y d:V}{u r:Value}{o:Option V}{A:Around}{E:Value→Shared→Prop}
end
section
variable{X:Cx}{o e f:Expr}{apos dW:Pos}{td ty tx:TE}
end
section
variable{X:Cx}{pins:List (Addr×Obj)}{σ:St}{H:Hp}{s:Shared}{a:Addr}{bg:List (Key×V)}{A:Around}{E:Value→Shared→Prop}
end
section
variable{X:Cx}{pins:List (Addr×Obj)}{σ:St}{H:Hp}{s:Shared}{a:Addr}{y:V}{u:Value}{A:Around}{E:Value→Shared→Prop}
end
end L2
namespace My
structure Bd(k:Nat)(x:Int):Prop where
 lt:x.natAbs<2 ^ k
theorem Bd.mono{j k:Nat}{x:Int}(h:Bd j x)(e:j≤k):Bd k x:=⟨Nat.lt_of_lt_of_le h.lt (Nat.pow_le_pow_right (by decide) e)⟩
theorem Bd.mul{j k:Nat}{x y:Int}(h:Bd j x)(g:Bd k y):Bd (j+k) (x*y):=by
 refine⟨?_⟩
 rw[Int.natAbs_mul,Nat.pow_add]
 exact Nat.mul_lt_mul_of_lt_of_lt h.lt g.lt
theorem Bd.add{j k:Nat}{x y:Int}(h:Bd j x)(g:Bd k y):Bd (max j k+1) (x+y):=by
 have h':=(h.mono (Nat.le_max_left j k)).lt
 have g':=(g.mono (Nat.le_max_right j k)).lt
 refine⟨?_⟩
 rw[Nat.pow_succ]
 omega
theorem Bd.neg{k:Nat}{x:Int}(h:Bd k x):Bd k (-x):=⟨by have:=h.lt;omega⟩
theorem Bd.sub{j k:Nat}{x y:Int}(h:Bd j x)(g:Bd k y):Bd (max j k+1) (x - y):=by
 rw[Int.sub_eq_add_neg];exact h.add g.neg
theorem Bd.of_le{k:Nat}{x y:Int}(h:Bd k y)(e:x.natAbs≤y.natAbs):Bd k x:=⟨Nat.lt_of_le_of_lt e h.lt⟩
theorem Bd.log2{k:Nat}{x:Int}(h:Bd k x)(hk: 0<k):x.natAbs.log2<k:=by
 have h:=h.lt
 by_cases z:x.natAbs=0
 ·rw[z];simpa using hk
 ·exact(Nat.log2_lt z).mpr h
theorem pW(n:Int){m:Int}(h:m≠0):(n.fmod m).natAbs<m.natAbs:=by
 rcases Int.lt_or_gt_of_ne h with hm|hm
 ·have e:n.fmod m= -((-n).fmod (-m)):=by
   rw[Int.fmod_def,Int.fmod_def,Int.neg_fdiv_neg]
   grind
  have h1: 0≤(-n).fmod (-m):=Int.fmod_nonneg_of_pos _ (by omega)
  have h2:(-n).fmod (-m)< -m:=Int.fmod_lt_of_pos _ (by omega)
  rw[e];omega
 ·have h1: 0≤n.fmod m:=Int.fmod_nonneg_of_pos _ hm
  have h2:n.fmod m<m:=Int.fmod_lt_of_pos _ hm
  omega
theorem A6(n m:Int):Int.gcd m (n.fmod m)=Int.gcd n m:=by
 rw[Int.fmod_def,Int.mul_comm,Int.gcd_sub_mul_right_right,Int.gcd_comm]
theorem A7(n m:Int):Int.gcd m (n % m)=Int.gcd n m:=by
 rw[Int.emod_def,Int.mul_comm,Int.gcd_sub_mul_right_right,Int.gcd_comm]
theorem gcd_zero(n:Int):((Int.gcd n 0:Nat):Int)=if n<0 then -n else n:=by
 rw[Int.gcd_zero_right];split<;>omega
theorem CT(n m:Int):Int.gcd (if n<0 then -n else n) (if m<0 then -m else m)=Int.gcd n m:=by
 split<;>split<;>simp[Int.gcd_neg,Int.neg_gcd]
def sg(n d:Int):Int:=if d<0 then -(Int.gcd n d:Int)else(Int.gcd n d:Int)
def nm(n d:Int):Int:=n.fdiv (sg n d)
def dn(n d:Int):Int:=d.fdiv (sg n d)
theorem qW{n d:Int}(h:d≠0):(0:Int)<(Int.gcd n d:Int):=by
 have:=Int.gcd_pos_of_ne_zero_right n h
 omega
theorem RB{n d:Int}(h:d≠0):sg n d≠0:=by
 have:=qW (n:=n) h
 unfold sg;split<;>omega
theorem A8(n d:Int):sg n d ∣ n:=by
 unfold sg;split
 ·exact Int.neg_dvd.mpr (Int.gcd_dvd_left n d)
 ·exact Int.gcd_dvd_left n d
theorem A9(n d:Int):sg n d ∣ d:=by
 unfold sg;split
 ·exact Int.neg_dvd.mpr (Int.gcd_dvd_right n d)
 ·exact Int.gcd_dvd_right n d
theorem FT(n d:Int):sg n d*nm n d=n:=Int.mul_fdiv_cancel' (A8 n d)
theorem FU(n d:Int):sg n d*dn n d=d:=Int.mul_fdiv_cancel' (A9 n d)
theorem RC{n d:Int}:nm n d*d=n*dn n d:=by
 have e1:=FT n d
 have e2:=FU n d
 generalize sg n d=s at*
 generalize nm n d=a at*
 generalize dn n d=b at*
 subst e1 e2
 grind
theorem qX(n d:Int):(sg n d).natAbs=Int.gcd n d:=by
 unfold sg;split<;>omega
theorem JH{n d:Int}(h:d≠0):(sg n d).natAbs≤d.natAbs:=by
 rw[qX]
 exact Nat.le_of_dvd (by omega) (Int.natAbs_dvd_natAbs.mpr (Int.gcd_dvd_right n d) |> fun z=>by simpa using z)
theorem zS{a b:Int}(ha:a≠0)(hb:b≠0):a*b≠0:=Int.mul_ne_zero ha hb
end My
namespace My
def det(a0 a1 a2 b0 b1 b2 c0 c1 c2:Int):Int:=(a1*b2 - a2*b1)*c0+(a2*b0 - a0*b2)*c1+(a0*b1 - a1*b0)*c2
def sgn(n:Int):Int:=if 0<n then 1 else if n<0 then -1 else 0
structure Alike(x y w x' y' w':Int):Prop where
 pos: 0<w
 pos': 0<w'
 ex:x'*w=x*w'
 ey:y'*w=y*w'
def g6(x y w:Int):Int:=if w<0 then -(Int.gcd (Int.gcd x w:Int) y:Int)else(Int.gcd (Int.gcd x w:Int) y:Int)
def sx(x y w:Int):Int:=x.fdiv (g6 x y w)
def sy(x y w:Int):Int:=y.fdiv (g6 x y w)
def sw(x y w:Int):Int:=w.fdiv (g6 x y w)
theorem qh{x y w:Int}(h:w≠0):(0:Int)<(Int.gcd (Int.gcd x w:Int) y:Int):=by
 have h1:=qW (n:=x) h
 have h2: 0<Int.gcd (Int.gcd x w:Int) y:=Int.gcd_pos_of_ne_zero_left _ (by omega)
 omega
theorem Nc(x y w:Int):(Int.gcd (Int.gcd x w:Int) y:Int) ∣ x:=Int.dvd_trans (Int.gcd_dvd_left _ _) (Int.gcd_dvd_left _ _)
theorem Iu(x y w:Int):(Int.gcd (Int.gcd x w:Int) y:Int) ∣ w:=Int.dvd_trans (Int.gcd_dvd_left _ _) (Int.gcd_dvd_right _ _)
theorem Nd(x y w:Int):(Int.gcd (Int.gcd x w:Int) y:Int) ∣ y:=Int.gcd_dvd_right _ _
theorem wA(x y w:Int):(g6 x y w).natAbs=Int.gcd (Int.gcd x w:Int) y:=by unfold g6;split<;>omega
theorem qi{x y w:Int}(h:w≠0):g6 x y w≠0:=by
 have:=qh (x:=x) (y:=y) h
 unfold g6;split<;>omega
theorem qY{x y w z:Int}(h:(Int.gcd (Int.gcd x w:Int) y:Int) ∣ z):g6 x y w ∣ z:=by
 unfold g6;split
 ·exact Int.neg_dvd.mpr h
 ·exact h
theorem uL(x y w:Int):g6 x y w*sx x y w=x:=Int.mul_fdiv_cancel' (qY (Nc x y w))
theorem uM(x y w:Int):g6 x y w*sy x y w=y:=Int.mul_fdiv_cancel' (qY (Nd x y w))
theorem nA(x y w:Int):g6 x y w*sw x y w=w:=Int.mul_fdiv_cancel' (qY (Iu x y w))
theorem sw_pos{x y w:Int}(h:w≠0): 0<sw x y w:=by
 have e:=nA x y w
 have g:=qh (x:=x) (y:=y) h
 unfold g6 at e
 split at e
 ·refine Int.not_le.mp fun hle=>?_
  have: 0≤-(Int.gcd (Int.gcd x w:Int) y:Int)*sw x y w:=Int.mul_nonneg_of_nonpos_of_nonpos (by omega) hle
  omega
 ·refine Int.not_le.mp fun hle=>?_
  have:(Int.gcd (Int.gcd x w:Int) y:Int)*sw x y w≤0:=Int.mul_nonpos_of_nonneg_of_nonpos (by omega) hle
  omega
theorem mS{s a b:Int}(h:s≠0)(e:s*a=b):a.natAbs≤b.natAbs:=by
 have e:=congrArg Int.natAbs e
 rw[Int.natAbs_mul]at e
 rw[←e]
 exact Nat.le_mul_of_pos_left _ (by omega)
theorem JI{x y w:Int}(h:w≠0):(sx x y w).natAbs≤x.natAbs:=mS (qi h) (uL x y w)
theorem JJ{x y w:Int}(h:w≠0):(sy x y w).natAbs≤y.natAbs:=mS (qi h) (uM x y w)
theorem JK{x y w:Int}(h:w≠0):(sw x y w).natAbs≤w.natAbs:=mS (qi h) (nA x y w)
theorem FV{x y w:Int}(h:w≠0):(g6 x y w).natAbs≤w.natAbs:=by
 rw[wA]
 exact Nat.le_of_dvd (by omega) (Int.natAbs_dvd_natAbs.mpr (Iu x y w) |> fun z=>by simpa using z)
theorem nB{x y w:Int}(h:w≠0):sx x y w*w=x*sw x y w:=by
 have e1:=uL x y w;have e2:=nA x y w
 generalize g6 x y w=s at *;generalize sx x y w=a at *;generalize sw x y w=b at*
 subst e1 e2;grind
theorem nC{x y w:Int}(h:w≠0):sy x y w*w=y*sw x y w:=by
 have e1:=uM x y w;have e2:=nA x y w
 generalize g6 x y w=s at *;generalize sy x y w=a at *;generalize sw x y w=b at*
 subst e1 e2;grind
theorem JL{x y w:Int}(h: 0<w):Alike x y w (sx x y w) (sy x y w) (sw x y w):=⟨h,sw_pos (by omega),nB (by omega),nC (by omega)⟩
end My
namespace My
structure tE(x y w:Int):Prop where
 pos: 0<w
 low:Int.gcd (Int.gcd x w:Int) y=1
theorem wC{x y w z:Int}(h:Int.gcd (Int.gcd x w:Int) y=1){k:Int}(h1:k ∣ x*z)(h2:k ∣ w*z)(h3:k ∣ y*z):k ∣ z:=by
 have e1:k.natAbs ∣ Int.gcd (x*z) (w*z):=Int.dvd_gcd (Int.natAbs_dvd.mpr h1) (Int.natAbs_dvd.mpr h2)
 rw[Int.gcd_mul_right]at e1
 have e2:k ∣ (Int.gcd x w:Int)*z:=by
  have:(k.natAbs:Int) ∣ ((Int.gcd x w*z.natAbs:Nat):Int):=Int.natCast_dvd_natCast.mpr e1
  have h4:k ∣ ((Int.gcd x w*z.natAbs:Nat):Int):=Int.natAbs_dvd.mp this
  rw[Int.natCast_mul]at h4
  rcases Int.natAbs_eq z with hz|hz
  ·rw[hz];exact h4
  ·rw[hz,Int.mul_neg];exact Int.dvd_neg.mpr h4
 have e3:k.natAbs ∣ Int.gcd ((Int.gcd x w:Int)*z) (y*z):=Int.dvd_gcd (Int.natAbs_dvd.mpr e2) (Int.natAbs_dvd.mpr h3)
 rw[Int.gcd_mul_right,h,Nat.one_mul]at e3
 exact Int.natAbs_dvd_natAbs.mp e3
theorem pI{x y w x' y' w':Int}(h:tE x y w)(h':tE x' y' w')(ex:x*w'=x'*w)(ey:y*w'=y'*w):x=x'∧y=y'∧w=w':=by
 have d1:w ∣ w':=wC h.low (k:=w) (z:=w') (by rw[ex];exact Int.dvd_mul_left _ _) (Int.dvd_mul_right _ _) (by rw[ey];exact Int.dvd_mul_left _ _)
 have d2:w' ∣ w:=wC h'.low (k:=w') (z:=w) (by rw[←ex];exact Int.dvd_mul_left _ _) (Int.dvd_mul_right _ _) (by rw[←ey];exact Int.dvd_mul_left _ _)
 have p:=h.pos;have p':=h'.pos
 have e:w=w':=Int.dvd_antisymm (by omega) (by omega) d1 d2
 subst e
 exact⟨Int.eq_of_mul_eq_mul_right (by omega) ex,Int.eq_of_mul_eq_mul_right (by omega) ey,rfl⟩
theorem lH{x y w:Int}(h:w≠0):tE (sx x y w) (sy x y w) (sw x y w):=by
 refine⟨sw_pos h,?_⟩
 have e1:=uL x y w;have e2:=uM x y w;have e3:=nA x y w
 have g:=qh (x:=x) (y:=y) h
 have ga:=wA x y w
 generalize g6 x y w=s at*
 generalize sx x y w=a at*
 generalize sy x y w=b at*
 generalize sw x y w=c at*
 have q:Int.gcd (Int.gcd x w:Int) y=s.natAbs*Int.gcd (Int.gcd a c:Int) b:=by
  rw[←e1,←e2,←e3,Int.gcd_mul_left]
  have:((s.natAbs*Int.gcd a c:Nat):Int)=(s.natAbs:Int)*(Int.gcd a c:Int):=Int.natCast_mul _ _
  rw[this]
  have e4:Int.gcd ((s.natAbs:Int)*(Int.gcd a c:Int)) (s*b)=Int.gcd ((s.natAbs:Int)*(Int.gcd a c:Int)) ((s.natAbs:Int)*b):=by
   rcases Int.natAbs_eq s with hs|hs
   ·rw[←hs]
   ·have:s*b= -((s.natAbs:Int)*b):=by rw[←Int.neg_mul,←hs]
    rw[this,Int.gcd_neg]
  rw[e4,Int.gcd_mul_left]
  simp
 rw[←ga]at q
 have:s.natAbs*1=s.natAbs*Int.gcd (Int.gcd a c:Int) b:=by rw[Nat.mul_one];exact q
 exact(Nat.eq_of_mul_eq_mul_left (by omega) this).symm
theorem qZ{x y w x' y' w':Int}(h:w≠0)(h':w'≠0)(ex:x*w'=x'*w)(ey:y*w'=y'*w):sx x y w=sx x' y' w'∧sy x y w=sy x' y' w'∧sw x y w=sw x' y' w':=by
 refine pI (lH h) (lH h') ?_ ?_
 ·have a:=nB (x:=x) (y:=y) h;have b:=nB (x:=x') (y:=y') h'
  refine Int.eq_of_mul_eq_mul_left (zS h h') ?_
  generalize sx x y w=p at *;generalize sw x y w=q at *;generalize sx x' y' w'=p' at *;generalize sw x' y' w'=q' at*
  grind
 ·have a:=nC (x:=x) (y:=y) h;have b:=nC (x:=x') (y:=y') h'
  refine Int.eq_of_mul_eq_mul_left (zS h h') ?_
  generalize sy x y w=p at *;generalize sw x y w=q at *;generalize sy x' y' w'=p' at *;generalize sw x' y' w'=q' at*
  grind
theorem q_{x y w:Int}(h:tE x y w):sx x y w=x∧sy x y w=y∧sw x y w=w:=by
 have hp:=h.pos
 exact pI (lH (by omega)) h (nB (by omega)) (nC (by omega))
theorem uN{x y w x' y' w':Int}(h:tE x y w)(h':w'≠0)(ex:x*w'=x'*w)(ey:y*w'=y'*w):sx x' y' w'=x∧sy x' y' w'=y∧sw x' y' w'=w:=by
 have hp:=h.pos
 obtain⟨a,b,c⟩:=q_ h
 obtain⟨d,e,f⟩:=qZ (x:=x) (y:=y) (w:=w) (by omega) h' ex ey
 exact⟨by rw[←d,a],by rw[←e,b],by rw[←f,c]⟩
theorem rf(x y w:Int):Int.gcd (Int.gcd x y:Int) w=Int.gcd (Int.gcd x w:Int) y:=by
 have a:∀p q r:Int,Int.gcd (Int.gcd p q:Int) r=Int.gcd p (Int.gcd q r:Int):=fun p q r=>Int.gcd_assoc p q r
 rw[a,a,Int.gcd_comm y w]
theorem pJ{x y w:Int}(h: 0<w):x / (Int.gcd (Int.gcd x y:Int) w:Int)=sx x y w∧y / (Int.gcd (Int.gcd x y:Int) w:Int)=sy x y w∧w / (Int.gcd (Int.gcd x y:Int) w:Int)=sw x y w:=by
 have g:=qh (x:=x) (y:=y) (w:=w) (by omega)
 have e:g6 x y w=(Int.gcd (Int.gcd x y:Int) w:Int):=by unfold g6;rw[if_neg (by omega),rf]
 have g':(0:Int)≤(Int.gcd (Int.gcd x y:Int) w:Int):=by rw[rf];omega
 unfold sx sy sw
 rw[e]
 exact⟨(Int.fdiv_eq_ediv_of_nonneg _ g').symm,(Int.fdiv_eq_ediv_of_nonneg _ g').symm,(Int.fdiv_eq_ediv_of_nonneg _ g').symm⟩
theorem wD{x y w:Int}(h:w<0):(0 - x) / (Int.gcd (Int.gcd (0 - x) (0 - y):Int) (0 - w):Int)=sx x y w∧(0 - y) / (Int.gcd (Int.gcd (0 - x) (0 - y):Int) (0 - w):Int)=sy x y w∧(0 - w) / (Int.gcd (Int.gcd (0 - x) (0 - y):Int) (0 - w):Int)=sw x y w:=by
 obtain⟨a,b,c⟩:=pJ (x:=0 - x) (y:=0 - y) (w:=0 - w) (by omega)
 rw[a,b,c]
 exact qZ (by omega) (by omega) (by grind) (by grind)
end My
namespace My
def JM(p0 p1 p2 q0 q1 q2:Int):Bool:=if p0*q2=q0*p2 then decide (p1*q2<q1*p2)else decide (p0*q2<q0*p2)
def m0(a0 a1 a2 b0 b1 b2 c0 c1 c2 d0 d1 d2:Int):Int:=(a2*b0 - a0*b2)*(c0*d1 - c1*d0) - (a0*b1 - a1*b0)*(c2*d0 - c0*d2)
def m1(a0 a1 a2 b0 b1 b2 c0 c1 c2 d0 d1 d2:Int):Int:=(a0*b1 - a1*b0)*(c1*d2 - c2*d1) - (a1*b2 - a2*b1)*(c0*d1 - c1*d0)
def m2(a0 a1 a2 b0 b1 b2 c0 c1 c2 d0 d1 d2:Int):Int:=(a1*b2 - a2*b1)*(c2*d0 - c0*d2) - (a2*b0 - a0*b2)*(c1*d2 - c2*d1)
section
variable(a0 a1 a2 b0 b1 b2 c0 c1 c2 d0 d1 d2:Int)
def u0:Int:=b0*(a2*c2*d2) - a0*(b2*c2*d2)
def u1:Int:=b1*(a2*c2*d2) - a1*(b2*c2*d2)
def v1:Int:=d1*(a2*b2*c2) - c1*(a2*b2*d2)
def z0:Int:=c0*(a2*b2*d2) - a0*(b2*c2*d2)
def z1:Int:=c1*(a2*b2*d2) - a1*(b2*c2*d2)
end
section
variable{a0 a1 a2 b0 b1 b2 c0 c1 c2 d0 d1 d2:Int}
end
end My
namespace L2
open PySem PySem.Spec PyProof.Rows
section
variable{X:Cx}{a b:Expr}{ta tb:TE}{pos:Pos}
theorem aU:eR X (binaryOp .Mult) (rI IntMulOk fun i j=>.int (i*j)):=Ft fun _ _ _ _ _ _ _ hc q=>mul_int q hc
def yu(_i j:Int):Prop:=j≠0∧j.natAbs.log2<9000
theorem eZ:eR X (binaryOp .FloorDiv) (rI yu fun i j=>.int (i.fdiv j)):=Ft fun _ _ _ _ _ _ _ hc q=>floordiv_int hc.1 q (.inl (PyProof.noPylong_of_log2 hc.2))
theorem fD:fC X (.builtin "isinstance") (fun xs H Q=>∃x n t k,xs=[x,.ty n]∧iT X.K H x t∧PySem.W.kitOne X.K t (.type n)=some k∧Q (.bl k) H):=by
 intro pins s σ H xs us Q I r h
 obtain⟨x,n,t,k,rfl,ty,e,q⟩:=h
 obtain⟨u,w',rfl,rx,rc⟩:=vals2 r
 cases (show w'=Value.type n from rc)
 exact ye I rx ty e fun tk=>⟨.bl k,H,I.tok tk,rfl,q⟩
end
section
variable{X:Cx}{K:PySem.W.Frag}
end
theorem gs{H:Hp}{p q:Addr}{x z:HO}(h:H p=some x)(hq:H q=none):upd H q z p=some x:=by
 rw[aG (bX h hq)];exact h
theorem lI{H:Hp}{q:Addr}{z:HO}(hq:H q=none):dZ H (upd H q z):=fun _ _ h=>gs h hq
theorem Nf{us:List Value}{v:Value}(h:(us++[v]).length=3):∃a b,us=[a,b]:=by
 match us,h with
 |[a,b],_=>exact⟨a,b,rfl⟩
 |[],h=>simp at h
 |[_],h=>simp at h
 |_::_::_::_,h=>simp at h
theorem JN{us:List Value}(h:(us++[]).length=3):∃a b c,us=[a,b,c]:=by
 match us,h with
 |[a,b,c],_=>exact⟨a,b,c,rfl⟩
 |[],h=>simp at h
 |[_],h=>simp at h
 |[_,_],h=>simp at h
 |_::_::_::_::_,h=>simp at h
structure t6(K:PySem.W.Frag)(x qual:Str)(st:Stmt)(f:Addr)(fd:FuncData):Prop where
 ex:∃(oc:Value) (od:Option Addr) (dV kV doc pm:Value) (an:Option Addr) (bP ct:Value) (iA:Array (Option Value)),
  fd=PySem.W.fnOf x qual (aV st) (aL st) (ao st) dV kV doc pm an bP ct∧K.lookup f=some ⟨oc,od,.func fd,iA⟩∧PySem.W.codeIn K bP qual=true
 kp:PySem.W.keepIn K (.ref f)=true
section
variable{P:Program}{w:World}{K:PySem.W.Frag}{mg:Str→Option Value}{base:Heap}
theorem t6.ok{x qual:Str}{st:Stmt}{f:Addr}{fd:FuncData}{N ps:List Str}{k:Nat}{sp:Sp}(F:t6 K x qual st f fd)(S:bp N ps (ao st))(len:∀vs H Q E,sp vs H Q E→vs.length=ps.length)
  (eS:∀(bP:Value) (A:Around) (outer:List Env) (s:Shared) (H:Hp) (vs:List V) (Q:VK) (E:XK),cS k (A.deeper (envOfC qual (ao st) s.heap.objs.size f bP))→sp vs H Q E→
   ∃t,kl (gR cF P w K mg base N qual (ao st) f bP A outer s H E).qD (aL st) t∧t { nx:=fun _ H'=>Q .bL H',rt:=Q } (start N vs) H):bY P w K mg base cF (k+1) f fd ps sp:=by
 obtain⟨oc,od,dV,kV,doc,pm,an,bP,ct,iA,rfl,lk,km⟩:=F.ex
 refine CA lk km S len fun A outer s H vs Q E hr me=>?_
 obtain⟨t,h,q⟩:=eS bP A outer s H vs Q E hr me
 exact⟨t,h.qD,q⟩
theorem CU{x qual:Str}{st:Stmt}{f:Addr}{oc:Value}{od an:Option Addr}{iA:Array (Option Value)}{dV kV doc pm bP ct:Value}(l:K.lookup f=some ⟨oc,od,.func (PySem.W.fnOf x qual (aV st) (aL st) (ao st) dV kV doc pm an bP ct),iA⟩)
  (c:PySem.W.codeIn K bP qual=true)(k:PySem.W.keepIn K (.ref f)=true):t6 K x qual st f (PySem.W.fnOf x qual (aV st) (aL st) (ao st) dV kV doc pm an bP ct):=⟨⟨oc,od,dV,kV,doc,pm,an,bP,ct,iA,rfl,l,c⟩,k⟩
end
end L2
namespace My
open PySem PyProof.Rows
theorem bits_le{k:Nat}{x:Int}(h:Bd k x):PySem.Builtin.Int.intBits x≤k:=by
 unfold PySem.Builtin.Int.intBits
 split
 ·exact Nat.zero_le _
 ·rename_i z
  have z':x.natAbs≠0:=by
   intro e
   apply z
   have:x=0:=by omega
   rw[this];rfl
  have:=(Nat.log2_lt z').mpr h.lt
  omega
theorem JO{x y:Int}{j k:Nat}(hx:Bd j x)(hy:Bd k y)(h:(decide (j≤100000)&&decide (k≤100000))=true):PySem.IntMulOk x y:=by
 rw[Bool.and_eq_true,decide_eq_true_eq,decide_eq_true_eq]at h
 have e:(2:Nat) ^ 20=1048576:=by decide
 exact PySem.IntMulOk.of_bits (by have:=bits_le hx;omega) (by have:=bits_le hy;omega)
theorem FW{x y:Int}(h1: -(2 ^ 64)<x)(h2:x<2 ^ 64):PySem.IntMulOk x y:=PySem.IntMulOk.of_left (PySem.intBits_le_64 h1 h2)
theorem FX{x y:Int}(h1: -(2 ^ 64)<y)(h2:y<2 ^ 64):PySem.IntMulOk x y:=PySem.IntMulOk.of_right (PySem.intBits_le_64 h1 h2)
end My
namespace L2
open PySem PySem.Spec PyProof.Rows
theorem dr:bootBuiltins "abs" =some (.builtin "abs"):=by decide +kernel
theorem dM:bootBuiltins "len" =some (.builtin "len"):=by decide +kernel
theorem uO:bootBuiltins "max" =some (.builtin "max"):=by decide +kernel
theorem d4:bootBuiltins "isinstance" =some (.builtin "isinstance"):=by decide +kernel
theorem jO:bootBuiltins "int" =some (.type "int"):=by decide +kernel
theorem wF:bootBuiltins "bool" =some (.type "bool"):=by decide +kernel
theorem A_:bootBuiltins "tuple" =some (.type "tuple"):=by decide +kernel
theorem wG:bootBuiltins "list" =some (.type "list"):=by decide +kernel
def Pl(H:Hp)(p:Addr):Prop:=∃a b:Int,H p=some (.lst [.int a,.int b])∧0≤a∧0≤b
theorem Pl.new{H:Hp}{p:Addr}{a b:Int}(h1: 0≤a)(h2: 0≤b):Pl (upd H p (.lst [.int a,.int b])) p:=⟨a,b,bQ,h1,h2⟩
theorem Ng{i j:Int}{k:Nat}(h0:j≠0)(h:My.Bd k j)(hk:(decide (0<k)&&decide (k≤9000))=true):yu i j:=by
 rw[Bool.and_eq_true,decide_eq_true_eq,decide_eq_true_eq]at hk
 exact⟨h0,Nat.lt_of_lt_of_le (My.Bd.log2 h hk.1) hk.2⟩
end L2
namespace L2
open PySem PySem.Spec PyProof.Rows
def dN(cells:List (Str×Addr)):List (Str×NameKind)→List (Str×Addr)→List (Str×Addr)
 |[],cs=>cs
 |(n,k)::r,cs=>dN cells r (if k==.free then(match cells.lookup n with|some a=>(n,a)::cs|none=>cs)else cs)
theorem ku{env:Env}:∀(names:List (Str×NameKind)) (cs:List (Str×Addr)),(∀y∈names,y.2= .free→∃c,env.cells.lookup y.1=some c)→
  (forIn names cs (fun(x:Str×NameKind) (r:List (Str×Addr))=>(do
   if x.2==.free then
    let a ←cellOf env x.1
    pure (ForInStep.yield ((x.1,a)::r))
   else pure (ForInStep.yield r):Sem (ForInStep (List (Str×Addr))))))=(pure (dN env.cells names cs):Sem _)
 |[],cs,_=>rfl
 |(n,k)::r,cs,h=>by
  rw[List.forIn_cons]
  have hr:∀y∈r,y.2= .free→∃c,env.cells.lookup y.1=some c:=fun y hy=>h y (List.mem_cons_of_mem _ hy)
  by_cases hk:k= .free
  ·subst hk
   obtain⟨c,hc⟩:=h (n,.free) List.mem_cons_self rfl
   have dq:env.cells.lookup n=some c:=hc
   simp only[beq_self_eq_true,if_true,cellOf,dq,pure_bind,dN]
   exact ku r _ hr
  ·have hb:(k==NameKind.free)=false:=by simpa using hk
   simp only[hb,Bool.false_eq_true,if_false,pure_bind,dN]
   exact ku r _ hr
theorem iB{scope:Scope}{env:Env}(h:∀y∈scope.names,y.2= .free→∃c,env.cells.lookup y.1=some c):closureFor scope env=pure (dN env.cells scope.names []):=by
 have e:=ku (env:=env) scope.names [] h
 unfold closureFor
 simp only[bind_pure_comp]at e ⊢
 first
  |(simpa using e)
  |(rw[←e];rfl)
theorem kx{cells:List (Str×Addr)}{x:Str}{c:Addr}:∀{names:List (Str×NameKind)}{cs:List (Str×Addr)},(dN cells names cs).lookup x=some c→(∀c',cs.lookup x=some c'→cells.lookup x=some c')→cells.lookup x=some c
 |[],cs,h,hc=>hc c h
 |(n,k)::r,cs,h,hc=>by
  refine kx (names:=r) h fun c' dq=>?_
  by_cases hk:(k==NameKind.free)=true
  ·rw[if_pos hk]at dq
   cases e:cells.lookup n with
   |none=>rw[e]at dq;exact hc c' dq
   |some a=>
    rw[e]at dq
    by_cases hx:x=n
    ·subst hx
     simp only[List.lookup_cons,beq_self_eq_true]at dq
     rw[e];exact dq
    ·have hb:(x==n)=false:=beq_eq_false_iff_ne.mpr hx
     simp only[List.lookup_cons,hb]at dq
     exact hc c' dq
  ·rw[if_neg hk]at dq
   exact hc c' dq
theorem nD{cells:List (Str×Addr)}{x:Str}:∀{names:List (Str×NameKind)}{cs:List (Str×Addr)},(∃c,cs.lookup x=some c)→∃c,(dN cells names cs).lookup x=some c
 |[],_,h=>h
 |(n,k)::r,cs,h=>by
  refine nD (names:=r) ?_
  split
  ·split
   ·rename_i a _
    by_cases hx:x=n
    ·subst hx;exact⟨a,by simp⟩
    ·have hb:(x==n)=false:=beq_eq_false_iff_ne.mpr hx
     simpa[List.lookup_cons,hb]using h
   ·exact h
  ·exact h
theorem iV{cells:List (Str×Addr)}{x:Str}:∀{names:List (Str×NameKind)}{cs:List (Str×Addr)},(x,NameKind.free)∈names→(∃c,cells.lookup x=some c)→∃c,(dN cells names cs).lookup x=some c
 |[],_,h,_=>nomatch h
 |(n,k)::r,cs,h,hc=>by
  rcases List.mem_cons.mp h with e|h
  ·cases e
   refine nD (names:=r) ?_
   obtain⟨c,hc⟩:=hc
   rw[if_pos (by rfl),hc]
   exact⟨c,by simp⟩
  ·exact iV (names:=r) h hc
theorem tF{prog:Program}{w:World}{A:Around}{R:Result→Shared→Prop}{s:Shared}{elt target iter:Expr}{ifs:List Expr}{scope:Scope}{pos:Pos}{it acc:Value}{env:Env}(I:Nat→Shared→Prop)
  (turn:∀n s,I n s→wpAny (model prog w) A (pyNext it) (fun r bD=>match r with
   |none=>R (.ok .next) bD
   |some v=>wpAny (model prog w) A (letOwnedTupleGo target it v) (fun _ aY=>wpAny (model prog w) A (assign target env v) (fun _ pF=>
     wpAny (model prog w) A (forIn ifs true fun c r=>if r=true then do let ok ←isTrue c env (eval c env);pure (ForInStep.yield ok)else pure (ForInStep.yield r)) (fun ok wH=>
      if ok=true then wpAny (model prog w) A (eval elt env) (fun x zT=>
       wpAny (model prog w) A (call (.builtin "list.append") [acc,x]) (fun _ Iv=>∃m,m<n∧I m Iv) (fun _ _=>False) zT) (fun _ _=>False) wH
      else ∃m,m<n∧I m wH) (fun _ _=>False) pF) (fun _ _=>False) aY) (fun _ _=>False) bD) (fun _ _=>False) s)
  (n:Nat)(h:I n s):
  codeAny (model prog w) A (.compLoop (.ListComp elt [⟨target,iter,ifs,0⟩] scope pos) 0 it acc env) R s:=by
 refine codeAny_loop rfl I (fun n s hI=>?_) n h
 show wpAny _ A ((compTurn (.ListComp elt [⟨target,iter,ifs,0⟩] scope pos) 0 it acc env).onRaise (fun x=>do noteFrame x env;theTreesLotGoes x)) _ _ s
 refine wpAny_noted ?_
 rw[compTurn_list]
 refine wpAny_bind (wpAny_standAt (wpAny_bind (wpAny_mono (turn n s hI) (fun r bD mv=>?_) fun _ _ h'=>h'.elim)))
 cases r with
 |none=>exact wpAny_pure mv
 |some v=>
  refine wpAny_bind (wpAny_mono mv (fun _ aY h₀=>?_) fun _ _ h'=>h'.elim)
  refine wpAny_bind (wpAny_mono h₀ (fun _ pF Nh=>wpAny_bind (wpAny_mono Nh (fun ok wH Iw=>?_) fun _ _ h'=>h'.elim)) fun _ _ h'=>h'.elim)
  cases ok with
  |false=>exact wpAny_pure ⟨rfl,Iw⟩
  |true=>
   exact wpAny_bind (wpAny_bind (wpAny_mono Iw (fun x zT Ni=>wpAny_bind (wpAny_mono Ni (fun _ Iv Nj=>wpAny_pure (wpAny_pure ⟨rfl,Nj⟩)) fun _ _ h'=>h'.elim)) fun _ _ h'=>h'.elim))
abbrev Cx.gG(X:Cx)(scope:Scope)(C:Addr)(N':List Str)(aY:Shared)(ck:Hp)(fp:List Addr):Cx:=
 { X with N:=N',aY:=aY,ck:=ck,env:=compEnvC scope (dN X.env.cells scope.names []) C X.env,outer:=X.stack,ex:=fp,fn:=fun _=>false,pn:=[],xe:=fun _ _=>False }
def pX(σ:St)(cap:List (Option Nat)):St:=cap.map fun o=>match o with
 |some i=>(match σ[i]? with|some v=>v|none=>none)
 |none=>none
structure mT(X:Cx)(scope:Scope)(N':List Str)(cap:List (Option Nat)):Prop where
 kind:scope.kind= .function
 yw:∀y∈scope.names,y.2≠.cell
 names:∀y∈scope.names,y.2= .local→scope.names.lookup y.1=some .local
 frees:∀y∈scope.names,y.2= .free→X.env.kindOf y.1=some .cell∨X.env.kindOf y.1=some .free
 len:cap.length=N'.length
 CV:∀(j i:Nat) (x:Str),cap[j]? =some (some i)→N'[j]? =some x→X.N[i]? =some x∧(x,NameKind.free)∈scope.names
 RF:∀(j i:Nat) (x:Str),cap[j]? =some (some i)→N'[j]? =some x→B8 X.env.scope x
 un:∀(j i:Nat) (x:Str),cap[j]? =some (some i)→N'[j]? =some x→∀z∈scope.names,z.1=x→z.2= .free
def fE(sc scope:Scope)(NN:List Str):List Str→List (Option Nat)→Bool
 |[],[]=>true
 |_::N,none::c=>fE sc scope NN N c
 |x::N,some i::c=>decide (NN[i]? =some x)&&decide ((x,NameKind.free)∈scope.names)&&(decide (sc.names.lookup x=some .local)||decide (sc.names.lookup x=some .cell)||decide (sc.names.lookup x=some .free))&&decide (∀z∈scope.names,z.1=x→z.2= .free)&&fE sc scope NN N c
 |_,_=>false
theorem mU{sc scope:Scope}{NN:List Str}:∀{N':List Str}{cap:List (Option Nat)},fE sc scope NN N' cap=true→cap.length=N'.length
 |[],[],_=>rfl
 |_::_,none::_,h=>congrArg (·+1) (mU (by simpa only[fE]using h))
 |_::_,some _::_,h=>congrArg (·+1) (mU (by simp only[fE,Bool.and_eq_true]at h;exact h.2))
 |[],_::_,h=>by simp[fE]at h
 |_::_,[],h=>by simp[fE]at h
theorem ik{sc scope:Scope}{NN:List Str}:∀{N':List Str}{cap:List (Option Nat)},fE sc scope NN N' cap=true→∀(j i:Nat) (x:Str),cap[j]? =some (some i)→N'[j]? =some x→
  NN[i]? =some x∧(x,NameKind.free)∈scope.names∧B8 sc x∧∀z∈scope.names,z.1=x→z.2= .free
 |[],[],_,j,i,x,e,_=>by simp at e
 |_::_,none::_,h,0,i,x,e,_=>by simp at e
 |_::_,none::_,h,j+1,i,x,e,e'=>ik (by simpa only[fE]using h) j i x (by simpa using e) (by simpa using e')
 |y::_,some k::_,h,0,i,x,e,e'=>by
  simp only[List.getElem?_cons_zero,Option.some.injEq]at e e'
  subst e e'
  simp only[fE,Bool.and_eq_true,Bool.or_eq_true,decide_eq_true_eq]at h
  obtain⟨⟨⟨⟨h1,h2⟩,h3⟩,h4⟩,_⟩:=h
  refine⟨h1,h2,?_,h4⟩
  rcases h3 with(h3|h3)|h3
  ·exact .inl h3
  ·exact .inr (.inl h3)
  ·exact .inr (.inr h3)
 |_::_,some _::_,h,j+1,i,x,e,e'=>ik (by simp only[fE,Bool.and_eq_true]at h;exact h.2) j i x (by simpa using e) (by simpa using e')
 |[],_::_,h,_,_,_,_,_=>by simp[fE]at h
 |_::_,[],h,_,_,_,_,_=>by simp[fE]at h
theorem lJ{X:Cx}{sc scope:Scope}{NN N':List Str}{cap:List (Option Nat)}(e:X.env.scope=sc)(eN:X.N=NN)(h1:scope.kind= .function)(h2:∀y∈scope.names,y.2≠.cell)(h3:∀y∈scope.names,y.2= .local→scope.names.lookup y.1=some .local)
  (h4:∀y∈scope.names,y.2= .free→sc.names.lookup y.1=some .cell∨sc.names.lookup y.1=some .free)(h5:fE sc scope NN N' cap=true):mT X scope N' cap:=by
 subst e eN
 exact⟨h1,h2,h3,h4,mU h5,fun j i x a b=>⟨(ik h5 j i x a b).1,(ik h5 j i x a b).2.1⟩,fun j i x a b=>(ik h5 j i x a b).2.2.1,fun j i x a b=>(ik h5 j i x a b).2.2.2⟩
def yx(wi:TI)(cap:List (Option Nat))(g:TG)(tt:TT)(te:TE):TE:=fun σ H Q=>wi σ H fun J H1=>∀l,H1 l=none→
 ∃W:Nat→Nat→St→Hp→Prop,(∃m,W 0 m (pX σ cap) (upd H1 l (.lst [])))∧∀i m τ H2,W i m τ H2→
  (J.stop i H2∧Q (.ref l) H2)∨(J.go i H2∧∃N:St→Hp→Prop,(∀jz H',N jz H'→∃m',m'<m∧W (i+1) m' jz H')∧
   ∀x H',J.Cn i H2 x H'→g x τ H' fun uP H3=>tt uP H3 fun b H4=>if b=true then te uP H4 fun y H5=>∃ys,H5 l=some (.lst ys)∧ys.length<sizeLine∧N uP (upd H5 l (.lst (ys++[y])))else N uP H4)
def eF:TT:=fun _ H Q=>Q true H
namespace Zu
set_option allowUnsafeReducibility true in
@[scoped irreducible] def _root_.L2.pK(X:Cx)(ifs:List Expr)(t:TT):Prop:=
 ∀(pins:List (Addr×Obj)) (s:Shared) (σ:St) (H:Hp) (Q:Bool→Hp→Prop),Inv X pins σ H s→t σ H Q→
  wpAny (model X.prog X.w) X.A (forIn ifs true fun c r=>if r=true then do let ok ←isTrue c X.env (eval c X.env);pure (ForInStep.yield ok)else pure (ForInStep.yield r)) (TP X pins σ Q) X.xe s
end Zu
theorem Ba{X:Cx}:pK X [] eF:=fun _ _ _ H _ I h=>wpAny_tests_nil ⟨H,I,h⟩
section
variable{X:Cx}{pos:Pos}{elt iter tg:Expr}{ifs:List Expr}{scope:Scope}{N':List Str}{cap:List (Option Nat)}{wi:TI}{g:TG}{tt:TT}{te:TE}
theorem jc{X:Cx}:∀{names:List (Str×NameKind)}{y:Str}{k:NameKind},(names.map fun(n,k)=>if (k==NameKind.free&&X.env.scope.kind==.function&&X.env.kindOf n==some .cell)then(n,NameKind.cell)else(n,k)).lookup y=some k→
  (k= .cell∨k= .free)→(∀z∈names,z.2≠.cell)→(y,NameKind.free)∈names
 |[],_,_,h,_,_=>by simp at h
 |(n,k0)::r,y,k,h,hk,hc=>by
  have RG:∀z∈r,z.2≠.cell:=fun z hz=>hc z (List.mem_cons_of_mem _ hz)
  have h0:k0≠.cell:=hc (n,k0) List.mem_cons_self
  rw[List.map_cons]at h
  dsimp only at h
  by_cases hy:y=n
  ·subst hy
   have:k0= .free:=by
    by_cases hf:k0= .free
    ·exact hf
    ·exfalso
     have hb:(k0==NameKind.free)=false:=by simpa using hf
     simp only[hb,Bool.false_and,Bool.false_eq_true,if_false,List.lookup_cons,beq_self_eq_true]at h
     cases h
     rcases hk with e|e
     ·exact h0 e
     ·exact hf e
   subst this
   exact List.mem_cons_self
  ·have hb:(y==n)=false:=beq_eq_false_iff_ne.mpr hy
   have h':(r.map fun(n,k)=>if (k==NameKind.free&&X.env.scope.kind==.function&&X.env.kindOf n==some .cell)then(n,NameKind.cell)else(n,k)).lookup y=some k:=by
    split at h<;>simpa only[List.lookup_cons,hb]using h
   exact List.mem_cons_of_mem _ (jc (X:=X) h' hk RG)
theorem mw{X:Cx}:∀{names:List (Str×NameKind)}{y:Str},(y,NameKind.free)∈names→(∀z∈names,z.1=y→z.2= .free)→∃k,(k=NameKind.cell∨k= .free)∧
  (names.map fun(n,k)=>if (k==NameKind.free&&X.env.scope.kind==.function&&X.env.kindOf n==some .cell)then(n,NameKind.cell)else(n,k)).lookup y=some k
 |[],_,h,_=>nomatch h
 |(n,k0)::r,y,h,hu=>by
  rw[List.map_cons]
  dsimp only
  by_cases hy:y=n
  ·subst hy
   have:k0= .free:=hu (y,k0) List.mem_cons_self rfl
   subst this
   split
   ·exact⟨.cell,.inl rfl,by simp⟩
   ·exact⟨.free,.inr rfl,by simp⟩
  ·have hb:(y==n)=false:=beq_eq_false_iff_ne.mpr hy
   have hm:(y,NameKind.free)∈r:=by
    rcases List.mem_cons.mp h with e|h
    ·cases e;exact absurd rfl hy
    ·exact h
   obtain⟨k,hk,e⟩:=mw (X:=X) hm fun z hz=>hu z (List.mem_cons_of_mem _ hz)
   refine⟨k,hk,?_⟩
   split<;>simpa only[List.lookup_cons,hb]using e
theorem CW{pins:List (Addr×Obj)}{σ:St}{H:Hp}{s:Shared}{fp:List Addr}{h1:Heap}{m:Str→Option Value}{t':Nat}(B:mT X scope N' cap)
  (I:Inv X pins σ H s)(hf:∀b∈fp,iR X pins H b)(ho:∀b∈fp,∃o,s.heap.get? b=some o)(keep:∀b o,s.heap.get? b=some o→h1.get? b=some o)(rg:h1.Ns s.heap.objs.size m):
  Inv (X.gG scope s.heap.objs.size N' s H fp) [] (pX σ cap) H { s with heap:=h1,toks:=t' }:=by
 have I1:Inv X pins σ H { s with heap:=h1,toks:=t' }:=I.kept keep
 have ki:∀y c,(dN X.env.cells scope.names []).lookup y=some c→X.env.cells.lookup y=some c:=fun y c h=>kx h fun c' dq=>by simp at dq
 refine⟨⟨I.ok.mod,B.kind,I.ok.glob,I.ok.blt,Nat.le_refl _,fun y z c e1 e2=>I.ok.inj y z c (ki y c e1) (ki z c e2),fun y hy=>?_,fun y c e _=>absurd e (by simp),I.ok.hd,I.ok.frames,.inl rfl,fun b hb=>⟨?_,fun y c e=>(hf b hb).2.2.2.2.1 y c (ki y c e)⟩,fun b o e=>I.bs b o e,Nat.le_trans I.ok.qB I.sz,fun b o e hb=>?_,fun b hb hs=>?_,I.stack,I.v7⟩,
  rfl,I.bare,Un.kept keep,⟨m,rg,fun j y v e1 e2 e3=>?_⟩,fun y c e=>I1.cell y c (ki y c e),I.aO.fresh (Nat.le_refl _),fun y c e=>(I.fW y c (ki y c e)).imp id fun z=>⟨rfl,z.2⟩,fun p hp=>absurd hp (by simp),I1.aO,?_⟩
 ·-- has
  have qw:(y,NameKind.free)∈scope.names:=by
   rcases hy with hy|hy
   ·exact jc (X:=X) (k:=.cell) hy (.inl rfl) B.yw
   ·exact jc (X:=X) (k:=.free) hy (.inr rfl) B.yw
  exact iV qw (I.ok.has y (B.frees (y,.free) qw rfl))
 ·-- fp below yc Nk frame
  obtain⟨o,e⟩:=ho b hb
  exact Nat.ne_of_lt (Heap.lt_size e)
 ·-- base
  rcases(hf b hb).2.2.2.1 with z|z
  ·exact I.ok.tU b o e z
  ·exact absurd (Nat.lt_of_lt_of_le (Heap.lt_size e) (Nat.le_trans I.ok.qB z)) (Nat.lt_irrefl _)
 ·-- frames
  rcases List.mem_cons.mp (I.uC b hs)with z|z
  ·exact(hf b hb).2.1 z
  ·exact(hf b hb).2.2.1 z
 ·-- Mz values
  have hc:∃i,cap[j]? =some (some i)∧σ[i]? =some (some v):=by
   unfold pX at e2
   rw[List.getElem?_map]at e2
   cases e:cap[j]? with
   |none=>rw[e]at e2;cases e2
   |some o=>
    rw[e]at e2
    cases o with
    |none=>simp at e2
    |some i=>
     refine⟨i,rfl,?_⟩
     simp only[Option.map_some,Option.some.injEq]at e2
     cases q:σ[i]? with
     |none=>rw[q]at e2;cases e2
     |some w=>
      rw[q]at e2
      have RH:w=some v:=e2
      rw[RH]
  obtain⟨i,hi,hv⟩:=hc
  obtain⟨hN,oG⟩:=B.CV j i y hi e1
  obtain⟨m1,_,hl⟩:=I1.loc
  obtain⟨u,r,l⟩:=hl i y v hN hv (B.RF j i y hi e1)
  refine⟨u,r,.inr ?_⟩
  obtain⟨k,hk,ek⟩:=mw (X:=X) oG (B.un j i y hi e1)
  have uD:∃c,X.env.cells.lookup y=some c∧h1.IsCell c (some u):=by
   rcases l with⟨k1,_⟩|⟨_,c,e,z⟩
   ·rcases B.frees (y,.free) oG rfl with q|q
    ·rw[show X.env.kindOf y=some NameKind.local from k1]at q;cases q
    ·rw[show X.env.kindOf y=some NameKind.local from k1]at q;cases q
   ·exact⟨c,e,z⟩
  obtain⟨c,ec,zc⟩:=uD
  obtain⟨c',Nl⟩:=iV (cs:=[]) oG ⟨c,ec⟩
  have:c'=c:=by have:=ki y c' Nl;rw[ec]at this;cases this;rfl
  subst this
  refine⟨?_,c',Nl,zc⟩
  rcases hk with rfl|rfl
  ·exact .inl ek
  ·exact .inr ek
 ·show(pX σ cap).length=N'.length
  unfold pX
  rw[List.length_map];exact B.len
theorem rh{RR:Value→Addr→Result→Shared→Prop}{pins:List (Addr×Obj)}{σ:St}{H2:Hp}{s2:Shared}{it:Addr}{fp:List Addr}{tn:Nat→Heap→Prop}{J:It}{Q:VK}(B:mT X scope N' cap)(hc:X.calm=true)
  (hg:∀C aY ck fp,PG (X.gG scope C N' aY ck fp) tg g)(ht:∀C aY ck fp,pK (X.gG scope C N' aY ck fp) ifs tt)(he:∀C aY ck fp,PE (X.gG scope C N' aY ck fp) elt te)
  (I2:Inv X pins σ H2 s2)(T:Turn X.prog X.w X.K tg J fp it tn)(bz:tn 0 s2.heap)(f2:∀b∈fp,iR X pins H2 b)
  (rj:∀l,H2 l=none→∃W:Nat→Nat→St→Hp→Prop,(∃m,W 0 m (pX σ cap) (upd H2 l (.lst [])))∧∀i m τ H2,W i m τ H2→
   (J.stop i H2∧Q (.ref l) H2)∨(J.go i H2∧∃N:St→Hp→Prop,(∀jz H',N jz H'→∃m',m'<m∧W (i+1) m' jz H')∧
    ∀x H',J.Cn i H2 x H'→g x τ H' fun uP H3=>tt uP H3 fun b H4=>if b=true then te uP H4 fun y H5=>∃ys,H5 l=some (.lst ys)∧ys.length<sizeLine∧N uP (upd H5 l (.lst (ys++[y])))else N uP H4))
  (fin:∀(D C:Addr) (o:Obj) (m:Str→Option Value) (H5:Hp) (s5:Shared),Inv X pins σ H5 s5→iR X pins H5 C→s5.heap.get? C=some o→(∀v,o.data≠.cell v)→s5.heap.Ns C m→Q (.ref D) H5→RR (.ref D) C (.ok .next) s5):
  wpAny (model X.prog X.w) X.A (newList []) (fun acc wH=>wpAny (model X.prog X.w) X.A (newFunctionEnv scope X.env.globals (dN X.env.cells scope.names []) [] X.env.qual none .none (some X.env)) (fun Iy zT=>
   codeAny (model X.prog X.w) X.A (.compStart (.ListComp elt [⟨tg,iter,ifs,0⟩] scope pos) 0 (.ref it) acc { Iy with scope:=relabel scope X.env }) (RR acc Iy.locals) zT) X.xe wH) X.xe s2:=by
 refine wpAny_newObj_type (wpAny_newFunctionEnv B.yw (by intro y hy;simp at hy) (fun mv uQ zU=>?_) B.kind)
 dsimp only at uQ zU ⊢
 have I3:Inv X pins σ (upd H2 s2.heap.objs.size (.lst [])) { s2 with heap:=s2.heap.push { cls:=.type "list",dict:=none,data:=.seq ([]:List Value).toArray } }:=I2.Ir (t':=s2.toks) (its:=[]) (ys:=[]) .nil (Nat.zero_le _)
 have hD:H2 s2.heap.objs.size=none:=I2.fresh
 have Nm:∀b∈fp,b≠s2.heap.objs.size:=fun b hb=>by
  obtain⟨o,e,_⟩:=T.obj 0 _ bz b hb
  exact Nat.ne_of_lt (Heap.lt_size e)
 have f3:∀b∈fp,iR X pins (upd H2 s2.heap.objs.size (.lst [])) b:=fun b hb=>⟨by rw[aG (Nm b hb)];exact(f2 b hb).1,(f2 b hb).2⟩
 obtain⟨W,⟨m0,w0⟩,turn⟩:=rj s2.heap.objs.size hD
 generalize FY:({ s2 with heap:=s2.heap.push { cls:=.type "list",dict:=none,data:=.seq ([]:List Value).toArray } }:Shared)=s3 at I3
 have FZ:s3.heap=s2.heap.push { cls:=.type "list",dict:=none,data:=.seq ([]:List Value).toArray }:=by rw[←FY]
 have keep:∀b o,s3.heap.get? b=some o→mv.get? b=some o:=fun b o e=>by
  have du:=Heap.lt_size e
  rw[FZ]at e du
  exact zU.extBut b o (Nat.ne_of_lt du) (Heap.get?_push_of_some _ e)
 have RI:∀b∈fp,∃o,s3.heap.get? b=some o:=fun b hb=>by
  obtain⟨o,e,_⟩:=T.obj 0 _ bz b hb
  exact⟨o,by rw[FZ];exact Heap.get?_push_of_some _ e⟩
 have Nn:s3.heap.objs.size=(s2.heap.push { cls:=.type "list",dict:=none,data:=.seq ([]:List Value).toArray }).objs.size:=by rw[FZ]
 rw[←Nn]at uQ ⊢
 have J0:Inv (X.gG scope s3.heap.objs.size N' s3 (upd H2 s2.heap.objs.size (.lst [])) fp) [] (pX σ cap) (upd H2 s2.heap.objs.size (.lst [])) { s3 with heap:=mv,toks:=s3.toks }:=CW (t':=s3.toks) B I3 f3 RI keep uQ
 have wI:tn 0 mv:=T.keep 0 s2.heap mv bz fun b hb o e=>keep b o (by rw[FZ];exact Heap.get?_push_of_some _ e)
 have es:({ s2 with heap:=mv,toks:=s2.toks+([]:List (Str×Value)).length }:Shared)= { s3 with heap:=mv,toks:=s3.toks }:=by
  rw[←FY];rfl
 have JP:∀{s5:Shared}{H5:Hp}{Np:St},Inv (X.gG scope s3.heap.objs.size N' s3 (upd H2 s2.heap.objs.size (.lst [])) fp) [] Np H5 s5→Inv X pins σ H5 s5:=fun {s5 H5 Np} J5=>
  I3.Jc (ch:=fp) J5.os J5.base J5.aO J5.bare fun b hb=>⟨(f3 b hb).2.2.2.1,(f3 b hb).2.1,(f3 b hb).2.2.2.2.1,(f3 b hb).2.2.2.2.2⟩
 have JQ:∀{H':Hp},(∀b∈fp,H' b=none)→∀b∈fp,iR (X.gG scope s3.heap.objs.size N' s3 (upd H2 s2.heap.objs.size (.lst [])) fp) [] H' b:=fun {H'} hn b hb=>
  ⟨hn b hb,(J0.ok.B_ b hb).1,J0.ok.tW b hb,.inl hb,(J0.ok.B_ b hb).2,fun p hp=>absurd hp (by simp)⟩
 have loop:codeAny (model X.prog X.w) X.A (.compLoop (.ListComp elt [⟨tg,iter,ifs,0⟩] scope pos) 0 (.ref it) (.ref s2.heap.objs.size) (compEnvC scope (dN X.env.cells scope.names []) s3.heap.objs.size X.env))
   (RR (.ref s2.heap.objs.size) s3.heap.objs.size) { s3 with heap:=mv,toks:=s3.toks }:=by
  refine tF (fun n s'=>∃i τ H',Inv (X.gG scope s3.heap.objs.size N' s3 (upd H2 s2.heap.objs.size (.lst [])) fp) [] τ H' s'∧tn i s'.heap∧(∀b∈fp,H' b=none)∧W i n τ H') ?_ m0 ⟨0,_,_,J0,wI,fun b hb=>(f3 b hb).1,w0⟩
  rintro n s4 ⟨i,τ,H4,J4,g8,Nq,w4⟩
  rcases turn i n τ H4 w4 with⟨stop,q⟩|⟨go,N,hN,step⟩
  ·refine wpAny_mono (T.done (X.gG scope s3.heap.objs.size N' s3 (upd H2 s2.heap.objs.size (.lst [])) fp) rfl rfl rfl hc i [] s4 τ H4 (fun _ _=>False) J4 (JQ Nq) g8 stop) (fun r s5 aZ=>?_) (fun _ _ f=>f)
   obtain⟨hr,J5⟩:=aZ
   subst hr
   obtain⟨m5,Nr,_⟩:=J5.loc
   have I5:Inv X pins σ H4 s5:=JP J5
   obtain⟨o5,Vc,Vd,RJ,RL,_⟩:=id Nr
   refine fin _ _ o5 m5 H4 s5 I5 ⟨J5.free,fun e=>?_,I3.H_ (Nat.le_refl _),.inr I3.sz,fun y c e z=>?_,fun p hp z=>?_⟩ RJ (fun v e=>?_) Nr q
   ·have:=I3.lt
    rw[←e]at this
    exact Nat.lt_irrefl _ this
   ·obtain⟨v,o,v8,_⟩:=I3.cell y c e
    have:=Heap.lt_size v8
    rw[z]at this
    exact Nat.lt_irrefl _ this
   ·have:=Heap.lt_size (I3.pin p hp).1
    rw[z]at this
    exact Nat.lt_irrefl _ this
   ·rw[RL]at e;cases e
  ·refine wpAny_mono (T.item (X.gG scope s3.heap.objs.size N' s3 (upd H2 s2.heap.objs.size (.lst [])) fp) rfl rfl rfl hc i [] s4 τ H4 (fun _ _=>False) J4 (JQ Nq) g8 go) (fun r s5 aZ=>?_) (fun _ _ f=>f)
   obtain⟨u,hr,h5⟩:=aZ
   subst hr
   refine wpAny_mono h5 (fun _ s6 aZ=>?_) (fun _ _ f=>f)
   obtain⟨xv,H6,J6,r6,y6,JR,RM⟩:=aZ
   have RN:=J6.pinned (JQ RM) (T.obj _ _ JR)
   have again:∀{s7:Shared}{tG:St}{H7:Hp},Inv (X.gG scope s3.heap.objs.size N' s3 (upd H2 s2.heap.objs.size (.lst [])) fp) ([]++nv fp s6.heap) tG H7 s7→N tG H7→∃m,m<n∧∃i τ H',Inv (X.gG scope s3.heap.objs.size N' s3 (upd H2 s2.heap.objs.size (.lst [])) fp) [] τ H' s7∧tn i s7.heap∧(∀b∈fp,H' b=none)∧W i m τ H':=fun {s7 tG H7} J7 n7=>by
    obtain⟨m',hm,w7⟩:=hN tG H7 n7
    refine⟨m',hm,i+1,tG,H7,J7.jx,T.keep _ _ _ JR fun b hb o e=>(J7.pin (b,o) (List.mem_append_right _ (List.mem_append_right _ (iS hb e)))).1,fun b hb=>?_,w7⟩
    obtain⟨o,e,d⟩:=T.obj _ _ JR b hb
    exact(J7.pin (b,o) (List.mem_append_right _ (List.mem_append_right _ (iS hb e)))).2.1
   refine wpAny_mono (hg s3.heap.objs.size s3 (upd H2 s2.heap.objs.size (.lst [])) fp _ s6 τ H6 xv u _ RN r6 (step xv H6 y6)) (fun _ s7 aZ=>?_) (fun _ _ f=>f)
   obtain⟨tG,H7,J7,q7⟩:=aZ
   refine wpAny_mono (ht s3.heap.objs.size s3 (upd H2 s2.heap.objs.size (.lst [])) fp _ s7 tG H7 _ J7 q7) (fun ok s8 aZ=>?_) (fun _ _ f=>f)
   obtain⟨H8,J8,q8⟩:=aZ
   cases ok with
   |false=>
    rw[if_neg (by decide)]at q8 ⊢
    exact again J8 q8
   |true=>
    rw[if_pos rfl]at q8 ⊢
    refine wpAny_mono (he s3.heap.objs.size s3 (upd H2 s2.heap.objs.size (.lst [])) fp _ s8 tG H8 _ J8 q8) (fun yv s9 aZ=>?_) (fun _ _ f=>f)
    obtain⟨y,H9,J9,r9,q9⟩:=aZ
    obtain⟨ys,hl,hz,n9⟩:=q9
    exact wpAny_mono (eT (X:=X.gG scope s3.heap.objs.size N' s3 (upd H2 s2.heap.objs.size (.lst [])) fp) _ s9 tG H9 (.ref s2.heap.objs.size) [y] (.ref s2.heap.objs.size) [yv] (fun _ H'=>N tG H') J9 rfl (.cons r9 .nil) ⟨_,ys,y,rfl,rfl,hl,hz,n9⟩) (fun _ Nt ⟨_,Ve,RO,_,RP⟩=>again RO RP) (fun _ _ f=>f)
 rw[es]
 exact codeAny_compStart_list loop (T.self _ 0 _ _ _ wI loop)
theorem CY(B:mT X scope N' cap)(hc:X.calm=true)
  (hi:PI X tg iter wi)(hg:∀C aY ck fp,PG (X.gG scope C N' aY ck fp) tg g)(ht:∀C aY ck fp,pK (X.gG scope C N' aY ck fp) ifs tt)(he:∀C aY ck fp,PE (X.gG scope C N' aY ck fp) elt te)
  (hs:∀x,foldedSetIterable iter X.env x=pure x:=by intro _;rfl):
  PE X (.ListComp elt [⟨tg,iter,ifs,0⟩] scope pos) (yx wi cap g tt te):=by
 intro pins s σ H Q I h
 rw[eval_ListComp]
 refine wpAny_comprehension_free (use:=none) rfl hs (iB fun y hy hf=>I.ok.has y.1 (B.frees y hy hf)) B.kind B.names ?_
 refine bF (hi pins s σ H _ I h) fun v s1 h1=>bF h1 fun Fo s2 h2=>?_
 obtain⟨it,fp,tn,J,H2,e,I2,T,bz,f2,rj⟩:=h2
 subst e
 refine rh (RR:=fun acc C=>compPost (model X.prog X.w) X.A X.xe none (EP X pins σ Q) acc C) B hc hg ht he I2 T bz f2 rj fun D C o m H5 s5 I5 f5 ho hd hn q=>?_
 refine⟨m,hn,fun h' rk=>?_⟩
 exact⟨.ref D,H5,I5.turned (t':=s5.toks) (it:=C) (fun b o hb e=>rk.extBut b o hb e) f5.1 (fun e=>f5.2.1 e) f5.2.2.2.1 f5.2.2.2.2.1 f5.2.2.2.2.2,rfl,q⟩
theorem CZ{i:Nat}{y:Str}{py wJ:Pos}(B:mT X scope N' cap)(hc:X.calm=true)
  (hi:PI X tg iter wi)(hg:∀C aY ck fp,PG (X.gG scope C N' aY ck fp) tg g)(ht:∀C aY ck fp,pK (X.gG scope C N' aY ck fp) ifs tt)(he:∀C aY ck fp,PE (X.gG scope C N' aY ck fp) elt te)
  (hN:X.N.Nodup)(JS:X.N[i]? =some y)(hy:Loc X.env.scope y)(JT:swapsWith (.ListComp elt [⟨tg,iter,ifs,0⟩] scope pos) (some (.Name y py)) wJ.line X.env=pure true)
  (hf:X.fn y=true∨X.env.scope.names.lookup y=some .local:=by first|exact .inl rfl|exact .inr rfl|assumption)
  (hs:∀x,foldedSetIterable iter X.env x=pure x:=by intro _;rfl):
  PS X (.Assign [.Name y py] (.ListComp elt [⟨tg,iter,ifs,0⟩] scope pos) wJ) (Cm (yx wi cap g tt te) (aI i)):=by
 intro pins s σ H D I h
 rw[exec_Assign_Name_used _ _ _ _ JT]
 refine wpAny_bind (wpAny_standAt (wpAny_bind ?_))
 show wpAny _ X.A (do let _ ←comprehension (.ListComp elt [⟨tg,iter,ifs,0⟩] scope pos) scope X.env _ (newList []) false (eval iter X.env) (some (assign (.Name y py) X.env))) _ _ s
 refine wpAny_bind (wpAny_mono (wpAny_comprehension_free (use:=some (assign (.Name y py) X.env)) (Q:=fun _ s'=>SP X pins D .next s') rfl hs (iB fun y hy hf=>I.ok.has y.1 (B.frees y hy hf)) B.kind B.names
  (bF (hi pins s σ H _ I h) fun v s1 h1=>bF h1 fun Fo s2 h2=>?_)) (fun _ s' hq=>wpAny_pure (wpAny_pure hq)) fun _ _ e=>e)
 obtain⟨it,fp,tn,J,H2,e,I2,T,bz,f2,rj⟩:=h2
 subst e
 refine rh (Q:=fun v H'=>aI i v σ H' D.nx) (RR:=fun acc C=>compPost (model X.prog X.w) X.A X.xe (some (assign (.Name y py) X.env)) (fun _ s'=>SP X pins D .next s') acc C) B hc hg ht he I2 T bz f2 rj fun D' C o m H5 s5 I5 f5 ho hd hn q=>?_
 show wpAny _ X.A (assign (.Name y py) X.env (.ref D')) _ _ _
 have Jn:Inv X (pins++[(C,o)]) σ H5 s5:=I5.qC fun p hp=>by
  rcases List.mem_append.mp hp with z|z
  ·exact I5.pin p (List.mem_append_right _ z)
  ·have:p=(C,o):=by simpa using z
   subst this
   exact⟨ho,f5.1,f5.2.1,f5.2.2.1,hd⟩
 refine bF (wa (pos:=py) hN JS hy hf (pins++[(C,o)]) s5 σ H5 (.ref D') (.ref D') _ Jn rfl q) fun _ s6 aZ=>?_
 obtain⟨Jo,H6,I6,q6⟩:=aZ
 obtain⟨e6,n6,_⟩:=I6.pin (C,o) (List.mem_append_right _ (List.mem_append_right _ List.mem_cons_self))
 have RQ:s6.heap.Ns C m:=by
  obtain⟨o',es,ep,q1,r⟩:=hn
  rw[ho]at q1;cases q1
  exact⟨o,es,ep,e6,r⟩
 refine⟨m,RQ,fun h' rk=>⟨Jo,H6,I6.jx.turned (t':=s6.toks) (it:=C) (fun b o hb e=>rk.extBut b o hb e) n6 f5.2.1 f5.2.2.2.1 f5.2.2.2.2.1 f5.2.2.2.2.2,q6⟩⟩
end
end L2
namespace L2
open PySem PySem.Spec PyProof.Rows
end L2
namespace L2
open PySem PySem.Spec PyProof.Rows
end L2
namespace L2
open PySem PySem.Spec PyProof.Rows
mutual
inductive g_(K:PySem.W.Frag)(H:Hp):V→PyData→Prop
 |bL:g_ K H .bL .none
 |bl (b:Bool):g_ K H (.bl b) (.bool b)
 |int (i:Int):g_ K H (.int i) (.int i)
 |str (x:Str):g_ K H (.str x) (.str x)
 |tup {p:Addr}{xs:List V}{ds:List PyData}:df K H p xs→mh K H xs ds→g_ K H (.ref p) (.tuple ds)
 |lst {p:Addr}{xs:List V}{ds:List PyData}:cD K H p xs→mh K H xs ds→g_ K H (.ref p) (.list ds)
inductive mh(K:PySem.W.Frag)(H:Hp):List V→List PyData→Prop
 |nil:mh K H [] []
 |cons {x:V}{xs:List V}{d:PyData}{ds:List PyData}:g_ K H x d→mh K H xs ds→mh K H (x::xs) (d::ds)
end
section
variable{X:Cx}{pins:List (Addr×Obj)}{σ:St}{H:Hp}{s:Shared}
mutual
theorem g_.reads(I:Inv X pins σ H s):∀{x:V}{d:PyData},g_ X.K H x d→∀{v:Value},RelV x v→∃as,Reads s.heap v d as
 |_,_,.bL,v,r=>by cases (show v=Value.none from r);exact⟨_,.none⟩
 |_,_,.bl b,v,r=>by cases (show v=Value.bool b from r);exact⟨_,.bool b⟩
 |_,_,.int i,v,r=>by
  obtain⟨t,e⟩:=(show ∃t,v=Value.int i t from r)
  cases e
  exact⟨_,.int i t⟩
 |_,_,.str x,v,r=>by
  obtain⟨t,e⟩:=(show ∃t,v=Value.str x t from r)
  cases e
  exact⟨_,.str x t⟩
 |_,_,.tup (p:=p) h a,v,r=>by
  cases (show v=Value.ref p from r)
  obtain⟨its,hv,⟨o,ho,hc,n,hd⟩,_⟩:=I.tuple h
  obtain⟨as,ra⟩:=mh.reads I a hv
  exact⟨as,.tuple ho hc hd (by simpa using ra)⟩
 |_,_,.lst (p:=p) h a,v,r=>by
  cases (show v=Value.ref p from r)
  obtain⟨its,hv,pl,_⟩:=I.list h
  obtain⟨o,ho,hc,n,hd⟩:=pl.isList
  obtain⟨as,ra⟩:=mh.reads I a hv
  exact⟨_,.list ho hc hd (by simpa using ra)⟩
theorem mh.reads(I:Inv X pins σ H s):∀{xs:List V}{ds:List PyData},mh X.K H xs ds→∀{us:List Value},Vals xs us→∃as,ReadsAll s.heap us ds as
 |_,_,.nil,_,.nil=>⟨_,.nil⟩
 |_,_,.cons h a,_,.cons r t=>by
  obtain⟨as,ra⟩:=g_.reads I h r
  obtain⟨bs,rb⟩:=mh.reads I a t
  exact⟨_,.cons ra rb⟩
end
end
def pL(K:PySem.W.Frag)(neg:Bool):R2:=fun x y H Q=>∃d e,g_ K H x d∧g_ K H y e∧SeqAt.shaped d=true∧SeqAt.shaped e=true∧Q (.bl (if neg then !PyData.eqv d e else PyData.eqv d e)) H
section
variable{X:Cx}
theorem F_(hu:X.A.units+64<cLine):eR X (compareOp .Eq) (pL X.K false):=by
 intro pins s σ H x y v u Q I rx ry h
 obtain⟨d,e,h1,h2,s1,s2,q⟩:=h
 obtain⟨as,ra⟩:=h1.reads I rx
 obtain⟨bs,rb⟩:=h2.reads I ry
 exact eq_dataH ra rb s1 s2 hu ⟨.bl (PyData.eqv d e),H,I,rfl,q⟩
theorem Ga(hu:X.A.units+64<cLine):eR X (compareOp .NotEq) (pL X.K true):=by
 intro pins s σ H x y v u Q I rx ry h
 obtain⟨d,e,h1,h2,s1,s2,q⟩:=h
 obtain⟨as,ra⟩:=h1.reads I rx
 obtain⟨bs,rb⟩:=h2.reads I ry
 exact ne_dataH ra rb s1 s2 hu ⟨.bl (!PyData.eqv d e),H,I,rfl,q⟩
theorem mV(hc:X.calm=true):fC X (.builtin "max") (fun xs H Q=>∃i j k,xs=[.int i,.int j,.int k]∧Q (.int (if j > i then(if k > j then k else j)else(if k > i then k else i))) H):=by
 intro pins s σ H xs us Q I r h
 obtain⟨i,j,k,rfl,q⟩:=h
 cases r with
 |cons r1 r=>
  cases r with
  |cons r2 r=>
   cases r with
   |cons r3 r=>
    cases r
    obtain⟨t1,e1⟩:=(show ∃t,_=Value.int i t from r1)
    obtain⟨t2,e2⟩:=(show ∃t,_=Value.int j t from r2)
    obtain⟨t3,e3⟩:=(show ∃t,_=Value.int k t from r3)
    cases e1;cases e2;cases e3
    refine max_three_ints (I.ok.hd hc) fun h' tk hk=>?_
    by_cases h1:j > i<;>by_cases h2:k > j<;>by_cases h3:k > i<;>simp only[h1,h2,h3,if_true,if_false]at q ⊢<;>exact⟨.int _,H,I.kept hk,⟨_,rfl⟩,q⟩
def JU(i j k:Nat)(ta:TA):TS:=fun D σ H=>ta σ H fun vs H1=>∃u v w,vs=[u,v,w]∧D.nx (((σ.set i (some u)).set j (some v)).set k (some w)) H1
theorem C0{i j k:Nat}{x y z:Str}{a b c:Expr}{ta:TA}{px py pz pt pos:Pos}{kt k2 mM}(hc:X.calm=true)(hN:X.N.Nodup)(hi:X.N[i]? =some x)(hj:X.N[j]? =some y)(hk:X.N[k]? =some z)(cX:i≠j)(JV:i≠k)(rm:j≠k)
  (hx:X.env.scope.names.lookup x=some .local)(hy:X.env.scope.names.lookup y=some .local)(hz:X.env.scope.names.lookup z=some .local)(ha:PA X [a,b,c] ta)
  (hw:swappedStores [.Tuple [.Name x px,.Name y py,.Name z pz] kt pt] (.Tuple [a,b,c] k2 mM) X.env=pure (some [x,y,z]))
  (hs:swapsWithSole [.Tuple [.Name x px,.Name y py,.Name z pz] kt pt] (.Tuple [a,b,c] k2 mM) pos.line X.env=pure false:=by rfl):
  PS X (.Assign [.Tuple [.Name x px,.Name y py,.Name z pz] kt pt] (.Tuple [a,b,c] k2 mM) pos) (JU i j k ta):=by
 intro pins s σ H D I h
 rw[exec_Assign_arm]
 refine wpAny_bind (wpAny_standAt ?_)
 rw[hs]
 refine wpAny_bind (wpAny_pure ?_)
 rw[if_neg (by decide)]
 refine wpAny_bind (Tuple_ (bF (ha _ pins s σ H _ I h) fun us s1 aZ=>?_))
 obtain⟨vs,H1,I1,r1,q1⟩:=aZ
 obtain⟨v1,v2,v3,e1,q1⟩:=q1
 subst e1
 obtain⟨u1,u2,u3,rfl,ra,rb,rc⟩:∃u1 u2 u3,us=[u1,u2,u3]∧RelV v1 u1∧RelV v2 u2∧RelV v3 u3:=by
  cases r1 with
  |cons p q=>
   cases q with
   |cons p' q'=>
    cases q' with
    |cons RT RU=>
     cases RU
     exact⟨_,_,_,rfl,p,p',RT⟩
 refine wpAny_newObj_type ?_ (by show 3≤sizeLine;decide)
 have I2:Inv X pins σ H1 { s1 with heap:=s1.heap.push { cls:=.type "tuple",data:=.seq [u1,u2,u3].toArray } }:=I1.kept (t':=s1.toks) fun b o e=>Heap.get?_push_of_some _ e
 rw[hw]
 refine wpAny_bind (wpAny_pure ?_)
 show wpAny (model X.prog X.w) X.A (do rule "assign.swapped-stores";let items ←unpackItems (.ref s1.heap.objs.size) 3 none;assignInOrder [fun v=>bindName X.env z v,fun v=>bindName X.env y v,fun v=>bindName X.env x v] items.reverse;pure Flow.next) _ _ _
 refine wpAny_bind (wpAny_rule (wpAny_bind (unpackItems_tuple (items:=#[u1,u2,u3]) (I.ok.hd hc) (IsTup.new s1.heap _) fun h' cB=>?_)))
 have I3:=I2.kept (h':=h') (t':=s1.toks) fun b o e=>cB b o (Nat.ne_of_lt (Heap.lt_size e)) e
 show wpAny _ _ (assignInOrder [fun v=>bindName X.env z v,fun v=>bindName X.env y v,fun v=>bindName X.env x v] [u3,u2,u1] >>= fun _=>pure Flow.next) _ _ _
 refine wpAny_bind (assignInOrder_cons (wpAny_bindName (fX I3 hN hk (.inl hz) rc (fun s2 I4=>?_) (.inr hz))))
 refine assignInOrder_cons (wpAny_bindName (fX I4 hN hj (.inl hy) rb (fun s3 I5=>?_) (.inr hy)))
 refine assignInOrder_cons (wpAny_bindName (fX I5 hN hi (.inl hx) ra (fun s4 I6=>assignInOrder_nil (wpAny_pure ?_)) (.inr hx)))
 have es:((σ.set k (some v3)).set j (some v2)).set i (some v1)=((σ.set i (some v1)).set j (some v2)).set k (some v3):=by
  rw[List.set_comm (some v2) (some v1) (Ne.symm cX),List.set_comm (some v3) (some v1) (Ne.symm JV),List.set_comm (some v3) (some v2) (Ne.symm rm)]
 rw[es]at I6
 exact⟨_,H1,I6,q1⟩
end
section
variable{X:Cx}
theorem mz{h:Heap}{d:PyData}{e:Value→Bool}:∀{us:List Value}{ds:List PyData}{as:List Addr},ReadsAll h us ds as→(∀u d' pY,u∈us→d'∈ds→Reads h u d' pY→e u=PyData.eqv d' d)→us.any e=ds.any fun d'=>PyData.eqv d' d
 |_,_,_,.nil,_=>rfl
 |_,_,_,.cons r t,h=>by
  rw[List.any_cons,List.any_cons,h _ _ _ List.mem_cons_self List.mem_cons_self r,mz t fun u d' pY hu hd r'=>h u d' pY (List.mem_cons_of_mem _ hu) (List.mem_cons_of_mem _ hd) r']
theorem readsAll_mem{h:Heap}:∀{us:List Value}{ds:List PyData}{as:List Addr},ReadsAll h us ds as→∀u∈us,∃d'∈ds,∃pY,Reads h u d' pY
 |_,_,_,.nil,_,hu=>nomatch hu
 |_,_,_,.cons r t,u,hu=>by
  rcases List.mem_cons.mp hu with rfl|hu
  ·exact⟨_,List.mem_cons_self,_,r⟩
  ·obtain⟨d',hd,pY,r'⟩:=readsAll_mem t u hu
   exact⟨d',List.mem_cons_of_mem _ hd,pY,r'⟩
open Classical in
noncomputable def nE(h:Heap)(d:PyData)(u:Value):Bool:=if e:∃d',PyData.canLay0 d'=true∧∃as,Reads h u d' as then PyData.eqv (Classical.choose e) d else false
theorem rn{h:Heap}{d d':PyData}{u:Value}{as:List Addr}(c:PyData.canLay0 d'=true)(r:Reads h u d' as):nE h d u=PyData.eqv d' d:=by
 have e:∃d',PyData.canLay0 d'=true∧∃as,Reads h u d' as:=⟨d',c,as,r⟩
 unfold nE
 rw[dif_pos e]
 obtain⟨c1,JW,r1⟩:=Classical.choose_spec e
 rw[SeqAt.Reads.unique _ _ _ _ _ c1 r1 r]
end
end L2
namespace L2
open PySem PySem.W PySem.Spec
abbrev vE:List Value:=[.type "ValueError",.type "Exception",.type "BaseException",.type "object"]
structure RV(K:Frag)(C S:Addr)(cd:ClassData):Prop where
 cls:clsIn K C=some cd
 mro:cd.mro= .ref C::.ref S::vE
 yy:cd.hasDict=true
 ty:typeIn K (.ref C)=some (.type "type")
 sa:findIn K (.ref C) "__setattr__" =some (some (.builtin "object.__setattr__"))
 ga:findIn K (.ref C) "__getattribute__" =some (some (.builtin "BaseException.__getattribute__"))
 gt:findIn K (.ref C) "__getattr__" =some none
 cl:findIn K (.ref C) "__class__" =some (some (.builtin "object.__class__"))
def xm(a:Addr)(o:Obj):HO:=.ext fun h=>h.get? a=some o
def xh(a:Addr)(o:Obj):HO:=.eG o (xm a o)
abbrev xo(C:Addr)(d:Option Addr)(vs:Array Value)(sl:Array (Option Value)):Obj:=⟨.ref C,d,.fields vs,sl⟩
def Nu(H:Hp):Option Addr→Option Obj→Prop
 |some dx,some od=>H dx=some (xh dx od)
 |none,none=>True
 |_,_=>False
structure zV(K:Frag)(H:Hp)(a C S:Addr)(vs:List (Key×V)):Prop where
 ex:∃(cd:ClassData) (d:Option Addr) (JX:Array Value) (sl:Array (Option Value)) (Bb:Option Obj),RV K C S cd∧H a=some (xh a (xo C d JX sl))∧Nu H d Bb∧
  ∀(f:Str) (v:V),(Sum.inr f,v)∈vs→findIn K (.ref C) f=some none∧∃od u,Bb=some od∧lookIn f od=some (some u)∧RelV v u
theorem zV.up{K:Frag}{H H':Hp}{a C S:Addr}{vs:List (Key×V)}(h:zV K H a C S vs)(fz:∀p o x,H p=some (.eG o x)→H' p=some (.eG o x)):zV K H' a C S vs:=by
 obtain⟨cd,d,JX,sl,Bb,h1,h2,h3,h4⟩:=h.ex
 refine⟨cd,d,JX,sl,Bb,h1,fz _ _ _ h2,?_,h4⟩
 cases d with
 |none=>
  cases Bb with
  |none=>exact True.intro
  |some od=>exact h3
 |some dx=>
  cases Bb with
  |none=>exact h3
  |some od=>exact fz _ _ _ h3
end L2
namespace Qm
open PySem
structure aS where
 params:Arguments
 body:Expr
 scope:Scope
 qual:Str
 code:Nat
 pos:Pos
 free:List Str
end Qm
namespace L2
open PySem PySem.W PySem.Spec PyProof.Rows
structure nF(H:Hp)(a:Addr)(t:Qm.aS)(vs:List V):Prop where
 ex:∃(bZ:List (Str×Addr)) (pm ky:Value) (c':Addr) (oc:Obj) (fs:Array Value) (tk:Tok),H a=some (xh a (kla_obj "<lambda>" t.qual t.params t.body t.scope bZ pm c' ky))∧
  H c'=some (xh c' oc)∧oc.data= .fields fs∧fs[1]? =some (.str t.qual tk)∧(∀x y c,bZ.lookup x=some c→bZ.lookup y=some c→x=y)∧
  (∀x c,bZ.lookup x=some c→x∈t.free)∧vs.length=t.free.length∧
  ∀(i:Nat) (x:Str) (v:V),t.free[i]? =some x→vs[i]? =some v→∃c o u u0,bZ.lookup x=some c∧H c=some (.eG o u0)∧o.data= .cell (some u)∧RelV v u
theorem nF.up{H H':Hp}{a:Addr}{t:Qm.aS}{vs:List V}(h:nF H a t vs)(fz:∀p o x,H p=some (.eG o x)→H' p=some (.eG o x)):nF H' a t vs:=by
 obtain⟨bZ,pm,ky,c',oc,fs,tk,h1,h2,h3,h4,h5,h6,h7,h8⟩:=h.ex
 refine⟨bZ,pm,ky,c',oc,fs,tk,fz _ _ _ h1,fz _ _ _ h2,h3,h4,h5,h6,h7,fun i x v e1 e2=>?_⟩
 obtain⟨c,o,u,u0,g1,g2,g3⟩:=h8 i x v e1 e2
 exact⟨c,o,u,u0,g1,fz _ _ _ g2,g3⟩
structure nG(K:Frag)(H:Hp)(cd:Addr)(q:Str)(P:Addr):Prop where
 hd:codeHdIn K cd P=true
 ex:∃ps:Array Value,H P=some (.kj ps)∧TriplesOk ps.toList∧∀pos cv,codeAmong pos ps.toList=some cv→∃c' oc fs tk,cv= .ref c'∧H c'=some (xh c' oc)∧oc.data= .fields fs∧fs[1]? =some (.str q tk)
theorem nG.up{K:Frag}{H H':Hp}{cd P:Addr}{q:Str}(h:nG K H cd q P)(fz:∀p o x,H p=some (.eG o x)→H' p=some (.eG o x))(hs:∀o,H P=some o→H' P=some o):nG K H' cd q P:=by
 obtain⟨ps,h1,h2,h3⟩:=h.ex
 refine⟨h.hd,ps,hs _ h1,h2,fun pos cv e=>?_⟩
 obtain⟨c',oc,fs,tk,g1,g2,g3⟩:=h3 pos cv e
 exact⟨c',oc,fs,tk,g1,fz _ _ _ g2,g3⟩
end L2
namespace Qm
open PySem
noncomputable section
inductive D where
 |bL|bl(b:Bool)|int(i:Int)|str(x:Str)|tup(xs:List D)|ref(n:Nat)|ty(n:String)|adr(a:Nat)|cU(t:aS)(bs:List D)
inductive Cell where
 |lst(xs:List D)
 |ro(xs:List D)
 |yy(ps:List (Str×D))
 |yz(ps:List (Str×D))
 |Bc(ps:List (List Int×D))
 |Be(ps:List (List (List Int)×D))
 |rq(ps:List (List (List Int)×D))
 |exc(C S:Nat)(fs:List (Str×D))
 |tab(cd:Nat)(q:Str)
def Cell.mt:Cell→Bool
 |.ro _=>false
 |.yz _=>false
 |.rq _=>false
 |.exc _ _ _=>false
 |_=>true
abbrev Cells:=List Cell
abbrev Env:=List (Option D)
abbrev XE:=Env→Cells→Option (D×Cells)
abbrev XA:=Env→Cells→Option (List D×Cells)
abbrev XT:=Env→Cells→Option (Bool×Cells)
abbrev XO:=Env→Cells→Option (Option Int×Cells)
inductive Fl where
 |nx|rt(d:D)|bk|ct
abbrev XS:=Env→Cells→Option (Fl×Env×Cells)
abbrev XG:=D→Env→Cells→Option (Env×Cells)
abbrev tH:=List D→Env→Cells→Option (Env×Cells)
abbrev FN:=List D→Cells→Option (D×Cells)
structure Itm where
 ds:List D
 ks:List (Nat×Cell)
abbrev XI:=Env→Cells→Option (Itm×Cells)
abbrev G1:=D→Cells→Option (D×Cells)
abbrev G2:=D→D→Cells→Option (D×Cells)
def dh:Nat:=Classical.choose (⟨10000000,rfl⟩:∃n:Nat,n=10000000)
theorem jA:dh=10000000:=Classical.choose_spec (⟨10000000,rfl⟩:∃n:Nat,n=10000000)
def eC(d:D):XE:=fun _ c=>some (d,c)
def eV(i:Nat):XE:=fun σ c=>(σ[i]?.join).bind fun d=>some (d,c)
def e1(g:G1)(a:XE):XE:=fun σ c=>(a σ c).bind fun p=>g p.1 p.2
def e2(g:G2)(a b:XE):XE:=fun σ c=>(a σ c).bind fun p=>(b σ p.2).bind fun q=>g p.1 q.1 q.2
def mj(d:D):Option Bool:=match d with
 |.bl b=>some b
 |_=>none
def rz(a b:XE):XE:=fun σ c=>(a σ c).bind fun p=>(mj p.1).bind fun k=>if k=true then b σ p.2 else some (.bl false,p.2)
def JY(a b:XE):XE:=fun σ c=>(a σ c).bind fun p=>(mj p.1).bind fun k=>if k=true then some (.bl true,p.2)else b σ p.2
def C1(a:XE):XE:=fun σ c=>(a σ c).bind fun p=>(mj p.1).bind fun k=>some (.bl (!k),p.2)
def JZ(t:XT)(a b:XE):XE:=fun σ c=>(t σ c).bind fun p=>if p.1=true then a σ p.2 else b σ p.2
def aj:XA:=fun _ c=>some ([],c)
def af(a:XE)(r:XA):XA:=fun σ c=>(a σ c).bind fun p=>(r σ p.2).bind fun q=>some (p.1::q.1,q.2)
def iC(a:XA):XE:=fun σ c=>(a σ c).bind fun p=>if p.1.length≤dh then some (.tup p.1,p.2)else none
def gS(a:XA):XE:=fun σ c=>(a σ c).bind fun p=>if p.1.length≤dh then some (.ref p.2.length,p.2++[.lst p.1])else none
def az(F:FN)(ds:List D)(a:XA):XE:=fun σ c=>(a σ c).bind fun p=>F (p.1++ds) p.2
def eB(F:FN)(a:XA):XE:=fun σ c=>(a σ c).bind fun p=>F p.1 p.2
def yA:XO:=fun _ c=>some (none,c)
def gH(a:XE):XO:=fun σ c=>(a σ c).bind fun p=>match p.1 with
 |.int i=>some (some i,p.2)
 |_=>none
def yB(g:D→Option Int→Option Int→Cells→Option (D×Cells))(a:XE)(lo hi:XO):XE:=fun σ c=>(a σ c).bind fun p=>(lo σ p.2).bind fun l=>(hi σ l.2).bind fun h=>g p.1 l.1 h.1 h.2
def Gb(g h:G2)(a b d:XE):XE:=fun σ c=>(a σ c).bind fun p=>(b σ p.2).bind fun q=>(g p.1 q.1 q.2).bind fun z=>(mj z.1).bind fun k=>
 if k=true then(d σ z.2).bind fun u=>h q.1 u.1 u.2 else some (.bl false,z.2)
def tV(a:XE):XT:=fun σ c=>(a σ c).bind fun p=>(mj p.1).bind fun k=>some (k,p.2)
def gQ(a b:XT):XT:=fun σ c=>(a σ c).bind fun p=>if p.1=true then b σ p.2 else some (false,p.2)
def l_(a b:XT):XT:=fun σ c=>(a σ c).bind fun p=>if p.1=true then some (true,p.2)else b σ p.2
def eY(a:XT):XT:=fun σ c=>(a σ c).bind fun p=>some (!p.1,p.2)
def bW:XS:=fun σ c=>some (.nx,σ,c)
def av(a b:XS):XS:=fun σ c=>(a σ c).bind fun p=>match p.1 with
 |.nx=>b p.2.1 p.2.2
 |_=>some p
def aK(i:Nat)(e:XE):XS:=fun σ c=>(e σ c).bind fun p=>some (.nx,σ.set i (some p.1),p.2)
def wK(e:XE)(g:XG):XS:=fun σ c=>(e σ c).bind fun p=>(g p.1 σ p.2).bind fun q=>some (.nx,q.1,q.2)
def iW(is:List Nat)(a:XA):XS:=fun σ c=>(a σ c).bind fun p=>if p.1.length=is.length then some (.nx,(is.zip p.1).foldl (fun σ q=>σ.set q.1 (some q.2)) σ,p.2)else none
def cY(t:XT)(a b:XS):XS:=fun σ c=>(t σ c).bind fun p=>if p.1=true then a σ p.2 else b σ p.2
def bt(e:XE):XS:=fun σ c=>(e σ c).bind fun p=>some (.rt p.1,σ,p.2)
def d5(e:XE):XS:=fun σ c=>(e σ c).bind fun p=>some (.nx,σ,p.2)
def aI(i:Nat):XG:=fun d σ c=>some (σ.set i (some d),c)
def jv:tH:=fun ds σ c=>match ds with
 |[]=>some (σ,c)
 |_=>none
def cE(g:XG)(r:tH):tH:=fun ds σ c=>match ds with
 |d::t=>(g d σ c).bind fun p=>r t p.1 p.2
 |[]=>none
def jw(n:Nat)(g:tH):XG:=fun d σ c=>match d with
 |.tup xs=>if xs.length=n then g xs σ c else none
 |_=>none
def stays(ks:List (Nat×Cell))(c:Cells):Prop:=∀p∈ks,c[p.1]? =some p.2
open Classical in
def fZ(ks:List (Nat×Cell))(g:XG)(body:XS):List D→XS
 |[],σ,c=>if stays ks c then some (.nx,σ,c)else none
 |d::r,σ,c=>if stays ks c then(g d σ c).bind fun p=>(body p.1 p.2).bind fun q=>(match q.1 with
   |.nx=>fZ ks g body r q.2.1 q.2.2
   |.ct=>fZ ks g body r q.2.1 q.2.2
   |.bk=>some (.nx,q.2.1,q.2.2)
   |.rt d=>some (.rt d,q.2.1,q.2.2))else none
def gu(it:XI)(g:XG)(body:XS):XS:=fun σ c=>(it σ c).bind fun p=>fZ p.1.ks g body p.1.ds σ p.2
def gv(t:XT)(b:XS):Nat→XS
 |0,_,_=>none
 |n+1,σ,c=>(t σ c).bind fun p=>if p.1=true then(b σ p.2).bind fun q=>(match q.1 with
   |.nx=>gv t b n q.2.1 q.2.2
   |.ct=>gv t b n q.2.1 q.2.2
   |.bk=>some (.nx,q.2.1,q.2.2)
   |.rt d=>some (.rt d,q.2.1,q.2.2))else some (.nx,σ,p.2)
open Classical in
def cQ(t:XT)(b:XS):XS:=fun σ c=>if h:∃n r,gv t b n σ c=some r then gv t b (Classical.choose h) σ c else none
def nH(σ:Env)(cap:List (Option Nat)):Env:=cap.map fun o=>match o with
 |some i=>(match σ[i]? with|some v=>v|none=>none)
 |none=>none
open Classical in
def eh(L:Nat)(ks:List (Nat×Cell))(g:XG)(tt:XT)(te:XE):List D→Env→Cells→Option Cells
 |[],_,c=>if stays ks c then some c else none
 |d::r,τ,c=>if stays ks c then(g d τ c).bind fun p=>(tt p.1 p.2).bind fun b=>if b.1=true then(te p.1 b.2).bind fun y=>
   (match y.2[L]? with
    |some (.lst ys)=>if ys.length<dh then eh L ks g tt te r p.1 (y.2.set L (.lst (ys++[y.1])))else none
    |_=>none)else eh L ks g tt te r p.1 b.2 else none
def cV(it:XI)(cap:List (Option Nat))(g:XG)(tt:XT)(te:XE):XE:=fun σ c=>(it σ c).bind fun p=>
 (eh p.2.length p.1.ks g tt te p.1.ds (nH σ cap) (p.2++[.lst []])).bind fun c'=>some (.ref p.2.length,c')
def eF:XT:=fun _ c=>some (true,c)
def gw(n N:Nat)(b:XS):FN:=fun ds c=>if ds.length=n then(b (ds.map some++List.replicate (N - n) none) c).bind fun p=>(match p.1 with
 |.rt d=>some (d,p.2.2)
 |.nx=>some (.bL,p.2.2)
 |_=>none)else none
def bS(d:D)(c:Cells):Option (List D):=match d with
 |.tup xs=>some xs
 |.ref n=>(match c[n]? with
  |some (.lst xs)=>some xs
  |some (.ro xs)=>some xs
  |_=>none)
 |_=>none
def bq(d:D)(c:Cells):Option (Nat×List D):=match d with
 |.ref n=>(match c[n]? with
  |some (.lst xs)=>some (n,xs)
  |_=>none)
 |_=>none
def oJ(d:D):Option Int:=match d with
 |.int i=>some i
 |_=>none
def ii(f:Int→Int→Option D):G2:=fun x y c=>(oJ x).bind fun i=>(oJ y).bind fun j=>(f i j).bind fun d=>some (d,c)
def MulOk(i j:Int):Prop:=(My.Bd 90000 i∧My.Bd 90000 j)∨(My.Bd 64 i∨My.Bd 64 j)
open Classical in
def bh:G2:=ii fun i j=>if MulOk i j then some (.int (i*j))else none
def bR:G2:=ii fun i j=>some (.int (i - j))
open Classical in
def eU:G2:=ii fun i j=>if j≠0∧My.Bd 8900 j then some (.int (i.fdiv j))else none
def dE:G2:=ii fun i j=>if j≠0 then some (.int (i.fmod j))else none
def d6:G2:=ii fun i j=>if 0≤j∧j≤100∧i.natAbs<1000 then some (.int (i ^ j.toNat))else none
def iD:G2:=ii fun i j=>some (.bl (decide (i<j)))
def RW:G2:=ii fun i j=>some (.bl (decide (i≤j)))
def oK:G2:=ii fun i j=>some (.bl (decide (j<i)))
def RX:G2:=ii fun i j=>some (.bl (decide (j≤i)))
def cp:G2:=fun x y c=>match x,y with
 |.int i,.int j=>some (.int (i+j),c)
 |.tup xs,.tup ys=>if xs≠[]∧xs.length+ys.length≤dh then some (.tup (xs++ys),c)else none
 |x,y=>(bq x c).bind fun p=>(bq y c).bind fun q=>if p.2.length+q.2.length≤dh then some (.ref c.length,c++[.lst (p.2++q.2)])else none
def t7:G1:=fun x c=>(oJ x).bind fun i=>some (.int (-i),c)
def omap{α β:Type}(f:α→Option β):List α→Option (List β)
 |[]=>some []
 |x::xs=>(f x).bind fun d=>(omap f xs).bind fun ds=>some (d::ds)
def data(c:Cells):Nat→D→Option PyData
 |0,_=>none
 |k+1,d=>match d with
  |.bL=>some .none
  |.int i=>some (.int i)
  |.str x=>if x.cps.all (·<1114112)=true then some (.str x)else none
  |.tup xs=>(omap (data c k) xs).bind fun ds=>some (.tuple ds)
  |.ref n=>(match c[n]? with
   |some (.lst xs)=>(omap (data c k) xs).bind fun ds=>some (.list ds)
   |some (.ro xs)=>(omap (data c k) xs).bind fun ds=>some (.list ds)
   |_=>none)
  |_=>none
open Classical in
def uR(x y:D)(c:Cells):Option Bool:=match x,y with
 |.bl a,.bl b=>some (a==b)
 |x,y=>(data c 6 x).bind fun d=>(data c 6 y).bind fun e=>some (decide (d=e))
def iE:G2:=fun x y c=>(uR x y c).bind fun b=>some (.bl b,c)
def fQ:G2:=fun x y c=>(uR x y c).bind fun b=>some (.bl (!b),c)
open Classical in
def J1(x y:D)(c:Cells):Option Bool:=(bS y c).bind fun xs=>(data c 5 x).bind fun d=>(omap (data c 5) xs).bind fun ds=>some (decide (d∈ds))
def nI:G2:=fun x y c=>(J1 x y c).bind fun b=>some (.bl (!b),c)
def pZ(n:Nat)(i:Int):Option Nat:=if 0≤i then(if i<n then some i.toNat else none)else if -(n:Int)≤i then some (i+n).toNat else none
def gJ{α:Type}(xs:List α)(i:Int):Option α:=(pZ xs.length i).bind fun j=>xs[j]?
def aH:G2:=fun x y c=>(bS x c).bind fun xs=>(oJ y).bind fun i=>(gJ xs i).bind fun d=>some (d,c)
def uS(n d:Nat):Option Int→Nat
 |none=>d
 |some v=>if v<0 then(v+n).toNat else min v.toNat n
def cutD{α:Type}(xs:List α)(lo hi:Option Int):List α:=(xs.drop (uS xs.length 0 lo)).take (uS xs.length xs.length hi - uS xs.length 0 lo)
def kz(x:D)(lo hi:Option Int)(c:Cells):Option (D×Cells):=match x with
 |.tup xs=>some (.tup (cutD xs lo hi),c)
 |x=>(bS x c).bind fun xs=>some (.ref c.length,c++[.lst (cutD xs lo hi)])
def zW(o i:XE):XG:=fun d σ c=>(o σ c).bind fun p=>(i σ p.2).bind fun q=>(bq p.1 q.2).bind fun l=>(oJ q.1).bind fun k=>(pZ l.2.length k).bind fun j=>some (σ,q.2.set l.1 (.lst (l.2.set j d)))
def one(g:G1):FN:=fun ds c=>match ds with
 |[x]=>g x c
 |_=>none
def two(g:G2):FN:=fun ds c=>match ds with
 |[x,y]=>g x y c
 |_=>none
def d7:FN:=one fun x c=>(oJ x).bind fun i=>some (.int (if i<0 then -i else i),c)
def bM:FN:=one fun x c=>(bS x c).bind fun xs=>some (.int xs.length,c)
def kA:FN:=one fun x c=>match x with
 |.int i=>some (.int i,c)
 |.bl k=>some (.int (if k then 1 else 0),c)
 |_=>none
def J2:FN:=two (ii fun i j=>some (.int (if j > i then j else i)))
def J3:FN:=two (ii fun i j=>some (.int (if j<i then j else i)))
def jd:FN:=fun ds c=>match ds with
 |[.int i,.int j,.int k]=>some (.int (if j > i then(if k > j then k else j)else(if k > i then k else i)),c)
 |_=>none
def rC:FN:=one fun x c=>(bS x c).bind fun xs=>some (.ref c.length,c++[.lst xs])
def qj(n:String)(d:D)(c:Cells):Option Bool:=match d with
 |.int _=>if n= "int" then some true else if n= "bool" then some false else none
 |.bl _=>if n= "bool" then some true else none
 |.tup _=>if n= "tuple" then some true else none
 |.ref m=>(match c[m]? with
  |some (.lst _)=>if n= "list" then some true else none
  |_=>none)
 |_=>none
def cM:FN:=two fun x y c=>match y with
 |.ty n=>(qj n x c).bind fun k=>some (.bl k,c)
 |_=>none
def wL:FN:=one fun x c=>(bq x c).bind fun l=>(omap mj l.2).bind fun bs=>some (.bl (bs.all id),c)
def Nv(xs ys:List D):List D:=(xs.zip ys).map fun p=>.tup [p.1,p.2]
def eM(g:D→FN)(o:XE)(a:XA):XE:=fun σ c=>(o σ c).bind fun p=>(bq p.1 p.2).bind fun _=>(a σ p.2).bind fun q=>g p.1 q.1 q.2
def cc(o:D):FN:=one fun y c=>(bq o c).bind fun l=>if l.2.length<dh then some (.bL,c.set l.1 (.lst (l.2++[y])))else none
def kB(o:D):FN:=one fun y c=>(bq o c).bind fun l=>(bq y c).bind fun z=>if l.2.length+z.2.length≤dh then some (.bL,c.set l.1 (.lst (l.2++z.2)))else none
def lK(o:D):FN:=fun ds c=>match ds with
 |[]=>(bq o c).bind fun l=>some (.bL,c.set l.1 (.lst []))
 |_=>none
def qF(a:XE):XI:=fun σ c=>(a σ c).bind fun p=>match p.1 with
 |.tup xs=>some (⟨xs,[]⟩,p.2)
 |_=>none
def fR(a:XE):XI:=fun σ c=>(a σ c).bind fun p=>match p.1 with
 |.ref n=>(p.2[n]?).bind fun z=>(bS (.ref n) p.2).bind fun xs=>some (⟨xs,[(n,z)]⟩,p.2)
 |_=>none
def eg(lo:Int)(n:Nat):List D:=(List.range n).map fun(i:Nat)=>.int (lo+i)
structure C4(j:Int):Prop where
 lo: -(2 ^ 62)≤j
 hi:j<2 ^ 62
open Classical in
def fB(a:XA):XI:=fun σ c=>(a σ c).bind fun p=>match p.1 with
 |[.int j]=>if C4 j then some (⟨eg 0 j.toNat,[]⟩,p.2)else none
 |_=>none
open Classical in
def jb(a:XA):XI:=fun σ c=>(a σ c).bind fun p=>match p.1 with
 |[.int i,.int j]=>if C4 i∧C4 j then some (⟨eg i (j - i).toNat,[]⟩,p.2)else none
 |_=>none
theorem jP{t:XT}{b:XS}:∀{n k:Nat}{σ:Env}{c:Cells}{r},gv t b n σ c=some r→gv t b (n+k) σ c=some r
 |0,_,_,_,_,h=>by simp[gv]at h
 |n+1,k,σ,c,r,h=>by
  rw[show n+1+k=(n+k)+1 by omega]
  simp only[gv]at h ⊢
  cases ht:t σ c with
  |none=>rw[ht]at h;simp at h
  |some p=>
   rw[ht]at h
   simp only[Option.bind_some]at h ⊢
   split
   ·rename_i hp
    rw[if_pos hp]at h
    cases hb:b σ p.2 with
    |none=>rw[hb]at h;simp at h
    |some q=>
     rw[hb]at h
     simp only[Option.bind_some]at h ⊢
     obtain⟨f,σ',c'⟩:=q
     cases f with
     |nx=>exact jP h
     |ct=>exact jP h
     |bk=>exact h
     |rt d=>exact h
   ·rename_i hp
    rw[if_neg hp]at h
    exact h
theorem rD{t:XT}{b:XS}{n:Nat}{σ:Env}{c:Cells}{r}(h:gv t b n σ c=some r):cQ t b σ c=some r:=by
 have hx:∃n r,gv t b n σ c=some r:=⟨n,r,h⟩
 unfold cQ
 rw[dif_pos hx]
 obtain⟨r',h'⟩:=Classical.choose_spec hx
 have h1:=jP (k:=n) h'
 have h2:=jP (k:=Classical.choose hx) h
 rw[Nat.add_comm]at h2
 rw[h']
 exact h1.symm.trans h2
theorem rE{t:XT}{b:XS}{σ:Env}{c:Cells}{r}(h:cQ t b σ c=some r):∃n,gv t b n σ c=some r:=by
 unfold cQ at h
 split at h
 ·exact⟨_,h⟩
 ·cases h
theorem fF{t:XT}{b:XS}{σ:Env}{c c':Cells}(h:t σ c=some (false,c')):cQ t b σ c=some (.nx,σ,c'):=
 rD (n:=1) (by simp[gv,h])
theorem jQ{t:XT}{b:XS}{σ σ':Env}{c c' c2:Cells}{r}(h:t σ c=some (true,c'))(hb:b σ c'=some (.nx,σ',c2))(hr:cQ t b σ' c2=some r):cQ t b σ c=some r:=by
 obtain⟨n,hn⟩:=rE hr
 exact rD (n:=n+1) (by simp[gv,h,hb,hn])
end
end Qm
namespace L2
open PySem PySem.Spec PyProof.Rows
theorem aE{α β:Type}{x:Option α}{f:α→Option β}{z:β}(h:x.bind f=some z):∃a,x=some a∧f a=some z:=by
 cases x with
 |none=>cases h
 |some a=>exact⟨a,rfl,h⟩
theorem kC{n:Nat}(h:n≤Qm.dh):n≤sizeLine:=Nat.le_trans h (by rw[Qm.jA,sizeLine_eq];decide)
theorem wM{n:Nat}(h:n<Qm.dh):n<sizeLine:=Nat.lt_of_lt_of_le h (by rw[Qm.jA,sizeLine_eq];decide)
mutual
inductive RD(K:PySem.W.Frag)(ρ:Nat→Addr)(N:Nat)(H:Hp):Qm.D→V→Prop
 |bL:RD K ρ N H .bL .bL
 |bl (b:Bool):RD K ρ N H (.bl b) (.bl b)
 |int (i:Int):RD K ρ N H (.int i) (.int i)
 |str (x:Str):RD K ρ N H (.str x) (.str x)
 |ty (n:String):RD K ρ N H (.ty n) (.ty n)
 |tup {p:Addr}{xs:List V}{ds:List Qm.D}:H p=some (.tup xs)→RA K ρ N H ds xs→RD K ρ N H (.tup ds) (.ref p)
 |ref {n:Nat}:n<N→RD K ρ N H (.ref n) (.ref (ρ n))
 |adr (a:Nat):RD K ρ N H (.adr a) (.ref a)
 |cU {a:Addr}{t:Qm.aS}{ds:List Qm.D}{vs:List V}:nF H a t vs→RA K ρ N H ds vs→RD K ρ N H (.cU t ds) (.ref a)
inductive RA(K:PySem.W.Frag)(ρ:Nat→Addr)(N:Nat)(H:Hp):List Qm.D→List V→Prop
 |nil:RA K ρ N H [] []
 |cons {d:Qm.D}{ds:List Qm.D}{x:V}{xs:List V}:RD K ρ N H d x→RA K ρ N H ds xs→RA K ρ N H (d::ds) (x::xs)
end
structure Up(K:PySem.W.Frag)(ρ:Nat→Addr)(N:Nat)(H:Hp)(aM:Nat→Addr)(N':Nat)(H':Hp):Prop where
 agree:∀n,n<N→aM n=ρ n
 len:N≤N'
 ts:∀p xs,H p=some (.tup xs)→H' p=some (.tup xs)
 fz:∀p o x,H p=some (.eG o x)→H' p=some (.eG o x)
section
variable{K:PySem.W.Frag}{ρ aM wN:Nat→Addr}{N N' Nw:Nat}{H H' C5:Hp}
theorem Up.refl:Up K ρ N H ρ N H:=⟨fun _ _=>rfl,Nat.le_refl _,fun _ _ h=>h,fun _ _ _ h=>h⟩
theorem Up.trans(a:Up K ρ N H aM N' H')(b:Up K aM N' H' wN Nw C5):Up K ρ N H wN Nw C5:=
 ⟨fun n h=>(b.agree n (Nat.lt_of_lt_of_le h a.len)).trans (a.agree n h),Nat.le_trans a.len b.len,fun p xs h=>b.ts p xs (a.ts p xs h),fun p o x h=>b.fz p o x (a.fz p o x h)⟩
mutual
theorem RD.up(u:Up K ρ N H aM N' H'):∀{d:Qm.D}{v:V},RD K ρ N H d v→RD K aM N' H' d v
 |_,_,.bL=>.bL
 |_,_,.bl b=>.bl b
 |_,_,.int i=>.int i
 |_,_,.str x=>.str x
 |_,_,.ty n=>.ty n
 |_,_,.adr a=>.adr a
 |_,_,.cU h a=>.cU (h.up u.fz) (RA.up u a)
 |_,_,.tup h a=>.tup (u.ts _ _ h) (RA.up u a)
 |_,_,.ref (n:=n) h=>by rw[←u.agree n h];exact .ref (Nat.lt_of_lt_of_le h u.len)
theorem RA.up(u:Up K ρ N H aM N' H'):∀{ds:List Qm.D}{vs:List V},RA K ρ N H ds vs→RA K aM N' H' ds vs
 |_,_,.nil=>.nil
 |_,_,.cons h a=>.cons (RD.up u h) (RA.up u a)
end
theorem RA.length:∀{ds:List Qm.D}{vs:List V},RA K ρ N H ds vs→ds.length=vs.length
 |_,_,.nil=>rfl
 |_,_,.cons _ a=>congrArg (·+1) (RA.length a)
theorem RA.append:∀{ds es:List Qm.D}{vs us:List V},RA K ρ N H ds vs→RA K ρ N H es us→RA K ρ N H (ds++es) (vs++us)
 |_,_,_,_,.nil,b=>b
 |_,_,_,_,.cons h a,b=>.cons h (RA.append a b)
theorem RA.get:∀{ds:List Qm.D}{vs:List V}{i:Nat}{d:Qm.D},RA K ρ N H ds vs→ds[i]? =some d→∃v,vs[i]? =some v∧RD K ρ N H d v
 |_,_,_,_,.nil,e=>by simp at e
 |_,_,0,_,.cons h _,e=>by simp at e;subst e;exact⟨_,rfl,h⟩
 |_,_,i+1,d,.cons _ a,e=>by
  obtain⟨v,h1,h2⟩:=RA.get (i:=i) (d:=d) a (by simpa using e)
  exact⟨v,by simpa using h1,h2⟩
theorem RA.take:∀{ds:List Qm.D}{vs:List V} (n:Nat),RA K ρ N H ds vs→RA K ρ N H (ds.take n) (vs.take n)
 |_,_,0,_=>.nil
 |_,_,_+1,.nil=>.nil
 |_,_,n+1,.cons h a=>.cons h (RA.take n a)
theorem RA.drop:∀{ds:List Qm.D}{vs:List V} (n:Nat),RA K ρ N H ds vs→RA K ρ N H (ds.drop n) (vs.drop n)
 |_,_,0,a=>a
 |_,_,_+1,.nil=>.nil
 |_,_,n+1,.cons _ a=>RA.drop n a
theorem RA.set{d:Qm.D}{v:V}(r:RD K ρ N H d v):∀{ds:List Qm.D}{vs:List V} (n:Nat),RA K ρ N H ds vs→RA K ρ N H (ds.set n d) (vs.set n v)
 |_,_,_,.nil=>.nil
 |_,_,0,.cons _ a=>.cons r a
 |_,_,n+1,.cons h a=>.cons h (RA.set r n a)
theorem RA.one{d:Qm.D}{v:V}(h:RD K ρ N H d v):RA K ρ N H [d] [v]:=.cons h .nil
theorem RA.iX{d:Qm.D}{vs:List V}(h:RA K ρ N H [d] vs):∃v,vs=[v]∧RD K ρ N H d v:=by
 cases h with
 |cons r t=>cases t;exact⟨_,rfl,r⟩
theorem RA.t8{d e:Qm.D}{vs:List V}(h:RA K ρ N H [d,e] vs):∃v u,vs=[v,u]∧RD K ρ N H d v∧RD K ρ N H e u:=by
 cases h with
 |cons r t=>obtain⟨u,rfl,q⟩:=RA.iX t;exact⟨_,_,rfl,r,q⟩
theorem RA.Iz{vs:List V}(h:RA K ρ N H [] vs):vs=[]:=by cases h;rfl
theorem RD.dF{i:Int}{v:V}(h:RD K ρ N H (.int i) v):v= .int i:=by cases h;rfl
theorem RD.qa{b:Bool}{v:V}(h:RD K ρ N H (.bl b) v):v= .bl b:=by cases h;rfl
theorem RD.Ny{v:V}(h:RD K ρ N H .bL v):v= .bL:=by cases h;rfl
theorem RD.nJ{ds:List Qm.D}{v:V}(h:RD K ρ N H (.tup ds) v):∃p xs,v= .ref p∧H p=some (.tup xs)∧RA K ρ N H ds xs:=by cases h with|tup a b=>exact⟨_,_,rfl,a,b⟩
theorem RD.t9{n:Nat}{v:V}(h:RD K ρ N H (.ref n) v):v= .ref (ρ n)∧n<N:=by cases h with|ref h=>exact⟨rfl,h⟩
end
def zX(K:PySem.W.Frag)(H:Hp)(a:Addr)(xs:List V):Prop:=(∃o,H a=some (.eG o (.lst xs)))∨cD K (fun _=>none) a xs
theorem zX.seq{K:PySem.W.Frag}{H:Hp}{a:Addr}{xs:List V}(h:zX K H a xs):cD K H a xs:=by
 rcases h with⟨o,h⟩|h
 ·exact .inl (.inr ⟨o,h⟩)
 ·rcases h with(h|⟨o,h⟩)|h
  ·cases h
  ·cases h
  ·exact .inr h
inductive RK(K:PySem.W.Frag)(ρ:Nat→Addr)(N:Nat)(H:Hp):List (Str×Qm.D)→List (Key×V)→Prop
 |nil:RK K ρ N H [] []
 |cons {k:Str}{d:Qm.D}{ds:List (Str×Qm.D)}{x:V}{xs:List (Key×V)}:RD K ρ N H d x→RK K ρ N H ds xs→RK K ρ N H ((k,d)::ds) ((.inr k,x)::xs)
theorem RK.up{K:PySem.W.Frag}{ρ aM:Nat→Addr}{N N':Nat}{H H':Hp}(u:Up K ρ N H aM N' H'):∀{ds:List (Str×Qm.D)}{vs:List (Key×V)},RK K ρ N H ds vs→RK K aM N' H' ds vs
 |_,_,.nil=>.nil
 |_,_,.cons h a=>.cons (h.up u) (RK.up u a)
inductive nK(K:PySem.W.Frag)(ρ:Nat→Addr)(N:Nat)(H:Hp):List (List Int×Qm.D)→List (List Key×V)→Prop
 |nil:nK K ρ N H [] []
 |cons {k:List Int}{d:Qm.D}{ds:List (List Int×Qm.D)}{x:V}{xs:List (List Key×V)}:RD K ρ N H d x→nK K ρ N H ds xs→nK K ρ N H ((k,d)::ds) ((k.map Sum.inl,x)::xs)
inductive mZ(K:PySem.W.Frag)(ρ:Nat→Addr)(N:Nat)(H:Hp):List (List (List Int)×Qm.D)→List (List (List Key)×V)→Prop
 |nil:mZ K ρ N H [] []
 |cons {k:List (List Int)}{d:Qm.D}{ds:List (List (List Int)×Qm.D)}{x:V}{xs:List (List (List Key)×V)}:RD K ρ N H d x→mZ K ρ N H ds xs→mZ K ρ N H ((k,d)::ds) ((k.map (List.map Sum.inl),x)::xs)
theorem nK.up{K:PySem.W.Frag}{ρ aM:Nat→Addr}{N N':Nat}{H H':Hp}(u:Up K ρ N H aM N' H'):∀{ds:List (List Int×Qm.D)}{vs:List (List Key×V)},nK K ρ N H ds vs→nK K aM N' H' ds vs
 |_,_,.nil=>.nil
 |_,_,.cons h a=>.cons (h.up u) (nK.up u a)
theorem mZ.up{K:PySem.W.Frag}{ρ aM:Nat→Addr}{N N':Nat}{H H':Hp}(u:Up K ρ N H aM N' H'):∀{ds:List (List (List Int)×Qm.D)}{vs:List (List (List Key)×V)},mZ K ρ N H ds vs→mZ K aM N' H' ds vs
 |_,_,.nil=>.nil
 |_,_,.cons h a=>.cons (h.up u) (mZ.up u a)
def CO(K:PySem.W.Frag)(ρ:Nat→Addr)(N:Nat)(H:Hp)(a:Addr):Qm.Cell→Prop
 |.lst ds=>∃vs,H a=some (.lst vs)∧RA K ρ N H ds vs
 |.ro ds=>∃vs,zX K H a vs∧RA K ρ N H ds vs
 |.yy ds=>∃vs,H a=some (.dK vs)∧RK K ρ N H ds vs
 |.yz ds=>∃o vs,H a=some (.eG o (.dK vs))∧RK K ρ N H ds vs
 |.Bc ds=>∃vs,H a=some (.dT vs)∧nK K ρ N H ds vs
 |.Be ds=>∃vs,H a=some (.dU vs)∧mZ K ρ N H ds vs
 |.rq ds=>∃o vs,H a=some (.eG o (.dU vs))∧mZ K ρ N H ds vs
 |.exc C S ds=>∃vs,zV K H a C S vs∧RK K ρ N H ds vs
 |.tab cd q=>nG K H cd q a
structure RS(K:PySem.W.Frag)(ρ:Nat→Addr)(c:Qm.Cells)(H:Hp):Prop where
 inj:∀(i j:Nat) (z y:Qm.Cell),c[i]? =some z→c[j]? =some y→z.mt=true→y.mt=true→ρ i=ρ j→i=j
 ok:∀(n:Nat) (z:Qm.Cell),c[n]? =some z→CO K ρ c.length H (ρ n) z
structure RE(K:PySem.W.Frag)(ρ:Nat→Addr)(N:Nat)(H:Hp)(env:Qm.Env)(σ:St):Prop where
 len:env.length=σ.length
 at_:∀(i:Nat) (d:Qm.D),env[i]? =some (some d)→∃v:V,σ[i]? =some (some v)∧RD K ρ N H d v
structure Nx(K:PySem.W.Frag)(ρ:Nat→Addr)(c:Qm.Cells)(H:Hp)(aM:Nat→Addr)(c':Qm.Cells)(H':Hp):Prop where
 up:Up K ρ c.length H aM c'.length H'
 rs:RS K aM c' H'
section
variable{K:PySem.W.Frag}{ρ aM wN:Nat→Addr}{N N':Nat}{c c' yC:Qm.Cells}{H H' C5:Hp}{env:Qm.Env}{σ:St}
theorem RE.up(h:RE K ρ N H env σ)(u:Up K ρ N H aM N' H'):RE K aM N' H' env σ:=⟨h.len,fun i d e=>let ⟨v,h1,h2⟩:=h.at_ i d e;⟨v,h1,h2.up u⟩⟩
theorem Nx.refl(r:RS K ρ c H):Nx K ρ c H ρ c H:=⟨Up.refl,r⟩
theorem Nx.trans(a:Nx K ρ c H aM c' H')(b:Nx K aM c' H' wN yC C5):Nx K ρ c H wN yC C5:=⟨a.up.trans b.up,b.rs⟩
theorem CO.up{a:Addr}{z:Qm.Cell}(h:CO K ρ N H a z)(u:Up K ρ N H aM N' H')(hs:∀o,H a=some o→H' a=some o):CO K aM N' H' a z:=by
 cases z with
 |lst ds=>obtain⟨vs,h1,h2⟩:=h;exact⟨vs,hs _ h1,h2.up u⟩
 |ro ds=>
  obtain⟨vs,h1,h2⟩:=h
  refine⟨vs,?_,h2.up u⟩
  rcases h1 with⟨o,h1⟩|h1
  ·exact .inl ⟨o,hs _ h1⟩
  ·exact .inr h1
 |yy ds=>obtain⟨vs,h1,h2⟩:=h;exact⟨vs,hs _ h1,h2.up u⟩
 |yz ds=>obtain⟨o,vs,h1,h2⟩:=h;exact⟨o,vs,hs _ h1,h2.up u⟩
 |Bc ds=>obtain⟨vs,h1,h2⟩:=h;exact⟨vs,hs _ h1,h2.up u⟩
 |Be ds=>obtain⟨vs,h1,h2⟩:=h;exact⟨vs,hs _ h1,h2.up u⟩
 |rq ds=>obtain⟨o,vs,h1,h2⟩:=h;exact⟨o,vs,hs _ h1,h2.up u⟩
 |exc C S ds=>obtain⟨vs,h1,h2⟩:=h;exact⟨vs,h1.up u.fz,h2.up u⟩
 |tab cd q=>exact nG.up h u.fz hs
theorem CO.obj{a:Addr}{z:Qm.Cell}(h:CO K ρ N H a z)(m:z.mt=true):∃o,H a=some o∧(∀xs,o≠.tup xs)∧∀q x,o≠.eG q x:=by
 cases z with
 |lst ds=>obtain⟨vs,h1,_⟩:=h;exact⟨_,h1,(fun _ z=>by cases z),(fun _ _ z=>by cases z)⟩
 |ro ds=>cases m
 |yz ds=>cases m
 |yy ds=>obtain⟨vs,h1,_⟩:=h;exact⟨_,h1,(fun _ z=>by cases z),(fun _ _ z=>by cases z)⟩
 |Bc ds=>obtain⟨vs,h1,_⟩:=h;exact⟨_,h1,(fun _ z=>by cases z),(fun _ _ z=>by cases z)⟩
 |Be ds=>obtain⟨vs,h1,_⟩:=h;exact⟨_,h1,(fun _ z=>by cases z),(fun _ _ z=>by cases z)⟩
 |rq ds=>cases m
 |exc C S ds=>cases m
 |tab cd q=>obtain⟨ps,h1,_⟩:=nG.ex h;exact⟨_,h1,(fun _ z=>by cases z),(fun _ _ z=>by cases z)⟩
theorem RE.set{d:Qm.D}{v:V}{i:Nat}(h:RE K ρ N H env σ)(r:RD K ρ N H d v):RE K ρ N H (env.set i (some d)) (σ.set i (some v)):=by
 refine⟨by rw[List.length_set,List.length_set];exact h.len,fun j e he=>?_⟩
 rw[List.getElem?_set]at he ⊢
 have hl:=h.len
 by_cases cX:i=j
 ·rw[if_pos cX]at he ⊢
  subst cX
  split at he
  ·rename_i du
   rw[if_pos (by omega)]
   cases he
   exact⟨v,rfl,r⟩
  ·cases he
 ·rw[if_neg cX]at he ⊢
  exact h.at_ j e he
theorem Nx.same(r:RS K ρ c H)(e:dZ H H'):Nx K ρ c H ρ c H':=by
 have u:Up K ρ c.length H ρ c.length H':=⟨fun _ _=>rfl,Nat.le_refl _,fun p xs h=>e _ _ h,fun p o x h=>e _ _ h⟩
 exact⟨u,r.inj,fun n z hz=>(r.ok n z hz).up u (fun o h=>e _ _ h)⟩
theorem Nx.Gd(r:RS K ρ c H){l:Addr}(hl:H l=none){z:Qm.Cell}{o:HO}(hz:∀aM N' H',Up K ρ c.length H aM N' H'→H' l=some o→CO K aM N' H' l z):Nx K ρ c H (fun n=>if n=c.length then l else ρ n) (c++[z]) (upd H l o)∧RD K (fun n=>if n=c.length then l else ρ n) (c++[z]).length (upd H l o) (.ref c.length) (.ref l):=by
 have hlen:(c++[z]).length=c.length+1:=by simp
 have u:Up K ρ c.length H (fun n=>if n=c.length then l else ρ n) (c++[z]).length (upd H l o):=by
  refine⟨fun n h=>if_neg (by omega),by omega,fun p xs h=>gs h hl,fun p o x h=>gs h hl⟩
 refine⟨⟨u,fun i j x y h1 h2 m1 m2 e=>?_,fun n z' kD=>?_⟩,?_⟩
 ·have cZ:i<c.length+1:=by rw[←hlen];exact(List.getElem?_eq_some_iff.mp h1).1
  have cN:j<c.length+1:=by rw[←hlen];exact(List.getElem?_eq_some_iff.mp h2).1
  have fresh:∀k y,k<c.length→(c++[z])[k]? =some y→y.mt=true→ρ k≠l:=fun k y hk hz m e'=>by
   rw[List.getElem?_append_left hk]at hz
   obtain⟨o',h',_⟩:=(r.ok k _ hz).obj m
   rw[e',hl]at h';cases h'
  by_cases hi:i=c.length<;>by_cases hj:j=c.length
  ·omega
  ·exfalso
   simp only[hi,if_true,if_neg hj]at e
   exact fresh j y (by omega) h2 m2 e.symm
  ·exfalso
   simp only[hj,if_true,if_neg hi]at e
   exact fresh i x (by omega) h1 m1 e
  ·simp only[if_neg hi,if_neg hj]at e
   rw[List.getElem?_append_left (by omega)]at h1 h2
   exact r.inj i j x y h1 h2 m1 m2 e
 ·have lt:n<c.length+1:=by rw[←hlen];exact(List.getElem?_eq_some_iff.mp kD).1
  by_cases hn:n=c.length
  ·subst hn
   have:z'=z:=by simpa using kD.symm
   subst this
   simp only[if_true]
   exact hz _ _ _ u bQ
  ·simp only[if_neg hn]
   rw[List.getElem?_append_left (by omega)]at kD
   exact(r.ok n z' kD).up u (fun o h=>gs h hl)
 ·have:=RD.ref (K:=K) (ρ:=fun n=>if n=c.length then l else ρ n) (N:=(c++[z]).length) (H:=upd H l o) (n:=c.length) (by omega)
  simpa using this
theorem Nx.alloc(r:RS K ρ c H){l:Addr}(hl:H l=none){ds:List Qm.D}{vs:List V}(a:RA K ρ c.length H ds vs):Nx K ρ c H (fun n=>if n=c.length then l else ρ n) (c++[.lst ds]) (upd H l (.lst vs))∧RD K (fun n=>if n=c.length then l else ρ n) (c++[Qm.Cell.lst ds]).length (upd H l (.lst vs)) (.ref c.length) (.ref l):=
 Nx.Gd r hl fun _ _ _ u h=>⟨vs,h,a.up u⟩
theorem Nx.Nz(r:RS K ρ c H){n:Nat}{y z:Qm.Cell}(hn:c[n]? =some y)(my:y.mt=true){o:HO}(hz:∀N' H',Up K ρ c.length H ρ N' H'→H' (ρ n)=some o→CO K ρ N' H' (ρ n) z):Nx K ρ c H ρ (c.set n z) (upd H (ρ n) o):=by
 obtain⟨w,hw,hk⟩:=(r.ok n _ hn).obj my
 have du:n<c.length:=(List.getElem?_eq_some_iff.mp hn).1
 have C6:∀{p:Addr}{q:HO},H p=some q→((∃ys,q= .tup ys)∨∃o x,q= .eG o x)→p≠ρ n:=fun {p q} h h1 e=>by
  rw[e,hw]at h;cases h
  rcases h1 with⟨_,rfl⟩|⟨_,_,rfl⟩
  ·exact hk.1 _ rfl
  ·exact hk.2 _ _ rfl
 have u:Up K ρ c.length H ρ (c.set n z).length (upd H (ρ n) o):=by
  refine⟨fun _ _=>rfl,by rw[List.length_set];exact Nat.le_refl _,fun p ys h=>?_,fun p q x h=>?_⟩
  ·rw[aG (C6 h (.inl ⟨_,rfl⟩))];exact h
  ·rw[aG (C6 h (.inr ⟨_,_,rfl⟩))];exact h
 have look:∀{j:Nat}{x:Qm.Cell},j≠n→(c.set n z)[j]? =some x→c[j]? =some x:=fun {j x} hj hx=>by
  rw[List.getElem?_set,if_neg (fun e=>hj e.symm)]at hx;exact hx
 have back:∀{j:Nat}{x:Qm.Cell},(c.set n z)[j]? =some x→x.mt=true→∃x',c[j]? =some x'∧x'.mt=true:=fun {j x} hx m=>by
  by_cases hj:j=n
  ·subst hj;exact⟨y,hn,my⟩
  ·exact⟨x,look hj hx,m⟩
 refine⟨u,fun i j p q h1 h2 m1 m2 e=>?_,fun j x hx=>?_⟩
 ·obtain⟨_,g1,w1⟩:=back h1 m1
  obtain⟨_,g2,w2⟩:=back h2 m2
  exact r.inj i j _ _ g1 g2 w1 w2 e
 ·by_cases hj:j=n
  ·subst hj
   have:x=z:=by
    rw[List.getElem?_set,if_pos rfl,if_pos du]at hx;cases hx;rfl
   subst this
   exact hz _ _ u bQ
  ·have cB:=look hj hx
   by_cases hm:x.mt=true
   ·have hp:ρ j≠ρ n:=fun e=>hj (r.inj j n _ _ cB hn hm my e)
    exact(r.ok j _ cB).up u (fun ys h=>by rw[aG hp];exact h)
   ·cases x with
    |lst zs=>exact absurd rfl hm
    |yy zs=>exact absurd rfl hm
    |Bc zs=>exact absurd rfl hm
    |Be zs=>exact absurd rfl hm
    |tab cd q=>exact absurd rfl hm
    |yz zs=>
     obtain⟨o',yD,h1,h2⟩:=r.ok j _ cB
     exact⟨o',yD,by rw[aG (C6 h1 (.inr ⟨_,_,rfl⟩))];exact h1,h2.up u⟩
    |rq zs=>
     obtain⟨o',yD,h1,h2⟩:=r.ok j _ cB
     exact⟨o',yD,by rw[aG (C6 h1 (.inr ⟨_,_,rfl⟩))];exact h1,h2.up u⟩
    |exc C S zs=>
     obtain⟨yD,h1,h2⟩:=r.ok j _ cB
     exact⟨yD,h1.up u.fz,h2.up u⟩
    |ro zs=>
     obtain⟨yD,h1,h2⟩:=r.ok j _ cB
     refine⟨yD,?_,h2.up u⟩
     rcases h1 with⟨o,h1⟩|h1
     ·exact .inl ⟨o,by rw[aG (C6 h1 (.inr ⟨_,_,rfl⟩))];exact h1⟩
     ·exact .inr h1
theorem Nx.put(r:RS K ρ c H){n:Nat}{xs:List Qm.D}(hn:c[n]? =some (.lst xs)){ds:List Qm.D}{vs:List V}(a:RA K ρ c.length H ds vs):Nx K ρ c H ρ (c.set n (.lst ds)) (upd H (ρ n) (.lst vs)):=
 Nx.Nz r hn rfl fun _ _ u h=>⟨vs,h,a.up u⟩
theorem RS.lst(r:RS K ρ c H){n:Nat}{ds:List Qm.D}(h:c[n]? =some (.lst ds)):∃vs,H (ρ n)=some (.lst vs)∧RA K ρ c.length H ds vs:=r.ok n _ h
theorem RS.seq(r:RS K ρ c H){d:Qm.D}{ds:List Qm.D}{v:V}(h:RD K ρ c.length H d v)(e:Qm.bS d c=some ds):∃p vs,v= .ref p∧(cD K H p vs∨H p=some (.tup vs))∧RA K ρ c.length H ds vs:=by
 unfold Qm.bS at e
 split at e
 ·cases e
  obtain⟨p,xs,rfl,h1,h2⟩:=h.nJ
  exact⟨p,xs,rfl,.inr h1,h2⟩
 ·rename_i n
  obtain⟨rfl,hn⟩:=h.t9
  split at e
  ·rename_i xs hx
   cases e
   obtain⟨vs,h1,h2⟩:=r.lst hx
   exact⟨_,vs,rfl,.inl (cD.of h1),h2⟩
  ·rename_i xs hx
   cases e
   obtain⟨vs,h1,h2⟩:=r.ok n _ hx
   exact⟨_,vs,rfl,.inl h1.seq,h2⟩
  ·cases e
 ·cases e
theorem uT{d:Qm.D}{c:Qm.Cells}{ds:List Qm.D}(e:Qm.bS d c=some ds):d= .tup ds∨∃n,d= .ref n:=by
 unfold Qm.bS at e
 split at e
 ·cases e;exact .inl rfl
 ·exact .inr ⟨_,rfl⟩
 ·cases e
theorem RS.C7(r:RS K ρ c H){n:Nat}{ds:List Qm.D}{v:V}(h:RD K ρ c.length H (.ref n) v)(e:Qm.bS (.ref n) c=some ds):∃vs,v= .ref (ρ n)∧cD K H (ρ n) vs∧RA K ρ c.length H ds vs:=by
 obtain⟨rfl,hn⟩:=h.t9
 unfold Qm.bS at e
 dsimp only at e
 split at e
 ·rename_i xs hx
  cases e
  obtain⟨vs,h1,h2⟩:=r.lst hx
  exact⟨vs,rfl,cD.of h1,h2⟩
 ·rename_i xs hx
  cases e
  obtain⟨vs,h1,h2⟩:=r.ok n _ hx
  exact⟨vs,rfl,h1.seq,h2⟩
 ·cases e
theorem RS.bq(r:RS K ρ c H){d:Qm.D}{n:Nat}{ds:List Qm.D}{v:V}(h:RD K ρ c.length H d v)(e:Qm.bq d c=some (n,ds)):d= .ref n∧c[n]? =some (.lst ds)∧∃vs,v= .ref (ρ n)∧H (ρ n)=some (.lst vs)∧RA K ρ c.length H ds vs:=by
 unfold Qm.bq at e
 split at e
 ·obtain⟨rfl,hn⟩:=h.t9
  split at e
  ·rename_i xs hx
   cases e
   obtain⟨vs,h1,h2⟩:=r.lst hx
   exact⟨rfl,hx,vs,rfl,h1,h2⟩
  ·cases e
 ·cases e
end
def TQ(K:PySem.W.Frag)(f:Qm.XE):TE:=fun σ H Q=>∃ρ env c d c',RS K ρ c H∧RE K ρ c.length H env σ∧f env c=some (d,c')∧∀aM v H',Nx K ρ c H aM c' H'→RD K aM c'.length H' d v→Q v H'
def AQ(K:PySem.W.Frag)(f:Qm.XA):TA:=fun σ H Q=>∃ρ env c ds c',RS K ρ c H∧RE K ρ c.length H env σ∧f env c=some (ds,c')∧∀aM vs H',Nx K ρ c H aM c' H'→RA K aM c'.length H' ds vs→Q vs H'
def BQ(K:PySem.W.Frag)(f:Qm.XT):TT:=fun σ H Q=>∃ρ env c b c',RS K ρ c H∧RE K ρ c.length H env σ∧f env c=some (b,c')∧∀aM H',Nx K ρ c H aM c' H'→Q b H'
def OQ(K:PySem.W.Frag)(f:Qm.XO):TO:=fun σ H Q=>∃ρ env c o c',RS K ρ c H∧RE K ρ c.length H env σ∧f env c=some (o,c')∧∀aM H',Nx K ρ c H aM c' H'→Q o H'
def NA(K:PySem.W.Frag)(ρ:Nat→Addr)(c:Qm.Cells)(H:Hp)(env:Qm.Env)(D:Ends):Qm.Fl→Prop
 |.nx=>∀σ,RE K ρ c.length H env σ→D.nx σ H
 |.bk=>∀σ,RE K ρ c.length H env σ→D.bk σ H
 |.ct=>∀σ,RE K ρ c.length H env σ→D.ct σ H
 |.rt d=>∀v,RD K ρ c.length H d v→D.rt v H
def SQ(K:PySem.W.Frag)(f:Qm.XS):TS:=fun D σ H=>∃ρ env c fl bO c',RS K ρ c H∧RE K ρ c.length H env σ∧f env c=some (fl,bO,c')∧∀aM H',Nx K ρ c H aM c' H'→NA K aM c' H' bO D fl
def GQ(K:PySem.W.Frag)(g:Qm.XG):TG:=fun v σ H Q=>∃ρ env c d bO c',RS K ρ c H∧RE K ρ c.length H env σ∧RD K ρ c.length H d v∧g d env c=some (bO,c')∧∀aM H' σ',Nx K ρ c H aM c' H'→RE K aM c'.length H' bO σ'→Q σ' H'
def RY(K:PySem.W.Frag)(g:Qm.tH):uE:=fun vs σ H Q=>∃ρ env c ds bO c',RS K ρ c H∧RE K ρ c.length H env σ∧RA K ρ c.length H ds vs∧g ds env c=some (bO,c')∧∀aM H' σ',Nx K ρ c H aM c' H'→RE K aM c'.length H' bO σ'→Q σ' H'
def C8(K:PySem.W.Frag)(yE:Nat→Addr)(N0:Nat)(H0:Hp)(m:Qm.Itm)(J:It):Prop:=∀ρ c H,Up K yE N0 H0 ρ c.length H→RS K ρ c H→Qm.stays m.ks c→
 (∀i,i<m.ds.length→J.go i H)∧J.stop m.ds.length H∧∀i d x H',m.ds[i]? =some d→J.Cn i H x H'→Nx K ρ c H ρ c H'∧RD K ρ c.length H' d x
def IQ(K:PySem.W.Frag)(f:Qm.XI):TI:=fun σ H R=>∃ρ env c m c',RS K ρ c H∧RE K ρ c.length H env σ∧f env c=some (m,c')∧∀aM J H',Nx K ρ c H aM c' H'→C8 K aM c'.length H' m J→R J H'
abbrev QE(X:Cx)(e:Expr)(f:Qm.XE):Prop:=PE X e (TQ X.K f)
abbrev QA(X:Cx)(es:List Expr)(f:Qm.XA):Prop:=PA X es (AQ X.K f)
abbrev QT(X:Cx)(e:Expr)(f:Qm.XT):Prop:=PT X e (BQ X.K f)
abbrev QW(X:Cx)(e:Expr)(f:Qm.XT):Prop:=PW X e (BQ X.K f)
abbrev QO(X:Cx)(e:Option Expr)(f:Qm.XO):Prop:=PO X e (OQ X.K f)
abbrev QS(X:Cx)(e:Stmt)(f:Qm.XS):Prop:=PS X e (SQ X.K f)
abbrev qb(X:Cx)(e:List Stmt)(f:Qm.XS):Prop:=kl X e (SQ X.K f)
abbrev QG(X:Cx)(e:Expr)(f:Qm.XG):Prop:=PG X e (GQ X.K f)
abbrev Ge(X:Cx)(e:List Expr)(f:Qm.tH):Prop:=v_ X e (RY X.K f)
abbrev QI(X:Cx)(tg e:Expr)(f:Qm.XI):Prop:=PI X tg e (IQ X.K f)
abbrev C9(X:Cx)(e:List Expr)(f:Qm.XT):Prop:=pK X e (BQ X.K f)
section
variable{X:Cx}
theorem PE.imp{e:Expr}{t t':TE}(h:PE X e t)(k:∀σ H Q,t' σ H Q→t σ H Q):PE X e t':=fun pins s σ H Q I q=>h pins s σ H Q I (k σ H Q q)
theorem PT.imp{e:Expr}{t t':TT}(h:PT X e t)(k:∀σ H Q,t' σ H Q→t σ H Q):PT X e t':=fun pins s σ H Q I q=>h pins s σ H Q I (k σ H Q q)
theorem PW.imp{e:Expr}{t t':TT}(h:PW X e t)(k:∀σ H Q,t' σ H Q→t σ H Q):PW X e t':=fun wh pins s σ H Q I q=>h wh pins s σ H Q I (k σ H Q q)
theorem PA.imp{e:List Expr}{t t':TA}(h:PA X e t)(k:∀σ H Q,t' σ H Q→t σ H Q):PA X e t':=fun pos pins s σ H Q I q=>h pos pins s σ H Q I (k σ H Q q)
theorem PS.imp{e:Stmt}{t t':TS}(h:PS X e t)(k:∀D σ H,t' D σ H→t D σ H):PS X e t':=fun pins s σ H D I q=>h pins s σ H D I (k D σ H q)
theorem kl.imp{e:List Stmt}{t t':TS}(h:kl X e t)(k:∀D σ H,t' D σ H→t D σ H):kl X e t':=fun pins s σ H D I q=>h pins s σ H D I (k D σ H q)
theorem PO.imp{e:Option Expr}{t t':TO}(h:PO X e t)(k:∀σ H Q,t' σ H Q→t σ H Q):PO X e t':=fun pins s σ H Q I q=>h pins s σ H Q I (k σ H Q q)
theorem PG.imp{e:Expr}{t t':TG}(h:PG X e t)(k:∀v σ H Q,t' v σ H Q→t v σ H Q):PG X e t':=fun pins s σ H x v Q I r q=>h pins s σ H x v Q I r (k x σ H Q q)
theorem v_.imp{e:List Expr}{t t':uE}(h:v_ X e t)(k:∀v σ H Q,t' v σ H Q→t v σ H Q):v_ X e t':=fun pins s σ H x v Q I r q=>h pins s σ H x v Q I r (k x σ H Q q)
theorem PI.imp{tg e:Expr}{t t':TI}(h:PI X tg e t)(k:∀σ H Q,t' σ H Q→t σ H Q):PI X tg e t':=fun pins s σ H R I q=>h pins s σ H R I (k σ H R q)
theorem pK.imp{e:List Expr}{t t':TT}(h:pK X e t)(k:∀σ H Q,t' σ H Q→t σ H Q):pK X e t':=fun pins s σ H Q I q=>h pins s σ H Q I (k σ H Q q)
end
end L2
namespace L2
open PySem PySem.Spec PyProof.Rows
section
variable{X:Cx}{a b e:Expr}{es:List Expr}{fa fb fc fe:Qm.XE}{ft fu:Qm.XT}{pos:Pos}
theorem ag(i:Nat)(h:PE X e (Cc i)):QE X e (Qm.eV i):=h.imp <| by
 rintro σ H Q ⟨ρ,env,c,d,c',rs,re,e,k⟩
 unfold Qm.eV at e
 obtain⟨d',e1,e2⟩:=aE e
 cases e2
 have e3:env[i]? =some (some d):=by
  cases h:env[i]? with
  |none=>rw[h]at e1;cases e1
  |some o=>rw[h]at e1;rw[show o=some d from e1]
 obtain⟨v,h1,h2⟩:=re.at_ i d e3
 exact⟨v,h1,k ρ v H (Nx.refl rs) h2⟩
theorem pM{v:V}(d:Qm.D)(h:PE X e (tC v))(r:∀ρ N H,RD X.K ρ N H d v):QE X e (Qm.eC d):=h.imp <| by
 rintro σ H Q ⟨ρ,env,c,d',c',rs,re,e,k⟩
 unfold Qm.eC at e
 cases e
 exact k ρ v H (Nx.refl rs) (r _ _ _)
theorem ai{i:Int}{j pos}:QE X (.Constant (.int i) j pos) (Qm.eC (.int i)):=pM _ E6 fun _ _ _=>.int i
theorem f_{i:Bool}{j pos}:QE X (.Constant (.bool i) j pos) (Qm.eC (.bl i)):=pM _ Jd fun _ _ _=>.bl i
def je(K:PySem.W.Frag)(r:R2)(g:Qm.G2):Prop:=∀ρ c H x y d c' v u Q,RS K ρ c H→RD K ρ c.length H x v→RD K ρ c.length H y u→g x y c=some (d,c')→(∀aM w H',Nx K ρ c H aM c' H'→RD K aM c'.length H' d w→Q w H')→r v u H Q
theorem uU{K:PySem.W.Frag}{r:R2}{g:Qm.G2}(hl:je K r g){σ:St}{H:Hp}{Q:VK}(h:TQ K (Qm.e2 g fa fb) σ H Q):Cr r (TQ K fa) (TQ K fb) σ H Q:=by
 obtain⟨ρ,env,c,d,c',rs,re,e,k⟩:=h
 obtain⟨p,e1,e⟩:=aE e
 obtain⟨q,e2,e3⟩:=aE e
 exact⟨ρ,env,c,p.1,p.2,rs,re,e1,fun aF v H1 n1 r1=>⟨aF,env,p.2,q.1,q.2,n1.rs,re.up n1.up,e2,fun jR u H2 n2 r2=>
  hl jR q.2 H2 p.1 q.1 d c' v u Q n2.rs (r1.up n2.up) r2 e3 fun aM w H' n3 r3=>k aM w H' (n1.trans (n2.trans n3)) r3⟩⟩
theorem ay{op:Operator}{r:R2}{g:Qm.G2}(ho:eR X (binaryOp op) r)(hl:je X.K r g)(ha:QE X a fa)(hb:QE X b fb):QE X (.BinOp a op b pos) (Qm.e2 g fa fb):=(Jq ho ha hb).imp fun _ _ _ h=>uU hl h
theorem dc{op:CmpOp}{r:R2}{g:Qm.G2}(ho:eR X (compareOp op) r)(hl:je X.K r g)(ha:QE X a fa)(hb:QE X b fb)(hm:behindInMarks op b=false):QE X (.Compare a [op] [b] pos) (Qm.e2 g fa fb):=(Ct ho ha hb hm).imp fun _ _ _ h=>uU hl h
theorem J_{r:R2}{g:Qm.G2}(hr:tu X r)(hl:je X.K r g)(ha:QE X a fa)(hb:QE X b fb)(hs:qT b):QE X (.Subscript a b pos) (Qm.e2 g fa fb):=(JB hr ha hb hs).imp fun _ _ _ h=>uU hl h
theorem hG{d:Qm.D}{i:Int}(h:Qm.oJ d=some i):d= .int i:=by
 unfold Qm.oJ at h
 split at h
 ·cases h;rfl
 ·cases h
theorem nM{d:Qm.D}{i:Bool}(h:Qm.mj d=some i):d= .bl i:=by
 unfold Qm.mj at h
 split at h
 ·cases h;rfl
 ·cases h
theorem qk{K:PySem.W.Frag}{C:Int→Int→Prop}{g:Int→Int→V}{f:Int→Int→Option Qm.D}(h:∀i j d,f i j=some d→C i j∧∀ρ N H,RD K ρ N H d (g i j)):je K (rI C g) (Qm.ii f):=by
 intro ρ c H x y d c' v u Q rs rx ry e k
 obtain⟨i,e1,e⟩:=aE e
 obtain⟨j,e2,e⟩:=aE e
 obtain⟨d',e3,e⟩:=aE e
 cases e
 cases hG e1;cases hG e2
 cases rx.dF;cases ry.dF
 obtain⟨hc,hr⟩:=h i j d e3
 exact⟨i,j,rfl,rfl,hc,k ρ _ H (Nx.refl rs) (hr _ _ _)⟩
theorem rF{K:PySem.W.Frag}{g:Int→Int→V}{f:Int→Int→Option Qm.D}(h:∀i j d,f i j=some d→∀ρ N H,RD K ρ N H d (g i j)):je K (pV g) (Qm.ii f):=by
 intro ρ c H x y d c' v u Q rs rx ry e k
 obtain⟨i,e1,e⟩:=aE e
 obtain⟨j,e2,e⟩:=aE e
 obtain⟨d',e3,e⟩:=aE e
 cases e
 cases hG e1;cases hG e2
 cases rx.dF;cases ry.dF
 exact⟨i,j,rfl,rfl,k ρ _ H (Nx.refl rs) (h i j d e3 _ _ _)⟩
theorem cw{K:PySem.W.Frag}:je K (pV fun i j=>.int (i - j)) Qm.bR:=rF fun i j d e ρ N H=>by cases e;exact .int _
theorem bo{K:PySem.W.Frag}:je K (rI IntMulOk fun i j=>.int (i*j)) Qm.bh:=qk fun i j d e=>by
 split at e
 ·rename_i h
  cases e
  refine⟨?_,fun _ _ _=>.int _⟩
  have Vf:(2:Nat) ^ 64=18446744073709551616:=by decide
  rcases h with h|h|h
  ·exact My.JO h.1 h.2 rfl
  ·have:=h.lt
   exact My.FW (by omega) (by omega)
  ·have:=h.lt
   exact My.FX (by omega) (by omega)
 ·cases e
theorem gx{K:PySem.W.Frag}:je K (rI yu fun i j=>.int (i.fdiv j)) Qm.eU:=qk fun i j d e=>by
 split at e
 ·rename_i h
  cases e
  exact⟨Ng h.1 h.2 rfl,fun _ _ _=>.int _⟩
 ·cases e
theorem gj{K:PySem.W.Frag}:je K (rI (fun _ j=>j≠0) fun i j=>.int (i.fmod j)) Qm.dE:=qk fun i j d e=>by
 split at e
 ·rename_i h
  cases e
  exact⟨h,fun _ _ _=>.int _⟩
 ·cases e
theorem gk{K:PySem.W.Frag}:je K (rI Ii fun i j=>.int (i ^ j.toNat)) Qm.d6:=qk fun i j d e=>by
 split at e
 ·rename_i h
  cases e
  exact⟨⟨h.1,by omega,by(have:=h.2.2;have:(2:Nat) ^ 64=18446744073709551616:=(by decide);omega)⟩,fun _ _ _=>.int _⟩
 ·cases e
theorem eI{K:PySem.W.Frag}:je K (pV fun i j=>.bl (decide (i<j))) Qm.iD:=rF fun i j d e ρ N H=>by cases e;exact .bl _
theorem rG{K:PySem.W.Frag}:je K (pV fun i j=>.bl (decide (j<i))) Qm.oK:=rF fun i j d e ρ N H=>by cases e;exact .bl _
theorem cT{K:PySem.W.Frag}:je K (fun x y H Q=>(pV fun i j=>.int (i+j)) x y H Q∨(yj K x y H Q∨CP x y H Q)) Qm.cp:=by
 intro ρ c H x y d c' v u Q rs rx ry e k
 unfold Qm.cp at e
 split at e
 ·cases e
  cases rx.dF;cases ry.dF
  exact .inl ⟨_,_,rfl,rfl,k ρ _ H (Nx.refl rs) (.int _)⟩
 ·rename_i xs ys
  split at e
  ·rename_i h
   cases e
   obtain⟨p,vs,rfl,h1,a1⟩:=rx.nJ
   obtain⟨q,us,rfl,h2,a2⟩:=ry.nJ
   have l1:=a1.length
   have l2:=a2.length
   refine .inr (.inl ⟨p,q,vs,us,rfl,rfl,df.of h1,df.of h2,?_,kC (by omega),fun z=>?_,fun _ l hl=>?_⟩)
   ·intro z;subst z
    have:xs=[]:=List.length_eq_zero_iff.mp (by simpa using l1)
    exact h.1 this
   ·subst z
    have:ys=[]:=List.length_eq_zero_iff.mp (by simpa using l2)
    subst this
    rw[List.append_nil]at k
    exact k ρ _ H (Nx.refl rs) (.tup h1 a1)
   ·have n:=Nx.same rs (lI (z:=.tup (vs++us)) hl)
    exact k ρ _ _ n (.tup bQ ((a1.append a2).up n.up))
  ·cases e
 ·obtain⟨p,e1,e⟩:=aE e
  obtain⟨q,e2,e⟩:=aE e
  split at e
  ·rename_i h
   cases e
   obtain⟨_,hp,vs,rfl,h1,a1⟩:=rs.bq rx e1
   obtain⟨_,hq,us,rfl,h2,a2⟩:=rs.bq ry e2
   have l1:=a1.length
   have l2:=a2.length
   refine .inr (.inr ⟨_,_,vs,us,rfl,rfl,h1,h2,kC (by omega),fun l hl=>?_⟩)
   obtain⟨n,r⟩:=Nx.alloc rs hl (a1.append a2)
   exact k _ _ _ n r
  ·cases e
theorem cA:eR X (binaryOp .Add) (fun x y H Q=>(pV fun i j=>.int (i+j)) x y H Q∨(yj X.K x y H Q∨CP x y H Q)):=Fu.or (CK.or FR)
theorem Ka{K:PySem.W.Frag}:je K (M7 K) Qm.aH:=by
 intro ρ c H x y d c' v u Q rs rx ry e k
 obtain⟨xs,e1,e⟩:=aE e
 obtain⟨i,e2,e⟩:=aE e
 obtain⟨d',e3,e⟩:=aE e
 cases e
 cases hG e2
 cases ry.dF
 obtain⟨p,vs,rfl,h,a⟩:=rs.seq rx e1
 obtain⟨j,hj,hx⟩:=aE (show(Qm.pZ xs.length i).bind (fun j=>xs[j]?)=some d from e3)
 obtain⟨w,hw,tp⟩:=a.get hx
 have NB:A3 vs i=some w:=by
  show(yk vs.length i).bind (fun j=>vs[j]?)=some w
  rw[←a.length,show yk xs.length i=some j from hj]
  exact hw
 rcases h with h|h
 ·exact .inl ⟨p,vs,i,w,rfl,rfl,h,NB,k ρ _ H (Nx.refl rs) tp⟩
 ·exact .inr (.inl ⟨p,vs,i,w,rfl,rfl,df.of h,NB,k ρ _ H (Nx.refl rs) tp⟩)
theorem ax(ha:QE X a fa)(hb:QE X b fb)(hs:qT b):QE X (.Subscript a b pos) (Qm.e2 Qm.aH fa fb):=J_ FK Ka ha hb hs
theorem uV(ha:QE X a fa):QE X (.UnaryOp .USub a pos) (Qm.e1 Qm.t7 fa):=(Jr Fv ha).imp <| by
 rintro σ H Q ⟨ρ,env,c,d,c',rs,re,e,k⟩
 obtain⟨p,e1,e⟩:=aE e
 obtain⟨i,e2,e⟩:=aE e
 cases e
 refine⟨ρ,env,c,p.1,p.2,rs,re,e1,fun aF v H1 n1 r1=>?_⟩
 rw[hG e2]at r1
 cases r1.dF
 exact⟨i,rfl,k aF _ H1 n1 (.int _)⟩
theorem nN{op}(h:QE X a fa):QE X (.BoolOp op [a] pos) fa:=Fc h
theorem qm{rest:List Expr}(ha:QE X a fa)(hb:QE X (.BoolOp .And (b::rest) pos) fb):QE X (.BoolOp .And (a::b::rest) pos) (Qm.rz fa fb):=(Fd ha hb).imp <| by
 rintro σ H Q ⟨ρ,env,c,d,c',rs,re,e,k⟩
 obtain⟨p,e1,e⟩:=aE e
 obtain⟨i,e2,e⟩:=aE e
 refine⟨ρ,env,c,p.1,p.2,rs,re,e1,fun aF v H1 n1 r1=>?_⟩
 rw[nM e2]at r1
 cases r1.qa
 refine⟨i,rfl,?_⟩
 split at e
 ·rename_i hi
  rw[if_pos hi]
  exact⟨aF,env,p.2,d,c',n1.rs,re.up n1.up,e,fun aM w H' n r=>k aM w H' (n1.trans n) r⟩
 ·rename_i hi
  rw[if_neg hi]
  cases e
  exact k aF _ H1 n1 (.bl _)
theorem Kb{rest:List Expr}(ha:QE X a fa)(hb:QE X (.BoolOp .Or (b::rest) pos) fb):QE X (.BoolOp .Or (a::b::rest) pos) (Qm.JY fa fb):=(Jh ha hb).imp <| by
 rintro σ H Q ⟨ρ,env,c,d,c',rs,re,e,k⟩
 obtain⟨p,e1,e⟩:=aE e
 obtain⟨i,e2,e⟩:=aE e
 refine⟨ρ,env,c,p.1,p.2,rs,re,e1,fun aF v H1 n1 r1=>?_⟩
 rw[nM e2]at r1
 cases r1.qa
 refine⟨i,rfl,?_⟩
 split at e
 ·rename_i hi
  rw[if_pos hi]
  cases e
  exact k aF _ H1 n1 (.bl _)
 ·rename_i hi
  rw[if_neg hi]
  exact⟨aF,env,p.2,d,c',n1.rs,re.up n1.up,e,fun aM w H' n r=>k aM w H' (n1.trans n) r⟩
theorem Gf(ha:QE X a fa):QE X (.UnaryOp .Not a pos) (Qm.C1 fa):=(Fe ha).imp <| by
 rintro σ H Q ⟨ρ,env,c,d,c',rs,re,e,k⟩
 obtain⟨p,e1,e⟩:=aE e
 obtain⟨i,e2,e⟩:=aE e
 cases e
 refine⟨ρ,env,c,p.1,p.2,rs,re,e1,fun aF v H1 n1 r1=>?_⟩
 rw[nM e2]at r1
 cases r1.qa
 exact⟨i,rfl,k aF _ H1 n1 (.bl _)⟩
theorem Bf{c0:Expr}(hc:QT X c0 ft)(ha:QE X a fa)(hb:QE X b fb):QE X (.IfExp c0 a b pos) (Qm.JZ ft fa fb):=(AS hc ha hb).imp <| by
 rintro σ H Q ⟨ρ,env,c,d,c',rs,re,e,k⟩
 obtain⟨p,e1,e⟩:=aE e
 refine⟨ρ,env,c,p.1,p.2,rs,re,e1,fun aF H1 n1=>?_⟩
 split at e
 ·rename_i hi
  rw[if_pos hi]
  exact⟨aF,env,p.2,d,c',n1.rs,re.up n1.up,e,fun aM w H' n r=>k aM w H' (n1.trans n) r⟩
 ·rename_i hi
  rw[if_neg hi]
  exact⟨aF,env,p.2,d,c',n1.rs,re.up n1.up,e,fun aM w H' n r=>k aM w H' (n1.trans n) r⟩
theorem ak:QA X [] Qm.aj:=Fy.imp <| by
 rintro σ H Q ⟨ρ,env,c,ds,c',rs,re,e,k⟩
 cases e
 exact k ρ [] H (Nx.refl rs) .nil
theorem ah{fr:Qm.XA}(ha:QE X e fa)(hr:QA X es fr)(hs:starEach (e::es) X.env=(false,eval e X.env)::starEach es X.env:=by rfl):QA X (e::es) (Qm.af fa fr):=(Cy ha hr hs).imp <| by
 rintro σ H Q ⟨ρ,env,c,ds,c',rs,re,e,k⟩
 obtain⟨p,e1,e⟩:=aE e
 obtain⟨q,e2,e⟩:=aE e
 cases e
 exact⟨ρ,env,c,p.1,p.2,rs,re,e1,fun aF v H1 n1 r1=>⟨aF,env,p.2,q.1,q.2,n1.rs,re.up n1.up,e2,fun jR vs H2 n2 r2=>k jR (v::vs) H2 (n1.trans n2) (.cons (r1.up n2.up) r2)⟩⟩
theorem lL{x1}{f:Qm.XA}(h:QA X es f):QE X (.Tuple es x1 pos) (Qm.iC f):=(Fz h).imp <| by
 rintro σ H Q ⟨ρ,env,c,d,c',rs,re,e,k⟩
 obtain⟨p,e1,e⟩:=aE e
 split at e
 ·rename_i hz
  cases e
  refine⟨ρ,env,c,p.1,p.2,rs,re,e1,fun aF vs H1 n1 r1=>⟨kC (by rw[←r1.length];exact hz),fun l hl=>?_⟩⟩
  have n:=Nx.same n1.rs (lI (z:=.tup vs) hl)
  exact k aF _ _ (n1.trans n) (.tup bQ (r1.up n.up))
 ·cases e
theorem hJ{f:Qm.XA}(h:QA X es f):QE X (.List es pos) (Qm.gS f):=(FA h).imp <| by
 rintro σ H Q ⟨ρ,env,c,d,c',rs,re,e,k⟩
 obtain⟨p,e1,e⟩:=aE e
 split at e
 ·rename_i hz
  cases e
  refine⟨ρ,env,c,p.1,p.2,rs,re,e1,fun aF vs H1 n1 r1=>⟨kC (by rw[←r1.length];exact hz),fun l hl=>?_⟩⟩
  obtain⟨n,r⟩:=Nx.alloc n1.rs hl r1
  exact k _ _ _ (n1.trans n) r
 ·cases e
def ei(K:PySem.W.Frag)(F:Qm.FN):Sp:=fun vs H Q _=>∃ρ c ds d c',RS K ρ c H∧RA K ρ c.length H ds vs∧F ds c=some (d,c')∧∀aM v H',Nx K ρ c H aM c' H'→RD K aM c'.length H' d v→Q v H'
theorem C_{K:PySem.W.Frag}{F:Qm.FN}{f:Qm.XA}{ds:List Qm.D}{mN:List V}{E:XK}(hd:∀ρ N H,RA K ρ N H ds mN){σ:St}{H:Hp}{Q:VK}(h:TQ K (Qm.az F ds f) σ H Q):yg (ei K F) mN E (AQ K f) σ H Q:=by
 obtain⟨ρ,env,c,d,c',rs,re,e,k⟩:=h
 obtain⟨p,e1,e⟩:=aE e
 exact⟨ρ,env,c,p.1,p.2,rs,re,e1,fun aF vs H1 n1 r1=>⟨aF,p.2,p.1++ds,d,c',n1.rs,r1.append (hd _ _ _),e,fun aM v H' n r=>k aM v H' (n1.trans n) r⟩⟩
theorem aC{k:Nat}{f:Addr}{fd:FuncData}{ps:List Str}{F:Qm.FN}{mN:List V}{ds:List Value}{x:Str}{p:Pos}{fx:Qm.XA}(qs:List Qm.D)(G:bY X.prog X.w X.K X.mg X.base cF k f fd ps (ei X.K F))(hr:cS k X.A)(hg:Gl X x)(hm:X.mg x=some (.ref f))(hk:PySem.W.keepIn X.K (.ref f)=true)(hb:Binds X.K fd ps ds)(hd:Vals mN ds)(hq:∀ρ N H,RA X.K ρ N H qs mN)
  (ha:QA X (e::es) fx)(qJ:(x==("__debug__":Str))=false:=by decide)(he:starEach (e::es) X.env=(false,eval e X.env)::starEach es X.env:=by rfl)(dS:(backTo pos (starEach es X.env)).any (·.1)=false:=by rfl):
  QE X (.Call (.Name x p) (e::es) [] pos) (Qm.az F qs fx):=(Cz (E:=E0) G hr hg hm hk hb hd CS ha qJ he dS).imp fun _ _ _ h=>C_ hq h
def qc(K:PySem.W.Frag)(r:List V→Hp→VK→Prop)(F:Qm.FN):Prop:=∀ρ c H ds d c' vs Q,RS K ρ c H→RA K ρ c.length H ds vs→F ds c=some (d,c')→(∀aM w H',Nx K ρ c H aM c' H'→RD K aM c'.length H' d w→Q w H')→r vs H Q
theorem Dc{K:PySem.W.Frag}{r:List V→Hp→VK→Prop}{F:Qm.FN}(hl:qc K r F){f:Qm.XA}{σ:St}{H:Hp}{Q:VK}(h:TQ K (Qm.eB F f) σ H Q):Jy r (AQ K f) σ H Q:=by
 obtain⟨ρ,env,c,d,c',rs,re,e,k⟩:=h
 obtain⟨p,e1,e⟩:=aE e
 exact⟨ρ,env,c,p.1,p.2,rs,re,e1,fun aF vs H1 n1 r1=>hl aF p.2 H1 p.1 d c' vs Q n1.rs r1 e fun aM v H' n r=>k aM v H' (n1.trans n) r⟩
theorem aD{id:String}{r:List V→Hp→VK→Prop}{F:Qm.FN}{x:Str}{p:Pos}{f:Qm.XA}(hc:fC X (.builtin id) r)(hl:qc X.K r F)(hg:Gl X x)(hm:X.mg x=none)(hv:bootBuiltins x=some (.builtin id))(ha:QA X (e::es) f)(hn:x≠"__name__":=by decide)(qJ:(x==("__debug__":Str))=false:=by decide)
  (he:starEach (e::es) X.env=(false,eval e X.env)::starEach es X.env:=by rfl)(dS:(backTo pos (starEach es X.env)).any (·.1)=false:=by rfl):QE X (.Call (.Name x p) (e::es) [] pos) (Qm.eB F f):=(AZ hc hg hm hv ha hn qJ he dS).imp fun _ _ _ h=>Dc hl h
theorem eW{id:String}{r:List V→Hp→VK→Prop}{F:Qm.FN}{x:Str}{p:Pos}{f:Qm.XA}(hc:fC X (.type id) r)(hl:qc X.K r F)(hg:Gl X x)(hm:X.mg x=none)(hv:bootBuiltins x=some (.type id))(ha:QA X (e::es) f)(hn:x≠"__name__":=by decide)(qJ:(x==("__debug__":Str))=false:=by decide)
  (he:starEach (e::es) X.env=(false,eval e X.env)::starEach es X.env:=by rfl)(dS:(backTo pos (starEach es X.env)).any (·.1)=false:=by rfl):QE X (.Call (.Name x p) (e::es) [] pos) (Qm.eB F f):=(yh hc hg hm hv ha hn qJ he dS).imp fun _ _ _ h=>Dc hl h
end
end L2
namespace L2
open PySem PySem.Spec PyProof.Rows
section
variable{X:Cx}{a b e:Expr}{es:List Expr}{fa fb fc fe:Qm.XE}{ft fu:Qm.XT}{pos:Pos}
theorem IA{K:PySem.W.Frag}{t:TE}{f:Qm.XE}(ht:∀σ H Q,TQ K f σ H Q→t σ H Q){σ:St}{H:Hp}{Q:Bool→Hp→Prop}(h:BQ K (Qm.tV f) σ H Q):t σ H fun x H1=>∃k,x= .bl k∧Q k H1:=by
 obtain⟨ρ,env,c,d,c',rs,re,e,k⟩:=h
 obtain⟨p,e1,e⟩:=aE e
 obtain⟨i,e2,e⟩:=aE e
 cases e
 refine ht σ H _ ⟨ρ,env,c,p.1,p.2,rs,re,e1,fun aF v H1 n1 r1=>?_⟩
 rw[nM e2]at r1
 cases r1.qa
 exact⟨_,rfl,k aF H1 n1⟩
theorem hU(h:QE X e fe)(he:∀whole,isTrue e X.env whole=(do let v ←whole;standAt e.pos;holding [v] (truthy v)):=by intro _;rfl):QT X e (Qm.tV fe):=(E7 h he).imp fun _ _ _ q=>IA (fun _ _ _ z=>z) q
theorem bC{op:CmpOp}{r:R2}{g:Qm.G2}(ho:eR X (compareOp op) r)(hl:je X.K r g)(ha:QE X a fa)(hb:QE X b fb)(hm:behindInMarks op b=false):QT X (.Compare a [op] [b] pos) (Qm.tV (Qm.e2 g fa fb)):=(Cu ho ha hb hm).imp fun _ _ _ q=>IA (fun _ _ _ z=>uU hl z) q
theorem kE(ha:QT X a ft):QW X (.BoolOp .And [a] pos) ft:=Ce ha
theorem nO(ha:QT X a ft):QW X (.BoolOp .Or [a] pos) ft:=E9 ha
theorem nP{rest:List Expr}(ha:QT X a ft)(hb:QW X (.BoolOp .And (b::rest) pos) fu):QW X (.BoolOp .And (a::b::rest) pos) (Qm.gQ ft fu):=(E_ ha hb).imp <| by
 rintro σ H Q ⟨ρ,env,c,d,c',rs,re,e,k⟩
 obtain⟨p,e1,e⟩:=aE e
 refine⟨ρ,env,c,p.1,p.2,rs,re,e1,fun aF H1 n1=>?_⟩
 split at e
 ·rename_i hi
  rw[if_pos hi]
  exact⟨aF,env,p.2,d,c',n1.rs,re.up n1.up,e,fun aM H' n=>k aM H' (n1.trans n)⟩
 ·rename_i hi
  rw[if_neg hi]
  cases e
  exact k aF H1 n1
theorem oM{rest:List Expr}(ha:QT X a ft)(hb:QW X (.BoolOp .Or (b::rest) pos) fu):QW X (.BoolOp .Or (a::b::rest) pos) (Qm.l_ ft fu):=(Je ha hb).imp <| by
 rintro σ H Q ⟨ρ,env,c,d,c',rs,re,e,k⟩
 obtain⟨p,e1,e⟩:=aE e
 refine⟨ρ,env,c,p.1,p.2,rs,re,e1,fun aF H1 n1=>?_⟩
 split at e
 ·rename_i hi
  rw[if_pos hi]
  cases e
  exact k aF H1 n1
 ·rename_i hi
  rw[if_neg hi]
  exact⟨aF,env,p.2,d,c',n1.rs,re.up n1.up,e,fun aM H' n=>k aM H' (n1.trans n)⟩
theorem iY(ha:QT X a ft):QT X (.UnaryOp .Not a pos) (Qm.eY ft):=(Fb ha).imp <| by
 rintro σ H Q ⟨ρ,env,c,d,c',rs,re,e,k⟩
 obtain⟨p,e1,e⟩:=aE e
 cases e
 exact⟨ρ,env,c,p.1,p.2,rs,re,e1,fun aF H1 n1=>k aF H1 n1⟩
theorem Dd:QO X none Qm.yA:=CG.imp <| by
 rintro σ H Q ⟨ρ,env,c,d,c',rs,re,e,k⟩
 cases e
 exact k ρ H (Nx.refl rs)
theorem rH(h:QE X e fe):QO X (some e) (Qm.gH fe):=(CJ h).imp <| by
 rintro σ H Q ⟨ρ,env,c,d,c',rs,re,e,k⟩
 obtain⟨p,e1,e⟩:=aE e
 refine⟨ρ,env,c,p.1,p.2,rs,re,e1,fun aF v H1 n1 r1=>?_⟩
 split at e
 ·rename_i i hi
  cases e
  rw[hi]at r1
  cases r1.dF
  exact⟨_,rfl,k aF H1 n1⟩
 ·cases e
theorem oN{K:PySem.W.Frag}{ρ:Nat→Addr}{N:Nat}{H:Hp}{ds:List Qm.D}{vs:List V}(a:RA K ρ N H ds vs)(lo hi:Option Int):RA K ρ N H (Qm.cutD ds lo hi) (kr vs lo hi):=by
 have e:∀n d o,Qm.uS n d o=HT.bU n d o:=fun n d o=>by cases o<;>rfl
 unfold Qm.cutD kr
 rw[e,e,a.length]
 exact(a.drop _).take _
end
section
variable{prog:Program}{w:World}{A:Around}{E:Value→Shared→Prop}{s:Shared}
theorem kF{t sl:Addr}{items:Array Value}{vl vu:Value}{lo hi:Option Int}{Q:Value→Shared→Prop}(ht:IsTup s.heap t items)(hs:s.heap.IsSliceOf sl vl vu .none)(pl:IsPart vl lo)(pu:IsPart vu hi)
  (hw:HT.bU items.size 0 lo=0∧HT.bU items.size items.size hi=items.size)(h:Q (.ref t) s):wpAny (model prog w) A (getItem (.ref t) (.ref sl)) Q E s:=by
 obtain⟨os,yi,qQ,CC⟩:=id hs
 have Jz:s.TypeIs (.ref sl) "slice":=⟨os,yi,qQ⟩
 unfold getItem
 try with_reducible refine wpAny_holding ?_
 first|refine wpAny_bind (wpAny_pure ?_)|skip
 refine wpAny_bind (wpAny_sequenceKey ht.typeIs (by decide) ?_)
 refine wpAny_bind (wpAny_callSpecial?_slot (name:=Str.ofString "__getitem__") ht.typeIs PyProof.Rows.slot_tuple_getitem
  (wpAny_call_entry PyProof.Rows.slot_tuple_getitem ht.typeIs entry_tuple_getitem ?_ (args_tuple_getitem _ _)))
 show wpAny _ _ (Builtin.Tuple.tupleItemsOf (.ref t) >>= _) _ _ s
 refine wpAny_bind (tupleItemsOf_ ht ?_)
 refine wpAny_bind (wpAny_typeOf Jz ?_)
 rw[if_pos (by decide)]
 refine wpAny_bind (HT.iU hs pl pu ?_)
 have NC:(((HT.bU items.size 0 lo:Nat):Int)==0&&(1:Int)==1&&(HT.bU items.size items.size hi - HT.bU items.size 0 lo)==items.size)=true:=by
  rw[hw.1,hw.2];simp
 show wpAny _ _ (if (((HT.bU items.size 0 lo:Nat):Int)==0&&(1:Int)==1&&(HT.bU items.size items.size hi - HT.bU items.size 0 lo)==items.size)=true then _ else _) _ _ s
 rw[if_pos NC]
 unfold Builtin.Tuple.tupleIsExact
 refine wpAny_bind (wpAny_bind (wpAny_typeOf ht.typeIs (wpAny_pure ?_)))
 rw[if_pos (by decide)]
 refine wpAny_bind (wpAny_rule ?_)
 exact wpAny_pure ⟨_,rfl,wpAny_pure h⟩
end
section
variable{X:Cx}{a b e:Expr}{es:List Expr}{fa fb fc fe:Qm.XE}{ft fu:Qm.XT}{pos p2:Pos}{lo hi:Option Expr}{fl fh:Qm.XO}
def De(K:PySem.W.Frag):V→Option Int→Option Int→Hp→VK→Prop:=fun x lo hi H Q=>∃a xs,x= .ref a∧df K H a xs∧(HT.bU xs.length 0 lo=0∧HT.bU xs.length xs.length hi=xs.length)∧Q (.ref a) H
theorem Df:uI X (De X.K):=by
 intro pins s σ H x v vl vu lo hi sl Q I rx hs pl pu h
 obtain⟨a,xs,rfl,hx,hw,q⟩:=h
 cases rx
 obtain⟨its,r,ht,hz⟩:=I.tuple hx
 have hlen:its.toArray.size=xs.length:=by rw[List.size_toArray];exact r.length.symm
 refine⟨"tuple",_,PyProof.Rows.slot_tuple_getitem.lookup,ht.typeIs,?_⟩
 exact kF ht hs pl pu (by rw[hlen];exact hw) ⟨.ref a,H,I,rfl,q⟩
def IB(K:PySem.W.Frag):V→Option Int→Option Int→Hp→VK→Prop:=fun x lo hi H Q=>Il K x lo hi H Q∨(De K x lo hi H Q∨Iq K x lo hi H Q)
theorem Gg:uI X (IB X.K):=FH.or (Df.or CM)
theorem Gh{K:PySem.W.Frag}{ρ:Nat→Addr}{c c':Qm.Cells}{H:Hp}{x d:Qm.D}{v:V}{lo hi:Option Int}{Q:VK}(rs:RS K ρ c H)(rx:RD K ρ c.length H x v)(e:Qm.kz x lo hi c=some (d,c'))(k:∀aM w H',Nx K ρ c H aM c' H'→RD K aM c'.length H' d w→Q w H'):IB K v lo hi H Q:=by
 unfold Qm.kz at e
 split at e
 ·rename_i xs
  cases e
  obtain⟨p,vs,rfl,h1,a1⟩:=rx.nJ
  by_cases hw:HT.bU vs.length 0 lo=0∧HT.bU vs.length vs.length hi=vs.length
  ·refine .inr (.inl ⟨p,vs,rfl,df.of h1,hw,?_⟩)
   have:kr vs lo hi=vs:=by
    unfold kr
    rw[hw.1,hw.2];simp
   have a2:=oN a1 lo hi
   rw[this]at a2
   exact k ρ _ H (Nx.refl rs) (.tup h1 a2)
  ·refine .inl ⟨p,vs,rfl,df.of h1,hw,fun l hl=>?_⟩
   have n:=Nx.same rs (lI (z:=.tup (kr vs lo hi)) hl)
   exact k ρ _ _ n (.tup bQ ((oN a1 lo hi).up n.up))
 ·rename_i x' jB
  obtain⟨xs,e1,e⟩:=aE e
  cases e
  rcases uT e1 with z|⟨n,z⟩
  ·exact absurd z (jB xs)
  ·subst z
   obtain⟨vs,rfl,h,a⟩:=rs.C7 rx e1
   refine .inr (.inr ⟨_,vs,rfl,h,fun l hl=>?_⟩)
   obtain⟨n,r⟩:=Nx.alloc rs hl (oN a lo hi)
   exact k _ _ _ n r
theorem t_(he:QE X e fe)(hl:QO X lo fl)(hu:QO X hi fh):QE X (.Subscript e (.Slice lo hi none p2) pos) (Qm.yB Qm.kz fe fl fh):=(A2 Gg he hl hu).imp <| by
 rintro σ H Q ⟨ρ,env,c,d,c',rs,re,e,k⟩
 obtain⟨p,e1,e⟩:=aE e
 obtain⟨l,e2,e⟩:=aE e
 obtain⟨h,e3,e⟩:=aE e
 exact⟨ρ,env,c,p.1,p.2,rs,re,e1,fun aF v H1 n1 r1=>⟨aF,env,p.2,l.1,l.2,n1.rs,re.up n1.up,e2,fun jR H2 n2=>⟨jR,env,l.2,h.1,h.2,n2.rs,re.up (n1.trans n2).up,e3,fun Gi H3 n3=>
  Gh n3.rs ((r1.up n2.up).up n3.up) e fun aM w H' n r=>k aM w H' (n1.trans (n2.trans (n3.trans n))) r⟩⟩⟩
def Bg(K:PySem.W.Frag)(r:V→List V→Hp→VK→Prop)(g:Qm.D→Qm.FN):Prop:=∀ρ c H x ds d c' v vs Q,RS K ρ c H→RD K ρ c.length H x v→RA K ρ c.length H ds vs→g x ds c=some (d,c')→(∀aM w H',Nx K ρ c H aM c' H'→RD K aM c'.length H' d w→Q w H')→r v vs H Q
theorem ND{K:PySem.W.Frag}{ρ:Nat→Addr}{c:Qm.Cells}{H:Hp}{x:Qm.D}{v:V}{z:Nat×List Qm.D}(rs:RS K ρ c H)(rx:RD K ρ c.length H x v)(e:Qm.bq x c=some z):FP K "list" v H:=by
 obtain⟨_,_,vs,rfl,h,_⟩:=rs.bq rx e
 exact .inl ⟨rfl,_,cD.of h⟩
theorem pN{name:Str}{id:String}{r:V→List V→Hp→VK→Prop}{g:Qm.D→Qm.FN}{o:Expr}{fo:Qm.XE}{f:Qm.XA}{apos dW:Pos}(slot:Slot "list" name id)(ym:typeOf (.builtin id)=pure (.type "method_descriptor"))(hm:yn X id r)(hl:Bg X.K r g)(ho:QE X o fo)(ha:QA X (e::es) f)
  (mQ:attributeBase o name X.env (eval o X.env)=eval o X.env:=by rfl)
  (CN:((backTo dW (starEach (e::es) X.env)).all (fun x=>!x.1)&&(backToKw dW (keywordEach [] X.env)).all (fun x=>x.1.isSome)
   &&decide ((e::es).length+([]:List Keyword).length+(if ([]:List Keyword).isEmpty then 0 else 1)<30))=true:=by rfl)
  (mR:(apos.endLine==dW.line)=true:=by rfl)(hs:starEach (e::es) X.env=(false,eval e X.env)::starEach es X.env:=by rfl)(uJ:(backTo dW (starEach es X.env)).any (·.1)=false:=by rfl):
  QE X (.Call (.Attribute o name apos) (e::es) [] dW) (Qm.eM g fo f):=(JD PySem.F.plainAttrs_list slot ym hm ho ha mQ CN mR hs uJ).imp <| by
 rintro σ H Q ⟨ρ,env,c,d,c',rs,re,e,k⟩
 obtain⟨p,e1,e⟩:=aE e
 obtain⟨z,e2,e⟩:=aE e
 obtain⟨q,e3,e⟩:=aE e
 exact⟨ρ,env,c,p.1,p.2,rs,re,e1,fun aF v H1 n1 r1=>⟨ND n1.rs r1 e2,aF,env,p.2,q.1,q.2,n1.rs,re.up n1.up,e3,fun jR vs H2 n2 r2=>
  hl jR q.2 H2 p.1 q.1 d c' v vs Q n2.rs (r1.up n2.up) r2 e fun aM w H' n r=>k aM w H' (n1.trans (n2.trans n)) r⟩⟩
theorem Kc{name:Str}{id:String}{r:V→List V→Hp→VK→Prop}{g:Qm.D→Qm.FN}{o:Expr}{fo:Qm.XE}{apos dW:Pos}(slot:Slot "list" name id)(ym:typeOf (.builtin id)=pure (.type "method_descriptor"))(hm:yn X id r)(hl:Bg X.K r g)(ho:QE X o fo)
  (mQ:attributeBase o name X.env (eval o X.env)=eval o X.env:=by rfl)(mR:(apos.endLine==dW.line)=true:=by rfl):
  QE X (.Call (.Attribute o name apos) [] [] dW) (Qm.eM g fo Qm.aj):=(FQ PySem.F.plainAttrs_list slot ym hm ho mQ mR).imp <| by
 rintro σ H Q ⟨ρ,env,c,d,c',rs,re,e,k⟩
 obtain⟨p,e1,e⟩:=aE e
 obtain⟨z,e2,e⟩:=aE e
 obtain⟨q,e3,e⟩:=aE e
 cases e3
 exact⟨ρ,env,c,p.1,p.2,rs,re,e1,fun aF v H1 n1 r1=>⟨ND n1.rs r1 e2,hl aF p.2 H1 p.1 [] d c' v [] Q n1.rs r1 .nil e fun aM w H' n r=>k aM w H' (n1.trans n) r⟩⟩
theorem gc{K:PySem.W.Frag}:Bg K wy Qm.cc:=by
 intro ρ c H x ds d c' v vs Q rs rx ra e k
 unfold Qm.cc Qm.one at e
 split at e
 ·rename_i y
  obtain⟨l,e1,e⟩:=aE e
  obtain⟨u,rfl,ry⟩:=ra.iX
  split at e
  ·rename_i hz
   cases e
   obtain⟨_,hn,ws,rfl,h,a⟩:=rs.bq rx e1
   have n:=Nx.put rs hn (a.append (RA.one ry))
   exact⟨_,ws,u,rfl,rfl,h,wM (by rw[←a.length];exact hz),k ρ _ _ n .bL⟩
  ·cases e
 ·cases e
theorem yF{K:PySem.W.Frag}:Bg K wz Qm.kB:=by
 intro ρ c H x ds d c' v vs Q rs rx ra e k
 unfold Qm.kB Qm.one at e
 split at e
 ·rename_i y
  obtain⟨l,e1,e⟩:=aE e
  obtain⟨z,e2,e⟩:=aE e
  obtain⟨u,rfl,ry⟩:=ra.iX
  split at e
  ·rename_i hz
   cases e
   obtain⟨_,hn,ws,rfl,h,a⟩:=rs.bq rx e1
   obtain⟨_,uW,us,rfl,h2,a2⟩:=rs.bq ry e2
   have n:=Nx.put rs hn (a.append a2)
   exact⟨_,_,ws,us,rfl,rfl,h,h2,kC (by rw[←a.length,←a2.length];exact hz),k ρ _ _ n .bL⟩
  ·cases e
 ·cases e
theorem Bh{K:PySem.W.Frag}:Bg K zN Qm.lK:=by
 intro ρ c H x ds d c' v vs Q rs rx ra e k
 unfold Qm.lK at e
 split at e
 ·obtain⟨l,e1,e⟩:=aE e
  cases ra.Iz
  cases e
  obtain⟨_,hn,ws,rfl,h,a⟩:=rs.bq rx e1
  exact⟨_,ws,rfl,rfl,h,k ρ _ _ (Nx.put rs hn .nil) .bL⟩
 ·cases e
theorem jS{g:Qm.G1}{ds:List Qm.D}{c:Qm.Cells}{z}(h:Qm.one g ds c=some z):∃x,ds=[x]∧g x c=some z:=by
 unfold Qm.one at h
 split at h
 ·exact⟨_,rfl,h⟩
 ·cases h
theorem Gj{g:Qm.G2}{ds:List Qm.D}{c:Qm.Cells}{z}(h:Qm.two g ds c=some z):∃x y,ds=[x,y]∧g x y c=some z:=by
 unfold Qm.two at h
 split at h
 ·exact⟨_,_,rfl,h⟩
 ·cases h
theorem dv{K:PySem.W.Frag}:qc K (fun xs H Q=>∃i,xs=[.int i]∧Q (.int (if i<0 then -i else i)) H) Qm.d7:=by
 intro ρ c H ds d c' vs Q rs ra e k
 obtain⟨x,rfl,e⟩:=jS e
 obtain⟨v,rfl,rx⟩:=ra.iX
 obtain⟨i,e1,e⟩:=aE e
 cases e
 cases hG e1
 cases rx.dF
 exact⟨i,rfl,k ρ _ H (Nx.refl rs) (.int _)⟩
theorem dO{K:PySem.W.Frag}:qc K (fun xs H Q=>∃p ys,xs=[.ref p]∧(cD K H p ys∨df K H p ys)∧Q (.int ys.length) H) Qm.bM:=by
 intro ρ c H ds d c' vs Q rs ra e k
 obtain⟨x,rfl,e⟩:=jS e
 obtain⟨v,rfl,rx⟩:=ra.iX
 obtain⟨xs,e1,e⟩:=aE e
 cases e
 obtain⟨p,ws,rfl,h,a⟩:=rs.seq rx e1
 exact⟨p,ws,rfl,h.imp id df.of,k ρ _ H (Nx.refl rs) (by rw[a.length];exact .int _)⟩
theorem jC{K:PySem.W.Frag}:qc K (fun xs H Q=>(∃i,xs=[.int i]∧Q (.int i) H)∨∃k,xs=[.bl k]∧Q (.int (if k then 1 else 0)) H) Qm.kA:=by
 intro ρ c H ds d c' vs Q rs ra e k
 obtain⟨x,rfl,e'⟩:=jS e
 obtain⟨v,rfl,rx⟩:=ra.iX
 split at e'
 ·cases e'
  cases rx.dF
  exact .inl ⟨_,rfl,k ρ _ H (Nx.refl rs) (.int _)⟩
 ·cases e'
  cases rx.qa
  exact .inr ⟨_,rfl,k ρ _ H (Nx.refl rs) (.int _)⟩
 ·cases e'
theorem Dg{K:PySem.W.Frag}:qc K (fun xs H Q=>∃p ys,xs=[.ref p]∧(cD K H p ys∨df K H p ys)∧∀l,H l=none→Q (.ref l) (upd H l (.lst ys))) Qm.rC:=by
 intro ρ c H ds d c' vs Q rs ra e k
 obtain⟨x,rfl,e⟩:=jS e
 obtain⟨v,rfl,rx⟩:=ra.iX
 obtain⟨xs,e1,e⟩:=aE e
 cases e
 obtain⟨p,ws,rfl,h,a⟩:=rs.seq rx e1
 refine⟨p,ws,rfl,h.imp id df.of,fun l hl=>?_⟩
 obtain⟨n,r⟩:=Nx.alloc rs hl a
 exact k _ _ _ n r
end
end L2
namespace L2
open PySem PySem.Spec PyProof.Rows
section
variable{X:Cx}{a b e tg:Expr}{es:List Expr}{fa fb fc fe:Qm.XE}{ft fu:Qm.XT}{pos:Pos}{st:Stmt}{rest:List Stmt}{fs fr:Qm.XS}{fg:Qm.XG}
theorem bH:qb X [] Qm.bW:=Cf.imp <| by
 rintro D σ H ⟨ρ,env,c,fl,bO,c',rs,re,e,k⟩
 cases e
 exact k ρ H (Nx.refl rs) σ re
theorem au(h1:QS X st fs)(h2:qb X rest fr):qb X (st::rest) (Qm.av fs fr):=(AU h1 h2).imp <| by
 rintro D σ H ⟨ρ,env,c,fl,bO,c',rs,re,e,k⟩
 obtain⟨p,e1,e⟩:=aE e
 obtain⟨f,e2,c2⟩:=p
 cases f with
 |nx=>exact⟨ρ,env,c,.nx,e2,c2,rs,re,e1,fun aF H1 n1 σ1 nQ=>⟨aF,e2,c2,fl,bO,c',n1.rs,nQ,e,fun aM H' n=>k aM H' (n1.trans n)⟩⟩
 |rt d=>cases e;exact⟨ρ,env,c,.rt d,bO,c',rs,re,e1,fun aF H1 n1=>k aF H1 n1⟩
 |bk=>cases e;exact⟨ρ,env,c,.bk,bO,c',rs,re,e1,fun aF H1 n1=>k aF H1 n1⟩
 |ct=>cases e;exact⟨ρ,env,c,.ct,bO,c',rs,re,e1,fun aF H1 n1=>k aF H1 n1⟩
theorem aB(h1:QS X st fs):qb X [st] fs:=Cg h1
theorem gy(he:QE X e fe)(hs:swapsWith e none pos.line X.env=pure false:=by rfl):QS X (.Expr e pos) (Qm.d5 fe):=(Ci he hs).imp <| by
 rintro D σ H ⟨ρ,env,c,fl,bO,c',rs,re,e,k⟩
 obtain⟨p,e1,e⟩:=aE e
 cases e
 exact⟨ρ,env,c,p.1,p.2,rs,re,e1,fun aF v H1 n1 _=>k aF H1 n1 σ (re.up n1.up)⟩
theorem ba(he:QE X e fe):QS X (.Return (some e) pos) (Qm.bt fe):=(Ff he).imp <| by
 rintro D σ H ⟨ρ,env,c,fl,bO,c',rs,re,e,k⟩
 obtain⟨p,e1,e⟩:=aE e
 cases e
 exact⟨ρ,env,c,p.1,p.2,rs,re,e1,fun aF v H1 n1 r1=>k aF H1 n1 v r1⟩
theorem cO{c0:Expr}{x y:List Stmt}(hc:QT X c0 ft)(ha:qb X x fs)(hb:qb X y fr):QS X (.If c0 x y pos) (Qm.cY ft fs fr):=(Jk hc ha hb).imp <| by
 rintro D σ H ⟨ρ,env,c,fl,bO,c',rs,re,e,k⟩
 obtain⟨p,e1,e⟩:=aE e
 refine⟨ρ,env,c,p.1,p.2,rs,re,e1,fun aF H1 n1=>?_⟩
 split at e
 ·rename_i hi
  rw[if_pos hi]
  exact⟨aF,env,p.2,fl,bO,c',n1.rs,re.up n1.up,e,fun aM H' n=>k aM H' (n1.trans n)⟩
 ·rename_i hi
  rw[if_neg hi]
  exact⟨aF,env,p.2,fl,bO,c',n1.rs,re.up n1.up,e,fun aM H' n=>k aM H' (n1.trans n)⟩
theorem aR{i:Nat}{x:Str}{pos':Pos}(hN:X.N.Nodup)(hi:X.N[i]? =some x)(hx:Loc X.env.scope x)(he:QE X e fe)(hs:swapsWith e (some (.Name x pos')) pos.line X.env=pure false:=by rfl)(hf:X.fn x=true∨X.env.scope.names.lookup x=some .local:=by first|exact .inl rfl|exact .inr rfl|assumption):
  QS X (.Assign [.Name x pos'] e pos) (Qm.aK i fe):=(Fj hN hi hx he hs hf).imp <| by
 rintro D σ H ⟨ρ,env,c,fl,bO,c',rs,re,e,k⟩
 obtain⟨p,e1,e⟩:=aE e
 cases e
 exact⟨ρ,env,c,p.1,p.2,rs,re,e1,fun aF v H1 n1 r1=>k aF H1 n1 _ ((re.up n1.up).set r1)⟩
theorem zY(he:QE X e fe)(hg:QG X tg fg)(hs:swapsWithSole [tg] e pos.line X.env=pure false:=by rfl)(hw:swappedStores [tg] e X.env=pure none:=by rfl)
  (h1:(assignEach [tg] X.env).map (·.2)=[assign tg X.env]:=by rfl):QS X (.Assign [tg] e pos) (Qm.wK fe fg):=(Fi he hg hs hw h1).imp <| by
 rintro D σ H ⟨ρ,env,c,fl,bO,c',rs,re,e,k⟩
 obtain⟨p,e1,e⟩:=aE e
 obtain⟨q,e2,e⟩:=aE e
 cases e
 exact⟨ρ,env,c,p.1,p.2,rs,re,e1,fun aF v H1 n1 r1=>⟨aF,env,p.2,p.1,q.1,q.2,n1.rs,re.up n1.up,r1,e2,fun aM H' σ' n Kd=>k aM H' (n1.trans n) σ' Kd⟩⟩
theorem wO{i j:Nat}{x y:Str}{f:Qm.XA}{px py pt:Pos}{kt k2 mM}(hc:X.calm=true)(hN:X.N.Nodup)(hi:X.N[i]? =some x)(hj:X.N[j]? =some y)(cX:i≠j)
  (hx:X.env.scope.names.lookup x=some .local)(hy:X.env.scope.names.lookup y=some .local)(ha:QA X [a,b] f)
  (hw:swappedStores [.Tuple [.Name x px,.Name y py] kt pt] (.Tuple [a,b] k2 mM) X.env=pure (some [x,y]))
  (hs:swapsWithSole [.Tuple [.Name x px,.Name y py] kt pt] (.Tuple [a,b] k2 mM) pos.line X.env=pure false:=by rfl):
  QS X (.Assign [.Tuple [.Name x px,.Name y py] kt pt] (.Tuple [a,b] k2 mM) pos) (Qm.iW [i,j] f):=(Fm hc hN hi hj cX hx hy ha hw hs).imp <| by
 rintro D σ H ⟨ρ,env,c,fl,bO,c',rs,re,e,k⟩
 obtain⟨p,e1,e⟩:=aE e
 split at e
 ·rename_i hl
  cases e
  refine⟨ρ,env,c,p.1,p.2,rs,re,e1,fun aF vs H1 n1 r1=>?_⟩
  obtain⟨ds,c2⟩:=p
  match ds,hl,r1 with
  |[d1,d2],_,r1=>
   obtain⟨v,u,rfl,ra,rb⟩:=r1.t8
   exact⟨v,u,rfl,k aF H1 n1 _ (((re.up n1.up).set ra).set rb)⟩
 ·cases e
theorem nR{i j l:Nat}{x y z:Str}{d0:Expr}{f:Qm.XA}{px py pz pt:Pos}{kt k2 mM}(hc:X.calm=true)(hN:X.N.Nodup)(hi:X.N[i]? =some x)(hj:X.N[j]? =some y)(hk:X.N[l]? =some z)(cX:i≠j)(JV:i≠l)(rm:j≠l)
  (hx:X.env.scope.names.lookup x=some .local)(hy:X.env.scope.names.lookup y=some .local)(hz:X.env.scope.names.lookup z=some .local)(ha:QA X [a,b,d0] f)
  (hw:swappedStores [.Tuple [.Name x px,.Name y py,.Name z pz] kt pt] (.Tuple [a,b,d0] k2 mM) X.env=pure (some [x,y,z]))
  (hs:swapsWithSole [.Tuple [.Name x px,.Name y py,.Name z pz] kt pt] (.Tuple [a,b,d0] k2 mM) pos.line X.env=pure false:=by rfl):
  QS X (.Assign [.Tuple [.Name x px,.Name y py,.Name z pz] kt pt] (.Tuple [a,b,d0] k2 mM) pos) (Qm.iW [i,j,l] f):=(C0 hc hN hi hj hk cX JV rm hx hy hz ha hw hs).imp <| by
 rintro D σ H ⟨ρ,env,c,fl,bO,c',rs,re,e,k⟩
 obtain⟨p,e1,e⟩:=aE e
 split at e
 ·rename_i hl
  cases e
  refine⟨ρ,env,c,p.1,p.2,rs,re,e1,fun aF vs H1 n1 r1=>?_⟩
  obtain⟨ds,c2⟩:=p
  match ds,hl,r1 with
  |[d1,d2,d3],_,.cons ra r2=>
   obtain⟨v,u,rfl,rb,rc⟩:=r2.t8
   exact⟨_,v,u,rfl,k aF H1 n1 _ ((((re.up n1.up).set ra).set rb).set rc)⟩
 ·cases e
theorem cf{i:Nat}{x:Str}(hN:X.N.Nodup)(hi:X.N[i]? =some x)(hx:Loc X.env.scope x)(hf:X.fn x=true∨X.env.scope.names.lookup x=some .local:=by first|exact .inl rfl|exact .inr rfl|assumption):QG X (.Name x pos) (Qm.aI i):=(wa hN hi hx hf).imp <| by
 rintro v σ H Q ⟨ρ,env,c,d,bO,c',rs,re,rd,e,k⟩
 cases e
 exact k ρ H _ (Nx.refl rs) (re.set rd)
theorem rJ:Ge X [] Qm.jv:=Ck.imp <| by
 rintro vs σ H Q ⟨ρ,env,c,ds,bO,c',rs,re,ra,e,k⟩
 unfold Qm.jv at e
 split at e
 ·cases e
  exact⟨ra.Iz,k ρ H σ (Nx.refl rs) re⟩
 ·cases e
theorem e8{Dh:Qm.tH}(h1:QG X e fg)(h2:Ge X es Dh)(hs:(assignEach (e::es) X.env).map (·.2)=assign e X.env::(assignEach es X.env).map (·.2):=by rfl):Ge X (e::es) (Qm.cE fg Dh):=(AV h1 h2 hs).imp <| by
 rintro vs σ H Q ⟨ρ,env,c,ds,bO,c',rs,re,ra,e,k⟩
 unfold Qm.cE at e
 split at e
 ·rename_i d t
  obtain⟨p,e1,e⟩:=aE e
  cases ra with
  |cons r1 r2=>
   exact⟨_,_,rfl,ρ,env,c,d,p.1,p.2,rs,re,r1,e1,fun aF H1 σ1 n1 nQ=>⟨aF,p.1,p.2,t,bO,c',n1.rs,nQ,r2.up n1.up,e,fun aM H' σ' n Kd=>k aM H' σ' (n1.trans n) Kd⟩⟩
 ·cases e
theorem uX{k0:Nat}{Dh:Qm.tH}{n:Nat}(hc:X.calm=true)(h:Ge X es Dh)(hn:(assignEach es X.env).length=n:=by rfl)(qE:(assignEach es X.env).findIdx? (·.1)=none:=by rfl):QG X (.Tuple es k0 pos) (Qm.jw n Dh):=(Fg hc h hn qE).imp <| by
 rintro v σ H Q ⟨ρ,env,c,d,bO,c',rs,re,rd,e,k⟩
 unfold Qm.jw at e
 split at e
 ·rename_i xs
  split at e
  ·rename_i hl
   obtain⟨p,vs,rfl,h1,a1⟩:=rd.nJ
   exact⟨p,vs,rfl,df.of h1,by rw[←a1.length];exact hl,ρ,env,c,xs,bO,c',rs,re,a1,e,k⟩
  ·cases e
 ·cases e
theorem Gk{o i:Expr}{fo fi:Qm.XE}(ho:QE X o fo)(hi:QE X i fi)
  (ha:∀v,assign (.Subscript o i pos) X.env v=(do
   let ov ←holding [v] (eval o X.env)
   let iv ←holding [v,ov] (eval i X.env)
   standAt pos
   holding [v,ov,iv] (setItem ov iv v)
   release [v,ov,iv] []):=by intro _;rfl):QG X (.Subscript o i pos) (Qm.zW fo fi):=(Fh ho hi set_list ha).imp <| by
 rintro v σ H Q ⟨ρ,env,c,d,bO,c',rs,re,rd,e,k⟩
 obtain⟨p,e1,e⟩:=aE e
 obtain⟨q,e2,e⟩:=aE e
 obtain⟨l,e3,e⟩:=aE e
 obtain⟨m,e4,e⟩:=aE e
 obtain⟨j,e5,e⟩:=aE e
 cases e
 refine⟨ρ,env,c,p.1,p.2,rs,re,e1,fun aF v1 H1 n1 r1=>⟨aF,env,p.2,q.1,q.2,n1.rs,re.up n1.up,e2,fun jR v2 H2 n2 r2=>?_⟩⟩
 rw[hG e4]at r2
 cases r2.dF
 obtain⟨_,hn,ws,rfl,h,a⟩:=n2.rs.bq (r1.up n2.up) e3
 have n:=Nx.put n2.rs hn (RA.set (rd.up (n1.trans n2).up) j a)
 refine⟨_,ws,m,j,rfl,rfl,h,by rw[←a.length];exact e5,?_⟩
 exact k jR _ σ (n1.trans (n2.trans n)) (re.up (n1.trans (n2.trans n)).up)
theorem Gm(h:QE X e fe):QI X tg e (Qm.qF fe):=(Fp h).imp <| by
 rintro σ H R ⟨ρ,env,c,m,c',rs,re,e,k⟩
 obtain⟨p,e1,e⟩:=aE e
 refine⟨ρ,env,c,p.1,p.2,rs,re,e1,fun aF v H1 n1 r1=>?_⟩
 split at e
 ·rename_i xs hx
  cases e
  rw[hx]at r1
  obtain⟨q,vs,rfl,h1,a1⟩:=r1.nJ
  refine⟨q,rfl,⟨vs,df.of h1⟩,k aF _ H1 n1 fun jR c2 H2 u2 yG _=>?_⟩
  have h2:=u2.ts _ _ h1
  have a2:=a1.up u2
  refine⟨fun i hi=>⟨vs,vs[i]'(by rw[←a1.length];exact hi),df.of h2,List.getElem?_eq_getElem _⟩,⟨vs,df.of h2,by rw[a1.length];exact Nat.le_refl _⟩,fun i d x H' hd hy=>?_⟩
  obtain⟨rfl,hy⟩:=hy
  obtain⟨v,hv,rv⟩:=a2.get hd
  have:=hy vs (df.of h2)
  rw[hv]at this;cases this
  exact⟨Nx.refl yG,rv⟩
 ·cases e
theorem mB{K:PySem.W.Frag}{ρ:Nat→Addr}{c:Qm.Cells}{H:Hp}(rs:RS K ρ c H){n:Nat}{z:Qm.Cell}{c0:Qm.Cells}{xs:List Qm.D}(h0:c0[n]? =some z)(h1:Qm.bS (.ref n) c0=some xs)(h:c[n]? =some z):∃vs,cD K H (ρ n) vs∧RA K ρ c.length H xs vs:=by
 have hn:n<c.length:=(List.getElem?_eq_some_iff.mp h).1
 have e:Qm.bS (.ref n) c=some xs:=by
  unfold Qm.bS at h1 ⊢
  dsimp only at h1 ⊢
  rw[h0]at h1;rw[h];exact h1
 obtain⟨vs,_,h2,h3⟩:=rs.C7 (.ref hn) e
 exact⟨vs,h2,h3⟩
theorem kG(h:QE X e fe):QI X tg e (Qm.fR fe):=(Cp h).imp <| by
 rintro σ H R ⟨ρ,env,c,m,c',rs,re,e,k⟩
 obtain⟨p,e1,e⟩:=aE e
 refine⟨ρ,env,c,p.1,p.2,rs,re,e1,fun aF v H1 n1 r1=>?_⟩
 split at e
 ·rename_i n hx
  obtain⟨z,e2,e⟩:=aE e
  obtain⟨xs,e3,e⟩:=aE e
  cases e
  rw[hx]at r1
  obtain⟨hv,hn⟩:=r1.t9
  subst hv
  obtain⟨vs,h1,a1⟩:=mB n1.rs e2 e3 e2
  refine⟨_,rfl,⟨vs,h1⟩,k aF _ H1 n1 fun jR c2 H2 u2 yG bz=>?_⟩
  obtain⟨ws,h2,a2⟩:=mB yG e2 e3 (bz (n,z) (by simp))
  rw[u2.agree n hn]at h2
  refine⟨fun i hi=>⟨ws,ws[i]'(by rw[←a2.length];exact hi),h2,List.getElem?_eq_getElem _⟩,⟨ws,h2,by rw[a2.length];exact Nat.le_refl _⟩,fun i d x H' hd hy=>?_⟩
  obtain⟨rfl,hy⟩:=hy
  obtain⟨v,hv,rv⟩:=a2.get hd
  have:=hy ws h2
  rw[hv]at this;cases this
  exact⟨Nx.refl yG,rv⟩
 ·cases e
theorem Di{lo:Int}{n i:Nat}{d:Qm.D}(h:(Qm.eg lo n)[i]? =some d):i<n∧d= .int (lo+i):=by
 unfold Qm.eg at h
 rw[List.getElem?_map]at h
 by_cases hi:i<n
 ·rw[List.getElem?_range hi]at h
  cases h
  exact⟨hi,rfl⟩
 ·rw[List.getElem?_eq_none_iff.mpr (by simpa using Nat.le_of_not_lt hi)]at h
  cases h
theorem zZ{K:PySem.W.Frag}{ρ:Nat→Addr}{N:Nat}{H:Hp}{lo:Int}{n:Nat}:C8 K ρ N H ⟨Qm.eg lo n,[]⟩ (Co lo n):=fun ρ c H u rs _=>by
 have hl:(Qm.eg lo n).length=n:=by simp[Qm.eg]
 refine⟨fun i hi=>by show i<n;rw[←hl];exact hi,by show n≤(Qm.eg lo n).length;omega,fun i d x H' hd hy=>?_⟩
 obtain⟨rfl,rfl⟩:=hy
 obtain⟨_,rfl⟩:=Di hd
 exact⟨Nx.refl rs,.int _⟩
theorem m4{f:Qm.XA}{p:Pos}(hg:Gl X "range")(hm:X.mg "range" =none)(ha:QA X [a] f)(hs:starEach [a] X.env=[(false,eval a X.env)]:=by rfl):QI X tg (.Call (.Name "range" p) [a] [] pos) (Qm.fB f):=(x_ hg hm ha hs).imp <| by
 rintro σ H R ⟨ρ,env,c,m,c',rs,re,e,k⟩
 obtain⟨p,e1,e⟩:=aE e
 refine⟨ρ,env,c,p.1,p.2,rs,re,e1,fun aF vs H1 n1 r1=>?_⟩
 split at e
 ·rename_i j hj
  split at e
  ·rename_i hb
   cases e
   rw[hj]at r1
   obtain⟨v,rfl,rv⟩:=r1.iX
   cases rv.dF
   exact⟨j,rfl,hb.1,hb.2,k aF _ H1 n1 zZ⟩
  ·cases e
 ·cases e
theorem rK{f:Qm.XA}{p:Pos}(hg:Gl X "range")(hm:X.mg "range" =none)(ha:QA X [a,b] f)(hs:starEach [a,b] X.env=[(false,eval a X.env),(false,eval b X.env)]:=by rfl)(md:starEach [b] X.env=[(false,eval b X.env)]:=by rfl):QI X tg (.Call (.Name "range" p) [a,b] [] pos) (Qm.jb f):=(ya hg hm ha hs md).imp <| by
 rintro σ H R ⟨ρ,env,c,m,c',rs,re,e,k⟩
 obtain⟨p,e1,e⟩:=aE e
 refine⟨ρ,env,c,p.1,p.2,rs,re,e1,fun aF vs H1 n1 r1=>?_⟩
 split at e
 ·rename_i i j hj
  split at e
  ·rename_i hb
   cases e
   rw[hj]at r1
   obtain⟨v,u,rfl,rv,ru⟩:=r1.t8
   cases rv.dF;cases ru.dF
   exact⟨i,j,rfl,⟨hb.1.1,hb.1.2,hb.2.1,hb.2.2⟩,k aF _ H1 n1 zZ⟩
  ·cases e
 ·cases e
theorem jT{body:List Stmt}{fi:Qm.XI}(hp:PassesOwn (model X.prog X.w) X.A X.env X.xe)(hc:X.calm=true)(hi:QI X tg e fi)(hg:QG X tg fg)(hb:qb X body fs)
  (hs:∀x,foldedSetIterable e X.env x=pure x:=by intro _;rfl):QS X (.For tg e body [] pos) (Qm.gu fi fg fs):=(Fq hp hc hi hg hb hs).imp <| by
 rintro D σ H ⟨ρ,env,c,fl,bO,c',rs,re,e,k⟩
 obtain⟨m,e1,e⟩:=aE e
 refine⟨ρ,env,c,m.1,m.2,rs,re,e1,fun yE J H0 n0 it=>?_⟩
 refine⟨fun i q σ' H'=>q=m.1.ds.length - i∧i≤m.1.ds.length∧∃aF dP c1,Nx X.K yE m.2 H0 aF c1 H'∧RE X.K aF c1.length H' dP σ'∧Qm.fZ m.1.ks fg fs (m.1.ds.drop i) dP c1=some (fl,bO,c'),⟨_,rfl,Nat.zero_le _,yE,env,m.2,Nx.refl n0.rs,re.up n0.up,e⟩,?_⟩
 rintro i q σ1 H1 ⟨rfl,hi,aF,dP,c1,n1,nQ,e1⟩
 by_cases du:i<m.1.ds.length
 ·rw[List.drop_eq_getElem_cons du]at e1
  unfold Qm.fZ at e1
  split at e1
  ·rename_i qE
   obtain⟨go,_,yl⟩:=it aF c1 H1 n1.up n1.rs qE
   obtain⟨p,e2,e1⟩:=aE e1
   obtain⟨q,e3,e1⟩:=aE e1
   refine .inr ⟨go i du,fun σ' H'=>i+1≤m.1.ds.length∧∃aF dP c1,Nx X.K yE m.2 H0 aF c1 H'∧RE X.K aF c1.length H' dP σ'∧Qm.fZ m.1.ks fg fs (m.1.ds.drop (i+1)) dP c1=some (fl,bO,c'),fun σ' H' h=>⟨m.1.ds.length - (i+1),by omega,rfl,h⟩,fun x H2 hy=>?_⟩
   obtain⟨n2,r2⟩:=yl i _ x H2 (List.getElem?_eq_getElem du) hy
   refine⟨aF,dP,c1,_,p.1,p.2,n2.rs,nQ.up n2.up,r2,e2,fun Gi H3 oH n3 Bi=>?_⟩
   obtain⟨f,rL,c4⟩:=q
   refine⟨Gi,p.1,p.2,f,rL,c4,n3.rs,Bi,e3,fun qd H4 n4=>?_⟩
   have nn:=n1.trans (n2.trans (n3.trans n4))
   cases f with
   |nx=>exact fun yH rM=>⟨du,qd,rL,c4,nn,rM,e1⟩
   |ct=>exact fun yH rM=>⟨du,qd,rL,c4,nn,rM,e1⟩
   |bk=>cases e1;exact fun yH rM=>k qd H4 (n0.trans nn) yH rM
   |rt d=>cases e1;exact fun v rv=>k qd H4 (n0.trans nn) v rv
  ·cases e1
 ·have wQ:i=m.1.ds.length:=by omega
  subst wQ
  rw[List.drop_length]at e1
  unfold Qm.fZ at e1
  split at e1
  ·rename_i qE
   obtain⟨_,stop,_⟩:=it aF c1 H1 n1.up n1.rs qE
   cases e1
   exact .inl ⟨stop,k aF H1 (n0.trans n1) σ1 nQ⟩
  ·cases e1
theorem lM{c0:Expr}{body:List Stmt}(hp:PassesOwn (model X.prog X.w) X.A X.env X.xe)(hc:QT X c0 ft)(hb:qb X body fs):QS X (.While c0 body [] pos) (Qm.cQ ft fs):=(AW hp hc hb).imp <| by
 rintro D σ H ⟨ρ,env,c,fl,bO,c',rs,re,e,k⟩
 obtain⟨n,e⟩:=Qm.rE e
 refine⟨fun q σ' H'=>∃aF dP c1,Nx X.K ρ c H aF c1 H'∧RE X.K aF c1.length H' dP σ'∧Qm.gv ft fs q dP c1=some (fl,bO,c'),⟨n,ρ,env,c,Nx.refl rs,re,e⟩,?_⟩
 rintro q σ1 H1 ⟨aF,dP,c1,n1,nQ,e1⟩
 cases q with
 |zero=>simp[Qm.gv]at e1
 |succ q=>
  simp only[Qm.gv]at e1
  obtain⟨p,e2,e1⟩:=aE e1
  refine⟨aF,dP,c1,p.1,p.2,n1.rs,nQ,e2,fun jR H2 n2=>?_⟩
  split at e1
  ·rename_i hi
   rw[if_pos hi]
   obtain⟨r,e3,e1⟩:=aE e1
   refine⟨fun σ' H'=>∃aF dP c1,Nx X.K ρ c H aF c1 H'∧RE X.K aF c1.length H' dP σ'∧Qm.gv ft fs q dP c1=some (fl,bO,c'),fun σ' H' h=>⟨q,Nat.lt_succ_self _,h⟩,?_⟩
   obtain⟨f,rL,c4⟩:=r
   refine⟨jR,dP,p.2,f,rL,c4,n2.rs,nQ.up n2.up,e3,fun qd H4 n4=>?_⟩
   have nn:=n1.trans (n2.trans n4)
   cases f with
   |nx=>exact fun yH rM=>⟨qd,rL,c4,nn,rM,e1⟩
   |ct=>exact fun yH rM=>⟨qd,rL,c4,nn,rM,e1⟩
   |bk=>cases e1;exact fun yH rM=>k qd H4 nn yH rM
   |rt d=>cases e1;exact fun v rv=>k qd H4 nn v rv
  ·rename_i hi
   rw[if_neg hi]
   cases e1
   exact k jR H2 (n1.trans n2) σ1 (nQ.up n2.up)
theorem gd:C9 X [] Qm.eF:=Ba.imp <| by
 rintro σ H Q ⟨ρ,env,c,b,c',rs,re,e,k⟩
 cases e
 exact k ρ H (Nx.refl rs)
theorem RE.pX{K:PySem.W.Frag}{ρ:Nat→Addr}{N:Nat}{H:Hp}{env:Qm.Env}{σ:St}(re:RE K ρ N H env σ)(cap:List (Option Nat)):RE K ρ N H (Qm.nH env cap) (pX σ cap):=by
 refine⟨by simp[Qm.nH,L2.pX],fun j d h=>?_⟩
 unfold Qm.nH at h
 unfold L2.pX
 rw[List.getElem?_map]at h ⊢
 cases e:cap[j]? with
 |none=>rw[e]at h;cases h
 |some o=>
  rw[e]at h
  cases o with
  |none=>simp at h
  |some i=>
   simp only[Option.map_some,Option.some.injEq]at h
   cases e2:env[i]? with
   |none=>rw[e2]at h;cases h
   |some w=>
    rw[e2]at h
    have h':w=some d:=h
    subst h'
    obtain⟨v,h1,h2⟩:=re.at_ i d e2
    refine⟨v,?_,h2⟩
    simp[h1]
theorem wR{K:PySem.W.Frag}{fi:Qm.XI}{cap:List (Option Nat)}{σ:St}{H:Hp}{Q:VK}(h:TQ K (Qm.cV fi cap fg ft fe) σ H Q):yx (IQ K fi) cap (GQ K fg) (BQ K ft) (TQ K fe) σ H Q:=by
 obtain⟨ρ,env,c,d,c',rs,re,e,k⟩:=h
 obtain⟨m,e1,e⟩:=aE e
 obtain⟨cz,e2,e⟩:=aE e
 cases e
 refine⟨ρ,env,c,m.1,m.2,rs,re,e1,fun yE J H0 n0 it l hl=>?_⟩
 obtain⟨na,ra⟩:=Nx.alloc n0.rs hl (ds:=[]) (vs:=[]) .nil
 generalize RZ:(fun n=>if n=m.2.length then l else yE n)=Dj at na ra
 have hL:Dj m.2.length=l:=by rw[←RZ];simp
 have hlen:(m.2++[Qm.Cell.lst []]).length=m.2.length+1:=by simp
 have fin:∀{aF:Nat→Addr}{c1:Qm.Cells}{H1:Hp},Nx K Dj (m.2++[.lst []]) (upd H0 l (.lst [])) aF c1 H1→aF m.2.length=l:=fun n=>by rw[n.up.agree _ (by rw[hlen];omega),hL]
 refine⟨fun i q τ H'=>q=m.1.ds.length - i∧i≤m.1.ds.length∧∃aF dP c1,Nx K Dj (m.2++[.lst []]) (upd H0 l (.lst [])) aF c1 H'∧RE K aF c1.length H' dP τ∧Qm.eh m.2.length m.1.ks fg ft fe (m.1.ds.drop i) dP c1=some c',
  ⟨_,rfl,Nat.zero_le _,Dj,_,_,Nx.refl na.rs,((re.up n0.up).up na.up).pX cap,e2⟩,?_⟩
 rintro i q τ H1 ⟨rfl,hi,aF,dP,c1,n1,nQ,e1⟩
 have NF:=it aF c1 H1 (na.up.trans n1.up) n1.rs
 by_cases du:i<m.1.ds.length
 ·rw[List.drop_eq_getElem_cons du]at e1
  unfold Qm.eh at e1
  split at e1
  ·rename_i qE
   obtain⟨go,_,yl⟩:=NF qE
   obtain⟨p,e2,e1⟩:=aE e1
   obtain⟨b,e3,e1⟩:=aE e1
   refine .inr ⟨go i du,fun τ H'=>i+1≤m.1.ds.length∧∃aF dP c1,Nx K Dj (m.2++[.lst []]) (upd H0 l (.lst [])) aF c1 H'∧RE K aF c1.length H' dP τ∧Qm.eh m.2.length m.1.ks fg ft fe (m.1.ds.drop (i+1)) dP c1=some c',fun σ' H' h=>⟨m.1.ds.length - (i+1),by omega,rfl,h⟩,fun x H2 hy=>?_⟩
   obtain⟨n2,r2⟩:=yl i _ x H2 (List.getElem?_eq_getElem du) hy
   refine⟨aF,dP,c1,_,p.1,p.2,n2.rs,nQ.up n2.up,r2,e2,fun Gi H3 oH n3 Bi=>?_⟩
   refine⟨Gi,p.1,p.2,b.1,b.2,n3.rs,Bi,e3,fun qd H4 n4=>?_⟩
   have nn:=n1.trans (n2.trans (n3.trans n4))
   split at e1
   ·rename_i hb
    dsimp only
    rw[if_pos hb]
    obtain⟨y,e4,e1⟩:=aE e1
    refine⟨qd,p.1,b.2,y.1,y.2,n4.rs,Bi.up n4.up,e4,fun R0 yv H5 n5 r5=>?_⟩
    have Dk:=nn.trans n5
    split at e1
    ·rename_i ys yI
     split at e1
     ·rename_i hz
      obtain⟨vs,h5,a5⟩:=Dk.rs.lst yI
      rw[fin Dk]at h5
      have n6:=Nx.put Dk.rs yI (a5.append (RA.one r5))
      rw[fin Dk]at n6
      refine⟨vs,h5,wM (by rw[←a5.length];exact hz),du,R0,p.1,_,Dk.trans n6,(Bi.up (n4.trans (n5.trans n6)).up),e1⟩
     ·cases e1
    ·cases e1
   ·rename_i hb
    dsimp only
    rw[if_neg hb]
    exact⟨du,qd,p.1,b.2,nn,Bi.up n4.up,e1⟩
  ·cases e1
 ·have wQ:i=m.1.ds.length:=by omega
  subst wQ
  rw[List.drop_length]at e1
  unfold Qm.eh at e1
  split at e1
  ·rename_i qE
   obtain⟨_,stop,_⟩:=NF qE
   cases e1
   refine .inl ⟨stop,k aF _ H1 (n0.trans (na.trans n1)) ?_⟩
   rw[←fin n1]
   exact .ref (Nat.lt_of_lt_of_le (by rw[hlen];omega) n1.up.len)
  ·cases e1
theorem wU{tg:Expr}{scope:Scope}{N':List Str}{cap:List (Option Nat)}{ifs:List Expr}{fi:Qm.XI}(B:mT X scope N' cap)(hc:X.calm=true)
  (hi:QI X tg b fi)(hg:∀C aY ck fp,QG (X.gG scope C N' aY ck fp) tg fg)(ht:∀C aY ck fp,C9 (X.gG scope C N' aY ck fp) ifs ft)(he:∀C aY ck fp,QE (X.gG scope C N' aY ck fp) e fe)
  (hs:∀x,foldedSetIterable b X.env x=pure x:=by intro _;rfl):
  QE X (.ListComp e [⟨tg,b,ifs,0⟩] scope pos) (Qm.cV fi cap fg ft fe):=(CY B hc hi hg ht he hs).imp fun _ _ _ h=>wR h
theorem nS{i:Nat}{tg:Expr}{y:Str}{py wJ:Pos}{scope:Scope}{N':List Str}{cap:List (Option Nat)}{ifs:List Expr}{fi:Qm.XI}(B:mT X scope N' cap)(hc:X.calm=true)
  (hi:QI X tg b fi)(hg:∀C aY ck fp,QG (X.gG scope C N' aY ck fp) tg fg)(ht:∀C aY ck fp,C9 (X.gG scope C N' aY ck fp) ifs ft)(he:∀C aY ck fp,QE (X.gG scope C N' aY ck fp) e fe)
  (hN:X.N.Nodup)(JS:X.N[i]? =some y)(hy:Loc X.env.scope y)(JT:swapsWith (.ListComp e [⟨tg,b,ifs,0⟩] scope pos) (some (.Name y py)) wJ.line X.env=pure true)
  (hf:X.fn y=true∨X.env.scope.names.lookup y=some .local:=by first|exact .inl rfl|exact .inr rfl|assumption)
  (hs:∀x,foldedSetIterable b X.env x=pure x:=by intro _;rfl):
  QS X (.Assign [.Name y py] (.ListComp e [⟨tg,b,ifs,0⟩] scope pos) wJ) (Qm.aK i (Qm.cV fi cap fg ft fe)):=(CZ B hc hi hg ht he hN JS hy JT hf hs).imp <| by
 rintro D σ H ⟨ρ,env,c,fl,bO,c',rs,re,e,k⟩
 obtain⟨p,e1,e⟩:=aE e
 cases e
 exact wR ⟨ρ,env,c,p.1,p.2,rs,re,e1,fun aF v H1 n1 r1=>k aF H1 n1 _ ((re.up n1.up).set r1)⟩
theorem e_{K:PySem.W.Frag}{n:Nat}{N:List Str}{B:Qm.XS}{vs:List V}{H:Hp}{Q:VK}{E:XK}(hn:n≤N.length)(h:ei K (Qm.gw n N.length B) vs H Q E):vs.length=n∧SQ K B { nx:=fun _ H'=>Q .bL H',rt:=Q } (start N vs) H:=by
 obtain⟨ρ,c,ds,d,c',rs,ra,e,k⟩:=h
 unfold Qm.gw at e
 split at e
 ·rename_i hl
  obtain⟨p,e1,e⟩:=aE e
  obtain⟨f,bO,c2⟩:=p
  have hv:vs.length=n:=by rw[←ra.length];exact hl
  refine⟨hv,ρ,_,c,f,bO,c2,rs,⟨?_,fun i d hd=>?_⟩,e1,fun aM H' nx=>?_⟩
  ·simp[start,hl,hv]
  ·have hi:i<ds.length:=by
    by_cases hi:i<ds.length
    ·exact hi
    ·exfalso
     rw[List.getElem?_append_right (by simp;omega)]at hd
     have:=List.mem_of_getElem? hd
     have:=List.eq_of_mem_replicate this
     cases this
   rw[List.getElem?_append_left (by simpa using hi),List.getElem?_map]at hd
   cases e:ds[i]? with
   |none=>rw[e]at hd;cases hd
   |some d'=>
    rw[e]at hd
    cases hd
    obtain⟨v,h1,h2⟩:=ra.get e
    refine⟨v,?_,h2⟩
    unfold start
    rw[List.getElem?_append_left (by have:=ra.length;simp;omega),List.getElem?_map,h1]
    rfl
  ·cases f with
   |nx=>cases e;exact fun σ' _=>k aM .bL H' nx .bL
   |rt d=>cases e;exact fun v rv=>k aM v H' nx rv
   |bk=>cases e
   |ct=>cases e
 ·cases e
end
section
variable{P:Program}{w:World}{K:PySem.W.Frag}{mg:Str→Option Value}{base:Heap}
theorem gZ.jD{x qual:Str}{st:Stmt}{f:Addr}{fd:FuncData}{N ps:List Str}{k n m:Nat}{B:Qm.XS}{FF:Qm.FN}(F:gZ K x qual st f fd)(S:bp N ps (ao st))(hn:ps.length=n)(hm:N.length=m)(hN:n≤m)(hF:FF=Qm.gw n m B)
  (eS:∀(bP:Value) (A:Around) (outer:List Env) (s:Shared) (H:Hp) (E:XK),cS k (A.deeper (envOfC qual (ao st) s.heap.objs.size f bP))→
   qb (gR cF P w K mg base N qual (ao st) f bP A outer s H E).qD (aL st) B):bY P w K mg base cF (k+1) f fd ps (ei K FF):=by
 subst hm hF
 exact F.ok S (fun vs H Q E h=>by rw[(e_ hN h).1,hn]) fun bP A outer s H vs Q E hr h=>⟨_,eS bP A outer s H E hr,(e_ hN h).2⟩
theorem t6.jD{x qual:Str}{st:Stmt}{f:Addr}{fd:FuncData}{N ps:List Str}{k n m:Nat}{B:Qm.XS}{FF:Qm.FN}(F:t6 K x qual st f fd)(S:bp N ps (ao st))(hn:ps.length=n)(hm:N.length=m)(hN:n≤m)(hF:FF=Qm.gw n m B)
  (eS:∀(bP:Value) (A:Around) (outer:List Env) (s:Shared) (H:Hp) (E:XK),cS k (A.deeper (envOfC qual (ao st) s.heap.objs.size f bP))→
   qb (gR cF P w K mg base N qual (ao st) f bP A outer s H E).qD (aL st) B):bY P w K mg base cF (k+1) f fd ps (ei K FF):=by
 subst hm hF
 exact F.ok S (fun vs H Q E h=>by rw[(e_ hN h).1,hn]) fun bP A outer s H vs Q E hr h=>⟨_,eS bP A outer s H E hr,(e_ hN h).2⟩
end
end L2
namespace L2
open PySem PySem.Spec PyProof.Rows
section
variable{prog:Program}{w:World}{A:Around}{E:Value→Shared→Prop}{s:Shared}
def NG(h:Heap)(z TI TO:Addr)(f0 f1:Value):Prop:=h.get? z=some { cls:=.type "zip",dict:=none,data:=.fields #[f0,f1,.bool false,.ref TI,.ref TO],slots:=#[] }
def uY(h:Heap)(T:Addr)(a b:Value):Prop:=h.get? T=some { cls:=.type "tuple",data:=.seq #[a,b] }
structure Gn(z TI TO i1 i2 t1 t2:Addr):Prop where
 nd: [z,TI,TO,i1,i2].Nodup
 n1:t1∉[z,TI,TO,i1,i2]
 n2:t2∉[z,TI,TO,i1,i2]
def Ke(h:Heap)(f0:Value):Prop:=f0= .none∨∃T o,f0=rawInt (T:Addr)∧h.get? T=some o
structure Dl(h:Heap)(z TI TO i1 i2 t1 t2:Addr)(xs ys:Array Value)(k:Nat):Prop where
 ap:Gn z TI TO i1 i2 t1 t2
 rc:∃f0 b1,NG h z TI TO f0 (.bool b1)∧Ke h f0
 ti:uY h TI (.ref i1) (.ref i2)
 to:∃a b,uY h TO a b
 j1:h.IsTupleIter i1 t1 k
 j2:h.IsTupleIter i2 t2 k
 l1:h.IsTuple t1 xs
 l2:h.IsTuple t2 ys
theorem Dl.type{z TI TO i1 i2 t1 t2:Addr}{xs ys:Array Value}{k:Nat}(Z:Dl s.heap z TI TO i1 i2 t1 t2 xs ys k):s.TypeIs (.ref z) "zip":=by
 obtain⟨f0,b1,h,_⟩:=Z.rc
 exact⟨_,h,rfl⟩
end
end L2
namespace L2
open PySem PySem.Spec PyProof.Rows
section
variable{prog:Program}{w:World}{A:Around}{E:Value→Shared→Prop}{s:Shared}
theorem Dl.at{h h':Heap}{z TI TO i1 i2 t1 t2:Addr}{xs ys:Array Value}{k:Nat}(Z:Dl h z TI TO i1 i2 t1 t2 xs ys k)(up:∀c,c∈[z,TI,TO,i1,i2,t1,t2]→∀o,h.get? c=some o→h'.get? c=some o)(al:∀c o,h.get? c=some o→∃o',h'.get? c=some o'):Dl h' z TI TO i1 i2 t1 t2 xs ys k:=by
 obtain⟨D,⟨f0,b1,hz,hf⟩,gI,⟨a,b,gO⟩,j1,j2,l1,l2⟩:=Z
 refine⟨D,⟨f0,b1,up _ (by simp) _ hz,?_⟩,up _ (by simp) _ gI,⟨a,b,up _ (by simp) _ gO⟩,j1.at fun o e=>up _ (by simp) o e,j2.at fun o e=>up _ (by simp) o e,l1.at fun o e=>up _ (by simp) o e,l2.at fun o e=>up _ (by simp) o e⟩
 rcases hf with e|⟨T,o,e,g⟩
 ·exact .inl e
 ·obtain⟨o',g'⟩:=al _ _ g
  exact .inr ⟨T,o',e,g'⟩
end
end L2
namespace L2
open PySem PySem.Spec PyProof.Rows
structure IC(h:Heap)(b0:Nat)(xs ys:Array Value)(Ts:List Addr)(k:Nat):Prop where
 len:Ts.length=k
 nd:Ts.Nodup
 new:∀T∈Ts,b0≤T∧T<h.objs.size
 at_:∀(i:Nat) (T:Addr),Ts[i]? =some T→∃x y,xs[i]? =some x∧ys[i]? =some y∧uY h T x y
theorem IC.nil{h:Heap}{b0:Nat}{xs ys:Array Value}:IC h b0 xs ys [] 0:=⟨rfl,List.nodup_nil,fun _ h=>(nomatch h),fun i T h=>by simp at h⟩
section
variable{prog:Program}{w:World}{A:Around}{s:Shared}{R:Result→Shared→Prop}
end
section
variable{prog:Program}{w:World}{A:Around}{E:Value→Shared→Prop}{s:Shared}
end
end L2
namespace L2
open PySem PySem.Spec PyProof.Rows
section
variable{X:Cx}{pins:List (Addr×Obj)}{σ:St}{H H':Hp}{s:Shared}{h':Heap}
end
section
variable{X:Cx}
end
end L2
namespace L2
open PySem PySem.Spec PyProof.Rows
section
variable{X:Cx}{e1 e2:Expr}{p0 p1 p2 pos:Pos}{f:Qm.XA}
theorem RA.zip{K:PySem.W.Frag}{ρ:Nat→Addr}{N:Nat}{H:Hp}:∀{xs ys:List Qm.D}{vs us:List V}{Ts:List Addr},RA K ρ N H xs vs→RA K ρ N H ys us→Ts.length=min vs.length us.length→(∀(i:Nat) (T:Addr) (x y:V),Ts[i]? =some T→vs[i]? =some x→us[i]? =some y→H T=some (.tup [x,y]))→RA K ρ N H (Qm.Nv xs ys) (Ts.map V.ref)
 |[],_,_,_,Ts,.nil,_,hl,_=>by
  have:Ts=[]:=List.length_eq_zero_iff.mp (by simpa using hl)
  subst this
  exact .nil
 |_::_,[],_,_,Ts,.cons _ _,.nil,hl,_=>by
  have:Ts=[]:=List.length_eq_zero_iff.mp (by simpa using hl)
  subst this
  exact .nil
 |x::xs,y::ys,v::vs,u::us,Ts,.cons r1 a1,.cons r2 a2,hl,h=>by
  cases Ts with
  |nil=>simp at hl
  |cons T Ts=>
   refine .cons (.tup (h 0 T v u rfl rfl rfl) (.cons r1 (.cons r2 .nil))) (RA.zip a1 a2 (by simp at hl ⊢;omega) fun i T' x y h1 h2 h3=>h (i+1) T' x y (by simpa using h1) (by simpa using h2) (by simpa using h3))
end
end L2
namespace L2
open PySem PySem.Spec PyProof.Rows
end L2
namespace L2
open PySem PySem.Spec PyProof.Rows
section
variable{prog:Program}{w:World}{A:Around}{E:Value→Shared→Prop}{s:Shared}
def Dm(h:Heap)(a t:Addr)(i:Int):Prop:=∃o,h.get? a=some o∧o.cls= .type "reversed"∧o.data= .fields #[.ref t,rawInt i]
theorem Dm.at{h h':Heap}{a t:Addr}{i:Int}(x:Dm h a t i)(e:∀o,h.get? a=some o→h'.get? a=some o):Dm h' a t i:=let ⟨o,ho,r⟩:=x;⟨o,e _ ho,r⟩
end
end L2
namespace L2
open PySem PySem.Spec PyProof.Rows
section
variable{prog:Program}{w:World}{A:Around}{E:Value→Shared→Prop}{s:Shared}{I:Addr}{fp wr:List Addr}{G:Array GenState→Array GenState→Prop}{n:Nat}{P:Nat→Value→Prop}{St:Nat→Shared→Prop}
end
end L2
namespace L2
open PySem PySem.Spec PyProof.Rows
section
variable{prog:Program}{w:World}{A:Around}{E:Value→Shared→Prop}{s:Shared}{I:Addr}{fp wr:List Addr}{G:Array GenState→Array GenState→Prop}{P:Nat→Value→Prop}{St:Nat→Shared→Prop}
end
section
variable{X:Cx}
end
end L2
namespace Qm
open PySem
def Kf:FN:=fun ds c=>match ds with
 |[.tup xs]=>if xs.isEmpty=true then none else some (.tup xs.reverse,c)
 |_=>none
def U6(a:XE):XI:=fun σ c=>match a σ c with
 |some (.tup _,_)=>qF a σ c
 |_=>fR a σ c
end Qm
namespace L2
open PySem PySem.Spec PyProof.Rows
section
variable{X:Cx}{e1:Expr}{p0 p1 p2 pos:Pos}{f:Qm.XA}
end
end L2
namespace L2
open PySem PySem.Spec PyProof.Rows
mutual
def nb:PyData→Bool
 |.none=>true
 |.int _=>true
 |.str _=>true
 |.tuple ds=>rN ds
 |.list ds=>rN ds
 |_=>false
def rN:List PyData→Bool
 |[]=>true
 |d::ds=>nb d&&rN ds
end
section
variable{K:PySem.W.Frag}{ρ:Nat→Addr}{c:Qm.Cells}{H:Hp}
theorem qo{k:Nat}(rs:RS K ρ c H)(ih:∀{x:Qm.D}{v:V}{d:PyData},RD K ρ c.length H x v→Qm.data c k x=some d→g_ K H v d∧PyData.canLay0 d=true∧d.depth≤k∧nb d=true):
  ∀{xs:List Qm.D}{vs:List V}{ds:List PyData},RA K ρ c.length H xs vs→Qm.omap (Qm.data c k) xs=some ds→mh K H vs ds∧PyData.canLayAll0 ds=true∧PyData.depthAll ds≤k∧rN ds=true
 |[],_,ds,a,h=>by
  cases a
  cases h
  exact⟨.nil,rfl,Nat.zero_le _,rfl⟩
 |x::xs,_,ds,a,h=>by
  cases a with
  |cons r a=>
   obtain⟨d,h1,h⟩:=aE h
   obtain⟨es,h2,h⟩:=aE h
   cases h
   obtain⟨a1,a2,a3,a4⟩:=ih r h1
   obtain⟨b1,b2,b3,b4⟩:=qo rs ih a h2
   exact⟨.cons a1 b1,by simp[PyData.canLayAll0,a2,b2],by simp only[PyData.depthAll];omega,by simp[rN,a4,b4]⟩
theorem hV(rs:RS K ρ c H):∀(k:Nat) {x:Qm.D}{v:V}{d:PyData},RD K ρ c.length H x v→Qm.data c k x=some d→g_ K H v d∧PyData.canLay0 d=true∧d.depth≤k∧nb d=true
 |0,_,_,_,_,h=>by simp[Qm.data]at h
 |k+1,x,v,d,r,h=>by
  have A:∀{xs:List Qm.D}{vs:List V}{ds:List PyData},RA K ρ c.length H xs vs→Qm.omap (Qm.data c k) xs=some ds→mh K H vs ds∧PyData.canLayAll0 ds=true∧PyData.depthAll ds≤k∧rN ds=true:=fun {xs vs ds}=>qo (k:=k) rs (fun r h=>hV rs k r h)
  cases x with
  |bL=>simp[Qm.data]at h;subst h;cases r.Ny;exact⟨.bL,rfl,Nat.zero_le _,rfl⟩
  |int i=>simp[Qm.data]at h;subst h;cases r.dF;exact⟨.int i,rfl,Nat.zero_le _,rfl⟩
  |bl b=>simp[Qm.data]at h
  |str b=>
   simp only[Qm.data]at h
   split at h
   ·rename_i hb
    cases h
    cases r
    exact⟨.str b,hb,Nat.zero_le _,rfl⟩
   ·cases h
  |ty b=>simp[Qm.data]at h
  |adr b=>simp[Qm.data]at h
  |cU t bs=>simp[Qm.data]at h
  |tup xs=>
   simp only[Qm.data]at h
   obtain⟨ds,h1,h⟩:=aE h
   cases h
   obtain⟨p,vs,rfl,g,a⟩:=r.nJ
   obtain⟨a1,a2,a3,a4⟩:=A a h1
   exact⟨.tup (df.of g) a1,by simpa[PyData.canLay0]using a2,by simp only[PyData.depth];omega,by simpa[nb]using a4⟩
  |ref n=>
   simp only[Qm.data]at h
   have hs:∀{xs:List Qm.D},Qm.bS (.ref n) c=some xs→(Qm.omap (Qm.data c k) xs).bind (fun ds=>some (PyData.list ds))=some d→g_ K H v d∧PyData.canLay0 d=true∧d.depth≤k+1∧nb d=true:=fun {xs} e h=>by
    obtain⟨ds,h1,h⟩:=aE h
    cases h
    obtain⟨vs,rfl,g,a⟩:=rs.C7 r e
    obtain⟨a1,a2,a3,a4⟩:=A a h1
    exact⟨.lst g a1,by simpa[PyData.canLay0]using a2,by simp only[PyData.depth];omega,by simpa[nb]using a4⟩
   cases e:c[n]? with
   |none=>rw[e]at h;cases h
   |some z=>
    rw[e]at h
    cases z with
    |lst xs=>exact hs (by simp[Qm.bS,e]) h
    |ro xs=>exact hs (by simp[Qm.bS,e]) h
    |yy xs=>cases h
    |yz xs=>cases h
    |Bc xs=>cases h
    |Be xs=>cases h
    |rq xs=>cases h
    |exc C S xs=>cases h
    |tab cd q=>cases h
end
mutual
theorem iF:∀(d e:PyData),nb d=true→nb e=true→(PyData.eqv d e=true↔d=e)
 |.none,e,_,he=>by cases e<;>simp_all [PyData.eqv,nb]
 |.int i,e,_,he=>by cases e<;>simp_all [PyData.eqv,nb]
 |.tuple ds,e,hd,he=>by
  cases e<;>simp_all [PyData.eqv,nb]
  exact oO _ _ hd he
 |.list ds,e,hd,he=>by
  cases e<;>simp_all [PyData.eqv,nb]
  exact oO _ _ hd he
 |.bool _,_,h,_=>by simp[nb]at h
 |.str a,e,_,he=>by cases e<;>simp_all [PyData.eqv,nb]
 |.dict _,_,h,_=>by simp[nb]at h
theorem oO:∀(ds es:List PyData),rN ds=true→rN es=true→(PyData.eqvAll ds es=true↔ds=es)
 |[],[],_,_=>by simp[PyData.eqvAll]
 |[],_::_,_,_=>by simp[PyData.eqvAll]
 |_::_,[],_,_=>by simp[PyData.eqvAll]
 |d::ds,e::es,hd,he=>by
  simp only[rN,Bool.and_eq_true]at hd he
  simp only[PyData.eqvAll,Bool.and_eq_true,List.cons.injEq]
  rw[iF d e hd.1 he.1,oO ds es hd.2 he.2]
end
section
variable{X:Cx}
theorem z8{x y:Qm.D}{c:Qm.Cells}{b:Bool}(h:Qm.uR x y c=some b):(∃p q,x= .bl p∧y= .bl q∧b=(p==q))∨∃d e,Qm.data c 6 x=some d∧Qm.data c 6 y=some e∧(b=true↔d=e):=by
 unfold Qm.uR at h
 split at h
 ·cases h;exact .inl ⟨_,_,rfl,rfl,rfl⟩
 ·obtain⟨d,h1,h⟩:=aE h
  obtain⟨e,h2,h⟩:=aE h
  cases h
  exact .inr ⟨d,e,h1,h2,by simp⟩
theorem wV{K:PySem.W.Frag}{ρ:Nat→Addr}{c:Qm.Cells}{H:Hp}{x y:Qm.D}{v u:V}{d e:PyData}{b:Bool}(rs:RS K ρ c H)(rx:RD K ρ c.length H x v)(ry:RD K ρ c.length H y u)(h1:Qm.data c 6 x=some d)(h2:Qm.data c 6 y=some e)(hb:b=true↔d=e):
  g_ K H v d∧g_ K H u e∧SeqAt.shaped d=true∧SeqAt.shaped e=true∧PyData.eqv d e=b:=by
 obtain⟨a1,a2,a3,a4⟩:=hV rs 6 rx h1
 obtain⟨b1,b2,b3,b4⟩:=hV rs 6 ry h2
 refine⟨a1,b1,by simp[SeqAt.shaped,a2];omega,by simp[SeqAt.shaped,b2];omega,?_⟩
 have:=iF d e a4 b4
 cases b with
 |true=>exact this.mpr (hb.mp rfl)
 |false=>
  cases q:PyData.eqv d e with
  |false=>rfl
  |true=>exact absurd (hb.mpr (this.mp q)) (by decide)
theorem dQ(hu:X.A.units+64<cLine):eR X (compareOp .Eq) (fun x y H Q=>Fw x y H Q∨pL X.K false x y H Q):=Js.or (F_ hu)
theorem gp(hu:X.A.units+64<cLine):eR X (compareOp .NotEq) (fun x y H Q=>Fx x y H Q∨pL X.K true x y H Q):=Jt.or (Ga hu)
theorem gK{K:PySem.W.Frag}:je K (fun x y H Q=>Fw x y H Q∨pL K false x y H Q) Qm.iE:=by
 intro ρ c H x y d c' v u Q rs rx ry e k
 obtain⟨b,e1,e⟩:=aE e
 cases e
 rcases z8 e1 with⟨p,q,rfl,rfl,rfl⟩|⟨dd,ee,h1,h2,hb⟩
 ·cases rx.qa;cases ry.qa
  exact .inl ⟨rfl,by rw[qg];exact k ρ _ H (Nx.refl rs) (.bl _)⟩
 ·obtain⟨a1,a2,a3,a4,a5⟩:=wV rs rx ry h1 h2 hb
  refine .inr ⟨dd,ee,a1,a2,a3,a4,?_⟩
  rw[if_neg (by decide),a5]
  exact k ρ _ H (Nx.refl rs) (.bl _)
theorem kH{K:PySem.W.Frag}:je K (fun x y H Q=>Fx x y H Q∨pL K true x y H Q) Qm.fQ:=by
 intro ρ c H x y d c' v u Q rs rx ry e k
 obtain⟨b,e1,e⟩:=aE e
 cases e
 rcases z8 e1 with⟨p,q,rfl,rfl,rfl⟩|⟨dd,ee,h1,h2,hb⟩
 ·cases rx.qa;cases ry.qa
  exact .inl ⟨rfl,by rw[qg];exact k ρ _ H (Nx.refl rs) (.bl _)⟩
 ·obtain⟨a1,a2,a3,a4,a5⟩:=wV rs rx ry h1 h2 hb
  refine .inr ⟨dd,ee,a1,a2,a3,a4,?_⟩
  rw[if_pos rfl,a5]
  exact k ρ _ H (Nx.refl rs) (.bl _)
theorem kit_is(K:PySem.W.Frag):PySem.W.kitOne K (.type "int") (.type "int")=some true∧PySem.W.kitOne K (.type "int") (.type "bool")=some false∧PySem.W.kitOne K (.type "bool") (.type "bool")=some true∧PySem.W.kitOne K (.type "bool") (.type "int")=some true∧PySem.W.kitOne K (.type "tuple") (.type "tuple")=some true∧PySem.W.kitOne K (.type "list") (.type "list")=some true:=
 ⟨by with_unfolding_all rfl,by with_unfolding_all rfl,by with_unfolding_all rfl,by with_unfolding_all rfl,by with_unfolding_all rfl,by with_unfolding_all rfl⟩
theorem iG{K:PySem.W.Frag}:qc K (fun xs H Q=>∃x n t k,xs=[x,.ty n]∧iT K H x t∧PySem.W.kitOne K t (.type n)=some k∧Q (.bl k) H) Qm.cM:=by
 intro ρ c H ds d c' vs Q rs ra e k
 obtain⟨x,y,rfl,e'⟩:=Gj e
 obtain⟨v,u,rfl,rx,ry⟩:=ra.t8
 obtain⟨k1,k2,k3,k4,k5,k6⟩:=kit_is K
 split at e'
 ·rename_i n
  obtain⟨b,e1,e2⟩:=aE e'
  cases e2
  have hu:u= .ty n:=by cases ry;rfl
  subst hu
  unfold Qm.qj at e1
  split at e1
  ·cases rx.dF
   split at e1
   ·rename_i hn;cases e1;subst hn;exact⟨_,_,_,_,rfl,.int _,k1,k ρ _ H (Nx.refl rs) (.bl _)⟩
   ·split at e1
    ·rename_i hn;cases e1;subst hn;exact⟨_,_,_,_,rfl,.int _,k2,k ρ _ H (Nx.refl rs) (.bl _)⟩
    ·cases e1
  ·cases rx.qa
   split at e1
   ·rename_i hn;cases e1;subst hn;exact⟨_,_,_,_,rfl,.bl _,k3,k ρ _ H (Nx.refl rs) (.bl _)⟩
   ·cases e1
  ·obtain⟨p,ws,rfl,g,_⟩:=rx.nJ
   split at e1
   ·rename_i hn;cases e1;subst hn;exact⟨_,_,_,_,rfl,.tup g,k5,k ρ _ H (Nx.refl rs) (.bl _)⟩
   ·cases e1
  ·rename_i m
   obtain⟨rfl,_⟩:=rx.t9
   split at e1
   ·rename_i ws hw
    obtain⟨us,g,_⟩:=rs.lst hw
    split at e1
    ·rename_i hn;cases e1;subst hn;exact⟨_,_,_,_,rfl,.lst g,k6,k ρ _ H (Nx.refl rs) (.bl _)⟩
    ·cases e1
   ·cases e1
  ·cases e1
 ·cases e'
end
end L2
namespace L2
open PySem PySem.Spec PyProof.Rows
section
variable{X:Cx}
def ID(K:PySem.W.Frag)(neg:Bool):R2:=fun x y H Q=>∃(p:Addr) (xs:List V) (d:PyData) (ds:List PyData),y= .ref p∧(cD K H p xs∨df K H p xs)∧g_ K H x d∧mh K H xs ds∧SeqAt.shaped d=true∧d.depth≤8∧(∀e∈ds,PyData.canLay0 e=true)∧Q (.bl (if neg then !(ds.any fun e=>PyData.eqv e d)else ds.any fun e=>PyData.eqv e d)) H
theorem uZ{pins:List (Addr×Obj)}{σ:St}{H:Hp}{s:Shared}{x:V}{xs:List V}{v:Value}{its:List Value}{d:PyData}{ds:List PyData}(hu:X.A.units+64<cLine)(I:Inv X pins σ H s)(rx:RelV x v)(hv:Vals xs its)(hx:g_ X.K H x d)(m6:mh X.K H xs ds)(sd:SeqAt.shaped d=true)(dd:d.depth≤8)(u9:∀e∈ds,PyData.canLay0 e=true):
  (∀y∈its.toArray,SeqAt.EqAt X.A.in1 s y v (nE s.heap d y))∧its.toArray.any (nE s.heap d)=ds.any fun e=>PyData.eqv e d:=by
 obtain⟨as,ra⟩:=hx.reads I rx
 obtain⟨bs,rb⟩:=m6.reads I hv
 have ea:its.any (nE s.heap d)=ds.any fun e=>PyData.eqv e d:=mz rb fun u' d' pY _ hd r'=>rn (u9 d' hd) r'
 refine⟨fun y' qw=>?_,by simpa using ea⟩
 have hm:y'∈its:=by simpa using qw
 obtain⟨d',hd,pY,r'⟩:=readsAll_mem rb y' hm
 rw[rn (u9 d' hd) r']
 refine SeqAt.eqAt_reads d' d _ _ _ _ _ _ r' ra (u9 d' hd) (SeqAt.canLay_of_shaped sd) ?_
 have h1:min d'.depth d.depth≤d.depth:=Nat.min_le_right _ _
 have h2:X.A.in1.units≤X.A.units+1:=by simp[Around.in1,Around.units]
 show X.A.in1.units+_<cLine
 omega
theorem yJ(hu:X.A.units+64<cLine):eR X (compareOp .NotIn) (ID X.K true):=by
 intro pins s σ H x y v u Q I rx ry h
 obtain⟨p,xs,d,ds,rfl,hp,hx,m6,sd,dd,u9,q⟩:=h
 cases (show u=Value.ref p from ry)
 rcases hp with hp|hp
 ·obtain⟨its,hv,pl,_⟩:=I.list hp
  obtain⟨h1,h2⟩:=uZ hu I rx hv hx m6 sd dd u9
  refine SeqAt.notIn_listAt (nE s.heap d) pl.isList h1 ⟨.bl _,H,I,rfl,?_⟩
  rw[h2];exact q
 ·obtain⟨its,hv,pl,_⟩:=I.tuple hp
  obtain⟨h1,h2⟩:=uZ hu I rx hv hx m6 sd dd u9
  refine SeqAt.notIn_tupleAt (nE s.heap d) pl h1 ⟨.bl _,H,I,rfl,?_⟩
  rw[h2];exact q
theorem kI:∀{ds:List PyData},PyData.canLayAll0 ds=true→∀e∈ds,PyData.canLay0 e=true
 |[],_,e,he=>nomatch he
 |d::ds,h,e,he=>by
  simp only[PyData.canLayAll0,Bool.and_eq_true]at h
  rcases List.mem_cons.mp he with rfl|he
  ·exact h.1
  ·exact kI h.2 e he
theorem rO:∀{ds:List PyData},rN ds=true→∀e∈ds,nb e=true
 |[],_,e,he=>nomatch he
 |d::ds,h,e,he=>by
  simp only[rN,Bool.and_eq_true]at h
  rcases List.mem_cons.mp he with rfl|he
  ·exact h.1
  ·exact rO h.2 e he
theorem Gp{K:PySem.W.Frag}{ρ:Nat→Addr}{c:Qm.Cells}{H:Hp}{x y:Qm.D}{v u:V}{b:Bool}(rs:RS K ρ c H)(rx:RD K ρ c.length H x v)(ry:RD K ρ c.length H y u)(h:Qm.J1 x y c=some b):
  ∃(p:Addr) (xs:List V) (d:PyData) (ds:List PyData),u= .ref p∧(cD K H p xs∨df K H p xs)∧g_ K H v d∧mh K H xs ds∧SeqAt.shaped d=true∧d.depth≤8∧(∀e∈ds,PyData.canLay0 e=true)∧(ds.any fun e=>PyData.eqv e d)=b:=by
 obtain⟨xs,h1,h⟩:=aE h
 obtain⟨d,h2,h⟩:=aE h
 obtain⟨ds,h3,h⟩:=aE h
 cases h
 obtain⟨p,vs,rfl,hp,a⟩:=rs.seq ry h1
 obtain⟨a1,a2,a3,a4⟩:=hV rs 5 rx h2
 obtain⟨b1,b2,b3,b4⟩:=qo (k:=5) rs (fun r h=>hV rs 5 r h) a h3
 refine⟨p,vs,d,ds,rfl,hp.imp id df.of,a1,b1,by simp[SeqAt.shaped,a2];omega,by omega,kI b2,?_⟩
 rw[Bool.eq_iff_iff]
 simp only[List.any_eq_true,decide_eq_true_eq]
 constructor
 ·rintro⟨e,he,q⟩
  rw[iF e d (rO b4 e he) a4]at q
  exact q ▸ he
 ·intro hd
  exact⟨d,hd,(iF d d a4 a4).mpr rfl⟩
theorem Bj{K:PySem.W.Frag}:je K (ID K true) Qm.nI:=by
 intro ρ c H x y d c' v u Q rs rx ry e k
 obtain⟨b,e1,e⟩:=aE e
 cases e
 obtain⟨p,xs,dd,ds,rfl,a1,a2,a3,a4,a5,a6,a7⟩:=Gp rs rx ry e1
 refine⟨p,xs,dd,ds,rfl,a1,a2,a3,a4,a5,a6,?_⟩
 rw[if_pos rfl,a7]
 exact k ρ _ H (Nx.refl rs) (.bl _)
theorem wW:∀{bs:List Bool}{us:List Value},Vals (bs.map V.bl) us→∀(i:Nat) (v:Value),us[i]? =some v→v= .bool (bs.getD i false)
 |[],_,.nil,i,v,h=>by simp at h
 |b::bs,_,.cons r t,0,v,h=>by
  simp at h
  subst h
  simpa using(show _=Value.bool b from r)
 |b::bs,_,.cons r t,i+1,v,h=>by
  have:=wW t i v (by simpa using h)
  simpa using this
theorem yK{prog:Program}{w:World}{A:Around}{bs:List Bool}{us:List Value}(hv:Vals (bs.map V.bl) us):TruthOf prog w A (fun i v=>us.toArray[i]? =some v) fun i=>bs.getD i false:=fun i v s Q E h q=>by
 rw[wW hv i v (by simpa using h)]
 exact wpAny_truthy_bool q
theorem range_all(bs:List Bool):(List.range bs.length).all (fun i=>bs.getD i false)=bs.all id:=by
 rw[Bool.eq_iff_iff]
 simp only[List.all_eq_true,List.mem_range]
 constructor
 ·intro h b hb
  obtain⟨i,hi⟩:=List.getElem?_of_mem hb
  have hl:=(List.getElem?_eq_some_iff.mp hi).1
  have:=h i hl
  simpa[List.getD,hi]using this
 ·intro h i hi
  have:bs[i]? =some bs[i]:=List.getElem?_eq_getElem hi
  simp only[List.getD,this,Option.getD_some]
  exact h _ (List.getElem_mem hi)
theorem yL(hc:X.calm=true):fC X (.builtin "all") (fun xs H Q=>∃(p:Addr) (bs:List Bool),xs=[.ref p]∧cD X.K H p (bs.map V.bl)∧Q (.bl (bs.all id)) H):=by
 intro pins s σ H xs us Q I r h
 obtain⟨p,bs,rfl,hp,q⟩:=h
 obtain⟨u,rfl,ru⟩:=vals1 r
 cases (show u=Value.ref p from ru)
 obtain⟨its,hv,pl,_⟩:=I.list hp
 have hl:=pl.isList
 have du:p<s.heap.objs.size:=by obtain⟨o,e,_⟩:=hl;exact Heap.lt_size e
 refine call_all_walk (wpAny_pyIter_list hl ?_)
 refine⟨s.heap.objs.size,_,_,_,_,_,_,rfl,Walks.list (A:=X.A.in1) (I.ok.hd hc) s.heap.objs.size p (Nat.ne_of_lt du) its.toArray,⟨⟨_,Heap.get?_push_size _ rfl,rfl,rfl⟩,hl.at fun o e=>Heap.get?_push_of_some _ e⟩,yK hv,fun h' tk kk=>?_⟩
 have e:its.toArray.size=bs.length:=by rw[List.size_toArray,←hv.length,List.length_map]
 rw[e,range_all]
 exact⟨.bl _,H,I.kept (t':=tk) fun b o g=>kk b o (by simpa using Nat.ne_of_lt (Heap.lt_size g)) (Heap.get?_push_of_some _ g),rfl,q⟩
theorem ua{K:PySem.W.Frag}{ρ:Nat→Addr}{N:Nat}{H:Hp}:∀{ds:List Qm.D}{vs:List V}{bs:List Bool},RA K ρ N H ds vs→Qm.omap Qm.mj ds=some bs→vs=bs.map V.bl
 |[],_,bs,a,h=>by cases a;cases h;rfl
 |d::ds,_,bs,a,h=>by
  cases a with
  |cons r a=>
   obtain⟨b,h1,h⟩:=aE h
   obtain⟨cs,h2,h⟩:=aE h
   cases h
   rw[nM h1]at r
   cases r.qa
   rw[ua a h2];rfl
theorem Gq{K:PySem.W.Frag}:qc K (fun xs H Q=>∃(p:Addr) (bs:List Bool),xs=[.ref p]∧cD K H p (bs.map V.bl)∧Q (.bl (bs.all id)) H) Qm.wL:=by
 intro ρ c H ds d c' vs Q rs ra e k
 obtain⟨x,rfl,e'⟩:=jS e
 obtain⟨v,rfl,rx⟩:=ra.iX
 obtain⟨n,e0,e'⟩:=aE e'
 obtain⟨bs,e2,e'⟩:=aE e'
 cases e'
 obtain⟨rfl,hn,ws,rfl,g,a⟩:=rs.bq rx e0
 exact⟨_,bs,rfl,ua a e2 ▸ cD.of g,k ρ _ H (Nx.refl rs) (.bl _)⟩
theorem Gr:bootBuiltins "all" =some (.builtin "all"):=by decide +kernel
end
end L2
namespace Qm
open PySem
noncomputable section
def R1:G2:=fun x y c=>match x with
 |.ref n=>(match c[n]? with
  |some (.ro xs)=>(bq y c).bind fun q=>if xs.length+q.2.length≤dh then some (.ref c.length,c++[.lst (xs++q.2)])else none
  |_=>none)
 |_=>none
end
end Qm
namespace L2
open PySem PySem.Spec PyProof.Rows
section
variable{X:Cx}
end
end L2
namespace L2
open PySem PySem.Spec PyProof.Rows
def a_:List Int→List Int→Bool
 |[],_=>false
 |_::_,[]=>true
 |a::r,b::t=>if a=b then a_ r t else decide (a > b)
section
variable{prog:Program}{w:World}{A:Around}{E:Value→Shared→Prop}{s:Shared}
end
theorem ints_of:∀{ns:List Int}{us:List Value},Vals (ns.map V.int) us→IntsAre us ns
 |[],_,h=>by cases h;exact .nil
 |n::ns,_,h=>by
  cases h with
  |cons r t=>
   obtain⟨k,rfl⟩:=r
   exact .cons n k (ints_of t)
section
variable{X:Cx}
end
end L2
namespace L2
open PySem PySem.Spec PyProof.Rows
section
variable{prog:Program}{w:World}{A:Around}
end
section
variable{X:Cx}
end
end L2
namespace L2
open PySem PySem.Spec PyProof.Rows PySem.W
theorem Bk{P:Program}{w:World}{H:Hp}{h:Heap}{a:Addr}{o:HO}(x:cC P w H h a o):∃u,h.get? a=some u:=by
 cases o with
 |lst xs=>obtain⟨_,_,_,_,e⟩:=x;exact⟨_,e⟩
 |tup xs=>obtain⟨_,_,_,ob,e,_⟩:=x;exact⟨_,e⟩
 |dK bg=>obtain⟨_,_,_,_,o,_,_,e,_⟩:=x;exact⟨_,e⟩
 |dT bg=>obtain⟨_,_,_,_,o,_,_,e,_⟩:=x;exact⟨_,e⟩
 |dU bg=>obtain⟨_,_,_,_,o,_,_,e,_⟩:=x;exact⟨_,e⟩
 |set S n=>obtain⟨o,_,_,_,e,_⟩:=x;exact⟨_,e⟩
 |ins C dx fs=>obtain⟨_,_,_,e,_⟩:=x;exact⟨_,e⟩
 |own y=>exact x
 |xd fs=>obtain⟨_,⟨_,_,_,e,_⟩,_⟩:=x;exact⟨_,e⟩
 |eg lo hi=>obtain⟨_,_,_,e⟩:=x;exact⟨_,e⟩
 |eG ob u=>obtain⟨e,_⟩:=x;exact⟨_,e⟩
 |kj ps=>exact⟨_,show h.get? a=some _ from x⟩
 |met f y=>exact⟨_,show h.get? a=some _ from x⟩
 |ext φ=>obtain⟨_,e,_⟩:=x;exact e
section
variable{X:Cx}{pins:List (Addr×Obj)}{σ:St}{H:Hp}{s:Shared}
theorem Inv.Dp{h':Heap}{m:Str→Option Value}{D:Addr}{out:List Value}{xs:List V}{c:Nat}(I:Inv X pins σ H s)(hm:s.heap.Ns X.env.locals m)(F:Fr X.base X.env.locals h' m)
  (N:News X.base X.env.locals h' ((D,listOf out.toArray c)::jt X.base s.heap X.env.locals))(hD:∀q∈jt X.base s.heap X.env.locals,q.1<D)(r:Vals xs out)(hz:xs.length≤sizeLine):
  Inv X pins σ (upd H D (.lst xs)) { s with heap:=h' }∧H D=none:=by
 have d1:=N _ List.mem_cons_self
 have kp:∀b o,b≠X.env.locals→s.heap.get? b=some o→h'.get? b=some o:=fun b o hb e=>by
  cases q:X.base.get? b with
  |some u=>
   have:=I.bk b u q
   rw[e]at this;cases this
   exact F.keep b _ q
  |none=>exact(N (b,o) (List.mem_cons_of_mem _ (nu hb q e))).1
 have sD:s.heap.get? D=none:=by
  cases q:s.heap.get? D with
  |none=>rfl
  |some o=>exact absurd (hD (D,o) (nu d1.2.1 d1.2.2 q)) (Nat.lt_irrefl _)
 have Dq:H D=none:=by
  cases q:H D with
  |none=>rfl
  |some u=>
   obtain⟨o,e⟩:=Bk (I.aO D u q)
   rw[sD]at e;cases e
 refine⟨?_,Dq⟩
 have ne:∀{b:Addr}{u:HO},H b=some u→b≠D:=fun q=>bX q Dq
 refine I.step (ch:=[]) (fun b hb=>by cases hb) (fun b o h1 _ _ e _=>kp b o h1 e) (fun b o h1 _ _ e _=>⟨o.slots,kp b o h1 e⟩) (fun b o _ e q=>?_) (fun b o _ e=>?_) (fun b xs q=>by rw[aG (ne q)];exact q) (fun b o u q=>by rw[aG (ne q)];exact q) (fun b ps q=>⟨#[],by rw[aG (ne q),Array.append_empty];exact q⟩) (fun m' hn=>?_) ?_ I.bare
 ·rw[aG (fun z=>by rw[z,sD]at e;cases e)];exact q
 ·by_cases hb:b=X.env.locals
  ·obtain⟨o',_,_,ho,_⟩:=F.ns
   exact⟨o',by rw[hb];exact ho⟩
  ·exact⟨o,kp b o hb e⟩
 ·have:m'=m:=funext fun x=>hn.agree hm x
  rw[this];exact F.ns
 ·intro b u e
  by_cases hb:b=D
  ·subst hb;rw[bQ]at e;cases e
   exact⟨hz,out,c,r,d1.1⟩
  ·rw[aG hb]at e
   have nL:∀{b:Addr}{u:HO},H b=some u→b≠X.env.locals:=fun q=>bX q I.free
   refine(I.aO b u e).mn (fun d v hd q=>kp d v ?_ q) (fun d q=>by rw[aG (ne q)];exact q) fun d xs q=>by rw[aG (ne q)];exact q
   rcases hd with rfl|hd
   ·exact nL e
   ·exact nL hd
end
section
variable{prog:Program}{w:World}{A:Around}{s:Shared}{Q:Bool→Shared→Prop}
theorem jU{fin:Bool}:∀{xs ys:List Value}{x y:List Int} (i:Nat),IntsAre xs x→IntsAre ys y→(xs.length≠ys.length∨xs.length=ys.length→fin=decide (xs.length<ys.length))→Q (a_ y x) s→KatLex prog w A true fin Q (xs.zip ys) i s
 |[],ys,_,y,i,.nil,hy,hf,h=>by
  refine(show Q fin s from ?_)
  rw[hf (by omega)]
  cases hy with
  |nil=>simpa[a_]using h
  |cons _ _ _=>simpa[a_]using h
 |_,_,_,_,i,.cons n t (vs:=vs) (ns:=ns) hx,.nil,hf,h=>by
  refine(show Q fin s from ?_)
  rw[hf (by omega)]
  simpa[a_]using h
 |_,_,_,_,i,.cons n t (vs:=vs) (ns:=ns) hx,.cons k u (vs:=ws) (ns:=ms) hy,hf,h=>by
  refine(show wpAny (model prog w) A (eqBool (.int n t) (.int k u)) _ _ s from wpAny_eqBool_int ?_)
  by_cases hk:n=k
  ·subst hk
   rw[beq_self_eq_true,if_pos rfl]
   refine jU (i+1) hx hy (fun _=>?_) (by simpa[a_]using h)
   have:=hf (by omega)
   simpa using this
  ·rw[beq_eq_false_iff_ne.mpr hk,if_neg (by decide)]
   have e:a_ (k::ms) (n::ns)=decide (n<k):=by simp[a_,Ne.symm hk]
   rw[e]at h
   cases hi:(i==0)with
   |true=>exact oneLt_int h
   |false=>exact kat_one _ _ (lt_int h)
end
section
variable{X:Cx}
theorem Bl{its:List Value}{n:Int}{ns:List Int}(h:IntsAre its (n::ns)):∃t,its.toArray[0]? =some (.int n t):=by
 cases h with
 |cons n t r=>exact⟨t,by simp⟩
theorem rP{M:Model}{h:Heap}{n:Int}{t:Tok}:Looks M h (typeOf (.int n t)) (.type "int"):=fun _ _ _ s _ q=>wpAny_pure q
end
end L2
namespace L2
open PySem PySem.Spec PyProof.Rows
section
variable{prog:Program}{w:World}{A:Around}{E:Value→Shared→Prop}
end
section
variable{X:Cx}{pos:Pos}
end
end L2
namespace Qm
open PySem
noncomputable section
def a_:List Int→List Int→Bool
 |[],_=>false
 |_::_,[]=>true
 |a::r,b::t=>if a=b then a_ r t else decide (a > b)
def nums(xs:List D):Option (List Int):=omap oJ xs
def Kg(xs:List D):Option (List D×List D×List Int×List Int):=match xs with
 |[.tup xs,.tup ys]=>(nums xs).bind fun ns=>(nums ys).bind fun ms=>if ns≠[]∧ms≠[] then some (xs,ys,ns,ms)else none
 |_=>none
def MA:FN:=fun ds c=>match ds with
 |[.ref l]=>(bS (.ref l) c).bind fun zs=>(Kg zs).bind fun q=>some (.ref c.length,c++[.lst (if a_ q.2.2.1 q.2.2.2=true then [.tup q.2.1,.tup q.1] else [.tup q.1,.tup q.2.1])])
 |_=>none
end
end Qm
namespace L2
open PySem PySem.Spec PyProof.Rows
theorem rQ:bootBuiltins "sorted" =some (.builtin "sorted"):=by decide +kernel
theorem qp:∀x y:List Int,a_ x y=Qm.a_ x y
 |[],y=>by cases y<;>rfl
 |_::_,[]=>rfl
 |a::r,b::t=>by simp only[a_,Qm.a_];rw[qp r t]
section
variable{K:PySem.W.Frag}
theorem rR{ρ:Nat→Addr}{N:Nat}{H:Hp}:∀{xs:List Qm.D}{vs:List V}{ns:List Int},RA K ρ N H xs vs→Qm.nums xs=some ns→vs=ns.map V.int
 |[],_,ns,a,h=>by cases a;cases h;rfl
 |x::xs,_,ns,a,h=>by
  cases a with
  |cons r a=>
   obtain⟨i,h1,h⟩:=aE h
   obtain⟨ms,h2,h⟩:=aE h
   cases h
   rw[hG h1]at r
   cases r.dF
   rw[rR a h2]
   rfl
end
section
variable{X:Cx}{pos:Pos}{es:List Expr}
end
end L2
namespace Qm
open PySem
noncomputable section
end
end Qm
namespace PySem
open Sem (wp)
section
variable{prog:Program}{w:World}{K:Type}[DecidableEq K]{knd:KeyKind prog w K}{A:Around}{E:Value→Shared→Prop}{s:Shared}
end
end PySem
namespace L2
open PySem PySem.Spec PyProof.Rows
section
variable{K:PySem.W.Frag}{ρ aM:Nat→Addr}{N:Nat}{c c':Qm.Cells}{H H':Hp}
theorem RK.length:∀{ps:List (Str×Qm.D)}{us:List (Key×V)},RK K ρ N H ps us→ps.length=us.length
 |_,_,.nil=>rfl
 |_,_,.cons _ a=>congrArg (·+1) (RK.length a)
end
section
variable{X:Cx}{a b e:Expr}{es:List Expr}{fa fb fc fe:Qm.XE}{pos apos dW:Pos}
end
end L2
namespace L2
open PySem PySem.Spec PyProof.Rows
section
variable{X:Cx}
end
section
variable{K:PySem.W.Frag}{ρ:Nat→Addr}{c:Qm.Cells}{H:Hp}
inductive PD(K:PySem.W.Frag)(H:Hp):List (Str×PyData)→List (Key×V)→Prop
 |nil:PD K H [] []
 |cons {k:Str}{d:PyData}{r:List (Str×PyData)}{v:V}{t:List (Key×V)}:g_ K H v d→SeqAt.shaped d=true→nb d=true→PD K H r t→PD K H ((k,d)::r) ((.inr k,v)::t)
theorem PD.length:∀{ds:List (Str×PyData)}{us:List (Key×V)},PD K H ds us→ds.length=us.length
 |_,_,.nil=>rfl
 |_,_,.cons _ _ _ a=>congrArg (·+1) (PD.length a)
end
end L2
namespace L2
open PySem PySem.Spec PyProof.Rows
theorem bY.none{P:Program}{w:World}{K:PySem.W.Frag}{mg:Str→Option Value}{base:Heap}{k:Nat}{f:Addr}{fd:FuncData}{ps:List Str}{F:Qm.FN}(h:∀ds c,F ds c=Option.none):bY P w K mg base cF k f fd ps (ei K F):=
 ⟨fun vs H Q E ⟨_,_,_,_,_,_,_,e,_⟩=>(by rw[h]at e;cases e),fun A outer s H args us vs Q E _ _ _ _ ⟨_,_,_,_,_,_,_,e,_⟩=>(by rw[h]at e;cases e)⟩
end L2
namespace L2
open PySem PySem.Spec PyProof.Rows
end L2
namespace L2
open PySem PySem.Spec PyProof.Rows
section
variable{X:Cx}{es:List Expr}{fr:Qm.XA}{p:Pos}
end
end L2
namespace L2
open PySem PySem.Spec PyProof.Rows
section
variable{X:Cx}{pins:List (Addr×Obj)}{σ:St}{H:Hp}{s:Shared}{h':Heap}
theorem Inv.Dr{ch:List Addr}{T:Addr}{o:HO}{t':Nat}(I:Inv X pins σ H s)(eQ:∀b∈ch,iR X pins H b)(k:∀b u,b∉ch→s.heap.get? b=some u→h'.get? b=some u)(hT:s.heap.objs.size≤T)(new:cC X.prog X.w (upd H T o) h' T o):
  Inv X pins σ (upd H T o) { s with heap:=h',toks:=t' }:=by
 have hn:H T=none:=I.aO.fresh hT
 have ne:∀b u,s.heap.get? b=some u→b≠T:=fun b u e=>Nat.ne_of_lt (Nat.lt_of_lt_of_le (Heap.lt_size e) hT)
 have nc:∀b u,H b=some u→b∉ch:=fun b u e hb=>by rw[(eQ b hb).1]at e;cases e
 refine I.step (g':=s.gens) (d':=s.drawn) (ch:=ch) (fun b hb=>⟨(eQ b hb).2.2.2.1,(eQ b hb).2.1,(eQ b hb).2.2.2.2.1,(eQ b hb).2.2.2.2.2⟩) (fun b u _ _ hc e _=>k b u hc e) (fun b u _ _ hc e _=>⟨u.slots,k b u hc e⟩) (fun b u _ e z=>by rw[aG (ne b u e)];exact z)
  (fun b u hc e=>⟨u,k b u hc e⟩) (fun b xs e=>by rw[aG (bX e hn)];exact e) (fun b u v e=>by rw[aG (bX e hn)];exact e) (fun b ps e=>⟨#[],by rw[aG (bX e hn),e];simp⟩) (fun m hm=>?_) (fun b u e=>?_) I.bare
 ·obtain⟨ob,es,ep,ho,r⟩:=hm
  exact⟨ob,es,ep,k _ ob (fun z=>(eQ _ z).2.1 rfl) ho,r⟩
 ·by_cases hb:b=T
  ·subst hb
   rw[bQ]at e
   cases e
   exact new
  ·rw[aG hb]at e
   refine(I.aO b u e).mn (fun c v hc q=>k c v ?_ q) (fun c q=>by rw[aG (bX q hn)];exact q) fun c xs q=>by rw[aG (bX q hn)];exact q
   rcases hc with z|z
   ·rw[z];exact nc b u e
   ·exact nc c _ z
theorem Inv.Kh{ch:List Addr}{t':Nat}(I:Inv X pins σ H s)(eQ:∀b∈ch,iR X pins H b)(k:∀b u,b∉ch→s.heap.get? b=some u→h'.get? b=some u):Inv X pins σ H { s with heap:=h',toks:=t' }:=by
 have nc:∀b u,H b=some u→b∉ch:=fun b u e hb=>by rw[(eQ b hb).1]at e;cases e
 refine I.step (g':=s.gens) (d':=s.drawn) (ch:=ch) (fun b hb=>⟨(eQ b hb).2.2.2.1,(eQ b hb).2.1,(eQ b hb).2.2.2.2.1,(eQ b hb).2.2.2.2.2⟩) (fun b u _ _ hc e _=>k b u hc e) (fun b u _ _ hc e _=>⟨u.slots,k b u hc e⟩) (fun b u _ e z=>z)
  (fun b u hc e=>⟨u,k b u hc e⟩) (fun b xs e=>e) (fun b u v e=>e) (fun b ps e=>⟨#[],by rw[e];simp⟩) (fun m hm=>?_) (fun b u e=>?_) I.bare
 ·obtain⟨ob,es,ep,ho,r⟩:=hm
  exact⟨ob,es,ep,k _ ob (fun z=>(eQ _ z).2.1 rfl) ho,r⟩
 ·refine(I.aO b u e).mn (fun c v hc q=>k c v ?_ q) (fun c q=>q) fun c xs q=>q
  rcases hc with z|z
  ·rw[z];exact nc b u e
  ·exact nc c _ z
end
section
variable{X:Cx}{e1 e2:Expr}{p0 p1 p2 pos:Pos}{f:Qm.XA}{es:List Expr}{k0:Nat}
end
end L2
namespace Qm
open PySem
noncomputable section
def jf(xs:List D):List D:=xs.zipIdx.map fun p=>.tup [.int p.2,p.1]
def m7(a:XA):XI:=fun σ c=>(a σ c).bind fun p=>match p.1 with
 |[.ref n]=>(p.2[n]?).bind fun z=>(bq (.ref n) p.2).bind fun l=>some (⟨jf l.2,[(n,z)]⟩,p.2)
 |_=>none
open Classical in
def ub(x y:D)(c:Cells):Option Bool:=(data c 60 x).bind fun d=>(data c 60 y).bind fun e=>some (decide (d=e))
def rS:G2:=fun x y c=>(ub x y c).bind fun b=>some (.bl b,c)
def rT:G2:=fun x y c=>(ub x y c).bind fun b=>some (.bl (!b),c)
end
end Qm
namespace L2
open PySem PySem.Spec PyProof.Rows
section
variable{K:PySem.W.Frag}
theorem uc{ρ:Nat→Addr}{c:Qm.Cells}{H:Hp}{x y:Qm.D}{v u:V}{b:Bool}(rs:RS K ρ c H)(rx:RD K ρ c.length H x v)(ry:RD K ρ c.length H y u)(h:Qm.ub x y c=some b):
  ∃d e,g_ K H v d∧g_ K H u e∧SeqAt.shaped d=true∧SeqAt.shaped e=true∧PyData.eqv d e=b:=by
 unfold Qm.ub at h
 obtain⟨d,h1,h⟩:=aE h
 obtain⟨e,h2,h⟩:=aE h
 cases h
 obtain⟨a1,a2,a3,a4⟩:=hV rs 60 rx h1
 obtain⟨b1,b2,b3,b4⟩:=hV rs 60 ry h2
 refine⟨d,e,a1,b1,by simp[SeqAt.shaped,a2];omega,by simp[SeqAt.shaped,b2];omega,?_⟩
 have:=iF d e a4 b4
 by_cases q:d=e
 ·rw[this.mpr q];simp[q]
 ·cases z:PyData.eqv d e with
  |false=>simp[q]
  |true=>exact absurd (this.mp z) q
theorem z9:je K (fun x y H Q=>Fw x y H Q∨pL K false x y H Q) Qm.rS:=by
 intro ρ c H x y d c' v u Q rs rx ry e k
 obtain⟨b,e1,e⟩:=aE e
 cases e
 obtain⟨dd,ee,a1,a2,a3,a4,a5⟩:=uc rs rx ry e1
 refine .inr ⟨dd,ee,a1,a2,a3,a4,?_⟩
 rw[if_neg (by decide),a5]
 exact k ρ _ H (Nx.refl rs) (.bl _)
theorem z_:je K (fun x y H Q=>Fx x y H Q∨pL K true x y H Q) Qm.rT:=by
 intro ρ c H x y d c' v u Q rs rx ry e k
 obtain⟨b,e1,e⟩:=aE e
 cases e
 obtain⟨dd,ee,a1,a2,a3,a4,a5⟩:=uc rs rx ry e1
 refine .inr ⟨dd,ee,a1,a2,a3,a4,?_⟩
 rw[if_pos rfl,a5]
 exact k ρ _ H (Nx.refl rs) (.bl _)
end
def Ki(K:PySem.W.Frag)(a:Addr):It:=
 ⟨fun i H=>∃xs x,cD K H a xs∧xs[i]? =some x,
      fun i H v H'=>∃T,v= .ref T∧H T=none∧∀xs,cD K H a xs→∃x,xs[i]? =some x∧H'=upd H T (.tup [.int i,x]),
      fun i H=>∃xs,cD K H a xs∧xs.length≤i⟩
theorem yM{P:Program}{w:World}{K:PySem.W.Frag}{es:List Expr}{k0:Nat}{p0:Pos}(e it a:Addr)(NH:e≠it):
  Turn P w K (.Tuple es k0 p0) (Ki K a) [e,it] e (fun i h=>(∃old,IsEnum h e it i old)∧h.IsListIter it a i) where
 mem:=by simp
 obj:=fun i h Z c hc=>by
  obtain⟨⟨old,he⟩,hit⟩:=Z
  rcases List.mem_cons.mp hc with rfl|hc
  ·exact⟨_,he,by simp⟩
  ·have:c=it:=by simpa using hc
   subst this
   obtain⟨o,e,_,d⟩:=hit
   exact⟨o,e,by rw[d];simp⟩
 keep:=fun i h h' Z kk=>by
  obtain⟨⟨old,he⟩,hit⟩:=Z
  exact⟨⟨old,kk _ (by simp) _ he⟩,hit.at fun o e=>kk _ (by simp) o e⟩
 item:=fun X hP hw hK hc i pins s σ H E I hf Z go=>by
  subst hP hw hK
  obtain⟨xs,x,m6,hx⟩:=go
  obtain⟨ia,va,p,_⟩:=I.list m6
  obtain⟨ux,R3,rx⟩:=va.get hx
  obtain⟨⟨old,he⟩,hit⟩:=Z
  refine wpAny_pyNext_enum_item he hit p.isList (x:=ux) (by simpa using R3) NH fun h' ho NI hT qP hk=>?_
  refine⟨_,rfl,?_⟩
  refine wpAny_letOwnedTupleGo_enum ho fun h2 R4 md=>?_
  have NJ:s.heap.objs.size≠e:=Nat.ne_of_gt (Heap.lt_size he)
  have R5:s.heap.objs.size≠it:=by
   obtain⟨o,q,_⟩:=hit
   exact Nat.ne_of_gt (Heap.lt_size q)
  have gT:=md.extBut _ _ NJ hT
  have nk:∀c u,c∉[e,it]→s.heap.get? c=some u→h2.get? c=some u:=fun c u dq q=>by
   simp only[List.mem_cons,List.not_mem_nil,or_false,not_or]at dq
   exact md.extBut c u dq.1 (hk c u dq.1 dq.2 q)
  have R6:H s.heap.objs.size=none:=I.aO.fresh (Nat.le_refl _)
  refine⟨.ref s.heap.objs.size,upd H s.heap.objs.size (.tup [.int i,x]),I.Dr (t':=s.toks+1) hf nk (Nat.le_refl _) ⟨by show 2≤sizeLine;decide,[.int i s.toks,ux],.cons ⟨_,rfl⟩ (.cons rx .nil),⟨_,gT,rfl,_,rfl⟩⟩,rfl,⟨_,rfl,R6,fun AH h1=>?_⟩,⟨⟨_,by simpa using R4⟩,NI.extBut md.extBut NH.symm⟩,fun c dq=>?_⟩
  ·rw[←I.tY m6 h1]
   exact⟨x,hx,rfl⟩
  ·have jB:c≠s.heap.objs.size:=by
    rcases List.mem_cons.mp dq with rfl|dq
    ·exact NJ.symm
    ·have:c=it:=by simpa using dq
     subst this
     exact R5.symm
   rw[aG jB]
   exact(hf c dq).1
 done:=fun X hP hw hK hc i pins s σ H E I hf Z st=>by
  subst hP hw hK
  obtain⟨xs,m6,U7⟩:=st
  obtain⟨ia,va,p,_⟩:=I.list m6
  obtain⟨⟨old,he⟩,hit⟩:=Z
  have la:=va.length
  refine wpAny_pyNext_enum_end (I.ok.hd hc) he hit p.isList (Array.getElem?_eq_none (by simp;omega)) fun h' eb=>⟨rfl,I.Kh (t':=s.toks) hf fun c u dq q=>?_⟩
  simp only[List.mem_cons,List.not_mem_nil,or_false,not_or]at dq
  exact eb c u dq.2 q
 self:=fun A i s Q E Z q=>by
  obtain⟨⟨old,he⟩,_⟩:=Z
  exact wpAny_pyIter_enum he q
def Gs(K:PySem.W.Frag)(t:TA):TI:=fun σ H R=>t σ H fun vs H1=>∃a xs,vs=[.ref a]∧cD K H1 a xs∧R (Ki K a) H1
section
variable{X:Cx}{e1:Expr}{p0 p1 p2 pos:Pos}{f:Qm.XA}{es:List Expr}{k0:Nat}
theorem Ds{t:TA}(hg:Gl X "enumerate")(hm:X.mg "enumerate" =none)(ha:PA X [e1] t)(md:starEach [e1] X.env=(false,eval e1 X.env)::starEach [] X.env:=by rfl)(dS:(backTo p2 (starEach [] X.env)).any (·.1)=false:=by rfl):
  PI X (.Tuple es k0 p0) (.Call (.Name "enumerate" p1) [e1] [] p2) (Gs X.K t):=by
 intro pins s σ H R I h
 refine wpAny_Call_Name_kw (gX I hg hm (u:=.type "enumerate") (by decide +kernel) ?_)
 refine PyProof.Rows.callWith_type1 (bF (ha p2 pins s σ H _ I h) fun us s1 aZ=>?_) md dS
 obtain⟨vs,H1,I1,r1,q1⟩:=aZ
 obtain⟨a,xs,rfl,Kj,q⟩:=q1
 obtain⟨u1,rfl,ra⟩:=vals1 r1
 cases (show u1=Value.ref a from ra)
 obtain⟨ia,va,p,za⟩:=I1.list Kj
 refine call_enumerate_list p.isList fun h2 he hit sz up=>?_
 refine wpAny_pyIter_enum he ?_
 have I2:Inv X pins σ H1 { s1 with heap:=h2 }:=I1.kept (t':=s1.toks) up
 have fr:∀c,s1.heap.objs.size≤c→iR X pins H1 c:=fun c hc=>I1.wb hc (I1.aO.fresh hc)
 refine⟨_,_,_,Ki X.K a,H1,rfl,I2,yM _ _ a (show s1.heap.objs.size+1≠s1.heap.objs.size by omega),⟨⟨_,he⟩,hit⟩,fun c hc=>?_,q⟩
 rcases List.mem_cons.mp hc with rfl|hc
 ·exact fr _ (Nat.le_add_right _ _)
 ·have:c=s1.heap.objs.size:=by simpa using hc
  subst this
  exact fr _ (Nat.le_refl _)
theorem yN{xs:List Qm.D}{i:Nat}{d:Qm.D}(h:(Qm.jf xs)[i]? =some d):∃x,xs[i]? =some x∧d= .tup [.int i,x]:=by
 unfold Qm.jf at h
 rw[List.getElem?_map,List.getElem?_zipIdx]at h
 cases q:xs[i]? with
 |none=>rw[q]at h;cases h
 |some x=>rw[q]at h;simp at h;exact⟨x,rfl,h.symm⟩
theorem Dt(hg:Gl X "enumerate")(hm:X.mg "enumerate" =none)(ha:QA X [e1] f)(md:starEach [e1] X.env=(false,eval e1 X.env)::starEach [] X.env:=by rfl)(dS:(backTo p2 (starEach [] X.env)).any (·.1)=false:=by rfl):
  QI X (.Tuple es k0 p0) (.Call (.Name "enumerate" p1) [e1] [] p2) (Qm.m7 f):=(Ds hg hm ha md dS).imp <| by
 rintro σ H R ⟨ρ,env,c,m,c',rs,re,e,k⟩
 obtain⟨p,ea,e⟩:=aE e
 refine⟨ρ,env,c,p.1,p.2,rs,re,ea,fun aF vs H1 n1 r1=>?_⟩
 split at e
 ·rename_i n hp
  obtain⟨z,e2,e⟩:=aE e
  obtain⟨l,e3,e⟩:=aE e
  cases e
  rw[hp]at r1
  obtain⟨v,rfl,rx⟩:=r1.iX
  obtain⟨hv,hn⟩:=rx.t9
  subst hv
  obtain⟨dn,Kk,ws,_,h1,a1⟩:=n1.rs.bq (d:=.ref n) (.ref hn) (show Qm.bq (.ref n) p.2=some (l.1,l.2)from e3)
  have R7:l.1=n:=by cases dn;rfl
  rw[R7]at Kk h1
  refine⟨_,ws,rfl,cD.of h1,k aF _ H1 n1 fun jR c2 H2 u2 yG bz=>?_⟩
  have hz:z= .lst l.2:=by rw[e2]at Kk;exact Option.some.inj Kk
  obtain⟨us,h2,a2⟩:=yG.lst (by rw[←hz];exact bz (n,z) (by simp))
  rw[u2.agree n hn]at h2
  have hl:(Qm.jf l.2).length=us.length:=by rw[←a2.length];simp[Qm.jf]
  refine⟨fun i hi=>?_,⟨us,cD.of h2,by show us.length≤(Qm.jf l.2).length;omega⟩,fun i d x H' hd hy=>?_⟩
  ·dsimp only at hi
   have h3:i<us.length:=by omega
   exact⟨us,us[i],cD.of h2,List.getElem?_eq_getElem h3⟩
  ·obtain⟨T,rfl,hT,hy⟩:=hy
   obtain⟨x',h3,rfl⟩:=hy us (cD.of h2)
   obtain⟨dx,g1,rfl⟩:=yN hd
   obtain⟨v1,q1,r1⟩:=a2.get g1
   rw[h3]at q1;cases q1
   have n:=Nx.same yG (lI (z:=.tup [.int i,x']) hT)
   exact⟨n,.tup bQ (.cons (.int _) (.cons (r1.up n.up) .nil))⟩
 ·cases e
end
end L2
namespace L2
open PySem PySem.Spec PyProof.Rows
section
variable{X:Cx}{pins:List (Addr×Obj)}{σ:St}{H:Hp}{s:Shared}{h':Heap}
end
section
variable{X:Cx}{tg l:Expr}{tl:TE}
end
section
variable{K:PySem.W.Frag}{ρ aM:Nat→Addr}{N:Nat}{c c':Qm.Cells}{H H':Hp}
theorem RK.at_:∀{ps:List (Str×Qm.D)}{us:List (Key×V)},RK K ρ N H ps us→∀{i:Nat}{p:Str×Qm.D},ps[i]? =some p→∃kv,us[i]? =some kv∧kv.1= .inr p.1
 |_,_,.nil,i,p,h=>by simp at h
 |_,_,.cons (k:=k') _ a,0,p,h=>by simp at h;subst h;exact⟨_,rfl,rfl⟩
 |_,_,.cons _ a,i+1,p,h=>by
  obtain⟨kv,h1,h2⟩:=RK.at_ a (i:=i) (p:=p) (by simpa using h)
  exact⟨kv,by simpa using h1,h2⟩
end
section
variable{X:Cx}{e a b tg:Expr}{fe fa fb:Qm.XE}{pos:Pos}
end
end L2
namespace L2
open PySem PySem.Spec PyProof.Rows
section
variable{X:Cx}{pins:List (Addr×Obj)}{σ:St}{H:Hp}{s:Shared}
end
end L2
namespace Qm
open PySem
noncomputable section
end
end Qm
namespace Qm
open PySem
noncomputable section
end
end Qm
namespace L2
open PySem PySem.Spec PyProof.Rows
section
variable{X:Cx}
end
section
variable{K:PySem.W.Frag}{ρ:Nat→Addr}{c:Qm.Cells}{H:Hp}
end
end L2
namespace PySem
open Sem (wp)
open AutoSeq1 (wpAny_loadPart')
open MeetsSeq MeetsSeq2 MeetsSeq3 SeqRoads2
section
variable{P:Program}{W:World}
variable{A:Around}{E:Value→Shared→Prop}{s:Shared}
end
end PySem
namespace L2
open PySem PySem.Spec PyProof.Rows
section
variable{X:Cx}
end
section
variable{K:PySem.W.Frag}{ρ:Nat→Addr}{c:Qm.Cells}{H:Hp}
end
end L2
namespace Qm
open PySem
noncomputable section
end
end Qm
namespace PySem
open Sem (wp)
section
variable{prog:Program}{w:World}{A:Around}{E:Value→Shared→Prop}{s:Shared}{I:Addr}{fp wr:List Addr}{G:Array GenState→Array GenState→Prop}{n:Nat}{P:Nat→Value→Prop}{St:Nat→Shared→Prop}
end
end PySem
namespace L2
open PySem PySem.Spec PyProof.Rows
section
variable{X:Cx}
end
end L2
namespace L2
open PySem PySem.Spec PyProof.Rows
section
variable{X:Cx}{e1 e2:Expr}{p0 p1 p2 pos:Pos}{f:Qm.XA}{es:List Expr}{k0:Nat}
end
end L2
namespace PySem
open Sem (wp)
open AutoSeq1 (wpAny_loadPart')
open MeetsSeq MeetsSeq2 MeetsSeq3 SeqRoads2
section
variable{P:Program}{W:World}
end
end PySem
namespace L2
open PySem PySem.Spec PyProof.Rows
section
variable{X:Cx}
end
end L2
namespace Qm
open PySem
noncomputable section
def Aa(tab:List (Nat×FN))(f:XE)(a:XA):XE:=fun σ c=>(f σ c).bind fun p=>match p.1 with
 |.adr x=>(tab.lookup x).bind fun F=>(a σ p.2).bind fun q=>F q.1 q.2
 |_=>none
def kJ(lo:Int)(n:Nat):List D:=(List.range n).map fun(i:Nat)=>.int (lo+i*2)
open Classical in
def u_(a:XA):XI:=fun σ c=>(a σ c).bind fun p=>match p.1 with
 |[.int i,.int j,.int k]=>if k=2∧C4 i∧C4 j then some (⟨kJ i ((j - i+1) / 2).toNat,[]⟩,p.2)else none
 |_=>none
end
end Qm
namespace L2
open PySem PySem.Spec PyProof.Rows
structure wX(X:Cx)(f:Addr)(F:Qm.FN):Prop where
 ex:∃(k:Nat) (fd:FuncData) (ps:List Str),bY X.prog X.w X.K X.mg X.base cF k f fd ps (ei X.K F)∧cS k X.A∧PySem.W.keepIn X.K (.ref f)=true∧Binds X.K fd ps []
section
variable{X:Cx}{e:Expr}{es:List Expr}{x:Str}{p pos:Pos}{fx:Qm.XA}{fe:Qm.XE}
theorem lookup_mem{tab:List (Nat×Qm.FN)}{a:Nat}{F:Qm.FN}(h:tab.lookup a=some F):(a,F)∈tab:=by
 induction tab with
 |nil=>cases h
 |cons q r ih=>
  obtain⟨b,G⟩:=q
  rw[List.lookup_cons]at h
  cases hb:(a==b)with
  |true=>
   rw[hb]at h
   cases h
   have:a=b:=by simpa using hb
   subst this
   exact List.mem_cons_self ..
  |false=>
   rw[hb]at h
   exact List.mem_cons_of_mem _ (ih h)
theorem Bm(tab:List (Nat×Qm.FN))(hT:∀q∈tab,wX X q.1 q.2)(hv:QE X (.Name x p) fe)(ha:QA X (e::es) fx)
  (he:starEach (e::es) X.env=(false,eval e X.env)::starEach es X.env:=by rfl)(dS:(backTo pos (starEach es X.env)).any (·.1)=false:=by rfl):
  QE X (.Call (.Name x p) (e::es) [] pos) (Qm.Aa tab fe fx):=by
 intro pins s σ H Q I ⟨ρ,env,c,d,c',rs,re,h,k⟩
 obtain⟨q,e1,h⟩:=aE h
 split at h
 ·rename_i a hq
  obtain⟨F,e2,h⟩:=aE h
  obtain⟨r,e3,h⟩:=aE h
  obtain⟨lv,fd,ps,G,hr,hk,hb⟩:=(hT _ (lookup_mem e2)).ex
  refine wpAny_Call_Name_kw (bF (hv pins s σ H (fun v H1=>v= .ref a∧∃aF,Nx X.K ρ c H aF q.2 H1) I ⟨ρ,env,c,q.1,q.2,rs,re,e1,fun aF v H1 n1 r1=>?_⟩) fun u s1 ⟨v,H1,I1,rv,Kl,aF,n1⟩=>?_)
  ·rw[hq]at r1
   cases r1
   exact⟨rfl,aF,n1⟩
  ·subst Kl
   cases (show u=Value.ref a from rv)
   have t1:yg (ei X.K F) [] E0 (AQ X.K fx) σ H1 Q:=⟨aF,env,q.2,r.1,r.2,n1.rs,re.up n1.up,e3,fun jR vs H2 n2 r2=>⟨jR,r.2,r.1,d,c',n2.rs,by simpa using r2,h,fun aM v H' n r=>k aM v H' ((n1.trans n2).trans n) r⟩⟩
   refine PySem.W.callWith_K (h₀:=X.base) I.ok.mod.tm hk (bF (ha pos pins s1 σ H1 _ I1 t1) fun us s2 ⟨vs,H2,I2,r,q⟩=>⟨I2.jN,?_⟩) he dS
   exact zK G hr hb .nil CS I2 r q
 ·cases h
theorem Km{a:Nat}(hg:Gl X x)(hm:X.mg x=some (.ref a))(hd:(x==("__debug__":Str))=false:=by decide):QE X (.Name x pos) (Qm.eC (.adr a)):=
 pM (.adr a) (Cd (v:=.ref a) hg hm rfl hd) fun _ _ _=>.adr a
end
def Ab(lo:Int)(n:Nat):It:=⟨fun i _=>i<n,fun i H x H'=>H'=H∧x= .int (lo+i*2),fun i _=>n≤i⟩
theorem vc{P:Program}{w:World}{K:PySem.W.Frag}{tg:Expr}(it:Addr)(lo:Int)(n:Nat):Turn P w K tg (Ab lo n) [it] it (fun i h=>IsRangeIter h it (lo+(i:Nat)*2) ((n:Int) - (i:Nat)) 2) where
 mem:=by simp
 obj:=fun i h st b hb=>by
  have e:b=it:=by simpa using hb
  subst e
  exact⟨_,st,fun v z=>by
   have z':Data.fields _=Data.cell v:=z
   cases z'⟩
 keep:=fun i h h' st k=>k it (by simp) _ st
 item:=by
  intro X hP hw hK hc i pins s σ H E I hf st hg
  subst hP hw hK
  obtain⟨f0,f1,f2,f3,f4,f5⟩:=hf it (by simp)
  have W:=Walks.range (prog:=X.prog) (w:=X.w) (I.ok.hd hc) it lo 2 n
  refine W.item i s _ _ hg st fun v h' tk hv aA kk=>?_
  obtain⟨t,rfl⟩:=hv
  have I1:Inv X pins σ H { s with heap:=h',toks:=tk }:=I.turned (fun b o hb e=>kk b o (by simpa using hb) e) f0 f1 f3 f4 f5
  exact⟨_,rfl,uF (s:={ s with heap:=h',toks:=tk }) (n:="range_iterator") aA rfl rfl (by decide) ⟨.int (lo+i*2),H,I1,⟨t,rfl⟩,⟨rfl,rfl⟩,aA,fun b hb=>(hf b hb).1⟩⟩
 done:=by
  intro X hP hw hK hc i pins s σ H E I hf st hg
  subst hP hw hK
  obtain⟨f0,f1,f2,f3,f4,f5⟩:=hf it (by simp)
  exact wpAny_pyNext_range_end (I.ok.hd hc) st (by have:n≤i:=hg;omega) fun h' eb=>⟨rfl,I.turned (t':=s.toks) (fun b o hb e=>eb b o hb e) f0 f1 f3 f4 f5⟩
 self:=fun _ _ _ _ _ st h=>wpAny_pyIter_rangeiter st h
section
variable{X:Cx}{tg:Expr}
theorem Gu{lo hi:Int}(h1: -(2 ^ 62)≤lo)(h2:lo<2 ^ 62)(h3: -(2 ^ 62)≤hi)(h4:hi<2 ^ 62):Builtin.Range.small lo hi 2=true:=by
 have e:Builtin.Range.rangeSize lo hi 2=if lo<hi then(hi - lo - 1) / 2+1 else 0:=by
  unfold Builtin.Range.rangeSize
  rw[if_pos (by decide)]
 unfold Builtin.Range.small
 rw[e]
 simp only[Builtin.Range.rangeFitsLong,Bool.and_eq_true,Bool.or_eq_true,decide_eq_true_eq,beq_iff_eq,show(2:Int) > 0 by decide,if_true]
 split<;>omega
theorem yO{pins:List (Addr×Obj)}{σ:St}{H:Hp}{s:Shared}{R:It→Hp→Prop}{E:Value→Shared→Prop}{lo hi:Int}{t u v:Tok}{tk:Nat}(I:Inv X pins σ H s)(h1: -(2 ^ 62)≤lo)(h2:lo<2 ^ 62)(h3: -(2 ^ 62)≤hi)(h4:hi<2 ^ 62)
  (q:R (Ab lo ((hi - lo+1) / 2).toNat) H):wpAny (model X.prog X.w) X.A (pyIter (.ref s.heap.objs.size)) (Jl X pins σ tg R) E { s with heap:=s.heap.push { cls:=.type "range",data:=.fields #[.int lo t,.int hi u,.int 2 v] },toks:=tk }:=by
 refine wpAny_pyIter_range (IsRange.new ..) (Gu h1 h2 h3 h4) ?_
 have I1:Inv X pins σ H { s with heap:=s.heap.push { cls:=.type "range",data:=.fields #[.int lo t,.int hi u,.int 2 v] },toks:=tk }:=I.kept fun b o e=>Heap.get?_push_of_some _ e
 refine⟨(s.heap.push { cls:=.type "range",data:=.fields #[.int lo t,.int hi u,.int 2 v] }).objs.size,[(s.heap.push { cls:=.type "range",data:=.fields #[.int lo t,.int hi u,.int 2 v] }).objs.size],_,_,H,rfl,
  I1.kept (t':=tk) fun b o e=>Heap.get?_push_of_some _ e,vc _ lo ((hi - lo+1) / 2).toNat,?_,fun b hb=>?_,q⟩
 ·have e1:lo+((0:Nat):Int)*2=lo:=by simp
  have e2:((((hi - lo+1) / 2).toNat:Nat):Int) - ((0:Nat):Int)=Builtin.Range.rangeSize lo hi 2:=by
   unfold Builtin.Range.rangeSize
   rw[if_pos (by decide)]
   split<;>omega
  show IsRangeIter _ _ (lo+((0:Nat):Int)*2) (((((hi - lo+1) / 2).toNat:Nat):Int) - ((0:Nat):Int)) 2
  rw[e1,e2]
  exact Heap.get?_push_size _ rfl
 ·have e:b=(s.heap.push { cls:=.type "range",data:=.fields #[.int lo t,.int hi u,.int 2 v] }).objs.size:=by simpa using hb
  subst e
  exact I1.wb (Nat.le_refl _) (I1.aO.fresh (Nat.le_refl _))
def Gv(ta:TA):TI:=fun σ H R=>ta σ H fun vs H1=>∃i j:Int,vs=[.int i,.int j,.int 2]∧(-(2 ^ 62)≤i∧i<2 ^ 62∧-(2 ^ 62)≤j∧j<2 ^ 62)∧R (Ab i ((j - i+1) / 2).toNat) H1
theorem yP{a b d:Expr}{ta:TA}{p pos:Pos}(hg:Gl X "range")(hm:X.mg "range" =none)(ha:PA X [a,b,d] ta)(hs:starEach [a,b,d] X.env=(false,eval a X.env)::starEach [b,d] X.env:=by rfl)(dS:(backTo pos (starEach [b,d] X.env)).any (·.1)=false:=by rfl):
  PI X tg (.Call (.Name "range" p) [a,b,d] [] pos) (Gv ta):=by
 intro pins s σ H R I h
 refine Call_ (gX I hg hm boot_range (PyProof.Rows.callWith_type1 (bF (ha pos pins s σ H _ I h) fun us s1 aZ=>?_) hs dS))
 obtain⟨vs,H1,I1,r1,q1⟩:=aZ
 obtain⟨i,j,e,⟨q1,q2,q3,q4⟩,q⟩:=q1
 subst e
 cases r1 with
 |cons r rr=>
  cases rr with
  |cons r' rr=>
   cases rr with
   |cons R8 rr=>
    cases rr
    obtain⟨t,rfl⟩:=r
    obtain⟨t',rfl⟩:=r'
    obtain⟨Vg,rfl⟩:=R8
    exact call_range_3 (by decide) (yO I1 q1 q2 q3 q4 q) (Or.inl (PyProof.noPylong_of_log2 (by decide +kernel)))
theorem Du{K:PySem.W.Frag}{ρ:Nat→Addr}{N:Nat}{H:Hp}{lo:Int}{n:Nat}:C8 K ρ N H ⟨Qm.kJ lo n,[]⟩ (Ab lo n):=by
 intro aM c' H' _ R9 _
 refine⟨fun i hi=>by show i<n;simpa[Qm.kJ]using hi,by show n≤(Qm.kJ lo n).length;simp[Qm.kJ],fun i d x H2 hd hy=>?_⟩
 obtain⟨rfl,rfl⟩:=hy
 unfold Qm.kJ at hd
 rw[List.getElem?_map]at hd
 cases q:(List.range n)[i]? with
 |none=>rw[q]at hd;cases hd
 |some j=>
  rw[q]at hd
  cases hd
  have:j=i:=by
   obtain⟨h1,h2⟩:=List.getElem?_eq_some_iff.mp q
   simpa using h2.symm
  subst this
  exact⟨Nx.refl R9,.int _⟩
theorem yQ{a b d:Expr}{f:Qm.XA}{p pos:Pos}(hg:Gl X "range")(hm:X.mg "range" =none)(ha:QA X [a,b,d] f)(hs:starEach [a,b,d] X.env=(false,eval a X.env)::starEach [b,d] X.env:=by rfl)(dS:(backTo pos (starEach [b,d] X.env)).any (·.1)=false:=by rfl):
  QI X tg (.Call (.Name "range" p) [a,b,d] [] pos) (Qm.u_ f):=(yP hg hm ha hs dS).imp <| by
 rintro σ H R ⟨ρ,env,c,m,c',rs,re,e,k⟩
 obtain⟨p,e1,e⟩:=aE e
 refine⟨ρ,env,c,p.1,p.2,rs,re,e1,fun aF vs H1 n1 r1=>?_⟩
 split at e
 ·rename_i i j kk hj
  split at e
  ·rename_i hb
   cases e
   obtain⟨rfl,hi,NK⟩:=hb
   rw[hj]at r1
   cases r1 with
   |cons rv rr=>
    obtain⟨v2,v3,rfl,ru,tp⟩:=rr.t8
    cases rv.dF;cases ru.dF;cases tp.dF
    exact⟨i,j,rfl,⟨hi.1,hi.2,NK.1,NK.2⟩,k aF _ H1 n1 Du⟩
  ·cases e
 ·cases e
end
end L2
namespace Qm
open PySem
noncomputable section
def k1(d:D):Option (List Int):=match d with
 |.tup xs=>nums xs
 |_=>none
def k2(d:D):Option (List (List Int)):=match d with
 |.tup xs=>omap k1 xs
 |_=>none
section
variable{κ α:Type}[DecidableEq κ]
end
end
end Qm
namespace L2
open PySem PySem.Spec PyProof.Rows
abbrev R_(k:List Int):List Key:=k.map Sum.inl
abbrev Sa(k:List (List Int)):List (List Key):=k.map (List.map Sum.inl)
section
variable{K:PySem.W.Frag}{ρ aM:Nat→Addr}{N N':Nat}{H H':Hp}
theorem nK.length:∀{ps:List (List Int×Qm.D)}{us:List (List Key×V)},nK K ρ N H ps us→ps.length=us.length
 |_,_,.nil=>rfl
 |_,_,.cons _ a=>congrArg (·+1) (nK.length a)
theorem nK.at_:∀{ps:List (List Int×Qm.D)}{us:List (List Key×V)}{i:Nat}{p:List Int×Qm.D},nK K ρ N H ps us→ps[i]? =some p→∃v,us[i]? =some (R_ p.1,v)∧RD K ρ N H p.2 v
 |_,_,_,_,.nil,e=>by simp at e
 |_,_,0,_,.cons h _,e=>by simp at e;subst e;exact⟨_,rfl,h⟩
 |_,_,i+1,p,.cons _ a,e=>by
  obtain⟨v,h1,h2⟩:=nK.at_ (i:=i) (p:=p) a (by simpa using e)
  exact⟨v,by simpa using h1,h2⟩
end
section
variable{K:PySem.W.Frag}{ρ aM:Nat→Addr}{N N':Nat}{H H':Hp}
theorem mZ.length:∀{ps:List (List (List Int)×Qm.D)}{us:List (List (List Key)×V)},mZ K ρ N H ps us→ps.length=us.length
 |_,_,.nil=>rfl
 |_,_,.cons _ a=>congrArg (·+1) (mZ.length a)
theorem mZ.at_:∀{ps:List (List (List Int)×Qm.D)}{us:List (List (List Key)×V)}{i:Nat}{p:List (List Int)×Qm.D},mZ K ρ N H ps us→ps[i]? =some p→∃v,us[i]? =some (Sa p.1,v)∧RD K ρ N H p.2 v
 |_,_,_,_,.nil,e=>by simp at e
 |_,_,0,_,.cons h _,e=>by simp at e;subst e;exact⟨_,rfl,h⟩
 |_,_,i+1,p,.cons _ a,e=>by
  obtain⟨v,h1,h2⟩:=mZ.at_ (i:=i) (p:=p) a (by simpa using e)
  exact⟨v,by simpa using h1,h2⟩
end
end L2
namespace L2
open PySem PySem.Spec PyProof.Rows
section
variable{K:PySem.W.Frag}{ρ:Nat→Addr}{N:Nat}{H:Hp}
theorem kK:∀(is:List Int),RA K ρ N H (is.map Qm.D.int) (is.map V.int)
 |[]=>.nil
 |i::is=>.cons (.int i) (kK is)
end
section
variable{K:PySem.W.Frag}{ρ:Nat→Addr}{c:Qm.Cells}{H:Hp}
end
section
variable{X:Cx}{pos:Pos}
end
end L2
namespace L2
open PySem PySem.Spec PyProof.Rows
section
variable{P:Program}{w:World}{H:Hp}{h:Heap}{a:Addr}
abbrev KU(H:Hp)(bg:List (List (List Key)×V))(xs:List (List (List Key)×Addr×Value)):Prop:=Paired (fun(p:List (List Key)×V) (q:List (List Key)×Addr×Value)=>p.1=q.1∧vX H p.1 q.2.1∧RelV p.2 q.2.2) bg xs
theorem KU.length{bg:List (List (List Key)×V)}{xs:List (List (List Key)×Addr×Value)}(r:KU H bg xs):bg.length=xs.length:=by
 induction r with
 |nil=>rfl
 |cons _ _ ih=>simp[ih]
theorem KT.len{bg:List (List Key×V)}{xs:List (List Key×Addr×Value)}(r:KT H bg xs):bg.length=xs.length:=by
 induction r with
 |nil=>rfl
 |cons _ _ ih=>simp[ih]
end
section
variable{X:Cx}
end
end L2
namespace PySem
section
variable{prog:Program}{w:World}{K:Type}[DecidableEq K]{knd:HeapKind prog w K}{A:Around}{E:Value→Shared→Prop}{s:Shared}
end
end PySem
namespace L2
open PySem PySem.Spec PyProof.Rows
section
variable{K:Type}[DecidableEq K]
end
section
variable{X:Cx}{o i e f:Expr}{pos apos dW:Pos}{td ty tx:TE}
end
section
variable{X:Cx}{o i b:Expr}{pos apos dW p0 p1 p2 lp:Pos}{fo fb:Qm.XE}
end
end L2
namespace L2
open PySem PySem.Spec PyProof.Rows
section
variable{X:Cx}{o:Expr}{p0 pos apos dW:Pos}{td:TE}{fo:Qm.XE}
end
end L2
namespace PySem
set_option maxRecDepth 100000
end PySem
namespace L2
open PySem PySem.Spec PyProof.Rows
section
variable{X:Cx}{pins:List (Addr×Obj)}{σ:St}{H:Hp}{A:Around}{E:Value→Shared→Prop}
end
end L2
namespace L2
open PySem PySem.Spec PyProof.Rows
section
variable{X:Cx}
end
end L2
namespace PySem
set_option maxRecDepth 100000
section
variable{prog:Program}{w:World}{A:Around}{E:Value→Shared→Prop}{s:Shared}{z TI TO i1 i2:Addr}{f0 f1 x y a b:Value}
end
end PySem
namespace PySem
section
variable{prog:Program}{w:World}{A:Around}{E:Value→Shared→Prop}{s:Shared}{z TI TO:Addr}{f0 f1:Value}
end
end PySem
namespace L2
open PySem PySem.Spec PyProof.Rows
end L2
namespace PySem
section
variable{prog:Program}{w:World}{A:Around}{E:Value→Shared→Prop}{s:Shared}
end
end PySem
namespace L2
open PySem PySem.Spec PyProof.Rows
section
variable{X:Cx}{e1 e2 tg:Expr}{p1 p2:Pos}{f:Qm.XA}
end
end L2
namespace L2
open PySem PySem.Spec PyProof.Rows
section
variable{X:Cx}{e1 e2 tg:Expr}{p1 p2:Pos}{f:Qm.XA}
end
end L2
namespace Qm
open PySem
noncomputable section
def nT:FN:=one fun x c=>(bq x c).bind fun l=>(nums l.2).bind fun is=>if is.length<64 then some (.ref c.length,c++[.lst ((is.mergeSort fun a b=>decide (a≤b)).map .int)])else none
end
end Qm
namespace Qm
open PySem
noncomputable section
end
end Qm
namespace PySem
open Sem (wp)
section
variable{prog:Program}{w:World}{A:Around}{E:Value→Shared→Prop}{s:Shared}
end
end PySem
namespace L2
open PySem PySem.Spec PyProof.Rows
section
variable{X:Cx}
theorem mC:∀{us:List Value}{ns:List Int},IntsAre us ns→Vals (ns.map V.int) us
 |_,_,.nil=>.nil
 |_,_,.cons n t r=>.cons ⟨t,rfl⟩ (mC r)
theorem gA:∀{xs ys:List Int},xs.Perm ys→xs.Pairwise (·≤·)→ys.Pairwise (·≤·)→xs=ys
 |[],_,p,_,_=>(List.nil_perm.mp p).symm
 |x::xs,[],p,_,_=>absurd p.length_eq (by simp)
 |x::xs,y::ys,p,h1,h2=>by
  have e:x=y:=by
   have m1:x∈y::ys:=p.subset List.mem_cons_self
   have m2:y∈x::xs:=p.symm.subset List.mem_cons_self
   rcases List.mem_cons.mp m1 with e|m1
   ·exact e
   rcases List.mem_cons.mp m2 with e|m2
   ·exact e.symm
   have a1:=(List.pairwise_cons.mp h1).1 _ m2
   have a2:=(List.pairwise_cons.mp h2).1 _ m1
   omega
  subst e
  rw[gA (List.Perm.cons_inv p) (List.pairwise_cons.mp h1).2 (List.pairwise_cons.mp h2).2]
theorem Gw{xs ns:List Int}(p:xs.Perm ns)(h:xs.Pairwise (·≤·)):xs=ns.mergeSort fun a b=>decide (a≤b):=by
 refine gA (p.trans (List.mergeSort_perm ..).symm) h ?_
 have:=List.pairwise_mergeSort (le:=fun a b:Int=>decide (a≤b)) (fun a b c h1 h2=>by simp at *;omega) (fun a b=>by simp;omega) ns
 exact this.imp fun h=>by simpa using h
theorem wY:fC X (.builtin "sorted") (fun xs H Q=>∃l,∃is:List Int,xs=[.ref l]∧cD X.K H l (is.map V.int)∧is.length<64∧∀D,H D=none→Q (.ref D) (upd H D (.lst ((is.mergeSort fun a b=>decide (a≤b)).map V.int)))):=by
 intro pins s σ H xs us Q I r h
 obtain⟨l,is,rfl,hl,hz,q⟩:=h
 obtain⟨u,rfl,e1⟩:=vals1 r
 cases e1
 obtain⟨its,rv,pl,zl⟩:=I.list hl
 have lv:=rv.length
 rw[List.length_map]at lv zl
 refine sorted_ints pl.isList (ints_of rv) (by omega) fun out Sb a1 a2 a3=>?_
 obtain⟨e,he⟩:=sortedAll_at s.heap its out
 have hn:=Gw a2 a3
 refine⟨.ref (s.heap.objs.size+1),_,I.laid (a:=s.heap.objs.size+1) (t':=s.toks) (fun _ _=>sortedAll_old) (Nat.le_succ _) (show cC X.prog X.w _ _ _ (.lst (Sb.map V.int))from⟨by rw[List.length_map,a2.length_eq];exact zl,out.toList,e,mC a1,by simpa using he⟩),rfl,?_⟩
 rw[hn]
 exact q _ (I.aO.fresh (Nat.le_succ _))
theorem Bn{K:PySem.W.Frag}:qc K (fun xs H Q=>∃l,∃is:List Int,xs=[.ref l]∧cD K H l (is.map V.int)∧is.length<64∧∀D,H D=none→Q (.ref D) (upd H D (.lst ((is.mergeSort fun a b=>decide (a≤b)).map V.int)))) Qm.nT:=by
 intro ρ c H ds d c' vs Q rs ra e k
 obtain⟨x,rfl,e⟩:=jS e
 obtain⟨v,rfl,rx⟩:=ra.iX
 obtain⟨l,e1,e⟩:=aE e
 obtain⟨is,e2,e⟩:=aE e
 split at e
 ·rename_i hz
  cases e
  obtain⟨_,hc,ws,rfl,h1,a1⟩:=rs.bq rx e1
  rw[rR a1 e2]at h1
  refine⟨_,is,rfl,cD.of h1,hz,fun q hq=>?_⟩
  obtain⟨n,r⟩:=Nx.alloc rs hq (kK (is.mergeSort fun a b=>decide (a≤b)))
  exact k _ _ _ n r
 ·cases e
end
end L2
namespace L2
open PySem PySem.Spec PyProof.Rows
theorem rV{X:Cx}:∀q∈([]:List (Nat×Qm.FN)),wX X q.1 q.2:=fun q h=>nomatch h
theorem oP{X:Cx}{a:Nat}{F:Qm.FN}{l:List (Nat×Qm.FN)}{k:Nat}{fd:FuncData}{ps:List Str}(h:bY X.prog X.w X.K X.mg X.base cF k a fd ps (ei X.K F))(hr:cS k X.A)(hk:PySem.W.keepIn X.K (.ref a)=true)(hb:Binds X.K fd ps [])(r:∀q∈l,wX X q.1 q.2):∀q∈(a,F)::l,wX X q.1 q.2:=fun q m=>by
 rcases List.mem_cons.mp m with rfl|m
 ·exact⟨⟨k,fd,ps,h,hr,hk,hb⟩⟩
 ·exact r q m
def spT(K:PySem.W.Frag)(F:Nat→Nat→Qm.FN):Sp:=fun vs H Q E=>∀x y,x≠y→ei K (F x y) vs H Q E
end L2
namespace PySem
open Sem (wp)
open AutoSeq1 (wpAny_loadPart')
end PySem
namespace L2
open PySem PySem.Spec PyProof.Rows
section
variable{X:Cx}
end
end L2
namespace Qm
open PySem
noncomputable section
def pO(n:Nat)(fb:XE):FN:=fun ds c=>if ds.length=n then fb (ds.map some) c else none
def vd:List Nat→Env→Option (List D)
 |[],_=>some []
 |i::r,σ=>(σ[i]?.join).bind fun d=>(vd r σ).bind fun ds=>some (d::ds)
def iZ(t:aS)(n:Nat)(is:List Nat):XE:=fun σ c=>match c[n]? with
 |some (.tab cd q)=>if cd=t.code∧q=t.qual then(vd is σ).bind fun bs=>some (.cU t bs,c)else none
 |_=>none
open Classical in
def fG:List (aS×FN)→aS→Option FN
 |[],_=>none
 |(u,F)::r,t=>if u=t then some F else fG r t
def eP(tab:List (Nat×FN))(lt:List (aS×FN))(f:XE)(a:XA):XE:=fun σ c=>(f σ c).bind fun q=>match q.1 with
 |.adr b=>(tab.lookup b).bind fun F=>(a σ q.2).bind fun r=>F r.1 r.2
 |.cU t bs=>(fG lt t).bind fun F=>(a σ q.2).bind fun r=>F (r.1++bs) r.2
 |_=>none
end
end Qm
namespace L2
open PySem PySem.W PySem.Spec PyProof.Rows
abbrev Kn(P:Program)(w:World)(K:Frag)(mg:Str→Option Value)(base:Heap)(N:List Str)(t:Qm.aS)(f c':Addr)(bZ:List (Str×Addr))(A:Around)(outer:List Env)(s:Shared)(H:Hp):Cx where
 prog:=P
 w:=w
 K:=K
 mg:=mg
 base:=base
 A:=A.deeper (envX t.qual t.scope s.heap.objs.size f (.ref c') bZ)
 N:=N
 aY:=s
 ck:=H
 env:=envX t.qual t.scope s.heap.objs.size f (.ref c') bZ
 outer:=outer
 stack:=envX t.qual t.scope s.heap.objs.size f (.ref c') bZ::outer
 ex:=[]
 calm:=true
 fn:=fun _=>false
 pn:=[]
 xe:=fun _ _=>False
structure lN(N ps:List Str)(t:Qm.aS):Prop where
 kind:t.scope.kind= .function
 co:t.scope.isCoroutine=false
 gen:t.scope.isGenerator=false
 nd:N.Nodup
 pre:N=ps++t.free
 par:∀x∈ps,t.scope.names.lookup x=some .local
 fr:∀x∈t.free,t.scope.names.lookup x=some .free
 Ac:∀y∈t.scope.names,y.2≠.cell
 free:∀x,t.scope.names.lookup x=some .free→x∈t.free
 bind:∀(bZ:List (Str×Addr)) (pm bP ct:Value) (us:List Value),us.length=ps.length→bindArgs (kla_fn "<lambda>" t.qual t.params t.body t.scope bZ pm bP ct) ⟨us,[]⟩=pure (ps.zip us)
theorem nU{x:Str}{u:Value}:∀{l:List (Str×Value)},(l.map (·.1)).Nodup→(x,u)∈l→l.lookup x=some u
 |[],_,h=>nomatch h
 |(y,v)::r,nd,h=>by
  rw[List.map_cons,List.nodup_cons]at nd
  rcases List.mem_cons.mp h with e|h
  ·cases e;simp
  ·have:x≠y:=fun e=>nd.1 (by rw[←e];exact List.mem_map_of_mem (f:=(·.1)) h)
   rw[List.lookup_cons,show(x==y)=false by simpa using this]
   exact nU nd.2 h
theorem wZ{x:Str}{u:Value}{ps:List Str}{us:List Value}{i:Nat}(nd:ps.Nodup)(h1:ps[i]? =some x)(h2:us[i]? =some u):(ps.zip us).reverse.lookup x=some u:=by
 refine nU ?_ (List.mem_reverse.mpr (List.mem_of_getElem? (i:=i) ?_))
 ·rw[List.map_reverse]
  refine List.pairwise_reverse.mpr (List.Pairwise.imp (fun h=>Ne.symm h) ?_)
  have:((ps.zip us).map (·.1)).Sublist ps:=by
   clear nd h1 h2
   induction ps generalizing us with
   |nil=>simp
   |cons p ps ih=>
    cases us with
    |nil=>simp
    |cons u us=>simpa using ih (us:=us)
  exact nd.sublist this
 ·rw[List.getElem?_zip_eq_some]
  exact⟨h1,h2⟩
section
variable{P:Program}{w:World}{K:Frag}{mg:Str→Option Value}{base:Heap}{N ps:List Str}{t:Qm.aS}{k:Nat}{fb:Qm.XE}
structure oQ(P:Program)(w:World)(K:Frag)(mg:Str→Option Value)(base:Heap)(k:Nat)(t:Qm.aS)(F:Qm.FN):Prop where
 run:∀(A:Around) (outer:List Env) (s:Shared) (H:Hp) (f:Addr) (us:List Value) (vs bs:List V) (Q:VK) (E:XK),cS k A→wk P w K mg base A outer s H→nF H f t bs→Vals vs us→ei K F (vs++bs) H Q E→
  codeAny (model P w) A (.call (.ref f) ⟨us,[]⟩) (CR cF outer P w H s Q E) s
theorem ve{n:Nat}(S:lN N ps t)(hn:N.length=n)(eS:∀(f c':Addr) (bZ:List (Str×Addr)) (A:Around) (outer:List Env) (s:Shared) (H:Hp),cS k (A.deeper (envX t.qual t.scope s.heap.objs.size f (.ref c') bZ))→QE (Kn P w K mg base N t f c' bZ A outer s H) t.body fb):
  oQ P w K mg base (k+1) t (Qm.pO n fb):=by
 refine⟨fun A outer s H f us vs bs Q E hr e0 L r me=>?_⟩
 obtain⟨bZ,pm,ky,c',oc,fs,tk,h1,h2,h3,h4,h5,h6,h7,h8⟩:=L.ex
 obtain⟨ρ,c,ds,d,c2,rs,ra,e,kq⟩:=me
 unfold Qm.pO at e
 split at e
 ·rename_i hl
  have Ko:vs.length+bs.length=n:=by rw[←hl,ra.length,List.length_append]
  have Vh:ps.length+t.free.length=n:=by rw[←hn,S.pre,List.length_append]
  have NL:vs.length=ps.length:=by omega
  have Sd:us.length=ps.length:=by rw[←r.length];exact NL
  have g0:s.heap.get? f=some (kla_obj "<lambda>" t.qual t.params t.body t.scope bZ pm c' ky):=(e0.aO f _ h1).1
  have lim:s.heap.NoLimit:=e0.mod.nolimit.keeps fun b o e=>(e0.bs b o e).1
  refine kla_callFunE hr.depth g0 rfl S.co S.gen rfl ⟨c',oc,fs,tk,rfl,(e0.aO c' _ h2).1,h3,h4⟩ ?_
  rw[S.bind bZ pm (.ref c') ky us Sd]
  have NM:∀y∈ps.zip us,t.scope.names.lookup y.1=some .local:=fun y hy=>S.par y.1 (List.of_mem_zip (a:=y.1) (b:=y.2) hy).1
  refine wpAny_pure (wpAny_newFunctionEnv S.Ac NM (fun h' rg Se=>?_) S.kind)
  have hk:∀b o,s.heap.get? b=some o→h'.get? b=some o:=fun b o e=>Se.extBut b o (Nat.ne_of_lt (Heap.lt_size e)) (Heap.get?_push_of_some _ e)
  refine⟨lim.keeps hk,?_⟩
  show codeAny _ _ (.expr t.body (envX t.qual t.scope s.heap.objs.size f (.ref c') bZ)) _ _
  have I:Inv (Kn P w K mg base N t f c' bZ A outer s H) [] ((vs++bs).map some) H { s with heap:=h',toks:=s.toks+(ps.zip us).length }:=by
   have uG:∀b:Addr,b∉(Kn P w K mg base N t f c' bZ A outer s H).ex:=fun b z=>absurd (show b∈([]:List Addr)from z) (by simp)
   have cl:∀x c,bZ.lookup x=some c→∃o u u0,H c=some (.eG o u0)∧o.data= .cell (some u):=fun x c hx=>by
    obtain⟨i,hi⟩:=List.getElem?_of_mem (h6 x c hx)
    have Kq:i<bs.length:=by rw[h7];exact(List.getElem?_eq_some_iff.mp hi).1
    obtain⟨c1,o,u,u0,g1,g2,g3,_⟩:=h8 i x bs[i] hi (List.getElem?_eq_getElem Kq)
    rw[hx]at g1;cases g1
    exact⟨o,u,u0,g2,g3⟩
   refine⟨⟨e0.mod,S.kind,rfl,rfl,Nat.le_refl _,h5,fun y hy=>?_,fun y c z=>absurd z (by simp),fun _=>hr.hd,Around.frames_deeper e0.frames,.inr ⟨rfl,rfl⟩,fun b z=>absurd z (uG b),e0.bs,e0.qB,fun b _ _=>uG b,fun b z=>absurd z (uG b),e0.ju,e0.vY⟩,
    rfl,e0.bare,Un.kept hk,⟨_,rg,fun i x v q1 q2 q3=>?_⟩,fun y c hy=>?_,e0.aO.fresh (Nat.le_refl _),fun y c hy=>?_,fun p hp=>absurd (show p∈([]:List (Addr×Obj))from hp) (by simp),e0.aO.kept hk,?_⟩
   ·have hy:t.scope.names.lookup y=some .cell∨t.scope.names.lookup y=some .free:=hy
    rcases hy with hy|hy
    ·exact absurd rfl (S.Ac _ (PySem.mem_of_lookup hy))
    ·obtain⟨i,hi⟩:=List.getElem?_of_mem (S.free y hy)
     have Kq:i<bs.length:=by rw[h7];exact(List.getElem?_eq_some_iff.mp hi).1
     obtain⟨c1,o,u,u0,g1,_⟩:=h8 i y bs[i] hi (List.getElem?_eq_getElem Kq)
     exact⟨c1,g1⟩
   ·have q1:N[i]? =some x:=q1
    rw[S.pre]at q1
    rw[List.getElem?_map]at q2
    have Dv:(vs++bs)[i]? =some v:=by
     cases z:(vs++bs)[i]? with
     |none=>rw[z]at q2;cases q2
     |some y=>rw[z]at q2;cases q2;rfl
    by_cases hi:i<ps.length
    ·rw[List.getElem?_append_left hi]at q1
     rw[List.getElem?_append_left (by omega)]at Dv
     obtain⟨u,hu,rv⟩:=r.get Dv
     refine⟨u,rv,.inl ⟨S.par x (List.mem_of_getElem? q1),?_⟩⟩
     have FD:ps.Nodup:=by have:=S.nd;rw[S.pre]at this;exact(List.nodup_append.mp this).1
     exact wZ FD q1 hu
    ·rw[List.getElem?_append_right (by omega)]at q1 Dv
     rw[NL]at Dv
     obtain⟨c1,o,u,u0,g1,g2,g3,g4⟩:=h8 _ x v q1 Dv
     exact⟨u,g4,.inr ⟨.inr (S.fr x (List.mem_of_getElem? q1)),c1,g1,o,hk _ _ (e0.aO c1 _ g2).1,g3⟩⟩
   ·obtain⟨o,u,u0,g2,g3⟩:=cl y c hy
    exact⟨_,o,hk _ _ (e0.aO c _ g2).1,g3⟩
   ·obtain⟨o,u,u0,g2,g3⟩:=cl y c hy
    exact .inr ⟨rfl,o,_,g2⟩
   ·rw[List.length_map,List.length_append];exact Ko.trans hn.symm
  have re:RE K ρ c.length H (ds.map some) ((vs++bs).map some):=by
   refine⟨by rw[List.length_map,List.length_map];exact ra.length,fun i d hd=>?_⟩
   rw[List.getElem?_map]at hd
   cases z:ds[i]? with
   |none=>rw[z]at hd;cases hd
   |some d'=>
    rw[z]at hd;cases hd
    obtain⟨v,e1,e2⟩:=ra.get z
    exact⟨v,by rw[List.getElem?_map,e1];rfl,e2⟩
  refine kla_codeExpr (wpAny_mono (eS f c' bZ A outer s H (hr.deeper _) [] _ ((vs++bs).map some) H Q I ⟨ρ,ds.map some,c,d,c2,rs,re,e,kq⟩) (fun u s' hu=>?_) fun _ _ z=>False.elim z)
  obtain⟨v,H',J,rv,q⟩:=hu
  exact⟨v,H',J.os,J.bare,J.base,J.aO,rv,q⟩
 ·cases e
end
end L2
namespace L2
open PySem PySem.W PySem.Spec PyProof.Rows
structure vf(X:Cx)(t:Qm.aS)(F:Qm.FN):Prop where
 ex:∃k:Nat,oQ X.prog X.w X.K X.mg X.base k t F∧cS k X.A
theorem nF.fnAt{P:Program}{w:World}{H:Hp}{h:Heap}{a:Addr}{t:Qm.aS}{vs:List V}(L:nF H a t vs)(ok:gF P w H h):FnAt a h:=by
 obtain⟨bZ,pm,ky,c',oc,fs,tk,h1,_⟩:=L.ex
 exact⟨_,_,_,_,(ok a _ h1).1⟩
theorem yR{lt:List (Qm.aS×Qm.FN)}{t:Qm.aS}{F:Qm.FN}(h:Qm.fG lt t=some F):(t,F)∈lt:=by
 induction lt with
 |nil=>cases h
 |cons q r ih=>
  obtain⟨u,G⟩:=q
  unfold Qm.fG at h
  split at h
  ·rename_i e
   cases h
   subst e
   exact List.mem_cons_self ..
  ·exact List.mem_cons_of_mem _ (ih h)
section
variable{X:Cx}{e:Expr}{es:List Expr}{x:Str}{p pos:Pos}{fx:Qm.XA}{fe:Qm.XE}
theorem oR(tab:List (Nat×Qm.FN))(lt:List (Qm.aS×Qm.FN))(hT:∀q∈tab,wX X q.1 q.2)(hL:∀q∈lt,vf X q.1 q.2)(hv:QE X (.Name x p) fe)(ha:QA X (e::es) fx)
  (he:starEach (e::es) X.env=(false,eval e X.env)::starEach es X.env:=by rfl)(dS:(backTo pos (starEach es X.env)).any (·.1)=false:=by rfl):
  QE X (.Call (.Name x p) (e::es) [] pos) (Qm.eP tab lt fe fx):=by
 intro pins s σ H Q I ⟨ρ,env,c,d,c',rs,re,h,k⟩
 obtain⟨q,e1,h⟩:=aE h
 split at h
 ·rename_i a hq
  obtain⟨F,e2,h⟩:=aE h
  obtain⟨r,e3,h⟩:=aE h
  refine Bm tab hT hv ha he dS pins s σ H Q I ⟨ρ,env,c,d,c',rs,re,?_,k⟩
  unfold Qm.Aa
  rw[e1]
  simp only[Option.bind_some,hq,e2,e3]
  exact h
 ·rename_i t bs hq
  obtain⟨F,e2,h⟩:=aE h
  obtain⟨r,e3,h⟩:=aE h
  obtain⟨lv,G,hr⟩:=(hL _ (yR e2)).ex
  refine wpAny_Call_Name_kw (bF (hv pins s σ H (fun v H1=>∃a Bo,v= .ref a∧nF H1 a t Bo∧∃aF,Nx X.K ρ c H aF q.2 H1∧RA X.K aF q.2.length H1 bs Bo) I ⟨ρ,env,c,q.1,q.2,rs,re,e1,fun aF v H1 n1 r1=>?_⟩) fun u s1 ⟨v,H1,I1,rv,a,Bo,Kl,La,aF,n1,rb⟩=>?_)
  ·rw[hq]at r1
   cases r1 with
   |cU l b=>exact⟨_,_,rfl,l,aF,n1,b⟩
  ·subst Kl
   cases (show u=Value.ref a from rv)
   have t1:AQ X.K fx σ H1 (fun vs H2=>nF H2 a t Bo∧ei X.K F (vs++Bo) H2 Q E0):=
    ⟨aF,env,q.2,r.1,r.2,n1.rs,re.up n1.up,e3,fun jR vs H2 n2 r2=>⟨La.up n2.up.fz,jR,r.2,r.1++bs,d,c',n2.rs,r2.append (rb.up n2.up),h,fun aM v H' n r=>k aM v H' ((n1.trans n2).trans n) r⟩⟩
   refine callWith_F (La.fnAt I1.aO) (bF (ha pos pins s1 σ H1 _ I1 t1) fun us s2 ⟨vs,H2,I2,r,L2,q⟩=>⟨L2.fnAt I2.aO,?_⟩) he dS
   refine wpAny_call (codeAny_mono (G.run X.A X.stack s2 H2 a us vs Bo Q E0 hr I2.Ik L2 r q) fun r s' hq=>?_)
   cases r with
   |error e=>exact False.elim hq
   |ok fl=>
    cases fl with
    |ret u=>exact I2.after hq
    |next=>exact False.elim hq
    |brk=>exact False.elim hq
    |cont=>exact False.elim hq
 ·cases h
end
end L2
namespace L2
open PySem PySem.W PySem.Spec PyProof.Rows
theorem pP{cells:List (Str×Addr)}{x:Str}{c:Addr}:∀{names:List (Str×NameKind)}{cs:List (Str×Addr)},(dN cells names cs).lookup x=some c→(x,NameKind.free)∈names∨∃c',cs.lookup x=some c'
 |[],cs,h=>.inr ⟨c,h⟩
 |(n,k)::r,cs,h=>by
  rcases pP (names:=r) h with g|⟨c',g⟩
  ·exact .inl (List.mem_cons_of_mem _ g)
  ·by_cases hk:(k==NameKind.free)=true
   ·rw[if_pos hk]at g
    have Bp:k= .free:=by simpa using hk
    cases e:cells.lookup n with
    |none=>rw[e]at g;exact .inr ⟨c',g⟩
    |some a=>
     rw[e]at g
     by_cases hx:x=n
     ·rw[hx,Bp];exact .inl List.mem_cons_self
     ·have hb:(x==n)=false:=beq_eq_false_iff_ne.mpr hx
      simp only[List.lookup_cons,hb]at g
      exact .inr ⟨c',g⟩
   ·rw[if_neg hk]at g
    exact .inr ⟨c',g⟩
theorem oS{pos:Pos}{a b:Int}{c cv:Value}(l:List Value)(h:TriplesOk l)(hn:codeAmong pos (l++[rawInt a,rawInt b,c])=some cv):codeAmong pos l=some cv∨cv=c:=by
 fun_induction TriplesOk l with
 |case1=>
  simp only[List.nil_append,codeAmong,rawInt]at hn
  split at hn
  ·cases hn;exact .inr rfl
  ·cases hn
 |case2 a' t b' u x rest ih=>
  simp only[List.cons_append,codeAmong]at hn ⊢
  split at hn
  ·rename_i hc;rw[if_pos hc];exact .inl hn
  ·rename_i hc;rw[if_neg hc];exact ih h hn
 |case3 l h1 h2=>exact h.elim
def rW(h:Heap)(cs:List Addr)(H:Hp):Hp:=fun b=>if b∈cs then(match H b with
 |none=>(h.get? b).map (xh b)
 |some z=>some z)else H b
theorem dw{h:Heap}{cs:List Addr}{H:Hp}{b:Addr}{z:HO}(e:H b=some z):rW h cs H b=some z:=by
 unfold rW
 split
 ·rw[e]
 ·exact e
theorem jE{h:Heap}{cs:List Addr}{H:Hp}{b:Addr}(e:b∉cs):rW h cs H b=H b:=if_neg e
theorem oT{h:Heap}{cs:List Addr}{H:Hp}{b:Addr}{o:Obj}(e:b∈cs)(n:H b=none)(g:h.get? b=some o):rW h cs H b=some (xh b o):=by
 unfold rW
 rw[if_pos e,n,g]
 rfl
theorem yS{P:Program}{w:World}{H:Hp}{h:Heap}{a:Addr}{o:Obj}(e:h.get? a=some o):cC P w H h a (xh a o):=
 ⟨e,e,⟨o,e⟩,fun _ _ q k=>k o q⟩
section
variable{X:Cx}{pins:List (Addr×Obj)}{σ:St}{H:Hp}{s:Shared}{cs:List Addr}
theorem Inv.freeze(I:Inv X pins σ H s)(qQ:∀b∈cs,∃x,X.env.cells.lookup x=some b∧X.fn x=false)(xY:∀x c,X.env.cells.lookup x=some c→X.aY.heap.objs.size≤c):Inv X pins σ (rW s.heap cs H) s:=by
 have here:∀b∈cs,∃o v,s.heap.get? b=some o∧o.data= .cell v:=fun b hb=>by
  obtain⟨x,e,_⟩:=qQ b hb
  obtain⟨v,o,h1,h2⟩:=I.cell x b e
  exact⟨o,v,h1,h2⟩
 refine⟨I.ok,I.os,I.bare,⟨I.base.keep,I.base.slot,fun b o e n hx=>?_,I.base.there,fun b xs e=>dw (I.base.nq b xs e),fun b o u e=>dw (I.base.kh b o u e),fun b ps e=>?_⟩,I.loc,I.cell,?_,fun x c e=>?_,fun p hp=>?_,fun b u e=>?_,I.len⟩
 ·have hb:b∉cs:=fun z=>by
   obtain⟨x,e',_⟩:=qQ b z
   exact absurd (Nat.lt_of_lt_of_le (Heap.lt_size e) (xY x b e')) (Nat.lt_irrefl _)
  rw[jE hb];exact I.base.free b o e n hx
 ·obtain⟨more,q⟩:=I.base.mq b ps e
  exact⟨more,dw q⟩
 ·have hb:X.env.locals∉cs:=fun z=>by
   obtain⟨x,e',_⟩:=qQ _ z
   exact I.vZ x _ e' rfl
  rw[jE hb];exact I.free
 ·by_cases hb:c∈cs
  ·obtain⟨y,e',hf⟩:=qQ c hb
   have:y=x:=I.ok.inj y x c e' e
   subst this
   obtain⟨o,v,g,_⟩:=here c hb
   rcases I.fW y c e with n|⟨_,o',u,n⟩
   ·exact .inr ⟨hf,o,_,oT hb n g⟩
   ·exact .inr ⟨hf,o',u,dw n⟩
  ·rcases I.fW x c e with n|⟨f,o',u,n⟩
   ·exact .inl (by rw[jE hb];exact n)
   ·exact .inr ⟨f,o',u,dw n⟩
 ·obtain⟨e,n,ne,nf,d⟩:=I.pin p hp
  have hb:p.1∉cs:=fun hz=>by
   obtain⟨o,v,g,dd⟩:=here _ hz
   rw[e]at g;cases g
   exact d v dd
  exact⟨e,by rw[jE hb];exact n,ne,nf,d⟩
 ·cases q:H b with
  |some z=>
   rw[dw q]at e;cases e
   exact(I.aO b _ q).mn (fun _ _ _ g=>g) (fun _ g=>dw g) fun _ _ g=>dw g
  |none=>
   by_cases hb:b∈cs
   ·obtain⟨o,v,g,_⟩:=here b hb
    rw[oT hb q g]at e;cases e
    exact yS g
   ·rw[jE hb,q]at e;cases e
theorem Inv.tabled{P c':Addr}{ps more:Array Value}{oc:Obj}{h':Heap}{tk:Nat}(I:Inv X pins σ H s)(hP:H P=some (.kj ps))(hx:Heap.ExtBut P s.heap h')(yT:s.heap.objs.size≤c')(v8:h'.get? c'=some oc)(Gx:h'.get? P=some (tabObj (ps++more))):
  Inv X pins σ (upd (upd H P (.kj (ps++more))) c' (xh c' oc)) { s with heap:=h',toks:=tk }:=by
 have Sf:∀b o,s.heap.get? b=some o→b≠c':=fun b o e=>Nat.ne_of_lt (Nat.lt_of_lt_of_le (Heap.lt_size e) yT)
 have yU:∀b o,H b=some o→b≠c':=fun b o e=>Nat.ne_of_lt (Nat.lt_of_lt_of_le (I.aO.lt e) yT)
 have NO:∀b o,H b=some o→(∀ps,o≠.kj ps)→b≠P:=fun b o e d z=>by subst z;rw[hP]at e;cases e;exact d _ rfl
 have Gy:∀b,H b=none→b≠P:=fun b e z=>by subst z;rw[hP]at e;cases e
 have up:∀b o,H b=some o→(∀ps,o≠.kj ps)→upd (upd H P (.kj (ps++more))) c' (xh c' oc) b=some o:=fun b o e d=>by rw[aG (yU b o e),aG (NO b o e d)];exact e
 refine I.step (g':=s.gens) (d':=s.drawn) (ch:=[]) (fun _ z=>nomatch z) (fun b o _ _ _ e n=>hx b o (Gy b n) e) (fun b o _ _ _ e n=>⟨o.slots,hx b o (Gy b n) e⟩) (fun b o _ e n=>?_) (fun b o _ e=>?_) (fun b xs e=>up b _ e fun _ z=>by cases z) (fun b o u e=>up b _ e fun _ z=>by cases z)
  (fun b Vi e=>?_) (fun m hm=>hm.extBut hx (Gy _ I.free)) (fun b u e=>?_) I.bare
 ·rw[aG (Sf b o e),aG (Gy b n)];exact n
 ·by_cases hb:b=P
  ·subst hb;exact⟨_,Gx⟩
  ·exact⟨o,hx b o hb e⟩
 ·by_cases hb:b=P
  ·subst hb
   rw[hP]at e;cases e
   exact⟨more,by rw[aG (yU _ _ hP),bQ]⟩
  ·exact⟨#[],by rw[aG (yU b _ e),aG hb,e];simp⟩
 ·by_cases hc:b=c'
  ·subst hc;rw[bQ]at e;cases e;exact yS v8
  ·rw[aG hc]at e
   by_cases hb:b=P
   ·subst hb;rw[bQ]at e;cases e;exact Gx
   ·rw[aG hb]at e
    refine(I.aO b u e).mn (fun c v AN g=>hx c v ?_ g) (fun c g=>up c _ g fun _ z=>by cases z) fun c xs g=>up c _ g fun _ z=>by cases z
    rcases AN with rfl|AN
    ·exact hb
    ·exact NO c _ AN fun _ z=>by cases z
end
section
variable{K:Frag}{ρ aM:Nat→Addr}{N N':Nat}{H H':Hp}
theorem CO.Sg{a:Addr}{z:Qm.Cell}(h:CO K ρ N H a z)(m:z.mt=false)(u:Up K ρ N H aM N' H'):CO K aM N' H' a z:=by
 cases z with
 |lst ds=>cases m
 |yy ds=>cases m
 |Bc ds=>cases m
 |Be ds=>cases m
 |tab cd q=>cases m
 |ro ds=>
  obtain⟨vs,h1,h2⟩:=h
  refine⟨vs,?_,h2.up u⟩
  rcases h1 with⟨o,h1⟩|h1
  ·exact .inl ⟨o,u.fz _ _ _ h1⟩
  ·exact .inr h1
 |yz ds=>obtain⟨o,vs,h1,h2⟩:=h;exact⟨o,vs,u.fz _ _ _ h1,h2.up u⟩
 |rq ds=>obtain⟨o,vs,h1,h2⟩:=h;exact⟨o,vs,u.fz _ _ _ h1,h2.up u⟩
 |exc C S ds=>obtain⟨vs,h1,h2⟩:=h;exact⟨vs,h1.up u.fz,h2.up u⟩
end
end L2
namespace L2
open PySem PySem.W PySem.Spec PyProof.Rows
section
variable{X:Cx}{pins:List (Addr×Obj)}{σ:St}{H:Hp}{s:Shared}
theorem ud{K:Frag}{ρ:Nat→Addr}{N:Nat}{env:Qm.Env}{Ns:List Str}(re:RE K ρ N H env σ):∀{is:List Nat}{xs:List Str}{bs:List Qm.D},is.length=xs.length→(∀(j i:Nat) (x:Str),is[j]? =some i→xs[j]? =some x→Ns[i]? =some x)→Qm.vd is env=some bs→
  ∃vs,RA K ρ N H bs vs∧vs.length=xs.length∧∀(j:Nat) (x:Str) (v:V),xs[j]? =some x→vs[j]? =some v→∃i:Nat,Ns[i]? =some x∧σ[i]? =some (some v)
 |[],[],bs,_,_,h=>by
  cases h
  exact⟨[],.nil,rfl,fun j x v e _=>by simp at e⟩
 |[],_::_,_,hl,_,_=>by simp at hl
 |_::_,[],_,hl,_,_=>by simp at hl
 |i::is,x::xs,bs,hl,hx,h=>by
  unfold Qm.vd at h
  obtain⟨d,e1,h⟩:=aE h
  obtain⟨ds,e2,h⟩:=aE h
  cases h
  have Sh:env[i]? =some (some d):=by
   cases z:env[i]? with
   |none=>rw[z]at e1;cases e1
   |some y=>rw[z]at e1;cases y with
    |none=>cases e1
    |some w=>cases e1;rfl
  obtain⟨v,h1,h2⟩:=re.at_ i d Sh
  obtain⟨vs,g1,g2,g3⟩:=ud re (is:=is) (xs:=xs) (bs:=ds) (by simpa using hl) (fun j i' x' q1 q2=>hx (j+1) i' x' (by simpa using q1) (by simpa using q2)) e2
  refine⟨v::vs,.cons h2 g1,by simp[g2],fun j y w q1 q2=>?_⟩
  cases j with
  |zero=>simp at q1 q2;subst q1;subst q2;exact⟨i,hx 0 i x rfl rfl,h1⟩
  |succ j=>exact g3 j y w (by simpa using q1) (by simpa using q2)
theorem Gz{K:Frag}{ρ:Nat→Addr}{c:Qm.Cells}{H1 H3:Hp}{n:Nat}{cd:Nat}{q:Str}{ps:Array Value}{f:Addr}{o:Obj}(rs:RS K ρ c H)(Dw:c[n]? =some (.tab cd q))(hP:H (ρ n)=some (.kj ps))(h1:∀b z,H b=some z→H1 b=some z)(h3:∀b z,H1 b=some z→b≠ρ n→H3 b=some z)
  (T3:nG K H3 cd q (ρ n))(hf:H3 f=none):Nx K ρ c H ρ c (upd H3 f (xh f o)):=by
 have up:∀b z,H3 b=some z→upd H3 f (xh f o) b=some z:=fun b z e=>gs e hf
 have go:∀b z,H b=some z→b≠ρ n→upd H3 f (xh f o) b=some z:=fun b z e ne=>up b z (h3 b z (h1 b z e) ne)
 have u:Up K ρ c.length H ρ c.length (upd H3 f (xh f o)):=⟨fun _ _=>rfl,Nat.le_refl _,fun p xs e=>go p _ e (fun z=>by rw[z,hP]at e;cases e),fun p ob x e=>go p _ e (fun z=>by rw[z,hP]at e;cases e)⟩
 refine⟨u,rs.inj,fun j z hz=>?_⟩
 cases hm:z.mt with
 |false=>exact(rs.ok j z hz).Sg hm u
 |true=>
  by_cases hj:j=n
  ·subst hj
   rw[Dw]at hz;cases hz
   exact T3.up (fun p ob x e=>up p _ e) fun ob e=>up _ _ e
  ·have hp:ρ j≠ρ n:=fun e=>hj (rs.inj j n _ _ hz Dw hm rfl e)
   exact(rs.ok j z hz).up u fun ob e=>go _ _ e hp
theorem vg{t:Qm.aS}{n:Nat}{is:List Nat}(Dx:X.env.code= .ref t.code)(Kr:X.env.qual++"<lambda>" =t.qual)(yr:defaultsOf t.params X.env=([],[]))
  (NP:∀y∈t.scope.names,y.2= .free→y.1∈t.free)(Bq:∀x∈t.free,(x,NameKind.free)∈t.scope.names∧X.env.scope.names.lookup x=some .cell∧X.fn x=false)
  (hlen:is.length=t.free.length)(Si:∀(j i:Nat) (x:Str),is[j]? =some i→t.free[j]? =some x→X.N[i]? =some x)(xY:∀x c,X.env.cells.lookup x=some c→X.aY.heap.objs.size≤c):
  QE X (.Lambda t.params t.body t.scope t.pos) (Qm.iZ t n is):=by
 intro pins s σ H Q I ⟨ρ,env,c,d,c2,rs,re,h,k⟩
 unfold Qm.iZ at h
 split at h
 ·rename_i cd q Dw
  split at h
  ·rename_i hh
   obtain⟨e1,e2⟩:=hh
   subst e1 e2
   obtain⟨bs,e3,h⟩:=aE h
   cases h
   have T:nG X.K H t.code t.qual (ρ n):=rs.ok n _ Dw
   obtain⟨ps,hP,ht,nk⟩:=T.ex
   have CH:CodeHd s.heap t.code (ρ n):=codeHd_of_K I.jN T.hd
   have gP:s.heap.get? (ρ n)=some (tabObj ps):=I.aO _ _ hP
   obtain⟨bm,ob,b1,b2,b3,b4,b5,b6⟩:=I.mod.bmain
   have Ks:=I.mod.glob
   have hg:s.heap.Ns mainGlobals X.mg:=Ks.keeps I.bk
   have Sj:mainGlobals≠ρ n:=fun z=>by
    obtain⟨o,es,ep,e,_⟩:=Ks
    have:=(I.bs _ _ e).2
    rw[z,hP]at this;cases this
   have Sk:bm≠ρ n:=fun z=>by
    have:=(I.bs _ _ b3).2
    rw[z,hP]at this;cases this
   have Sl:bm≠mainGlobals:=fun z=>by
    obtain⟨o,es,ep,e,hd,_⟩:=Ks
    rw[z,e]at b3;cases b3
    rw[hd]at b6;cases b6
   have hB:s.heap.BuiltinsAt X.mg (ρ n):=⟨bm,ob,b1,b2,Sl,Sk,I.bk _ _ b3,b4,b5,b6⟩
   have vh:=iB (scope:=t.scope) (env:=X.env) fun y hy e=>I.ok.has y.1 (.inl (Bq _ (NP y hy e)).2.1)
   generalize Kt:dN X.env.cells t.scope.names []=bZ at vh
   have ki:∀x c,bZ.lookup x=some c→X.env.cells.lookup x=some c:=fun x c e=>by
    rw[←Kt]at e
    exact kx e fun c' dq=>by simp at dq
   have NQ:∀x c,bZ.lookup x=some c→x∈t.free:=fun x c e=>by
    rw[←Kt]at e
    rcases pP e with g|⟨_,g⟩
    ·exact NP (x,.free) g rfl
    ·simp at g
   have NR:∀x∈t.free,∃c,bZ.lookup x=some c:=fun x hx=>by
    rw[←Kt]
    exact iV (Bq x hx).1 (I.ok.has x (.inl (Bq x hx).2.1))
   have qQ:∀b∈t.free.filterMap (fun x=>bZ.lookup x),∃x,X.env.cells.lookup x=some b∧X.fn x=false:=fun b hb=>by
    obtain⟨x,hx,e⟩:=List.mem_filterMap.mp hb
    exact⟨x,ki x b e,(Bq x hx).2.2⟩
   have I1:=I.freeze qQ xY
   generalize NS:rW s.heap (t.free.filterMap fun x=>bZ.lookup x) H=H1 at I1
   have h1:∀b z,H b=some z→H1 b=some z:=fun b z e=>by rw[←NS];exact dw e
   obtain⟨vs,ra,Ko,GA⟩:=ud (Ns:=X.N) re hlen Si e3
   have CV:∀(i:Nat) (x:Str) (v:V),t.free[i]? =some x→vs[i]? =some v→∃c o u u0,bZ.lookup x=some c∧H1 c=some (.eG o u0)∧o.data= .cell (some u)∧RelV v u:=fun i x v q1 q2=>by
    have hx:=List.mem_of_getElem? q1
    obtain⟨j,g1,g2⟩:=GA i x v q1 q2
    obtain⟨m,hn,hl⟩:=I.loc
    obtain⟨u,rv,lk⟩:=hl j x v g1 g2 (.inr (.inl (Bq x hx).2.1))
    obtain⟨c1,ec⟩:=NR x hx
    rcases lk with⟨kk,_⟩|⟨_,c3,e4,o,ho,hd⟩
    ·have k2:X.env.scope.names.lookup x=some .local:=kk
     rw[(Bq x hx).2.1]at k2;cases k2
    ·rw[ki x c1 ec]at e4;cases e4
     have hm:c1∈t.free.filterMap (fun x=>bZ.lookup x):=List.mem_filterMap.mpr ⟨x,hx,ec⟩
     rcases I.fW x c1 (ki x c1 ec)with n0|⟨_,o',u',n0⟩
     ·exact⟨c1,o,u,_,ec,by rw[←NS];exact oT hm n0 ho,hd,rv⟩
     ·have e5:s.heap.get? c1=some o':=(I.aO c1 _ n0).1
      rw[ho]at e5;cases e5
      exact⟨c1,o,u,u',ec,h1 _ _ n0,hd,rv⟩
   have GB:=h1 _ _ hP
   -- yc end
   have fin:∀(H3:Hp) (s3:Shared) (ky:Value) (c':Addr) (oc:Obj) (fs:Array Value) (tk:Tok) (NT:Nat),Inv X pins σ H3 s3→(∀b z,H1 b=some z→b≠ρ n→H3 b=some z)→nG X.K H3 t.code t.qual (ρ n)→H3 c'=some (xh c' oc)→oc.data= .fields fs→fs[1]? =some (.str t.qual tk)→
     EP X pins σ Q (.ref s3.heap.objs.size) { s3 with heap:=s3.heap.push (kla_obj "<lambda>" t.qual t.params t.body t.scope bZ ((X.mg "__name__").getD .none) c' ky),toks:=NT }:=fun H3 s3 ky c' oc fs tk NT I3 h3 T3 g1 g2 g3=>by
    have hf:H3 s3.heap.objs.size=none:=I3.aO.fresh (Nat.le_refl _)
    have nx:=Gz (o:=kla_obj "<lambda>" t.qual t.params t.body t.scope bZ ((X.mg "__name__").getD .none) c' ky) rs Dw hP h1 h3 T3 hf
    have go:∀b z,H1 b=some z→b≠ρ n→upd H3 s3.heap.objs.size (xh s3.heap.objs.size (kla_obj "<lambda>" t.qual t.params t.body t.scope bZ ((X.mg "__name__").getD .none) c' ky)) b=some z:=fun b z e ne=>gs (h3 b z e ne) hf
    refine⟨.ref s3.heap.objs.size,_,I3.laid (fun b u e=>Heap.get?_push_of_some _ e) (Nat.le_refl _) (yS (Heap.get?_push_size _ rfl)),rfl,k ρ _ _ nx (.cU ⟨bZ,_,ky,c',oc,fs,tk,bQ,gs g1 hf,g2,g3,fun x y c e1 e2=>I.ok.inj x y c (ki x c e1) (ki y c e2),NQ,Ko,fun i x v q1 q2=>?_⟩ (ra.up nx.up))⟩
    obtain⟨c1,o,u,u0,a1,a2,a3,a4⟩:=CV i x v q1 q2
    exact⟨c1,o,u,u0,a1,go _ _ a2 (fun z=>by rw[z,GB]at a2;cases a2),a3,a4⟩
   refine kla_eval yr ?_
   rw[Kr]
   cases Ku:codeAmong t.pos ps.toList with
   |none=>
    refine kla_makeFunction vh I.ok.glob hg Dx CH gP ht Ku Sj hB fun c' ky h' tk hx yT du NU Gx=>?_
    obtain⟨c4,oc,fs,tq,ec,v8,hd,hv⟩:=NU
    cases ec
    have I3:=I1.tabled (tk:=tk) GB hx yT v8 Gx
    refine fin _ { s with heap:=h',toks:=tk } ky c' oc fs tq tk I3 (fun b z e ne=>?_) ⟨T.hd,ps++#[rawInt t.pos.line,rawInt t.pos.col,.ref c'],?_,?_,?_⟩ bQ hd hv
    ·rw[aG (Nat.ne_of_lt (Nat.lt_of_lt_of_le (I1.aO.lt e) yT)),aG ne];exact e
    ·rw[aG (Nat.ne_of_lt (Nat.lt_of_lt_of_le (I1.aO.lt GB) yT)),bQ]
    ·rw[Array.toList_append];exact TriplesOk_snoc _ _ _ _ ht
    ·intro pos cv e
     rw[Array.toList_append]at e
     rcases oS _ ht e with e|rfl
     ·obtain⟨c5,o5,f5,t5,a1,a2,a3⟩:=nk pos cv e
      have GC:=h1 _ _ a2
      refine⟨c5,o5,f5,t5,a1,?_,a3⟩
      rw[aG (Nat.ne_of_lt (Nat.lt_of_lt_of_le (I1.aO.lt GC) yT)),aG fun z=>by rw[z,GB]at GC;cases GC]
      exact GC
     ·exact⟨c',oc,fs,tq,rfl,bQ,hd,hv⟩
   |some cv=>
    obtain⟨c',oc,fs,tq,ec,a2,a3,a4⟩:=nk t.pos cv Ku
    subst ec
    refine kla_makeFunctionHit vh I.ok.glob hg Dx CH gP ht Ku hB fun ky h' tk hk qP=>?_
    have I3:Inv X pins σ H1 { s with heap:=h',toks:=tk }:=I1.kept hk
    exact fin H1 { s with heap:=h',toks:=tk } ky c' oc fs tq tk I3 (fun b z e _=>e) (T.up (fun p o x e=>h1 _ _ e) fun o e=>h1 _ _ e) (h1 _ _ a2) a3 a4
  ·cases h
 ·cases h
end
end L2
namespace L2
open PySem PySem.W PySem.Spec PyProof.Rows
structure nV(K:Frag)(x qual:Str)(st:Stmt)(f:Addr)(fd:FuncData)(c:Addr):Prop where
 ex:∃(oc:Value) (od:Option Addr) (kV doc pm:Value) (an:Option Addr) (ct:Value) (iA:Array (Option Value)),
  fd=fnOf x qual (aV st) (aL st) (ao st) .none kV doc pm an (.ref c) ct∧K.lookup f=some ⟨oc,od,.func fd,iA⟩∧codeIn K (.ref c) qual=true
 kp:keepIn K (.ref f)=true
theorem nV.toFun{K:Frag}{x qual:Str}{st:Stmt}{f:Addr}{fd:FuncData}{c:Addr}(F:nV K x qual st f fd c):gZ K x qual st f fd:=by
 obtain⟨oc,od,kV,doc,pm,an,ct,iA,h1,h2,h3⟩:=F.ex
 exact⟨⟨oc,od,kV,doc,pm,an,.ref c,ct,iA,h1,h2,h3⟩,F.kp⟩
theorem w5{K:Frag}{x qual:Str}{st:Stmt}{f c:Addr}{oc:Value}{od an:Option Addr}{iA:Array (Option Value)}{kV doc pm ct:Value}(l:K.lookup f=some ⟨oc,od,.func (fnOf x qual (aV st) (aL st) (ao st) .none kV doc pm an (.ref c) ct),iA⟩)
  (h:codeIn K (.ref c) qual=true)(k:keepIn K (.ref f)=true):nV K x qual st f (fnOf x qual (aV st) (aL st) (ao st) .none kV doc pm an (.ref c) ct) c:=⟨⟨oc,od,kV,doc,pm,an,ct,iA,rfl,l,h⟩,k⟩
abbrev Cx.less(X:Cx)(g:Str→Bool):Cx:={ X with fn:=g }
theorem Inv.lO{X:Cx}{pins:List (Addr×Obj)}{σ:St}{H:Hp}{s:Shared}(I:Inv X pins σ H s)(hX:∀x,X.fn x=true)(g:Str→Bool):Inv (X.less g) pins σ H s:=
 ⟨⟨I.ok.mod,I.ok.kind,I.ok.glob,I.ok.blt,I.ok.above,I.ok.inj,I.ok.has,fun x c _ e=>I.ok.AM x c (hX x) e,I.ok.hd,I.ok.frames,I.ok.B9,I.ok.B_,I.ok.bs,I.ok.qB,I.ok.tU,I.ok.tW,I.ok.ju,I.ok.vY⟩,
  I.os,I.bare,I.base,I.loc,I.cell,I.free,fun x c e=>(I.fW x c e).imp id fun z=>(by rw[hX x]at z;cases z.1),I.pin,I.aO,I.len⟩
section
variable{P:Program}{w:World}{K:Frag}{mg:Str→Option Value}{base:Heap}
theorem nV.jD{x qual:Str}{st:Stmt}{f c:Addr}{fd:FuncData}{N ps:List Str}{k n m:Nat}{B:Qm.XS}{FF:Qm.FN}(g:Str→Bool)(F:nV K x qual st f fd c)(S:bp N ps (ao st))(hn:ps.length=n)(hm:N.length=m)(hN:n≤m)(hF:FF=Qm.gw n m B)
  (eS:∀(A:Around) (outer:List Env) (s:Shared) (H:Hp) (E:XK),cS k (A.deeper (envOfC qual (ao st) s.heap.objs.size f (.ref c)))→
   qb ((gR cF P w K mg base N qual (ao st) f (.ref c) A outer s H E).less g).qD (aL st) B):bY P w K mg base cF (k+1) f fd ps (ei K FF):=by
 subst hm hF
 obtain⟨oc,od,kV,doc,pm,an,ct,iA,rfl,lk,km⟩:=F.ex
 refine⟨fun vs H Q E h=>by rw[(e_ hN h).1,hn],fun A outer s H args us vs Q E hr e0 hb r me=>?_⟩
 obtain⟨hl,Kv⟩:=e_ hN me
 have KX:K.In s.heap:=e0.mod.tm.keeps fun b o e=>(e0.bs b o e).1
 have lim:s.heap.NoLimit:=e0.mod.nolimit.keeps fun b o e=>(e0.bs b o e).1
 have qO:∀y∈ps.zip us,(ao st).names.lookup y.1=some .local∨((ao st).names.lookup y.1=some .cell∧((cellsFrom (s.heap.objs.size+1) (ao st).names []).lookup y.1).isSome=true):=by
  rintro⟨n,v⟩ hy
  rcases S.par n (List.of_mem_zip hy).1 with q|q
  ·exact .inl q
  ·exact .inr ⟨q,cellsFrom_some _ _ _ (.inl q)⟩
 refine codeAny_call_function hr.depth (KX _ _ lk) rfl S.co S.gen rfl (codeRec_of KX km) (hb _ _ _ _ ?_)
 refine wpAny_newFunctionEnv_cells S.kind qO fun env he s1 x=>?_
 subst he
 refine⟨lim.keeps x.toInCall.keep,codeAny_func ?_⟩
 have I:=(mO (CX:=cF) (E:=E) (N:=N) S hr.hd e0 (by rw[hl,hn]) r x).lO (fun _=>rfl) g
 refine wpAny_mono ((eS A outer s H E (hr.deeper _)).qD [] s1 (start N vs) H _ I Kv) (fun fl s' hs=>?_) fun e s' hs=>hs
 have fin:∀{σ':St}{H':Hp}{v:V}{u:Value},Inv ((gR cF P w K mg base N qual (ao st) f (.ref c) A outer s H E).less g) [] σ' H' s'→RelV v u→Q v H'→CE outer P w H s Q u s':=
  fun {σ' H' v u} J rv q=>⟨v,H',J.os,J.bare,J.base,J.aO,rv,q⟩
 cases fl with
 |ret u=>
  obtain⟨v,σ',H',J,rv,q⟩:=hs
  exact fin J rv q
 |next=>
  obtain⟨σ',H',J,q⟩:=hs
  exact fin (v:=V.bL) (u:=Value.none) J rfl q
 |brk=>
  obtain⟨_,_,_,q⟩:=hs
  exact False.elim q
 |cont=>
  obtain⟨_,_,_,q⟩:=hs
  exact False.elim q
end
theorem jg{x:Str}{c lo:Nat}:∀(names:List (Str×NameKind)) (n:Nat) (cs:List (Str×Addr)),lo≤n→(∀y c',cs.lookup y=some c'→lo≤c')→(cellsFrom n names cs).lookup x=some c→lo≤c
 |[],_,_,_,h,e=>h x c e
 |(y,k)::r,n,cs,hn,h,e=>by
  unfold cellsFrom at e
  split at e
  ·refine jg r (n+1) _ (Nat.le_succ_of_le hn) (fun z c' hz=>?_) e
   rw[List.lookup_cons]at hz
   split at hz
   ·cases hz;exact hn
   ·exact h z c' hz
  ·exact jg r n cs hn h e
theorem vi{CX:qI}{P:Program}{w:World}{K:Frag}{mg:Str→Option Value}{base:Heap}{N:List Str}{qual:Str}{scope:Scope}{f:Addr}{cd:Value}{A:Around}{outer:List Env}{s:Shared}{H:Hp}{E:XK}:
  ∀x c,(gR CX P w K mg base N qual scope f cd A outer s H E).env.cells.lookup x=some c→s.heap.objs.size≤c:=fun x c e=>
 jg scope.names (s.heap.objs.size+1) [] (Nat.le_succ _) (fun y c' h=>by simp at h) e
def vj(ts:List Addr)(H:Hp):Prop:=(∀P∈ts,H P=some (.kj #[]))∧∀b,b∉ts→H b=none∨∃o xs,H b=some (.eG o (.lst xs))
theorem yV{P:Program}{w:World}{K:Frag}{mg mb:Str→Option Value}{k:Nat}{fa a:Addr}{fd:FuncData}{x:Str}{sp:Sp}{bD:Shared}{vs:List Value}{ns:List Int}{ts:List Addr}
  (KX:K.In bD.heap)(rg:bD.heap.Ns mainGlobals mg)(hb:bD.heap.Ns builtinsNs mb)(Sm:∀x:Str,x≠"__name__"→mb x=bootBuiltins x)(NV:bD.heap.NoLimit)(Sn:∃bm ob,mg "__builtins__" =some (.ref bm)∧bm≠builtinsNs∧bD.heap.get? bm=some ob∧ob.cls= .type "module"∧ob.dict=some builtinsNs∧ob.data= .plain)(hg:bD.gens= #[])
  (hT:∀P∈ts,bD.heap.get? P=some (tabObj #[]))(GD:∀P∈ts,K.lookup P=none∧∃c,codeHdIn K c P=true)
  (ha:bD.heap.get? a=some { cls:=.type "list",data:=.seq vs.toArray })(hi:IntsAre vs ns)(hl:ns.length≤sizeLine)(hr:cS k callerA)
  (F:∀base:Heap,K.In base→base.Ns mainGlobals mg→bY P w K mg base cF k fa fd [x] sp)(Kw:∀(s:Shared) (u:Value),BindsTo s fd ⟨[u],[]⟩ [(x,u)])
  (me:∀H:Hp,vj ts H→cD K H a (ns.map V.int)→sp [.ref a] H (fun v _=>v= .bl true) fun _ _ _=>False):
  codeAny (model P w) callerA (.call (.ref fa) ⟨[.ref a],[]⟩) (fun r s'=>r= .ok (.ret (.bool true))∧OldK bD.heap s'.heap∧s'.os=bD.os∧AllBare s'.gens) bD:=by
 have rv:=qV hi
 have NW:=hi.length
 have NX:a∉ts:=fun z=>by
  have e:=hT a z
  rw[ha]at e;cases e
 have core:∀H:Hp,vj ts H→cD K H a (ns.map V.int)→gF P w H bD.heap→(∀b,b∉ts→H b≠none→b=a)→(H a≠none→K.lookup a=none)→
   codeAny (model P w) callerA (.call (.ref fa) ⟨[.ref a],[]⟩) (fun r s'=>r= .ok (.ret (.bool true))∧OldK bD.heap s'.heap∧s'.os=bD.os∧AllBare s'.gens) bD:=by
  intro H hO hS aO hA hK
  have rX:∀{b:Addr}{o:Obj},bD.heap.get? b=some o→H b=none→(nt bD.heap H).get? b=some o:=fun e n=>AK e n
  have apart:∀{b:Addr}{o:Obj},bD.heap.get? b=some o→(∀vs n,o.data≠.seq vs n)→(∀vs,o.data≠.fields vs)→H b=none:=fun {b o} e d1 d2=>by
   cases q:H b with
   |none=>rfl
   |some u=>
    by_cases hb:b∈ts
    ·rw[hT b hb]at e;cases e
     exact absurd rfl (d2 #[])
    ·have e':b=a:=hA b hb (by rw[q];simp)
     subst e'
     rw[ha]at e;cases e
     exact absurd rfl (d1 _ _)
  have uG:∀{b:Addr}{o:Obj}{es:Array DictEntry}{ep:Nat},bD.heap.get? b=some o→o.data= .dict es ep→H b=none:=fun {b o es ep} e d=>apart e (fun _ _ z=>by rw[d]at z;cases z) fun _ z=>by rw[d]at z;cases z
  have GF:∀{b:Addr}{m:Str→Option Value},bD.heap.Ns b m→(nt bD.heap H).Ns b m:=fun {b m} ⟨o,es,ep,e,d,r⟩=>⟨o,es,ep,rX e (uG e d),d,r⟩
  have NY:K.In (nt bD.heap H):=fun b o e=>rX (KX b o e) (by
   cases q:H b with
   |none=>rfl
   |some u=>
    by_cases hb:b∈ts
    ·rw[(GD b hb).1]at e;cases e
    ·have e':b=a:=hA b hb (by rw[q];simp)
     subst e'
     rw[hK (by rw[q];simp)]at e;cases e)
  have hM:Mod K mg (nt bD.heap H):=⟨NY,GF rg,⟨mb,GF hb,Sm⟩,let ⟨mc,h1,h2⟩:=NV;⟨mc,GF h1,h2⟩,let ⟨bm,ob,b1,b2,b3,b4,b5,b6⟩:=Sn;⟨bm,ob,b1,b2,rX b3 (apart b3 (fun _ _ z=>by rw[b6]at z;cases z) fun _ z=>by rw[b6]at z;cases z),b4,b5,b6⟩⟩
  have e0:wk P w K mg (nt bD.heap H) callerA [] bD H:=⟨rfl,hM,fun b o e=>B7 e,Nat.le_of_eq (x4 _ _),trivial,fun b hb=>absurd (show b∈([]:List Addr)from hb) (by simp),aO,.of_eq hg⟩
  refine codeAny_mono ((F _ NY (GF rg)).run callerA [] bD H ⟨[.ref a],[]⟩ [.ref a] [.ref a] _ _ hr e0 (Kw bD (.ref a)) (.cons rfl .nil) (me H hO hS)) fun r s' h=>?_
  cases r with
  |error e=>exact False.elim h
  |ok fl=>
   cases fl with
   |next=>exact False.elim h
   |brk=>exact False.elim h
   |cont=>exact False.elim h
   |ret u=>
    obtain⟨v,H',os,bare,un,IE,r',q⟩:=h
    have q':v= .bl true:=q
    subst q'
    obtain rfl:u=Value.bool true:=r'
    refine⟨rfl,⟨fun b o e=>?_,fun b o e=>un.there b o e (by simp)⟩,os,bare⟩
    by_cases hb:b∈ts
    ·obtain⟨more,z⟩:=un.mq b #[] (hO.1 b hb)
     have z2:s'.heap.get? b=some { cls:=.none,data:=.fields (#[]++more) }:=IE b _ z
     obtain⟨c,hc⟩:=(GD b hb).2
     have e2:=hT b hb
     rw[e]at e2;cases e2
     exact .inr (.inl ⟨((codeHd_of_K KX hc).tab (hT b hb)).isCodeTable,rfl,#[],more,rfl,z2⟩)
    ·refine .inl ?_
     rcases hO.2 b hb with z|⟨ob,xs,z⟩
     ·exact un.keep b o e z (by intro z;exact absurd (show b∈([]:List Addr)from z) (by simp)) (by simp)
     ·have z2:=un.kh b ob _ z
      obtain⟨e1,_⟩:=aO b _ z
      obtain⟨e2,_⟩:=IE b _ z2
      rw[e]at e1;cases e1
      exact e2
 cases hk:K.lookup a with
 |some o=>
  have e:=KX a o hk
  rw[ha]at e
  cases e
  refine core (fun b=>if b∈ts then some (.kj #[])else none) ⟨fun P hP=>if_pos hP,fun b hb=>.inl (if_neg hb)⟩ (.inr ⟨_,vs.toArray,_,hk,rfl,rfl,rfl,by rw[List.size_toArray,NW];exact hl,by simpa using rv⟩) (fun b u z=>?_) (fun b hb z=>absurd (if_neg hb) z) fun z=>absurd (if_neg NX) z
  by_cases hb:b∈ts
  ·have z':=(if_pos hb).symm.trans z
   cases z'
   exact hT b hb
  ·have z':=(if_neg hb).symm.trans z
   cases z'
 |none=>
  refine core (fun b=>if b∈ts then some (.kj #[])else if b=a then some (.eG { cls:=.type "list",data:=.seq vs.toArray } (.lst (ns.map V.int)))else none) ⟨fun P hP=>if_pos hP,fun b hb=>?_⟩ (.inl (.inr ⟨{ cls:=.type "list",data:=.seq vs.toArray },(if_neg NX).trans (if_pos rfl)⟩)) (fun b u z=>?_) (fun b hb z=>?_) fun _=>hk
  ·by_cases hc:b=a
   ·exact .inr ⟨_,_,(if_neg hb).trans (if_pos hc)⟩
   ·exact .inl ((if_neg hb).trans (if_neg hc))
  ·by_cases hb:b∈ts
   ·have z':=(if_pos hb).symm.trans z
    cases z'
    exact hT b hb
   ·by_cases hc:b=a
    ·have z':=((if_neg hb).trans (if_pos hc)).symm.trans z
     cases z'
     subst hc
     exact⟨ha,by rw[List.length_map];exact hl,vs,_,rv,ha⟩
    ·have z':=((if_neg hb).trans (if_neg hc)).symm.trans z
     cases z'
  ·by_cases hc:b=a
   ·exact hc
   ·exact absurd ((if_neg hb).trans (if_neg hc)) z
theorem Br{l:OpenLaw}{n k:Nat}{q:Program}{loose:List Str}{XP:(Str→Option Value)→Heap→Prop}{YP:World→Heap→Prop}{d:DefRec}{K:Params→Frag}{sp:Frag→Sp}{x:Str}{ts:List Addr}
  (hn:l.most=some n)(uW:n≤sizeLine)(yr:d.params.defaults=[])(hr:cS k callerA)
  (hY:∀(w:World) (h:Heap),YP w h→(K w.params).In h∧∀P∈ts,h.get? P=some (tabObj #[]))
  (F:∀(w:World) (mg:Str→Option Value) (fa:Addr) (h:Heap),(K w.params).In h→h.Ns mainGlobals mg→mg d.name=some (.ref fa)→
   (∀P∈ts,(K w.params).lookup P=none∧∃c,codeHdIn (K w.params) c P=true)∧∃fd:FuncData,(∀(s:Shared) (u:Value),BindsTo s fd ⟨[u],[]⟩ [(x,u)])∧
    ∀base:Heap,(K w.params).In base→base.Ns mainGlobals mg→bY l.prog w (K w.params) mg base cF k fa fd [x] (sp (K w.params)))
  (me:∀(K:Frag) (H:Hp) (a:Addr) (ns:List Int),ns.length≤n→vj ts H→cD K H a (ns.map V.int)→sp K [.ref a] H (fun v _=>v= .bl true) fun _ _ _=>False):
  WalkO q loose XP YP l.row.toRowW d [] (fun f vs=>PySem.call f vs):=by
 refine M_.uK hn yr fun w aY bD mg mb fa o pm cd doc a vs ns G Y ho hd km yt CQ hints hlen hg=>?_
 obtain⟨KX,hT⟩:=hY w _ Y
 obtain⟨GD,fd,hb,hF⟩:=F w mg fa _ KX G.T.g yt
 exact yV KX G.T.g G.T.b G.T.builtins G.T.nolimit G.T.bmain hg hT GD CQ hints (Nat.le_trans hlen uW) hr hF hb (fun H hO hS=>me _ H a ns hlen hO hS)
end L2
namespace L2
open PySem PySem.W PySem.Spec PyProof.Rows
def yW(st:Stmt)(e:Expr):Arguments:=match e with
 |.Lambda a _ _ _=>a
 |_=>aV st
def yX(e:Expr):Expr:=match e with
 |.Lambda _ b _ _=>b
 |_=>e
def fH(st:Stmt)(e:Expr):Scope:=match e with
 |.Lambda _ _ s _=>s
 |_=>ao st
def yY(e:Expr):Pos:=match e with
 |.Lambda _ _ _ p=>p
 |_=>⟨0,0,0,0⟩
theorem Dy{N:List Str}{i:Nat}{x:Str}(h:N[i]? =some x):∀(j i':Nat) (x':Str),[i][j]? =some i'→[x][j]? =some x'→N[i']? =some x'
 |0,i',x',e1,e2=>by
  cases e1;cases e2;exact h
 |j+1,i',x',e1,_=>by simp at e1
end L2
namespace L2
open PySem PySem.W PyProof.Rows
def ev{α:Type}(lt:Nat→Nat→Bool):KasT α→α
 |.ret a=>a
 |.ask i j k=>ev lt (k (lt i j))
theorem jF{α β:Type}{lt:Nat→Nat→Bool}{f:α→KasT β}:∀t:KasT α,ev lt (t.bind f)=ev lt (f (ev lt t))
 |.ret _=>rfl
 |.ask i j k=>jF (k (lt i j))
structure Ord(lt:Nat→Nat→Bool):Prop where
 fI:∀a b,lt a b=true→lt b a=false
 tr:∀a b c,lt b a=false→lt c b=false→lt c a=false
section
variable{lt:Nat→Nat→Bool}
theorem Ord.hZ(O:Ord lt)(a:Nat):lt a a=false:=by
 cases h:lt a a with
 |false=>rfl
 |true=>rw[O.fI a a h]at h;cases h
theorem Ord.yZ(O:Ord lt){a b c:Nat}(h1:lt a b=true)(h2:lt c b=false):lt a c=true:=by
 cases h:lt a c with
 |true=>rfl
 |false=>rw[O.tr b c a h2 h]at h1;cases h1
def at_(p:Array Nat)(i:Nat):Nat:=p.getD i 0
theorem m8(p:Array Nat)(i:Nat):at_ p i=p[i]?.getD 0:=Array.getD_eq_getD_getElem? ..
def rY(lt:Nat→Nat→Bool)(p:Array Nat)(n:Nat):Prop:=∀i j,i≤j→j<n→lt (at_ p j) (at_ p i)=false
def nW(lt:Nat→Nat→Bool)(p:Array Nat)(n:Nat):Prop:=∀i j,i≤j→j<n→lt (at_ p i) (at_ p j)=false
theorem i0{p:Array Nat}{i j:Nat}(hj:j≤p.size)(k:Nat):at_ (kas_rev p i j) k=if i≤k∧k<j then at_ p (i+j - 1 - k)else at_ p k:=by
 rw[m8,kas_rev,getElem?_mirror_all hj]
 split<;>exact(m8 ..).symm
theorem Ad{p:Array Nat}{src d:Nat}(hs:src<p.size)(hd:d≤src)(k:Nat):at_ (bubble p src d) k=if k=src - d then at_ p src else if src - d<k∧k≤src then at_ p (k - 1)else at_ p k:=by
 rw[m8,getElem?_bubble hs d hd]
 split
 ·exact(m8 ..).symm
 ·split<;>exact(m8 ..).symm
theorem ip{p:Array Nat}{i j:Nat}:(kas_rev p i j).size=p.size:=mirror_size ..
theorem Bs{p:Array Nat}{f n:Nat}:ev lt (kas_asc p (f+1) n)=if lt (at_ p n) (at_ p (n - 1))=true then n else ev lt (kas_asc p f (n+1)):=by
 show ev lt (if lt (at_ p n) (at_ p (n - 1))=true then KasT.ret n else kas_asc p f (n+1))=_
 split<;>rfl
theorem vk(O:Ord lt){p:Array Nat}:∀(f n m:Nat),1≤n→rY lt p n→ev lt (kas_asc p f n)=m→n≤m∧m≤n+f∧rY lt p m∧(m=n+f∨lt (at_ p m) (at_ p (m - 1))=true)
 |0,n,m,_,h,e=>by
  have e:n=m:=e
  subst e
  exact⟨Nat.le_refl _,Nat.le_refl _,h,.inl rfl⟩
 |f+1,n,m,h1,h,e=>by
  rw[Bs]at e
  split at e
  ·rename_i hc
   subst e
   exact⟨Nat.le_refl _,by omega,h,.inr hc⟩
  ·rename_i hc
   have hc:lt (at_ p n) (at_ p (n - 1))=false:=by simpa using hc
   have hu:rY lt p (n+1):=fun i j cX hj=>by
    by_cases y4:j<n
    ·exact h i j cX y4
    ·have:j=n:=by omega
     subst this
     by_cases hi:i=j
     ·rw[hi];exact O.hZ _
     ·exact O.tr _ _ _ (h i (j - 1) (by omega) (by omega)) hc
   obtain⟨a1,a2,a3,a4⟩:=vk O f (n+1) m (by omega) hu e
   exact⟨by omega,by omega,a3,a4.imp (fun z=>by omega) id⟩
structure ue(lt:Nat→Nat→Bool)(p:Array Nat)(n q:Nat):Prop where
 dn:nW lt p n
 le:q+1≤n
 eq:∀i j,n - (q+1)≤i→i<n→n - (q+1)≤j→j<n→lt (at_ p i) (at_ p j)=false
theorem nW.turn{p:Array Nat}{n a:Nat}(h:nW lt p n)(hn:n≤p.size)(eq:∀i j,a≤i→i<n→a≤j→j<n→lt (at_ p i) (at_ p j)=false):nW lt (kas_rev p a n) n:=fun i j cX hj=>by
 rw[i0 hn,i0 hn]
 by_cases hi:a≤i
 ·rw[if_pos ⟨hi,by omega⟩,if_pos ⟨by omega,hj⟩]
  exact eq _ _ (by omega) (by omega) (by omega) (by omega)
 ·rw[if_neg (by omega)]
  by_cases Dz:a≤j
  ·rw[if_pos ⟨Dz,hj⟩]
   exact h _ _ (by omega) (by omega)
  ·rw[if_neg (by omega)]
   exact h i j cX hj
theorem nW.more(O:Ord lt){p:Array Nat}{n:Nat}(h:nW lt p n)(h1: 1≤n)(hc:lt (at_ p (n - 1)) (at_ p n)=false):nW lt p (n+1):=fun i j cX hj=>by
 by_cases y4:j<n
 ·exact h i j cX y4
 ·have:j=n:=by omega
  subst this
  by_cases hi:i=j
  ·rw[hi];exact O.hZ _
  ·exact O.tr _ _ _ hc (h i (j - 1) (by omega) (by omega))
theorem y7{p:Array Nat}{f n q:Nat}:ev lt (kas_desc (f+1) p n q)=if lt (at_ p n) (at_ p (n - 1))=true then(if q > 0 then ev lt (kas_desc f (kas_rev p (n - (q+1)) n) (n+1) 0)else ev lt (kas_desc f p (n+1) 0))else if lt (at_ p (n - 1)) (at_ p n)=true then(p,n,q)else ev lt (kas_desc f p (n+1) (q+1)):=by
 show ev lt (if lt (at_ p n) (at_ p (n - 1))=true then(if q > 0 then kas_desc f (kas_rev p (n - (q+1)) n) (n+1) 0 else kas_desc f p (n+1) 0)else KasT.ask (at_ p (n - 1)) (at_ p n) fun d=>if d=true then KasT.ret (p,n,q)else kas_desc f p (n+1) (q+1))=_
 split
 ·split<;>rfl
 ·show ev lt (if lt (at_ p (n - 1)) (at_ p n)=true then KasT.ret (p,n,q)else kas_desc f p (n+1) (q+1))=_
  split<;>rfl
theorem nX(O:Ord lt):∀(f:Nat) (p:Array Nat) (n q:Nat) (r:Array Nat×Nat×Nat),ue lt p n q→n+f≤p.size→ev lt (kas_desc f p n q)=r→ue lt r.1 r.2.1 r.2.2∧n≤r.2.1∧r.2.1≤n+f∧r.1.size=p.size∧r.1.Perm p
 |0,p,n,q,r,F,hs,e=>by
  have e:(p,n,q)=r:=e
  subst e
  exact⟨F,Nat.le_refl _,Nat.le_refl _,rfl,Array.Perm.refl _⟩
 |f+1,p,n,q,r,F,hs,e=>by
  have hl:=F.le
  rw[y7]at e
  split at e
  ·rename_i hc
   have dq:=O.fI _ _ hc
   split at e
   ·have hn:n≤p.size:=by omega
    have qP:(kas_rev p (n - (q+1)) n).size=p.size:=ip
    have e1:at_ (kas_rev p (n - (q+1)) n) n=at_ p n:=by rw[i0 hn,if_neg (by omega)]
    have e2:lt (at_ (kas_rev p (n - (q+1)) n) (n - 1)) (at_ p n)=false:=by
     rw[i0 hn,if_pos (by omega)]
     exact O.tr _ _ _ dq (F.eq _ _ (by omega) (by omega) (by omega) (by omega))
    have F':ue lt (kas_rev p (n - (q+1)) n) (n+1) 0:=by
     refine⟨(F.dn.turn hn F.eq).more O (by omega) (by rw[e1];exact e2),by omega,fun i j h1 h2 h3 h4=>?_⟩
     have:i=j:=by omega
     rw[this];exact O.hZ _
    obtain⟨a1,a2,a3,a4,a5⟩:=nX O f _ (n+1) 0 r F' (by rw[qP];omega) e
    exact⟨a1,by omega,by omega,a4.trans qP,a5.trans (mirror_perm ..)⟩
   ·have F':ue lt p (n+1) 0:=by
     refine⟨F.dn.more O (by omega) dq,by omega,fun i j h1 h2 h3 h4=>?_⟩
     have:i=j:=by omega
     rw[this];exact O.hZ _
    obtain⟨a1,a2,a3,a4,a5⟩:=nX O f p (n+1) 0 r F' (by omega) e
    exact⟨a1,by omega,by omega,a4,a5⟩
  ·rename_i hc
   have hc:lt (at_ p n) (at_ p (n - 1))=false:=by simpa using hc
   split at e
   ·subst e
    exact⟨F,Nat.le_refl _,by show n≤n+(f+1);omega,rfl,Array.Perm.refl _⟩
   ·rename_i hd
    have hd:lt (at_ p (n - 1)) (at_ p n)=false:=by simpa using hd
    have F':ue lt p (n+1) (q+1):=by
     refine⟨F.dn.more O (by omega) hd,by omega,fun i j h1 h2 h3 h4=>?_⟩
     by_cases hi:i=n<;>by_cases hj:j=n
     ·rw[hi,hj];exact O.hZ _
     ·rw[hi];exact O.tr _ _ _ (F.eq (n - 1) j (by omega) (by omega) (by omega) (by omega)) hc
     ·rw[hj];exact O.tr _ _ _ hd (F.eq i (n - 1) (by omega) (by omega) (by omega) (by omega))
     ·exact F.eq i j (by omega) (by omega) (by omega) (by omega)
    obtain⟨a1,a2,a3,a4,a5⟩:=nX O f p (n+1) (q+1) r F' (by omega) e
    exact⟨a1,by omega,by omega,a4,a5⟩
theorem nW.rev{p:Array Nat}{n:Nat}(h:nW lt p n)(hn:n≤p.size):rY lt (kas_rev p 0 n) n:=fun i j cX hj=>by
 rw[i0 hn,i0 hn,if_pos ⟨by omega,hj⟩,if_pos ⟨by omega,by omega⟩]
 exact h _ _ (by omega) (by omega)
structure Run(lt:Nat→Nat→Bool)(p0:Array Nat)(nrem:Nat)(r:Nat×Array Nat):Prop where
 ge: 1≤r.1
 le:r.1≤nrem
 up:rY lt r.2 r.1
 size:r.2.size=p0.size
 perm:r.2.Perm p0
theorem uf(O:Ord lt){p:Array Nat}{n nrem:Nat}{r:Nat×Array Nat}(h:nW lt p n)(h1: 1≤n)(hn:n≤nrem)(hs:nrem≤p.size)(e:ev lt (kas_tail3 n nrem p)=r):Run lt p nrem r:=by
 unfold kas_tail3 at e
 rw[jF]at e
 obtain⟨a1,a2,a3,_⟩:=vk O (nrem - n) n _ h1 (h.rev (by omega)) rfl
 subst e
 exact⟨Nat.le_trans h1 a1,Nat.le_trans a2 (by omega),a3,ip,mirror_perm ..⟩
theorem nY(O:Ord lt){p:Array Nat}{n nrem:Nat}{r:Nat×Array Nat}(h:nW lt p (n+1))(hn:n+1≤nrem)(hs:nrem≤p.size)(e:ev lt (kas_descPart n nrem p)=r):Run lt p nrem r:=by
 unfold kas_descPart at e
 rw[jF]at e
 have F:ue lt p (n+1) 0:=⟨h,by omega,fun i j h1 h2 h3 h4=>by
  have:i=j:=by omega
  rw[this];exact O.hZ _⟩
 obtain⟨a1,a2,a3,a4,a5⟩:=nX O (nrem - (n+1)) p (n+1) 0 _ F (by omega) rfl
 generalize ev lt (kas_desc (nrem - (n+1)) p (n+1) 0)=z at*
 obtain⟨p',m,q⟩:=z
 have hl:=a1.le
 dsimp only at a1 a2 a3 a4 a5 e hl
 split at e
 ·have hm:m≤p'.size:=by omega
  have R:=uf O (a1.dn.turn hm a1.eq) (by omega) (by omega) (by rw[ip];omega) e
  exact⟨R.ge,R.le,R.up,R.size.trans (ip.trans a4),R.perm.trans ((mirror_perm ..).trans a5)⟩
 ·have R:=uf O a1.dn (by omega) (by omega) (by omega) e
  exact⟨R.ge,R.le,R.up,R.size.trans a4,R.perm.trans a5⟩
theorem Bt(O:Ord lt){p:Array Nat}{nrem:Nat}{r:Nat×Array Nat}(h1: 1≤nrem)(hs:nrem≤p.size)(e:ev lt (kas_count nrem p)=r):Run lt p nrem r:=by
 unfold kas_count at e
 rw[jF]at e
 have u1:rY lt p 1:=fun i j cX hj=>by
  have:i=j:=by omega
  rw[this];exact O.hZ _
 obtain⟨a1,a2,a3,a4⟩:=vk O (nrem - 1) 1 _ (Nat.le_refl _) u1 rfl
 generalize ev lt (kas_asc p (nrem - 1) 1)=n at*
 split at e
 ·subst e
  exact⟨a1,by show n≤nrem;omega,a3,rfl,Array.Perm.refl _⟩
 ·rename_i jB
  have jB:n≠nrem:=by simpa using jB
  have hc:lt (at_ p n) (at_ p (n - 1))=true:=a4.resolve_left (by omega)
  split at e
  ·rename_i NZ
   have e:ev lt (if lt (at_ p 0) (at_ p (n - 1))=true then KasT.ret (n,p)else kas_descPart n nrem (kas_rev p 0 n))=r:=e
   split at e
   ·subst e
    exact⟨a1,by show n≤nrem;omega,a3,rfl,Array.Perm.refl _⟩
   ·rename_i h0
    have h0:lt (at_ p 0) (at_ p (n - 1))=false:=by simpa using h0
    have eq:∀i j,0≤i→i<n→0≤j→j<n→lt (at_ p i) (at_ p j)=false:=fun i j _ hi _ hj=>by
     have b1:=a3 0 i (by omega) hi
     have b2:=a3 j (n - 1) (by omega) (by omega)
     -- Vj≤p_(n-1)≤Vk≤Vl
     exact O.tr _ _ _ b2 (O.tr _ _ _ h0 b1)
    have hn:n≤p.size:=by omega
    have d0:nW lt p n:=fun i j cX hj=>eq i j (by omega) (by omega) (by omega) hj
    have e1:at_ (kas_rev p 0 n) n=at_ p n:=by rw[i0 hn,if_neg (by omega)]
    have d1:nW lt (kas_rev p 0 n) (n+1):=(d0.turn hn eq).more O (by omega) (by
     rw[e1,i0 hn,if_pos (by omega)]
     exact O.tr _ _ _ (O.fI _ _ hc) (eq _ _ (by omega) (by omega) (by omega) (by omega)))
    have R:=nY O d1 (by omega) (by rw[ip];omega) e
    exact⟨R.ge,R.le,R.up,R.size.trans ip,R.perm.trans (mirror_perm ..)⟩
  ·have NZ:n=1:=by omega
   subst NZ
   have d0:nW lt p 1:=fun i j cX hj=>by
    have:i=j:=by omega
    rw[this];exact O.hZ _
   exact nY O (d0.more O (by omega) (O.fI _ _ hc)) (by omega) hs e
theorem w6{p:Array Nat}{k f l r:Nat}:ev lt (kas_place p k (f+1) l r)=if l≥r then l else if lt (at_ p k) (at_ p ((l+r) / 2))=true then ev lt (kas_place p k f l ((l+r) / 2))else ev lt (kas_place p k f ((l+r) / 2+1) r):=by
 show ev lt (if l≥r then KasT.ret l else KasT.ask (at_ p k) (at_ p ((l+r) / 2)) fun c=>if c=true then kas_place p k f l ((l+r) / 2)else kas_place p k f ((l+r) / 2+1) r)=_
 split
 ·rfl
 ·show ev lt (if lt (at_ p k) (at_ p ((l+r) / 2))=true then kas_place p k f l ((l+r) / 2)else kas_place p k f ((l+r) / 2+1) r)=_
  split<;>rfl
theorem oU(O:Ord lt){p:Array Nat}{k:Nat}(h:rY lt p k):∀(f l r m:Nat),l≤r→r≤k→r - l≤f→(∀i,i<l→lt (at_ p k) (at_ p i)=false)→(∀i,r≤i→i<k→lt (at_ p k) (at_ p i)=true)→ev lt (kas_place p k f l r)=m→
  m≤k∧(∀i,i<m→lt (at_ p k) (at_ p i)=false)∧∀i,m≤i→i<k→lt (at_ p k) (at_ p i)=true
 |0,l,r,m,h1,h2,h3,h4,h5,e=>by
  have e:l=m:=e
  subst e
  exact⟨by omega,h4,fun i hi=>h5 i (by omega)⟩
 |f+1,l,r,m,h1,h2,h3,h4,h5,e=>by
  rw[w6]at e
  split at e
  ·subst e
   exact⟨by omega,h4,fun i hi=>h5 i (by omega)⟩
  ·split at e
   ·rename_i hc
    refine oU O h f l ((l+r) / 2) m (by omega) (by omega) (by omega) h4 (fun i hi hk=>?_) e
    exact O.yZ hc (h _ _ hi hk)
   ·rename_i hc
    have hc:lt (at_ p k) (at_ p ((l+r) / 2))=false:=by simpa using hc
    refine oU O h f ((l+r) / 2+1) r m (by omega) h2 (by omega) (fun i hi=>?_) h5 e
    exact O.tr _ _ _ (h i ((l+r) / 2) (by omega) (by omega)) hc
theorem Ae(O:Ord lt):∀(f:Nat) (p:Array Nat) (k:Nat) (r:Array Nat),1≤k→k+f≤p.size→rY lt p k→ev lt (kas_bin f p k)=r→rY lt r (k+f)∧r.size=p.size∧r.Perm p
 |0,p,k,r,_,_,h,e=>by
  have e:p=r:=e
  subst e
  exact⟨h,rfl,Array.Perm.refl _⟩
 |f+1,p,k,r,h1,hs,h,e=>by
  have e:ev lt ((kas_place p k k 0 k).bind fun l=>kas_bin f (bubble p k (k - l)) (k+1))=r:=e
  rw[jF]at e
  obtain⟨b1,b2,b3⟩:=oU O h k 0 k _ (by omega) (Nat.le_refl _) (by omega) (fun i hi=>by omega) (fun i hi hk=>by omega) rfl
  generalize ev lt (kas_place p k k 0 k)=l at*
  have hk:k<p.size:=by omega
  have u:rY lt (bubble p k (k - l)) (k+1):=fun i j cX hj=>by
   rw[Ad hk (by omega),Ad hk (by omega)]
   have e0:k - (k - l)=l:=by omega
   rw[e0]
   by_cases ji:j=l
   ·rw[if_pos ji]
    by_cases ii:i=l
    ·rw[if_pos ii];exact O.hZ _
    ·rw[if_neg ii,if_neg (by omega)]
     exact b2 i (by omega)
   ·rw[if_neg ji]
    by_cases jl:l<j∧j≤k
    ·rw[if_pos jl]
     by_cases ii:i=l
     ·rw[if_pos ii]
      exact O.fI _ _ (b3 (j - 1) (by omega) (by omega))
     ·rw[if_neg ii]
      by_cases il:l<i∧i≤k
      ·rw[if_pos il];exact h _ _ (by omega) (by omega)
      ·rw[if_neg il];exact h _ _ (by omega) (by omega)
    ·rw[if_neg jl,if_neg (by omega),if_neg (by omega)]
     exact h _ _ cX (by omega)
  obtain⟨a1,a2,a3⟩:=Ae O f (bubble p k (k - l)) (k+1) r (by omega) (by rw[bubble_size];omega) u e
  exact⟨by rw[show k+(f+1)=k+1+f by omega];exact a1,a2.trans (bubble_size ..),a3.trans (bubble_perm ..)⟩
theorem DA(O:Ord lt){n:Nat}(h2: 2≤n):rY lt (ev lt (kas_sort n)) n∧(ev lt (kas_sort n)).size=n∧(ev lt (kas_sort n)).Perm (List.toArray (List.range n)):=by
 unfold kas_sort
 rw[jF]
 have hz:(List.toArray (List.range n)).size=n:=by simp
 have R:=Bt O (p:=List.toArray (List.range n)) (nrem:=n) (by omega) (by omega) rfl
 generalize ev lt (kas_count n (List.toArray (List.range n)))=r at*
 obtain⟨m,p⟩:=r
 have g:=R.ge;have l:=R.le;have sz:=R.size
 dsimp only at g l sz ⊢
 split
 ·have e1:max m 1=m:=by omega
  rw[e1]
  obtain⟨a1,a2,a3⟩:=Ae O (n - m) p m _ g (by omega) R.up rfl
  exact⟨by rw[show m+(n - m)=n by omega]at a1;exact a1,by omega,a3.trans R.perm⟩
 ·have:m=n:=by omega
  subst this
  exact⟨R.up,sz.trans hz,R.perm⟩
end
end L2
namespace L2
open PySem PySem.W PySem.Spec PyProof.Rows
section
variable{prog:Program}{w:World}{A:Around}{E:Value→Shared→Prop}{s:Shared}
theorem vm{a:Addr}{vs:List Value}{n:Nat}{P:PySem.Fin→Shared→Prop}(ho:s.heap.get? a=some (seqObj "list" vs.toArray n))(h2:vs.length<2)
  (h:P (.done (.ret .none)) { s with heap:=sortedHeap s.heap a vs ((vs.toArray.zip vs.toArray).map (·.2)) }):wpAny (model prog w) A (Builtin.«list.sort» ⟨[.ref a],[]⟩) P E s:=by
 rw[list_sort_plain]
 have fits:∀k,k<2→k≤sizeLine:=fun k z=>by rw[sizeLine_eq];omega
 refine wpAny_bind (listItems_at ho rfl (wpAny_bind (listUpdate_at ho rfl ?_ (fits _ (by simpa using h2)) (Nat.zero_le _))))
 obtain⟨e1,xX⟩:∃e1,(s.heap.update a (Obj.mapSeq fun _=>(#[]:Array Value))).get? a=some (seqObj "list" #[] e1):=⟨_,get?_update_seq ho (fun _=>#[])⟩
 refine wpAny_bind (seqEpoch_at xX rfl (wpAny_bind (wpAny_newTuple (wpAny_bind (wpAny_newList (wpAny_holding ?_) (Nat.zero_le _))) (fits _ h2))))
 have DB:(((s.heap.update a (Obj.mapSeq fun _=>(#[]:Array Value))).push (seqObj "tuple" vs.toArray 0)).push (seqObj "list" #[] 0)).get? a=some (seqObj "list" #[] e1):=
  Heap.get?_push_of_some _ (Heap.get?_push_of_some _ xX)
 show wpAny (model prog w) A _ P E { s with heap:=((s.heap.update a (Obj.mapSeq fun _=>(#[]:Array Value))).push (seqObj "tuple" vs.toArray 0)).push (seqObj "list" #[] 0) }
 dsimp only
 have uW:vs.toArray.size<2:=by rw[List.size_toArray];omega
 rw[if_pos uW,if_pos uW]
 refine wpAny_bind (wpAny_pure ?_)
 rw[StateT.run_pure]
 refine wpAny_bind (wpAny_pure ?_)
 dsimp only
 refine wpAny_bind (seqEpoch_at DB rfl ?_)
 refine wpAny_bind (listUpdate_at DB rfl ?_ (Nat.zero_le _) (by rw[Array.size_map];refine Nat.le_trans (Nat.le_of_eq (by show(vs.toArray.zip vs.toArray).size=vs.length;simp)) ?_;rw[sizeLine_eq];omega))
 simp only[bne_self_eq_false,Bool.false_eq_true,if_false]
 exact wpAny_pure h
def w8(h:Heap)(vs:List Value):Heap:=((h.push (seqObj "list" #[] 0)).update h.objs.size (Obj.mapSeq (·++vs.toArray))).push (seqObj "list" vs.toArray 0)
theorem jV(h:Heap)(vs:List Value):(w8 h vs).get? (h.objs.size+1)=some (seqObj "list" vs.toArray 0):=by
 have e:=Heap.get?_push_size (o:=seqObj "list" vs.toArray 0) ((h.push (seqObj "list" #[] 0)).update h.objs.size (Obj.mapSeq (·++vs.toArray))) rfl
 rwa[Heap.size_update,size_push']at e
theorem nZ{l:Addr}{vs:List Value}{Q:Value→Shared→Prop}(hl:s.heap.IsList l vs.toArray)(hn:vs.length≤1000000)
  (oV:∀(B:Around) (F:Value→Shared→Prop),wpAny (model prog w) B (Builtin.«list.sort» ⟨[.ref (s.heap.objs.size+1)],[]⟩) (fun fin s'=>fin= .done (.ret .none)∧Q (.ref (s.heap.objs.size+1)) s') F ⟨w8 s.heap vs,s.gens,s.drawn,s.toks,s.os⟩):
  wpAny (model prog w) A (call (.builtin "sorted") [.ref l]) Q E s:=by
 have fits:vs.length≤sizeLine:=by rw[sizeLine_eq];omega
 have e:((s.heap.push (seqObj "list" #[] 0)).update s.heap.objs.size (Obj.mapSeq (·++vs.toArray))).objs.size=s.heap.objs.size+1:=(Heap.size_update ..).trans (size_push' ..)
 refine Calls.call_function_entry kind_sorted plain_sorted entry_sorted (args_sorted1 _) (wpAny_bind (m:=checkCount "sorted" 1 1 _) (wpAny_pure (wpAny_bind (collect_list hl (wpAny_bind (wpAny_newList ?_ (by simpa using fits))) (by simpa using fits)))))
 rw[e]
 exact wpAny_bind (wpAny_holding (wpAny_call_entry slot_list_sort ⟨_,jV s.heap vs,rfl⟩ entry_list_sort
  (wpAny_mono (oV _ _) (fun _ _ z=>by rw[z.1];exact⟨_,rfl,wpAny_pure ⟨_,rfl,z.2⟩⟩) fun _ _ z=>z) (args_list_sort _)))
theorem tI{l:Addr}{vs:List Value}{Q:Value→Shared→Prop}(hl:s.heap.IsList l vs.toArray)(h2:vs.length<2)
  (h:Q (.ref (s.heap.objs.size+1)) { s with heap:=sortedAll s.heap vs ((vs.toArray.zip vs.toArray).map (·.2)) }):wpAny (model prog w) A (call (.builtin "sorted") [.ref l]) Q E s:=
 nZ hl (by omega) fun _ _=>vm (jV _ _) h2 ⟨rfl,h⟩
end
def iP{α:Type}(n:Nat)(t:KasT α)(IF:α→Prop):Prop:=match t with
 |.ret a=>IF a
 |.ask i j k=>i<n∧j<n∧∀b,iP n (k b) IF
theorem iP.bind{α β:Type}{n:Nat}{f:α→KasT β}{P:α→Prop}{Q:β→Prop}:∀(t:KasT α),iP n t P→(∀a,P a→iP n (f a) Q)→iP n (t.bind f) Q
 |.ret a,h,k=>k a h
 |.ask i j g,h,k=>⟨h.1,h.2.1,fun b=>iP.bind (g b) (h.2.2 b) k⟩
structure AR(n:Nat)(p:Array Nat):Prop where
 pos: 0<n
 mem:∀x∈p.toList,x<n
section
variable{n:Nat}{p q:Array Nat}
theorem AR.perm(h:AR n p)(e:q.Perm p):AR n q:=⟨h.pos,fun x hx=>h.mem x ((Array.perm_iff_toList_perm.mp e).mem_iff.mp hx)⟩
theorem AR.get(h:AR n p)(i:Nat):p.getD i 0<n:=by
 rw[Array.getD_eq_getD_getElem?]
 cases e:p[i]? with
 |none=>exact h.pos
 |some x=>
  refine h.mem x ?_
  have e2:p.toList[i]? =some x:=by rw[Array.getElem?_toList];exact e
  exact List.mem_of_getElem? e2
theorem AR.rev(h:AR n p)(i j:Nat):AR n (kas_rev p i j):=h.perm (mirror_perm ..)
theorem rZ(h:AR n p):∀f m:Nat,iP n (kas_asc p f m) fun _=>True
 |0,_=>trivial
 |f+1,m=>⟨h.get _,h.get _,fun b=>by
  cases b with
  |true=>exact trivial
  |false=>exact rZ h f (m+1)⟩
theorem lP:∀(f:Nat) (p:Array Nat) (m q:Nat),AR n p→iP n (kas_desc f p m q) fun r=>AR n r.1
 |0,p,m,q,h=>h
 |f+1,p,m,q,h=>⟨h.get _,h.get _,fun b=>by
  cases b with
  |true=>
   show iP n (if q > 0 then kas_desc f (kas_rev p (m - (q+1)) m) (m+1) 0 else kas_desc f p (m+1) 0) _
   split
   ·exact lP f _ _ _ (h.rev _ _)
   ·exact lP f _ _ _ h
  |false=>
   refine⟨h.get _,h.get _,fun d=>?_⟩
   cases d with
   |true=>exact h
   |false=>exact lP f p _ _ h⟩
theorem r8(h:AR n p)(m r:Nat):iP n (kas_tail3 m r p) fun z=>AR n z.2:=iP.bind _ (rZ (h.rev _ _) _ _) fun _ _=>h.rev _ _
theorem mD(h:AR n p)(m r:Nat):iP n (kas_descPart m r p) fun z=>AR n z.2:=iP.bind _ (lP _ _ _ _ h) fun z hz=>by
 split
 ·exact r8 (hz.rev _ _) _ _
 ·exact r8 hz _ _
theorem y8(h:AR n p)(r:Nat):iP n (kas_count r p) fun z=>AR n z.2:=iP.bind _ (rZ h _ _) fun m _=>by
 split
 ·exact h
 ·split
  ·refine⟨h.get _,h.get _,fun b=>?_⟩
   cases b with
   |true=>exact h
   |false=>exact mD (h.rev _ _) _ _
  ·exact mD h _ _
theorem m9(h:AR n p)(k:Nat):∀f l r:Nat,iP n (kas_place p k f l r) fun _=>True
 |0,_,_=>trivial
 |f+1,l,r=>by
  show iP n (if l≥r then KasT.ret l else _) _
  split
  ·exact trivial
  ·refine⟨h.get _,h.get _,fun b=>?_⟩
   cases b with
   |true=>exact m9 h k f _ _
   |false=>exact m9 h k f _ _
theorem w9:∀(f:Nat) (p:Array Nat) (k:Nat),AR n p→iP n (kas_bin f p k) fun _=>True
 |0,_,_,_=>trivial
 |f+1,p,k,h=>iP.bind _ (m9 h k _ _ _) fun l _=>w9 f _ _ (h.perm (bubble_perm ..))
theorem Bu(h: 0<n):iP n (kas_sort n) fun _=>True:=iP.bind _ (y8 (n:=n) ⟨h,fun x hx=>by simpa using hx⟩ n) fun r hr=>by
 split
 ·exact w9 _ _ _ hr
 ·exact trivial
end
theorem ug{α:Type}{n:Nat}{lt:Nat→Nat→Bool}{cmp:Nat→Nat→(Bool→Shared→Prop)→Shared→Prop}{P:α→Prop}{G:α→Shared→Prop}{s:Shared}(hc:∀i j C,i<n→j<n→C (lt i j) s→cmp i j C s):∀(t:KasT α),iP n t P→G (ev lt t) s→t.kasWp cmp G s
 |.ret a,_,h=>h
 |.ask i j k,q,h=>hc i j _ q.1 q.2.1 (ug hc (k (lt i j)) (q.2.2 _) h)
end L2
namespace L2
open PySem PySem.Spec PyProof.Rows PySem.W
theorem gf:∀a b:List Int,a_ a b=true→a_ b a=false
 |[],[],_=>rfl
 |[],_::_,h=>by simp[a_]at h
 |_::_,[],_=>by simp[a_]
 |x::a,y::b,h=>by
  by_cases e:x=y
  ·subst e
   simp[a_]at h ⊢
   exact gf a b h
  ·simp[a_,e,Ne.symm e]at h ⊢
   omega
theorem i6:∀a b c:List Int,a_ a b=false→a_ b c=false→a_ a c=false
 |[],_,[],_,_=>by simp[a_]
 |[],_,_::_,_,_=>by simp[a_]
 |_::_,[],_,h,_=>by simp[a_]at h
 |_::_,_::_,[],_,h=>by simp[a_]at h
 |x::a,y::b,z::c,h1,h2=>by
  by_cases e:x=y
  ·subst e
   by_cases e2:x=z
   ·subst e2
    simp[a_]at h1 h2 ⊢
    exact i6 a b c h1 h2
   ·simp[a_,e2]at h1 h2 ⊢
    omega
  ·by_cases e2:y=z
   ·subst e2
    simp[a_,e]at h1 h2 ⊢
    omega
   ·simp[a_,e,e2]at h1 h2
    have e3:x≠z:=by omega
    simp[a_,e3]
    omega
theorem DC(ts:List (List Int)):Ord fun i j=>a_ (ts.getD j []) (ts.getD i []):=⟨fun _ _ h=>gf _ _ h,fun _ _ _ h1 h2=>i6 _ _ _ h1 h2⟩
theorem kL:∀{as:List Addr}{us:List Value},Vals (as.map V.ref) us→us=as.map Value.ref
 |[],_,.nil=>rfl
 |_::_,_,.cons r t=>by
  rw[kL t]
  have:_=Value.ref _:=r
  rw[this];rfl
theorem kM:∀(as:List Addr),Vals (as.map V.ref) (as.map Value.ref)
 |[]=>.nil
 |_::r=>.cons rfl (kM r)
theorem gB{α β:Type}{R:α→β→Prop}:∀{xs:List α}{ys:List β},Paired R xs ys→∀{i:Nat},i<xs.length→∃x y,xs[i]? =some x∧ys[i]? =some y∧R x y
 |_,_,.nil,i,h=>by simp at h
 |_,_,.cons r t,0,_=>⟨_,_,rfl,rfl,r⟩
 |_,_,.cons r t,i+1,h=>by
  obtain⟨x,y,h1,h2,h3⟩:=gB t (i:=i) (by simpa using h)
  exact⟨x,y,by simpa using h1,by simpa using h2,h3⟩
section
variable{X:Cx}{pins:List (Addr×Obj)}{σ:St}{H:Hp}{s:Shared}
theorem kN(I:Inv X pins σ H s):∀{as:List Addr}{ts:List (List Int)},Paired (fun(a:Addr) (t:List Int)=>H a=some (.tup (t.map V.int))∧t≠[]) as ts→∃fs,KatTups s.heap (as.map Value.ref) fs∧fs.length=as.length∧∀v∈fs,∃i t,v=Value.int i t
 |_,_,.nil=>⟨[],.nil,rfl,fun v hv=>nomatch hv⟩
 |_,_,.cons (a:=a) (b:=t) r tl=>by
  obtain⟨fs,h1,h2,h3⟩:=kN I tl
  obtain⟨its,r1,⟨o,g,c,m,d⟩,_⟩:=I.tuple (df.of r.1)
  have i1:=ints_of r1
  cases t with
  |nil=>exact absurd rfl r.2
  |cons n ns=>
   obtain⟨tk,z⟩:=Bl i1
   refine⟨.int n tk::fs,.cons g c d z h1,by simp[h2],fun v hv=>?_⟩
   rcases List.mem_cons.mp hv with rfl|hv
   ·exact⟨n,tk,rfl⟩
   ·exact h3 v hv
theorem range_getD{α:Type}(d:α)(ts:List α):(List.range ts.length).map (fun i=>ts.getD i d)=ts:=by
 refine List.ext_getElem? fun i=>?_
 rw[List.getElem?_map]
 by_cases h:i<ts.length
 ·rw[List.getElem?_range h]
  simp[List.getD,h]
 ·rw[List.getElem?_eq_none (by simp;omega),List.getElem?_eq_none (by omega)];rfl
theorem w_:fC X (.builtin "sorted") (fun xs H Q=>∃(l:Addr) (as:List Addr) (ts:List (List Int)),xs=[.ref l]∧cD X.K H l (as.map V.ref)∧Paired (fun(a:Addr) (t:List Int)=>H a=some (.tup (t.map V.int))∧t≠[]) as ts∧as.length<64∧
  ∀(D:Addr) (bs:List Addr) (us:List (List Int)),H D=none→Paired (fun(a:Addr) (t:List Int)=>H a=some (.tup (t.map V.int))) bs us→us.Perm ts→us.Pairwise (fun a b=>a_ a b=false)→Q (.ref D) (upd H D (.lst (bs.map V.ref)))):=by
 intro pins s σ H xs us Q I r h
 obtain⟨l,as,ts,rfl,hl,pr,So,q⟩:=h
 obtain⟨u,rfl,e1⟩:=vals1 r
 cases e1
 obtain⟨its,rv,pl,zl⟩:=I.list hl
 cases kL rv
 have GG:as.length=ts.length:=Paired.length pr
 by_cases h2:as.length<2
 ·refine tI pl.isList (by simpa using h2) ?_
  obtain⟨e,he⟩:=sortedAll_at s.heap (as.map Value.ref) (((as.map Value.ref).toArray.zip (as.map Value.ref).toArray).map (·.2))
  have eo:(((as.map Value.ref).toArray.zip (as.map Value.ref).toArray).map (·.2)).toList=as.map Value.ref:=by
   rw[Array.toList_map]
   show((pairsOf (as.map Value.ref)).toList).map (·.2)=_
   rw[pairsOf_toList]
   exact List.map_snd_zip (Nat.le_refl _)
  refine⟨.ref (s.heap.objs.size+1),_,I.laid (a:=s.heap.objs.size+1) (t':=s.toks) (fun _ _=>sortedAll_old) (Nat.le_succ _) (show cC X.prog X.w _ _ _ (.lst (as.map V.ref))from⟨zl,as.map Value.ref,e,kM as,by rw[he,←Array.toArray_toList (xs:=Array.map (fun x=>x.snd) ((List.map Value.ref as).toArray.zip (List.map Value.ref as).toArray)),eo]⟩),rfl,q _ as ts (I.aO.fresh (Nat.le_succ _)) (L2.Paired.tT pr fun _ _ z=>z.1) (List.Perm.refl _) ?_⟩
  match ts,GG with
  |[],_=>exact .nil
  |[_],_=>exact List.pairwise_singleton ..
  |_::_::_,e=>simp at e;omega
 ·obtain⟨m,F⟩:=I.fr
  refine kat_sorted (vs:=as.map Value.ref) F AL pl.isList (by simpa using(by omega: 2≤as.length)) (by simpa using So) fun D e1 h' F' N' hD=>?_
  obtain⟨I1,Dq⟩:=I.Dp (out:=[]) (c:=e1) F.ns F' N' hD .nil (Nat.zero_le _)
  have Kx:Paired (fun(a:Addr) (t:List Int)=>upd H D (.lst []) a=some (.tup (t.map V.int))∧t≠[]) as ts:=L2.Paired.tT pr fun a t z=>⟨gs z.1 Dq,z.2⟩
  obtain⟨fs,k1,k2,k3⟩:=kN I1 Kx
  refine kat_kind (T:=.type "int") (fs:=fs) k1 (by omega) (fun v hv=>?_) (by decide) ?_
  ·obtain⟨i,t,rfl⟩:=k3 v hv
   exact rP
  rw[List.length_map]
  have O:=DC ts
  have S:=DA O (n:=as.length) (by omega)
  have hp:∀i∈(ev (fun i j=>a_ (ts.getD j []) (ts.getD i [])) (kas_sort as.length)).toList,i<as.length:=fun i hi=>by
   have:=(Array.perm_iff_toList_perm.mp S.2.2).mem_iff.mp hi
   simpa using this
  refine ug (n:=as.length) (lt:=fun i j=>a_ (ts.getD j []) (ts.getD i [])) (fun i j C hi hj hC=>?_) _ (Bu (by omega)) ?_
  ·obtain⟨a,t,ea,et,ra,_⟩:=gB Kx hi
   obtain⟨b,w,eb,ew,rb,_⟩:=gB Kx hj
   obtain⟨N1,r1,⟨o1,g1,c1,m1,d1⟩,_⟩:=I1.tuple (df.of ra)
   obtain⟨mr,r2,⟨o2,g2,c2,m2,d2⟩,_⟩:=I1.tuple (df.of rb)
   unfold kas_ask
   have v1:(as.map Value.ref).getD i Value.none= .ref a:=by simp[List.getD,ea]
   have v2:(as.map Value.ref).getD j Value.none= .ref b:=by simp[List.getD,eb]
   rw[v1,v2]
   refine kat_lt g1 d1 g2 d2 (jU 0 (by simpa using ints_of r1) (by simpa using ints_of r2) (fun _=>by simp) ?_)
   have t1:ts.getD i []=t:=by simp[List.getD,et]
   have t2:ts.getD j []=w:=by simp[List.getD,ew]
   have hC:C (a_ (ts.getD j []) (ts.getD i [])) _:=hC
   rw[t1,t2]at hC
   exact hC
  ·generalize Vm:ev (fun i j=>a_ (ts.getD j []) (ts.getD i [])) (kas_sort as.length)=p at*
   refine KasFin.intro F' N' (.head fun z hz=>Nat.ne_of_lt (hD z hz)) fun Vn c2 F2 N2=>?_
   have Sq:∀l:List Nat,(∀i∈l,i<as.length)→Vals ((l.map fun i=>as.getD i 0).map V.ref) (l.map fun i=>(as.map Value.ref).getD i Value.none):=fun l=>by
    induction l with
    |nil=>exact fun _=>.nil
    |cons i l ih=>
     intro pT
     have hi:i<as.length:=pT i List.mem_cons_self
     refine .cons ?_ (ih fun j hj=>pT j (List.mem_cons_of_mem _ hj))
     show(as.map Value.ref).getD i Value.none=Value.ref (as.getD i 0)
     simp[List.getD,hi]
   have lp:p.toList.length=as.length:=by rw[Array.length_toList];exact S.2.1
   obtain⟨I2,_⟩:=I.Dp F.ns F2 N2 hD (Sq p.toList hp) (by rw[List.length_map,List.length_map,lp,sizeLine_eq];omega)
   refine⟨.ref D,_,I2,rfl,q D (p.toList.map fun i=>as.getD i 0) (p.toList.map fun i=>ts.getD i []) Dq ?_ ?_ ?_⟩
   ·have:∀l:List Nat,(∀i∈l,i<as.length)→Paired (fun(a:Addr) (t:List Int)=>H a=some (.tup (t.map V.int))) (l.map fun i=>as.getD i 0) (l.map fun i=>ts.getD i []):=fun l=>by
     induction l with
     |nil=>exact fun _=>.nil
     |cons i l ih=>
      intro pT
      obtain⟨a,t,ea,et,ra,_⟩:=gB pr (pT i List.mem_cons_self)
      refine .cons ?_ (ih fun j hj=>pT j (List.mem_cons_of_mem _ hj))
      have t1:ts.getD i []=t:=by simp[List.getD,et]
      have a1:as.getD i 0=a:=by simp[List.getD,ea]
      show H (as.getD i 0)=some (.tup ((ts.getD i []).map V.int))
      rw[t1,a1]
      exact ra
    exact this p.toList hp
   ·have e:=(Array.perm_iff_toList_perm.mp S.2.2).map fun i=>ts.getD i []
    rw[GG]at e
    have e2:(List.range ts.length).toArray.toList=List.range ts.length:=rfl
    rw[e2,range_getD]at e
    exact e
   ·rw[List.pairwise_map,List.pairwise_iff_getElem]
    intro i j hi hj cX
    have:=S.1 i j (Nat.le_of_lt cX) (by omega)
    have a1:at_ p i=p.toList[i]:=by rw[m8];simp at hi ⊢;simp[hi]
    have a2:at_ p j=p.toList[j]:=by rw[m8];simp at hj ⊢;simp[hj]
    rw[a1,a2]at this
    exact this
end
end L2
namespace Qm
open PySem
noncomputable section
def rowOf(d:D):Option (List Int):=match d with
 |.tup xs=>nums xs
 |_=>none
def oW(a b:List Int):Bool:=!a_ a b
end
end Qm
namespace L2
open PySem PySem.Spec PyProof.Rows PySem.W
theorem jG:∀a b:List Int,a_ a b=false→a_ b a=false→a=b
 |[],[],_,_=>rfl
 |[],_::_,_,h=>by simp[a_]at h
 |_::_,[],h,_=>by simp[a_]at h
 |x::a,y::b,h1,h2=>by
  by_cases e:x=y
  ·subst e
   simp[a_]at h1 h2
   rw[jG a b h1 h2]
  ·simp[a_,e,Ne.symm e]at h1 h2
   omega
theorem fJ:∀{xs ys:List (List Int)},xs.Perm ys→xs.Pairwise (fun a b=>a_ a b=false)→ys.Pairwise (fun a b=>a_ a b=false)→xs=ys
 |[],_,p,_,_=>(List.nil_perm.mp p).symm
 |x::xs,[],p,_,_=>absurd p.length_eq (by simp)
 |x::xs,y::ys,p,h1,h2=>by
  have e:x=y:=by
   have m1:x∈y::ys:=p.subset List.mem_cons_self
   have m2:y∈x::xs:=p.symm.subset List.mem_cons_self
   rcases List.mem_cons.mp m1 with e|m1
   ·exact e
   rcases List.mem_cons.mp m2 with e|m2
   ·exact e.symm
   exact jG _ _ ((List.pairwise_cons.mp h1).1 _ m2) ((List.pairwise_cons.mp h2).1 _ m1)
  subst e
  rw[fJ (List.Perm.cons_inv p) (List.pairwise_cons.mp h1).2 (List.pairwise_cons.mp h2).2]
theorem DD{us ts:List (List Int)}(p:us.Perm ts)(h:us.Pairwise (fun a b=>a_ a b=false)):us=ts.mergeSort Qm.oW:=by
 refine fJ (p.trans (List.mergeSort_perm ..).symm) h ?_
 have:=List.pairwise_mergeSort (le:=Qm.oW) (fun a b c h1 h2=>by
  unfold Qm.oW at*
  simp only[Bool.not_eq_true',←qp]at*
  exact i6 a b c h1 h2) (fun a b=>by
  unfold Qm.oW
  simp only[Bool.or_eq_true,Bool.not_eq_true',←qp]
  cases h:a_ a b with
  |false=>exact .inl rfl
  |true=>exact .inr (gf _ _ h)) ts
 exact this.imp fun h=>by
  unfold Qm.oW at h
  simpa only[Bool.not_eq_true',←qp]using h
section
variable{K:PySem.W.Frag}{ρ:Nat→Addr}{N:Nat}{H:Hp}
theorem xa:∀{ds:List Qm.D}{ws:List V}{ts:List (List Int)},RA K ρ N H ds ws→Qm.omap Qm.rowOf ds=some ts→∃as:List Addr,ws=as.map V.ref∧Paired (fun(a:Addr) (t:List Int)=>H a=some (.tup (t.map V.int))) as ts
 |_,_,_,.nil,e=>by
  cases e
  exact⟨[],rfl,.nil⟩
 |_,_,_,.cons (d:=d) r t,e=>by
  simp only[Qm.omap]at e
  obtain⟨z,e1,e⟩:=aE e
  obtain⟨zs,e2,e⟩:=aE e
  cases e
  obtain⟨as,rfl,pr⟩:=xa t e2
  unfold Qm.rowOf at e1
  split at e1
  ·obtain⟨p,xs,rfl,h1,a1⟩:=r.nJ
   rw[rR a1 e1]at h1
   exact⟨p::as,rfl,.cons h1 pr⟩
  ·cases e1
theorem xb:∀{as:List Addr}{ts:List (List Int)},Paired (fun(a:Addr) (t:List Int)=>H a=some (.tup (t.map V.int))) as ts→RA K ρ N H (ts.map fun r=>Qm.D.tup (r.map .int)) (as.map V.ref)
 |_,_,.nil=>.nil
 |_,_,.cons r t=>.cons (.tup r (kK _)) (xb t)
theorem xc{as:List Addr}{ts:List (List Int)}(h:Paired (fun(a:Addr) (t:List Int)=>H a=some (.tup (t.map V.int))) as ts)(h2:∀t∈ts,t≠[]):Paired (fun(a:Addr) (t:List Int)=>H a=some (.tup (t.map V.int))∧t≠[]) as ts:=by
 induction h with
 |nil=>exact .nil
 |cons r t ih=>exact .cons ⟨r,h2 _ List.mem_cons_self⟩ (ih fun t ht=>h2 t (List.mem_cons_of_mem _ ht))
end
end L2
namespace L2
open PySem PySem.W PySem.Spec PyProof.Rows
theorem xf{N:List Str}:∀(j i':Nat) (x':Str),([]:List Nat)[j]? =some i'→([]:List Str)[j]? =some x'→N[i']? =some x':=fun _ _ _ e _=>nomatch e
theorem n8{P:Str→Prop}:∀x∈([]:List Str),P x:=fun _ h=>nomatch h
end L2
namespace Qm
open PySem
noncomputable section
def iq:FN:=one fun y c=>match y with
 |.int j=>if 0≤j∧j≤1000 then some (.ref c.length,c++[.lst (eg 0 j.toNat)])else none
 |_=>none
end
end Qm
namespace L2
open PySem PySem.Spec PyProof.Rows
theorem y9{acc:Array Value}{n:Nat}(h:ItemsOf (fun i v=>∃t,v= .int ((0:Int)+i*1) t) acc n):Vals ((List.range n).map fun(i:Nat)=>V.int (0+(i:Int))) acc.toList:=by
 obtain⟨h1,h2⟩:=h
 have key:∀(vs:List Value) (m:Nat),(∀j v,vs[j]? =some v→∃t,v=Value.int (((m+j:Nat):Int)) t)→Vals ((List.range' m vs.length).map fun(i:Nat)=>V.int (0+(i:Int))) vs:=by
  intro vs
  induction vs with
  |nil=>intro m _;exact .nil
  |cons v vs ih=>
   intro m hv
   rw[List.length_cons,List.range'_succ,List.map_cons]
   refine .cons ?_ (ih (m+1) fun j u hu=>?_)
   ·obtain⟨t,ht⟩:=hv 0 v rfl
    exact⟨t,by rw[ht];simp⟩
   ·obtain⟨t,ht⟩:=hv (j+1) u hu
    exact⟨t,by rw[ht];congr 1;omega⟩
 have hk:=key acc.toList 0 fun j v hj=>by
  obtain⟨t,ht⟩:=h2 j v (by rw[←Array.getElem?_toList];exact hj)
  exact⟨t,by rw[ht];congr 1;omega⟩
 rw[Array.length_toList,h1,←List.range_eq_range']at hk
 exact hk
def Bv(t:TA):TE:=fun σ H Q=>t σ H fun vs H1=>∃j:Int,vs=[.int j]∧0≤j∧j≤1000∧∀l,H1 l=none→Q (.ref l) (upd H1 l (.lst ((List.range j.toNat).map fun(i:Nat)=>.int (0+(i:Int)))))
section
variable{X:Cx}
theorem xg{p0 p1 p2 pos:Pos}{e:Expr}{f:TA}(hc:X.calm=true)(hg:Gl X "list")(hm:X.mg "list" =none)(Ky:Gl X "range")(oX:X.mg "range" =none)(ha:PA X [e] f)
  (hs:starEach [.Call (.Name "range" p1) [e] [] p2] X.env=[(false,eval (.Call (.Name "range" p1) [e] [] p2) X.env)]:=by rfl)
  (md:starEach [e] X.env=(false,eval e X.env)::starEach [] X.env:=by rfl)(dS:(backTo p2 (starEach [] X.env)).any (·.1)=false:=by rfl):
  PE X (.Call (.Name "list" p0) [.Call (.Name "range" p1) [e] [] p2] [] pos) (Bv f):=by
 intro pins s σ H Q I h
 refine wpAny_Call_Name_kw (gX I hg hm (u:=.type "list") (by decide +kernel) ?_)
 refine PyProof.Rows.callWith_type1 ?_ hs rfl
 rw[hs]
 show wpAny _ _ (spliced [(false,eval (.Call (.Name "range" p1) [e] [] p2) X.env)]) _ _ _
 refine Calls.spliced_cons ?_
 refine wpAny_Call_Name_kw (gX I Ky oX (u:=.type "range") (by decide +kernel) ?_)
 refine PyProof.Rows.callWith_type1 (bF (ha p2 pins s σ H _ I h) fun us s1 aZ=>?_) md dS
 obtain⟨vs,H1,I1,r1,q1⟩:=aZ
 obtain⟨j,rfl,j0,j1,q⟩:=q1
 obtain⟨u1,rfl,ra⟩:=vals1 r1
 obtain⟨t,rfl⟩:=ra
 refine call_range_1 (Calls.spliced_nil ?_)
 have I2:Inv X pins σ H1 { s1 with heap:=s1.heap.push { cls:=.type "range",data:=.fields #[.int 0 s1.toks,.int j t,.int 1 (s1.toks+1)] },toks:=s1.toks+1+1 }:=I1.kept fun b o e=>Heap.get?_push_of_some _ e
 generalize FY:({ s1 with heap:=s1.heap.push { cls:=.type "range",data:=.fields #[.int 0 s1.toks,.int j t,.int 1 (s1.toks+1)] },toks:=s1.toks+1+1 }:Shared)=s3 at*
 have hr:IsRange s3.heap s1.heap.objs.size 0 j 1 s1.toks t (s1.toks+1):=by rw[←FY];exact IsRange.new ..
 refine call_list_range (I.ok.hd hc) hr (n:=j.toNat) (PySem.small_one (by omega) (by omega) (by omega) (by omega)) (by rw[PySem.rangeSize_one];split<;>omega) (by omega) fun h' tk acc c hk hD N3=>?_
 have hv:=y9 N3
 have hL:H1 s3.heap.objs.size=none:=I2.fresh
 have hz:((List.range j.toNat).map fun(i:Nat)=>V.int (0+(i:Int))).length≤sizeLine:=by
  rw[List.length_map,List.length_range]
  have:(1000:Nat)≤sizeLine:=by decide
  omega
 have Sr:h'.get? s3.heap.objs.size=some { cls:=.type "list",dict:=none,data:=.seq acc.toList.toArray c,slots:=#[] }:=by rw[Array.toArray_toList];exact hD
 have I4:Inv X pins σ (upd H1 s3.heap.objs.size (.lst ((List.range j.toNat).map fun(i:Nat)=>V.int (0+(i:Int))))) { s3 with heap:=h',toks:=tk }:=I2.Dr (ch:=[]) (t':=tk) (fun b hb=>absurd hb List.not_mem_nil) (fun b u hb e=>hk b u e) (Nat.le_refl _) ⟨hz,acc.toList,c,hv,Sr⟩
 exact⟨.ref s3.heap.objs.size,_,I4,rfl,q _ hL⟩
theorem GH{K:PySem.W.Frag}{ρ:Nat→Addr}{N:Nat}{H:Hp}(l:List Nat):RA K ρ N H (l.map fun(i:Nat)=>Qm.D.int (0+(i:Int))) (l.map fun(i:Nat)=>V.int (0+(i:Int))):=by
 induction l with
 |nil=>exact .nil
 |cons a l ih=>exact .cons (.int _) ih
theorem xi{e1:Expr}{p0 p1 p2 pos:Pos}{f:Qm.XA}(hg:Gl X "list")(hm:X.mg "list" =none)(Ky:Gl X "range")(oX:X.mg "range" =none)(ha:QA X [e1] f)(hc:X.calm=true:=by rfl)
  (hs:starEach [.Call (.Name "range" p1) [e1] [] p2] X.env=[(false,eval (.Call (.Name "range" p1) [e1] [] p2) X.env)]:=by rfl)
  (md:starEach [e1] X.env=(false,eval e1 X.env)::starEach [] X.env:=by rfl)(dS:(backTo p2 (starEach [] X.env)).any (·.1)=false:=by rfl):
  QE X (.Call (.Name "list" p0) [.Call (.Name "range" p1) [e1] [] p2] [] pos) (Qm.eB Qm.iq f):=(xg hc hg hm Ky oX ha hs md dS).imp <| by
 rintro σ H Q ⟨ρ,env,c,d,c',rs,re,e,k⟩
 obtain⟨p,ea,e⟩:=aE e
 refine⟨ρ,env,c,p.1,p.2,rs,re,ea,fun aF vs H1 n1 r1=>?_⟩
 unfold Qm.iq Qm.one at e
 split at e
 ·rename_i y hp
  dsimp only at e
  split at e
  ·rename_i j
   split at e
   ·rename_i hj
    cases e
    rw[hp]at r1
    obtain⟨v,rfl,rx⟩:=r1.iX
    cases rx.dF
    refine⟨j,rfl,hj.1,hj.2,fun a Kj=>?_⟩
    obtain⟨n2,r2⟩:=Nx.alloc n1.rs Kj (GH (K:=X.K) (ρ:=aF) (N:=p.2.length) (H:=H1) (List.range j.toNat))
    exact k _ _ _ (n1.trans n2) r2
   ·cases e
  ·cases e
 ·cases e
end
end L2
namespace Qm
open PySem
noncomputable section
end
end Qm
namespace L2
open PySem PySem.Spec PyProof.Rows
section
variable{X:Cx}
end
end L2
namespace Qm
open PySem
noncomputable section
end
end Qm
namespace L2
open PySem PySem.Spec PyProof.Rows
section
variable{X:Cx}{e1 tg:Expr}{p1 p2:Pos}{f:Qm.XA}
end
end L2
namespace L2
open PySem PySem.Spec PyProof.Rows
theorem r_{K:PySem.W.Frag}:qc K (fun xs H Q=>∃i j k,xs=[.int i,.int j,.int k]∧Q (.int (if j > i then(if k > j then k else j)else(if k > i then k else i))) H) Qm.jd:=by
 intro ρ c H ds d c' vs Q rs ra e k
 unfold Qm.jd at e
 split at e
 ·cases e
  cases ra with
  |cons r1 ra=>
   obtain⟨v5,v6,rfl,r5,r6⟩:=ra.t8
   cases r1.dF;cases r5.dF;cases r6.dF
   exact⟨_,_,_,rfl,k ρ _ H (Nx.refl rs) (.int _)⟩
 ·cases e
end L2
namespace L2.TS
open PySem PyProof.Rows
local macro_rules|`(tactic|walk_at $s:str)=>do
 if s.getString.startsWith "open " then
  let c:=Lean.mkCIdent (Lean.mkPrivateNameCore `PySem.Builtin.List.W1All (`PySem.Builtin++(s.getString.drop 5).toString.toName))
  `(tactic|delta $c:ident)
 else Lean.Macro.throwUnsupported
def xj:Bool→Keyed→Array Keyed→Nat→Nat→Nat→StateT SortSt Sem (Option Nat):=sortPriv% PySem.Builtin.gallop
def ga(a:Array Keyed)(i:Nat):Keyed:=a.getD i (.none,.none)
theorem iH{a:Array Keyed}{i:Nat}(h:i<a.size):a[i]? =some (ga a i):=by
 unfold ga
 rw[Array.getD_eq_getD_getElem?,Array.getElem?_eq_getElem h]
 rfl
structure d8(R:Keyed→Keyed→Bool):Prop where
 fI:∀a b,R a b=true→R b a=false
 tr:∀a b c,R b a=false→R c b=false→R c a=false
section
variable{R:Keyed→Keyed→Bool}
theorem d8.hZ(O:d8 R)(a:Keyed):R a a=false:=by
 cases h:R a a with
 |false=>rfl
 |true=>rw[O.fI a a h]at h;cases h
theorem d8.yZ(O:d8 R){a b c:Keyed}(h1:R a b=true)(h2:R c b=false):R a c=true:=by
 cases h:R a c with
 |true=>rfl
 |false=>rw[O.tr b c a h2 h]at h1;cases h1
theorem d8.y_(O:d8 R){a b c:Keyed}(h1:R b a=false)(h2:R b c=true):R a c=true:=by
 cases h:R a c with
 |true=>rfl
 |false=>rw[O.tr c a b h h1]at h2;cases h2
end
section
variable{M:Model}{A:Around}{E:Value→Shared→Prop}{s:Shared}{κ:SortKind}{R:Keyed→Keyed→Bool}{dom:Keyed→Prop}
structure Still(M:Model)(A:Around)(E:Value→Shared→Prop)(s:Shared)(κ:SortKind)(R:Keyed→Keyed→Bool)(dom:Keyed→Prop):Prop where
 lt:∀{st:SortSt}{x y:Keyed}{Q:Option Bool→SortSt→Prop},kindOf st=κ→dom x→dom y→Q (some (R x y)) st→wpS M A E s (lt' x y) Q st
theorem cg{arr:Array Keyed}{i:Nat}{st:SortSt}{Q:Keyed→SortSt→Prop}(hi:i<arr.size)(h:Q (ga arr i) st):wpS M A E s (elem' arr i) Q st:=by
 rw[elem'_eq,iH hi]
 exact wpS_pure h
def Kz(left:Bool)(key:Keyed)(arr:Array Keyed)(base i:Nat):StateT SortSt Sem (Option Bool):=elem' arr (base+i) >>= fun x=>if left=true then lt' x key else lt' key x >>= fun r=>pure (Option.map (fun x=>!x) r)
def gC(R:Keyed→Keyed→Bool)(left:Bool)(key:Keyed)(arr:Array Keyed)(base i:Nat):Bool:=if left=true then R (ga arr (base+i)) key else !R key (ga arr (base+i))
theorem DE(S:Still M A E s κ R dom){left:Bool}{key:Keyed}{arr:Array Keyed}{base i:Nat}{st:SortSt}{Q:Option Bool→SortSt→Prop}(hk:kindOf st=κ)(dk:dom key)(da:dom (ga arr (base+i)))(hi:base+i<arr.size)(h:Q (some (gC R left key arr base i)) st):wpS M A E s (Kz left key arr base i) Q st:=by
 unfold Kz
 unfold gC at h
 refine wpS_bind (cg hi ?_)
 cases left with
 |true=>exact S.lt hk da dk h
 |false=>exact wpS_bind (S.lt hk dk da (wpS_pure h))
theorem gg(S:Still M A E s κ R dom){left:Bool}{key:Keyed}{arr:Array Keyed}{base n hint:Nat}{st:SortSt}{Q:Option Nat→SortSt→Prop}(hk:kindOf st=κ)(dk:dom key)(da:∀i,i<n→dom (ga arr (base+i)))(hn:base+n≤arr.size)(hh:hint<n)
  (mono:∀i j,i≤j→j<n→gC R left key arr base j=true→gC R left key arr base i=true)
  (h:∀k,k≤n→(∀i,i<k→gC R left key arr base i=true)→(∀i,k≤i→i<n→gC R left key arr base i=false)→Q (some k) st):wpS M A E s (xj left key arr base n hint) Q st:=by
 have ask:∀{i:Nat}{Q:Option Bool→SortSt→Prop},i<n→Q (some (gC R left key arr base i)) st→wpS M A E s (Kz left key arr base i) Q st:=fun {i Q} hi hq=>DE S hk dk (da i hi) (by omega) hq
 generalize gC R left key arr base=b at*
 unfold xj
 walk_at "open gallop"
 dsimp only
 refine wpS_bind (ask hh ?_)
 dsimp only
 cases hb:b hint with
 |true=>
  rw[if_pos rfl]
  refine wpS_bind (wpS_mono (wpS_forRange (I:=fun x c aA=>∃la o:Nat,c=(none,la,o)∧aA=st∧la<o∧x<o∧hint+la<n∧b (hint+la)=true)
   (Q:=fun c aA=>∃la o:Nat,c=(none,la,o)∧aA=st∧la<o∧hint+la<n∧b (hint+la)=true∧(n - hint≤o∨(hint+o<n∧b (hint+o)=false))) ?_ ?_ ⟨0,1,rfl,rfl,by omega,by omega,by omega,hb⟩) ?_)
  ·rintro x c aA _ hx ⟨la,o,rfl,rfl,h1,h2,h3,h4⟩
   dsimp only
   by_cases ho:o≥n - hint
   ·rw[if_pos ho]
    exact wpS_pure ⟨la,o,rfl,rfl,h1,h3,h4,.inl ho⟩
   ·rw[if_neg ho]
    refine wpS_bind (ask (by omega) ?_)
    dsimp only
    cases hc:b (hint+o)with
    |true=>
     rw[if_neg (by decide)]
     exact wpS_pure ⟨o,2*o+1,rfl,rfl,by omega,by omega,by omega,hc⟩
    |false=>
     rw[if_pos (by decide)]
     exact wpS_pure ⟨la,o,rfl,rfl,h1,h3,h4,.inr ⟨by omega,hc⟩⟩
  ·rintro c aA ⟨la,o,rfl,rfl,h1,h2,h3,h4⟩
   exact⟨la,o,rfl,rfl,h1,h3,h4,.inl (by omega)⟩
  ·rintro c aA ⟨la,o,rfl,rfl,h1,h3,h4,h5⟩
   dsimp only
   refine wpS_bind (wpS_mono (wpS_forRange (I:=fun x c jH=>∃lo hi:Nat,c=(none,lo,hi)∧jH=aA∧lo≤hi∧hi≤n∧hi - lo≤n - x∧(∀i,i<lo→b i=true)∧(∀i,hi≤i→i<n→b i=false))
    (Q:=fun c jH=>∃k:Nat,c=(none,k,k)∧jH=aA∧k≤n∧(∀i,i<k→b i=true)∧(∀i,k≤i→i<n→b i=false)) ?_ ?_ ⟨hint+la+1,hint+min o (n - hint),rfl,rfl,by omega,by omega,by omega,fun i hi=>mono i (hint+la) (by omega) h3 h4,fun i h6 h7=>?_⟩) ?_)
   ·rintro x c jH _ hx ⟨lo,hi,rfl,rfl,g1,g2,g3,g4,g5⟩
    dsimp only
    by_cases hl:lo≥hi
    ·rw[if_pos hl]
     have:lo=hi:=by omega
     subst this
     exact wpS_pure ⟨lo,rfl,rfl,g2,g4,g5⟩
    ·rw[if_neg hl]
     refine wpS_bind (ask (by omega) ?_)
     dsimp only
     cases hm:b (lo+(hi - lo) / 2)with
     |true=>
      rw[if_pos rfl]
      exact wpS_pure ⟨_,hi,rfl,rfl,by omega,g2,by omega,fun i wQ=>mono i _ (by omega) (by omega) hm,g5⟩
     |false=>
      rw[if_neg (by decide)]
      refine wpS_pure ⟨lo,_,rfl,rfl,by omega,by omega,by omega,g4,fun i h6 h7=>?_⟩
      cases hz:b i with
      |false=>rfl
      |true=>rw[mono _ i h6 h7 hz]at hm;cases hm
   ·rintro c jH ⟨lo,hi,rfl,rfl,g1,g2,g3,g4,g5⟩
    have:lo=hi:=by omega
    subst this
    exact⟨lo,rfl,rfl,g2,g4,g5⟩
   ·rcases h5 with h5|⟨h5,h8⟩
    ·omega
    ·cases hz:b i with
     |false=>rfl
     |true=>rw[mono _ i (by omega) h7 hz]at h8;cases h8
   ·rintro c jH ⟨k,rfl,rfl,g2,g4,g5⟩
    exact wpS_pure (h k g2 g4 g5)
 |false=>
  rw[if_neg (by decide)]
  refine wpS_bind (wpS_mono (wpS_forRange (I:=fun x c aA=>∃la o:Nat,c=(none,la,o)∧aA=st∧la<o∧x<o∧la≤hint∧b (hint - la)=false)
   (Q:=fun c aA=>∃la o:Nat,c=(none,la,o)∧aA=st∧la<o∧la≤hint∧b (hint - la)=false∧(hint+1≤o∨(o≤hint∧b (hint - o)=true))) ?_ ?_ ⟨0,1,rfl,rfl,by omega,by omega,by omega,hb⟩) ?_)
  ·rintro x c aA _ hx ⟨la,o,rfl,rfl,h1,h2,h3,h4⟩
   dsimp only
   by_cases ho:o≥hint+1
   ·rw[if_pos ho]
    exact wpS_pure ⟨la,o,rfl,rfl,h1,h3,h4,.inl ho⟩
   ·rw[if_neg ho]
    refine wpS_bind (ask (by omega) ?_)
    dsimp only
    cases hc:b (hint - o)with
    |true=>
     rw[if_pos rfl]
     exact wpS_pure ⟨la,o,rfl,rfl,h1,h3,h4,.inr ⟨by omega,hc⟩⟩
    |false=>
     rw[if_neg (by decide)]
     exact wpS_pure ⟨o,2*o+1,rfl,rfl,by omega,by omega,by omega,hc⟩
  ·rintro c aA ⟨la,o,rfl,rfl,h1,h2,h3,h4⟩
   exact⟨la,o,rfl,rfl,h1,h3,h4,.inl (by omega)⟩
  ·rintro c aA ⟨la,o,rfl,rfl,h1,h3,h4,h5⟩
   dsimp only
   refine wpS_bind (wpS_mono (wpS_forRange (I:=fun x c jH=>∃lo hi:Nat,c=(none,lo,hi)∧jH=aA∧lo≤hi∧hi≤n∧hi - lo≤n - x∧(∀i,i<lo→b i=true)∧(∀i,hi≤i→i<n→b i=false))
    (Q:=fun c jH=>∃k:Nat,c=(none,k,k)∧jH=aA∧k≤n∧(∀i,i<k→b i=true)∧(∀i,k≤i→i<n→b i=false)) ?_ ?_ ⟨hint+1 - min o (hint+1),hint - la,rfl,rfl,by omega,by omega,by omega,fun i hi=>?_,fun i h6 h7=>?_⟩) ?_)
   ·rintro x c jH _ hx ⟨lo,hi,rfl,rfl,g1,g2,g3,g4,g5⟩
    dsimp only
    by_cases hl:lo≥hi
    ·rw[if_pos hl]
     have:lo=hi:=by omega
     subst this
     exact wpS_pure ⟨lo,rfl,rfl,g2,g4,g5⟩
    ·rw[if_neg hl]
     refine wpS_bind (ask (by omega) ?_)
     dsimp only
     cases hm:b (lo+(hi - lo) / 2)with
     |true=>
      rw[if_pos rfl]
      exact wpS_pure ⟨_,hi,rfl,rfl,by omega,g2,by omega,fun i wQ=>mono i _ (by omega) (by omega) hm,g5⟩
     |false=>
      rw[if_neg (by decide)]
      refine wpS_pure ⟨lo,_,rfl,rfl,by omega,by omega,by omega,g4,fun i h6 h7=>?_⟩
      cases hz:b i with
      |false=>rfl
      |true=>rw[mono _ i h6 h7 hz]at hm;cases hm
   ·rintro c jH ⟨lo,hi,rfl,rfl,g1,g2,g3,g4,g5⟩
    have:lo=hi:=by omega
    subst this
    exact⟨lo,rfl,rfl,g2,g4,g5⟩
   ·rcases h5 with h5|⟨h5,h8⟩
    ·omega
    ·exact mono i (hint - o) (by omega) (by omega) h8
   ·cases hz:b i with
    |false=>rfl
    |true=>rw[mono _ i h6 h7 hz]at h4;cases h4
   ·rintro c jH ⟨k,rfl,rfl,g2,g4,g5⟩
    exact wpS_pure (h k g2 g4 g5)
end
end L2.TS
namespace L2.TS
open PySem PyProof.Rows
local macro_rules|`(tactic|walk_at $s:str)=>do
 if s.getString.startsWith "open " then
  let c:=Lean.mkCIdent (Lean.mkPrivateNameCore `PySem.Builtin.List.W1All (`PySem.Builtin++(s.getString.drop 5).toString.toName))
  `(tactic|delta $c:ident)
 else Lean.Macro.throwUnsupported
def dg(R:Keyed→Keyed→Bool)(l:List Keyed):Prop:=l.Pairwise fun x y=>R y x=false
section
variable{R:Keyed→Keyed→Bool}{al bl o:List Keyed}{ia ib:Nat}
structure MI(R:Keyed→Keyed→Bool)(al bl o:List Keyed)(ia ib:Nat):Prop where
 perm:(o++al.drop ia++bl.drop ib).Perm (al++bl)
 sa:dg R (o++al.drop ia)
 sb:dg R (o++bl.drop ib)
def MF(R:Keyed→Keyed→Bool)(al bl r:List Keyed):Prop:=r.Perm (al++bl)∧dg R r
theorem dg.app{l m:List Keyed}(h1:dg R l)(h2:dg R m)(h:∀x∈l,∀y∈m,R y x=false):dg R (l++m):=List.pairwise_append.mpr ⟨h1,h2,h⟩
theorem dg.left{l m:List Keyed}(h:dg R (l++m)):dg R l:=(List.pairwise_append.mp h).1
theorem dg.right{l m:List Keyed}(h:dg R (l++m)):dg R m:=(List.pairwise_append.mp h).2.1
theorem dg.kO{l m:List Keyed}(h:dg R (l++m)):∀x∈l,∀y∈m,R y x=false:=(List.pairwise_append.mp h).2.2
theorem cut(l:List Keyed)(i k:Nat):l.drop i=(l.drop i).take k++l.drop (i+k):=by rw[←List.drop_drop,List.take_append_drop]
theorem MI.n_{k:Nat}(h:MI R al bl o ia ib)(hx:∀x∈(al.drop ia).take k,∀y∈bl.drop ib,R y x=false):MI R al bl (o++(al.drop ia).take k) (ia+k) ib:=by
 obtain⟨h1,h2,h3⟩:=h
 have e:=cut al ia k
 generalize (al.drop ia).take k=X at*
 rw[e]at h1 h2
 refine⟨by simpa using h1,by simpa using h2,?_⟩
 rw[←List.append_assoc]at h2
 refine h2.left.app h3.right fun x cB y hy=>?_
 rcases List.mem_append.mp cB with cB|cB
 ·exact h3.kO x cB y hy
 ·exact hx x cB y hy
theorem MI.oa{k:Nat}(h:MI R al bl o ia ib)(hx:∀x∈(bl.drop ib).take k,∀y∈al.drop ia,R y x=false):MI R al bl (o++(bl.drop ib).take k) ia (ib+k):=by
 obtain⟨h1,h2,h3⟩:=h
 have e:=cut bl ib k
 generalize (bl.drop ib).take k=X at*
 rw[e]at h1 h3
 refine⟨?_,?_,by simpa using h3⟩
 ·refine List.Perm.trans ?_ h1
  simp only[List.append_assoc]
  refine List.Perm.append_left _ ?_
  rw[←List.append_assoc,←List.append_assoc]
  exact List.Perm.append_right _ List.perm_append_comm
 ·rw[←List.append_assoc]at h3
  refine h3.left.app h2.right fun x cB y hy=>?_
  rcases List.mem_append.mp cB with cB|cB
  ·exact h2.kO x cB y hy
  ·exact hx x cB y hy
theorem MI.KA(h:MI R al bl o ia ib)(e:bl.drop ib=[]):MF R al bl (o++al.drop ia++bl.drop ib):=⟨h.perm,by rw[e,List.append_nil];exact h.sa⟩
theorem MI.KC(h:MI R al bl o ia ib)(e:al.drop ia=[]):MF R al bl (o++al.drop ia++bl.drop ib):=⟨h.perm,by rw[e,List.append_nil];exact h.sb⟩
theorem MI.last(h:MI R al bl o ia ib)(hz:∀y∈bl.drop ib,∀z∈al.drop ia,R z y=false):MF R al bl (o++bl.drop ib++al.drop ia):=by
 refine⟨List.Perm.trans ?_ h.perm,h.sb.app h.sa.right fun x hx y hy=>?_⟩
 ·rw[List.append_assoc,List.append_assoc]
  exact List.Perm.append_left _ List.perm_append_comm
 ·rcases List.mem_append.mp hx with hx|hx
  ·exact h.sa.kO x hx y hy
  ·exact hz x hx y hy
theorem m_(a:Array Keyed)(i j:Nat):(a.extract i j).toList=(a.toList.drop i).take (j - i):=by simp[List.extract_eq_take_drop]
theorem oY(a:Array Keyed)(i:Nat):(a.extract i a.size).toList=a.toList.drop i:=by
 rw[m_,List.take_of_length_le]
 rw[List.length_drop]
 simp
theorem drop_one{a:Array Keyed}{i:Nat}(h:i<a.size):a.toList.drop i=ga a i::a.toList.drop (i+1):=by
 rw[List.drop_eq_getElem_cons (by simpa using h)]
 congr 1
 have:=iH h
 rw[Array.getElem?_eq_getElem h]at this
 simpa using Option.some.inj this
theorem take_one{a:Array Keyed}{i:Nat}(h:i<a.size):(a.toList.drop i).take 1=[ga a i]:=by rw[drop_one h];rfl
theorem ir{a:Array Keyed}{i:Nat}{y:Keyed}(h:y∈a.toList.drop i):∃j,i≤j∧j<a.size∧y=ga a j:=by
 obtain⟨k,hk,rfl⟩:=List.mem_iff_getElem.mp h
 rw[List.length_drop]at hk
 have hs:i+k<a.size:=by simp at hk;omega
 refine⟨i+k,by omega,hs,?_⟩
 have:=iH hs
 rw[Array.getElem?_eq_getElem hs]at this
 simpa using Option.some.inj this
theorem iI{a:Array Keyed}{i k:Nat}{y:Keyed}(h:y∈(a.toList.drop i).take k):∃j,i≤j∧j<i+k∧j<a.size∧y=ga a j:=by
 obtain⟨m,hm,rfl⟩:=List.mem_iff_getElem.mp h
 rw[List.length_take,List.length_drop]at hm
 have hs:i+m<a.size:=by simp at hm;omega
 refine⟨i+m,by omega,by omega,hs,?_⟩
 have:=iH hs
 rw[Array.getElem?_eq_getElem hs]at this
 simpa using Option.some.inj this
theorem fK{a:Array Keyed}(h:dg R a.toList)(O:d8 R){i j:Nat}(cX:i≤j)(hj:j<a.size):R (ga a j) (ga a i)=false:=by
 rcases Nat.lt_or_eq_of_le cX with du|rfl
 ·have:=List.pairwise_iff_getElem.mp h i j (by simp;omega) (by simpa using hj) du
  have e1:=iH hj
  have e2:=iH (a:=a) (i:=i) (by omega)
  rw[Array.getElem?_eq_getElem hj]at e1
  rw[Array.getElem?_eq_getElem (show i<a.size by omega)]at e2
  rw[←Option.some.inj e1,←Option.some.inj e2]
  simpa using this
 ·exact O.hZ _
end
structure dZ(st aA:SortSt):Prop where
 kind:kindOf aA=kindOf st
 arr:arrOf aA=arrOf st
 pend:pendingOf aA=pendingOf st
 fail:failedOf aA=failedOf st
theorem dZ.refl(st:SortSt):dZ st st:=⟨rfl,rfl,rfl,rfl⟩
theorem dZ.trans{a b c:SortSt}(h:dZ a b)(g:dZ b c):dZ a c:=⟨g.kind.trans h.kind,g.arr.trans h.arr,g.pend.trans h.pend,g.fail.trans h.fail⟩
def DF:Nat→StateT SortSt Sem Unit:=sortPriv% PySem.Builtin.setMinGallop
section
variable{M:Model}{A:Around}{E:Value→Shared→Prop}{s:Shared}
theorem lQ{g:Nat}{st:SortSt}{Q:Unit→SortSt→Prop}(h:∀aA,dZ st aA→Q () aA):wpS M A E s (DF g) Q st:=by
 unfold DF
 walk_at "open setMinGallop"
 exact wpS_modify (h _ ⟨rfl,rfl,rfl,rfl⟩)
end
end L2.TS
namespace L2.TS
open PySem PyProof.Rows
local macro_rules|`(tactic|walk_at $s:str)=>do
 if s.getString.startsWith "open " then
  let c:=Lean.mkCIdent (Lean.mkPrivateNameCore `PySem.Builtin.List.W1All (`PySem.Builtin++(s.getString.drop 5).toString.toName))
  `(tactic|delta $c:ident)
 else Lean.Macro.throwUnsupported
def uh:Array Keyed→Array Keyed→StateT SortSt Sem (Array Keyed):=sortPriv% PySem.Builtin.mergeLo
section
variable{M:Model}{A:Around}{E:Value→Shared→Prop}{s:Shared}{κ:SortKind}{R:Keyed→Keyed→Bool}{dom:Keyed→Prop}{a b out:Array Keyed}{ia ib:Nat}
theorem cP{α:Type}{c:Prop}[Decidable c]{m1 m2:StateT SortSt Sem α}{Q:α→SortSt→Prop}{st:SortSt}(h1:c→wpS M A E s m1 Q st)(h2:¬c→wpS M A E s m2 Q st):wpS M A E s (if c then m1 else m2) Q st:=by
 split
 ·exact h1 ‹_›
 ·exact h2 ‹_›
theorem MI.oZ(h:MI R a.toList b.toList out.toList ia ib)(hb:ib<b.size)(hx:∀y∈a.toList.drop ia,R y (ga b ib)=false):MI R a.toList b.toList (out.push (ga b ib)).toList ia (ib+1):=by
 have:=h.oa (k:=1) (by rw[take_one hb];intro x cB;rw[List.mem_singleton.mp cB];exact hx)
 rwa[take_one hb,←Array.toList_push]at this
theorem MI.o4(h:MI R a.toList b.toList out.toList ia ib)(ha:ia<a.size)(hx:∀y∈b.toList.drop ib,R y (ga a ia)=false):MI R a.toList b.toList (out.push (ga a ia)).toList (ia+1) ib:=by
 have:=h.n_ (k:=1) (by rw[take_one ha];intro x cB;rw[List.mem_singleton.mp cB];exact hx)
 rwa[take_one ha,←Array.toList_push]at this
theorem MI.DG{k:Nat}(h:MI R a.toList b.toList out.toList ia ib)(hx:∀j,ia≤j→j<ia+k→j<a.size→∀y∈b.toList.drop ib,R y (ga a j)=false):MI R a.toList b.toList (out++a.extract ia (ia+k)).toList (ia+k) ib:=by
 have:=h.n_ (k:=k) fun x cB=>by
  obtain⟨j,h1,h2,h3,rfl⟩:=iI cB
  exact hx j h1 h2 h3
 rw[Array.toList_append,m_,show ia+k - ia=k by omega]
 exact this
theorem MI.DH{k:Nat}(h:MI R a.toList b.toList out.toList ia ib)(hx:∀j,ib≤j→j<ib+k→j<b.size→∀y∈a.toList.drop ia,R y (ga b j)=false):MI R a.toList b.toList (out++b.extract ib (ib+k)).toList ia (ib+k):=by
 have:=h.oa (k:=k) fun x cB=>by
  obtain⟨j,h1,h2,h3,rfl⟩:=iI cB
  exact hx j h1 h2 h3
 rw[Array.toList_append,m_,show ib+k - ib=k by omega]
 exact this
theorem se{c:Array Keyed}{i:Nat}(h:c.size≤i):c.toList.drop i=[]:=List.drop_eq_nil_of_le (by simpa using h)
theorem MI.Af(h:MI R a.toList b.toList out.toList ia ib)(e:b.size≤ib):MF R a.toList b.toList (out++a.extract ia a.size++b.extract ib b.size).toList:=by
 have:=h.KA (se e)
 rwa[Array.toList_append,Array.toList_append,oY,oY]
theorem MI.N4(h:MI R a.toList b.toList out.toList ia ib)(e:a.size≤ia):MF R a.toList b.toList (out++a.extract ia a.size++b.extract ib b.size).toList:=by
 have:=h.KC (se e)
 rwa[Array.toList_append,Array.toList_append,oY,oY]
theorem MI.Ag(O:d8 R)(h:MI R a.toList b.toList out.toList ia ib)(hz:∀j,j<b.size→R (ga b j) (ga a (a.size - 1))=true)(e:ia+1=a.size):MF R a.toList b.toList (out++b.extract ib b.size++a.extract ia a.size).toList:=by
 have:=h.last fun y hy z kD=>by
  obtain⟨j,h1,h2,rfl⟩:=ir hy
  obtain⟨i,h3,h4,rfl⟩:=ir kD
  have:i=a.size - 1:=by omega
  rw[this]
  exact O.fI _ _ (hz j h2)
 rwa[Array.toList_append,Array.toList_append,oY,oY]
structure ML(R:Keyed→Keyed→Bool)(a b:Array Keyed)(st:SortSt)(out:Array Keyed)(ia ib:Nat)(aA:SortSt):Prop where
 mi:MI R a.toList b.toList out.toList ia ib
 la:ia+1<a.size
 lb:ib<b.size
 same:dZ st aA
def MQ(R:Keyed→Keyed→Bool)(a b:Array Keyed)(st:SortSt)(r:Option (Array Keyed))(aA:SortSt):Prop:=∃x,r=some x∧MF R a.toList b.toList x.toList∧dZ st aA
theorem xk(S:Still M A E s κ R dom)(O:d8 R){st:SortSt}{Q:Array Keyed→SortSt→Prop}(hk:kindOf st=κ)(da:∀i,i<a.size→dom (ga a i))(db:∀i,i<b.size→dom (ga b i))(sa:dg R a.toList)(sb:dg R b.toList)(ha: 0<a.size)(hb: 0<b.size)
  (h0:R (ga b 0) (ga a 0)=true)(hz:∀j,j<b.size→R (ga b j) (ga a (a.size - 1))=true)(h:∀r aA,dZ st aA→MF R a.toList b.toList r.toList→Q r aA):wpS M A E s (uh a b) Q st:=by
 have bw:∀{ia ib:Nat},ib<b.size→R (ga b ib) (ga a ia)=true→∀y∈a.toList.drop ia,R y (ga b ib)=false:=fun {ia ib} _ hr y hy=>by
  obtain⟨j,h1,h2,rfl⟩:=ir hy
  exact O.tr _ _ _ (O.fI _ _ hr) (fK sa O h1 h2)
 have aw:∀{ia ib:Nat},R (ga b ib) (ga a ia)=false→∀y∈b.toList.drop ib,R y (ga a ia)=false:=fun {ia ib} hr y hy=>by
  obtain⟨j,h1,h2,rfl⟩:=ir hy
  exact O.tr _ _ _ hr (fK sb O h1 h2)
 have m0:MI R a.toList b.toList (#[]:Array Keyed).toList 0 0:=⟨by simp,by simpa using sa,by simpa using sb⟩
 have m1:MI R a.toList b.toList #[ga b 0].toList 0 1:=m0.oZ hb (bw hb h0)
 unfold uh
 walk_at "open mergeLo"
 refine wpS_bind (wpS_lift (wpAny_rule ⟨rfl,?_⟩))
 try dsimp only
 refine wpS_bind (cg hb ?_)
 by_cases e1:(1==b.size)=true
 ·rw[if_pos e1]
  have:=eq_of_beq e1
  exact wpS_pure (h _ st (.refl _) (m1.Af (by omega)))
 rw[if_neg e1]
 have e1: 1<b.size:=by
  have:¬1=b.size:=fun z=>e1 (by rw[←z];rfl)
  omega
 by_cases e2:(0+1==a.size)=true
 ·rw[if_pos e2]
  have:=eq_of_beq e2
  exact wpS_pure (h _ st (.refl _) (m1.Ag O hz (by omega)))
 rw[if_neg e2]
 have e2: 0+1<a.size:=by
  have:¬0+1=a.size:=fun z=>e2 (by rw[←z];rfl)
  omega
 refine wpS_bind (wpS_get ?_)
 try dsimp only
 refine wpS_bind (wpS_mono (wpS_forRange (I:=fun x c aA=>c.1=none∧ML R a b st c.2.1 c.2.2.1 c.2.2.2.1 aA∧x+1≤c.2.2.1+c.2.2.2.1) (Q:=fun c aA=>MQ R a b st c.1 aA) ?_ ?_ ⟨rfl,⟨m1,e2,e1,.refl _⟩,by dsimp only;omega⟩) ?_)
 ·rintro x ⟨_,out,ia,ib,mg⟩ jW _ hx ⟨rfl,L,hm⟩
  dsimp only at L hm ⊢
  refine wpS_bind (wpS_mono (wpS_forRange (I:=fun x' c aA=>c.1=none∧ML R a b st c.2.1 c.2.2.1 c.2.2.2.1 aA∧ia+ib+x'≤c.2.2.1+c.2.2.2.1)
   (Q:=fun c aA=>MQ R a b st c.1 aA∨(c.1=none∧ML R a b st c.2.1 c.2.2.1 c.2.2.2.1 aA∧ia+ib+1≤c.2.2.1+c.2.2.2.1)) ?_ ?_ ⟨rfl,L,by dsimp only;omega⟩) ?_)
  ·rintro x' ⟨_,o,i,j,ac,bc⟩ bz _ cB ⟨rfl,L2,oX⟩
   dsimp only at L2 oX ⊢
   have li:=L2.la
   have lj:=L2.lb
   refine wpS_bind (cg lj (wpS_bind (cg (by omega) (wpS_bind (S.lt (L2.same.kind.trans hk) (db _ lj) (da _ (by omega)) ?_)))))
   try dsimp only
   cases hr:R (ga b j) (ga a i)with
   |true=>
    rw[if_pos rfl]
    refine wpS_bind (cg lj ?_)
    have mi:=L2.mi.oZ lj (bw lj hr)
    by_cases c1:(j+1==b.size)=true
    ·rw[if_pos c1]
     have:=eq_of_beq c1
     exact wpS_pure (.inl ⟨_,rfl,mi.Af (by omega),L2.same⟩)
    ·rw[if_neg c1]
     have c1:j+1<b.size:=by
      have:¬j+1=b.size:=fun z=>c1 (by rw[←z];exact beq_self_eq_true _)
      omega
     refine cP (fun _=>?_) (fun _=>?_)
     ·exact wpS_pure (.inr ⟨rfl,⟨mi,li,c1,L2.same⟩,by dsimp only;omega⟩)
     ·exact wpS_pure ⟨rfl,⟨mi,li,c1,L2.same⟩,by dsimp only;omega⟩
   |false=>
    rw[if_neg (by decide)]
    refine wpS_bind (cg (by omega) ?_)
    have mi:=L2.mi.o4 (by omega) (aw hr)
    by_cases c1:(i+1+1==a.size)=true
    ·rw[if_pos c1]
     have:=eq_of_beq c1
     exact wpS_pure (.inl ⟨_,rfl,mi.Ag O hz (by omega),L2.same⟩)
    ·rw[if_neg c1]
     have c1:i+1+1<a.size:=by
      have:¬i+1+1=a.size:=fun z=>c1 (by rw[←z];exact beq_self_eq_true _)
      omega
     refine cP (fun _=>?_) (fun _=>?_)
     ·exact wpS_pure (.inr ⟨rfl,⟨mi,c1,lj,L2.same⟩,by dsimp only;omega⟩)
     ·exact wpS_pure ⟨rfl,⟨mi,c1,lj,L2.same⟩,by dsimp only;omega⟩
  ·rintro c bz ⟨h1,h2,h3⟩
   have:=h2.la
   have:=h2.lb
   omega
  ·rintro⟨r,o,i,j,ac,bc⟩ bz (⟨z,rfl,kD,rk⟩|⟨rfl,L2,oX⟩)
   ·exact wpS_pure ⟨z,rfl,kD,rk⟩
   dsimp only at L2 oX ⊢
   refine wpS_bind (wpS_lift (wpAny_rule ⟨rfl,?_⟩))
   refine wpS_bind (wpS_mono (wpS_forRange (I:=fun x' c aA=>c.1=none∧ML R a b st c.2.1 c.2.2.1 c.2.2.2.1 aA∧i+j≤c.2.2.1+c.2.2.2.1)
    (Q:=fun c aA=>MQ R a b st c.1 aA∨(c.1=none∧ML R a b st c.2.1 c.2.2.1 c.2.2.2.1 aA∧i+j≤c.2.2.1+c.2.2.2.1)) ?_ ?_ ⟨rfl,L2,by dsimp only;omega⟩) ?_)
   ·rintro x' ⟨_,o3,i3,j3,KD,KG,KH⟩ jy _ cB ⟨rfl,L3,zb⟩
    dsimp only at L3 zb ⊢
    have li:=L3.la
    have lj:=L3.lb
    refine cP (fun _=>?_) (fun _=>?_)
    all_goals
     refine wpS_bind (lQ fun g8 s4=>?_)
     have S4:=L3.same.trans s4
     have K4:=S4.kind.trans hk
     refine wpS_bind (cg lj (wpS_bind (gg S K4 (db _ lj) (fun i hi=>da _ (by omega)) (by omega) (by omega) ?_ fun k k1 k2 k3=>?_)))
     ·intro u v zd hv gL
      unfold gC at gL ⊢
      simp only[Bool.false_eq_true,if_false,Bool.not_eq_true']at gL ⊢
      exact O.tr _ _ _ (fK sa O (by omega) (by omega)) gL
     have ml:∀u,i3≤u→u<i3+k→R (ga b j3) (ga a u)=false:=fun u h1 h2=>by
      have:=k2 (u - i3) (by omega)
      unfold gC at this
      simp only[Bool.false_eq_true,if_false,Bool.not_eq_true']at this
      rwa[show i3+(u - i3)=u by omega]at this
     have oe:∀u,i3+k≤u→u<a.size→R (ga b j3) (ga a u)=true:=fun u h1 h2=>by
      have:=k3 (u - i3) (by omega) (by omega)
      unfold gC at this
      simp only[Bool.false_eq_true,if_false,Bool.not_eq_false']at this
      rwa[show i3+(u - i3)=u by omega]at this
     have mi:=L3.mi.DG (k:=k) fun u h1 h2 _=>aw (ml u h1 h2)
     have nx:∀y∈a.toList.drop (i3+k),R y (ga b j3)=false:=fun y hy=>by
      obtain⟨u,h1,h2,rfl⟩:=ir hy
      exact O.fI _ _ (oe u h1 h2)
     clear k2 k3 ml oe
     try dsimp only
     by_cases DI:k > 0
     case' pos=>
      rw[if_pos DI]
      by_cases c1:(i3+k+1==a.size)=true
      case' pos=>
       rw[if_pos c1]
       have:=eq_of_beq c1
       exact wpS_pure (.inl ⟨_,rfl,mi.Ag O hz (by omega),S4⟩)
      rw[if_neg c1]
      have c1:¬i3+k+1=a.size:=fun z=>c1 (by rw[←z];exact beq_self_eq_true _)
      by_cases c2:(i3+k==a.size)=true
      case' pos=>
       rw[if_pos c2]
       have:=eq_of_beq c2
       exact wpS_pure (.inl ⟨_,rfl,mi.N4 (by omega),S4⟩)
      rw[if_neg c2]
      have c2:¬i3+k=a.size:=fun z=>c2 (by rw[←z];exact beq_self_eq_true _)
      have KI:i3+k+1<a.size:=by omega
      have Ss:i3≤i3+k:=by omega
      generalize i3+k=i4 at*
     case' neg=>
      rw[if_neg DI]
      have e:k=0:=by omega
      subst e
      have mi:=L3.mi
      have KI:i3+1<a.size:=li
      have Ss:i3≤i3:=by omega
      rw[Nat.add_zero]at nx
      generalize N5:i3=i4 at*
     all_goals
      refine wpS_bind (cg lj ?_)
      have ze:=mi.oZ lj nx
      by_cases d1:(j3+1==b.size)=true
      case' pos=>
       rw[if_pos d1]
       have:=eq_of_beq d1
       exact wpS_pure (.inl ⟨_,rfl,ze.Af (by omega),S4⟩)
      rw[if_neg d1]
      have d1:j3+1<b.size:=by
       have:¬j3+1=b.size:=fun z=>d1 (by rw[←z];exact beq_self_eq_true _)
       omega
      refine wpS_bind (cg (by omega) (wpS_bind (gg S K4 (da _ (by omega)) (fun i hi=>db _ (by omega)) (by omega) (by omega) ?_ fun k' N6 k2 k3=>?_)))
      ·intro u v zd hv gL
       unfold gC at gL ⊢
       simp only[if_true]at gL ⊢
       exact O.y_ (fK sb O (by omega) (by omega)) gL
      have ml:∀u,j3+1≤u→u<j3+1+k'→R (ga b u) (ga a i4)=true:=fun u h1 h2=>by
       have:=k2 (u - (j3+1)) (by omega)
       unfold gC at this
       simp only[if_true]at this
       rwa[show j3+1+(u - (j3+1))=u by omega]at this
      have oe:∀u,j3+1+k'≤u→u<b.size→R (ga b u) (ga a i4)=false:=fun u h1 h2=>by
       have:=k3 (u - (j3+1)) (by omega) (by omega)
       unfold gC at this
       simp only[if_true]at this
       rwa[show j3+1+(u - (j3+1))=u by omega]at this
      have xl:=ze.DH (k:=k') fun u h1 h2 h3=>bw h3 (ml u h1 h2)
      have GI:∀y∈b.toList.drop (j3+1+k'),R y (ga a i4)=false:=fun y hy=>by
       obtain⟨u,h1,h2,rfl⟩:=ir hy
       exact oe u h1 h2
      clear k2 k3 ml oe
      try dsimp only
      by_cases Bw:k' > 0
      case' pos=>
       rw[if_pos Bw]
       by_cases f1:(j3+1+k'==b.size)=true
       case' pos=>
        rw[if_pos f1]
        have:=eq_of_beq f1
        exact wpS_pure (.inl ⟨_,rfl,xl.Af (by omega),S4⟩)
       rw[if_neg f1]
       have f1:¬j3+1+k'=b.size:=fun z=>f1 (by rw[←z];exact beq_self_eq_true _)
       have zf:j3+1+k'<b.size:=by omega
      case' neg=>
       rw[if_neg Bw]
       have e':k'=0:=by omega
       subst e'
       have xl:=ze
       have zf:=d1
       rw[Nat.add_zero]at GI
      all_goals
       refine wpS_bind (cg (by omega) ?_)
       have zg:=xl.o4 (by omega) GI
       by_cases g1:(i4+1+1==a.size)=true
       case' pos=>
        rw[if_pos g1]
        have:=eq_of_beq g1
        exact wpS_pure (.inl ⟨_,rfl,zg.Ag O hz (by omega),S4⟩)
       rw[if_neg g1]
       have g1:i4+1+1<a.size:=by
        have:¬i4+1+1=a.size:=fun z=>g1 (by rw[←z];exact beq_self_eq_true _)
        omega
       refine cP (fun _=>?_) (fun _=>?_)
       ·exact wpS_pure (.inr ⟨rfl,⟨zg,g1,zf,S4⟩,by dsimp only;omega⟩)
       ·exact wpS_pure ⟨rfl,⟨zg,g1,zf,S4⟩,by dsimp only;omega⟩
   ·rintro c jy hh
    exact .inr hh
   ·rintro⟨r,o3,i3,j3,KD,KG,KH⟩ jy (⟨z,rfl,kD,rk⟩|⟨rfl,L3,zb⟩)
    ·exact wpS_pure ⟨z,rfl,kD,rk⟩
    dsimp only at L3 zb ⊢
    refine wpS_bind (lQ fun g8 s4=>?_)
    exact wpS_pure ⟨rfl,⟨L3.mi,L3.la,L3.lb,L3.same.trans s4⟩,by dsimp only;omega⟩
 ·rintro c jW ⟨h1,h2,h3⟩
  have:=h2.la
  have:=h2.lb
  omega
 ·rintro c jW ⟨x,hx,h1,h2⟩
  rw[hx]
  exact wpS_pure (h x jW h2 h1)
end
end L2.TS
namespace L2.TS
open PySem PyProof.Rows
local macro_rules|`(tactic|walk_at $s:str)=>do
 if s.getString.startsWith "open " then
  let c:=Lean.mkCIdent (Lean.mkPrivateNameCore `PySem.Builtin.List.W1All (`PySem.Builtin++(s.getString.drop 5).toString.toName))
  `(tactic|delta $c:ident)
 else Lean.Macro.throwUnsupported
def ui:Array Keyed→Array Keyed→StateT SortSt Sem (Array Keyed):=sortPriv% PySem.Builtin.mergeHi
section
variable{R:Keyed→Keyed→Bool}{al bl o:List Keyed}{na nb:Nat}
structure HI(R:Keyed→Keyed→Bool)(al bl o:List Keyed)(na nb:Nat):Prop where
 perm:(al.take na++bl.take nb++o).Perm (al++bl)
 sa:dg R (al.take na++o)
 sb:dg R (bl.take nb++o)
theorem IG{l:List Keyed}{m n:Nat}(h:m≤n):l.take n=l.take m++(l.drop m).take (n - m):=by
 conv=>lhs;rw[show n=m+(n - m)by omega,List.take_add]
theorem HI.n_{m:Nat}(h:HI R al bl o na nb)(hm:m≤na)(hx:∀x∈(al.drop m).take (na - m),∀y∈bl.take nb,R x y=false):HI R al bl ((al.drop m).take (na - m)++o) m nb:=by
 obtain⟨h1,h2,h3⟩:=h
 have e:=IG (l:=al) hm
 generalize (al.drop m).take (na - m)=X at*
 rw[e]at h1 h2
 refine⟨List.Perm.trans ?_ h1,by simpa using h2,?_⟩
 ·simp only[List.append_assoc]
  refine List.Perm.append_left _ ?_
  rw[←List.append_assoc,←List.append_assoc]
  exact List.Perm.append_right _ List.perm_append_comm
 ·rw[List.append_assoc]at h2
  refine h3.left.app h2.right fun x cB y hy=>?_
  rcases List.mem_append.mp hy with hy|hy
  ·exact hx y hy x cB
  ·exact h3.kO x cB y hy
theorem HI.oa{m:Nat}(h:HI R al bl o na nb)(hm:m≤nb)(hx:∀x∈(bl.drop m).take (nb - m),∀y∈al.take na,R x y=false):HI R al bl ((bl.drop m).take (nb - m)++o) na m:=by
 obtain⟨h1,h2,h3⟩:=h
 have e:=IG (l:=bl) hm
 generalize (bl.drop m).take (nb - m)=X at*
 rw[e]at h1 h3
 refine⟨by simpa using h1,?_,by simpa using h3⟩
 rw[List.append_assoc]at h3
 refine h2.left.app h3.right fun x cB y hy=>?_
 rcases List.mem_append.mp hy with hy|hy
 ·exact hx y hy x cB
 ·exact h2.kO x cB y hy
end
section
variable{M:Model}{A:Around}{E:Value→Shared→Prop}{s:Shared}{κ:SortKind}{R:Keyed→Keyed→Bool}{dom:Keyed→Prop}{a b out:Array Keyed}{na nb:Nat}
theorem gh{c:Array Keyed}{n:Nat}{y:Keyed}(h:y∈c.toList.take n):∃j,j<n∧j<c.size∧y=ga c j:=by
 have:=iI (a:=c) (i:=0) (k:=n) (by simpa using h)
 obtain⟨j,_,h2,h3,h4⟩:=this
 exact⟨j,by omega,h3,h4⟩
theorem vn{c:Array Keyed}{n:Nat}(h:n<c.size):(c.toList.drop n).take (n+1 - n)=[ga c n]:=by rw[show n+1 - n=1 by omega,take_one h]
theorem HI.o4(h:HI R a.toList b.toList out.toList.reverse (na+1) nb)(ha:na<a.size)(hx:∀y∈b.toList.take nb,R (ga a na) y=false):HI R a.toList b.toList (out.push (ga a na)).toList.reverse na nb:=by
 have:=h.n_ (m:=na) (by omega) (by rw[vn ha];intro x cB;rw[List.mem_singleton.mp cB];exact hx)
 rw[vn ha]at this
 rw[Array.toList_push,List.reverse_append]
 exact this
theorem HI.oZ(h:HI R a.toList b.toList out.toList.reverse na (nb+1))(hb:nb<b.size)(hx:∀y∈a.toList.take na,R (ga b nb) y=false):HI R a.toList b.toList (out.push (ga b nb)).toList.reverse na nb:=by
 have:=h.oa (m:=nb) (by omega) (by rw[vn hb];intro x cB;rw[List.mem_singleton.mp cB];exact hx)
 rw[vn hb]at this
 rw[Array.toList_push,List.reverse_append]
 exact this
theorem HI.DG{m:Nat}(h:HI R a.toList b.toList out.toList.reverse na nb)(hm:m≤na)(hx:∀j,m≤j→j<na→j<a.size→∀y∈b.toList.take nb,R (ga a j) y=false):HI R a.toList b.toList (out++(a.extract m na).reverse).toList.reverse m nb:=by
 have:=h.n_ hm fun x cB=>by
  obtain⟨j,h1,h2,h3,rfl⟩:=iI cB
  exact hx j h1 (by omega) h3
 rw[Array.toList_append,Array.toList_reverse,List.reverse_append,List.reverse_reverse,m_]
 exact this
theorem HI.DH{m:Nat}(h:HI R a.toList b.toList out.toList.reverse na nb)(hm:m≤nb)(hx:∀j,m≤j→j<nb→j<b.size→∀y∈a.toList.take na,R (ga b j) y=false):HI R a.toList b.toList (out++(b.extract m nb).reverse).toList.reverse na m:=by
 have:=h.oa hm fun x cB=>by
  obtain⟨j,h1,h2,h3,rfl⟩:=iI cB
  exact hx j h1 (by omega) h3
 rw[Array.toList_append,Array.toList_reverse,List.reverse_append,List.reverse_reverse,m_]
 exact this
theorem vo(c:Array Keyed)(n:Nat):(c.extract 0 n).toList=c.toList.take n:=by rw[m_];simp
theorem HI.fin(h:HI R a.toList b.toList out.toList.reverse na nb)(e:na=0∨nb=0):MF R a.toList b.toList (a.extract 0 na++b.extract 0 nb++out.reverse).toList:=by
 rw[Array.toList_append,Array.toList_append,vo,vo,Array.toList_reverse]
 refine⟨h.perm,?_⟩
 rcases e with rfl|rfl
 ·simpa using h.sb
 ·simpa using h.sa
theorem HI.Ah(O:d8 R)(sa:dg R a.toList)(h:HI R a.toList b.toList out.toList.reverse na nb)(h0:R (ga b 0) (ga a 0)=true)(e:nb=1):MF R a.toList b.toList (b.extract 0 nb++a.extract 0 na++out.reverse).toList:=by
 rw[Array.toList_append,Array.toList_append,vo,vo,Array.toList_reverse]
 refine⟨List.Perm.trans ?_ h.perm,?_⟩
 ·exact List.Perm.append_right _ List.perm_append_comm
 ·rw[List.append_assoc]
  refine h.sb.left.app h.sa fun x hx y hy=>?_
  rcases List.mem_append.mp hy with hy|hy
  ·obtain⟨j,h1,h2,rfl⟩:=gh hx
   obtain⟨i,h3,h4,rfl⟩:=gh hy
   have:j=0:=by omega
   rw[this]
   exact O.tr _ _ _ (O.fI _ _ h0) (fK sa O (Nat.zero_le _) h4)
  ·exact h.sb.kO x hx y hy
structure HL(R:Keyed→Keyed→Bool)(a b:Array Keyed)(st:SortSt)(out:Array Keyed)(na nb:Nat)(aA:SortSt):Prop where
 hi:HI R a.toList b.toList out.toList.reverse na nb
 la: 0<na∧na≤a.size
 lb: 1<nb∧nb≤b.size
 same:dZ st aA
theorem xn(S:Still M A E s κ R dom)(O:d8 R){st:SortSt}{Q:Array Keyed→SortSt→Prop}(hk:kindOf st=κ)(da:∀i,i<a.size→dom (ga a i))(db:∀i,i<b.size→dom (ga b i))(sa:dg R a.toList)(sb:dg R b.toList)(ha: 0<a.size)(hb: 0<b.size)
  (h0:R (ga b 0) (ga a 0)=true)(hz:∀j,j<b.size→R (ga b j) (ga a (a.size - 1))=true)(h:∀r aA,dZ st aA→MF R a.toList b.toList r.toList→Q r aA):wpS M A E s (ui a b) Q st:=by
 have aw:∀{i j:Nat},j<b.size→R (ga a i) (ga b j)=false→∀y∈b.toList.take (j+1),R (ga a i) y=false:=fun {i j} hj hr y hy=>by
  obtain⟨u,h1,h2,rfl⟩:=gh hy
  exact O.tr _ _ _ (fK sb O (by omega) hj) hr
 have bw:∀{i j:Nat},i<a.size→R (ga b j) (ga a i)=false→∀y∈a.toList.take (i+1),R (ga b j) y=false:=fun {i j} hi hr y hy=>by
  obtain⟨u,h1,h2,rfl⟩:=gh hy
  exact O.tr _ _ _ (fK sa O (by omega) hi) hr
 have m0:HI R a.toList b.toList (#[]:Array Keyed).toList.reverse (a.size - 1+1) b.size:=by
  have e1:a.toList.take (a.size - 1+1)=a.toList:=List.take_of_length_le (by simp;omega)
  have e2:b.toList.take b.size=b.toList:=List.take_of_length_le (by simp)
  exact⟨by rw[e1,e2];simp,by rw[e1];simpa using sa,by rw[e2];simpa using sb⟩
 have m1:HI R a.toList b.toList #[ga a (a.size - 1)].toList.reverse (a.size - 1) b.size:=m0.o4 (by omega) fun y hy=>by
  obtain⟨u,h1,h2,rfl⟩:=gh hy
  exact O.fI _ _ (hz u h2)
 unfold ui
 walk_at "open mergeHi"
 refine wpS_bind (wpS_lift (wpAny_rule ⟨rfl,?_⟩))
 try dsimp only
 refine wpS_bind (cg (by omega) ?_)
 by_cases e1:(a.size - 1==0)=true
 ·rw[if_pos e1]
  have:=eq_of_beq e1
  exact wpS_pure (h _ st (.refl _) (m1.fin (.inl (by omega))))
 rw[if_neg e1]
 have e1: 0<a.size - 1:=by
  have:¬a.size - 1=0:=fun z=>e1 (by rw[z];rfl)
  omega
 by_cases e2:(b.size==1)=true
 ·rw[if_pos e2]
  have:=eq_of_beq e2
  exact wpS_pure (h _ st (.refl _) (m1.Ah O sa h0 (by omega)))
 rw[if_neg e2]
 have e2: 1<b.size:=by
  have:¬b.size=1:=fun z=>e2 (by rw[z];rfl)
  omega
 refine wpS_bind (wpS_get ?_)
 try dsimp only
 refine wpS_bind (wpS_mono (wpS_forRange (I:=fun x c aA=>c.1=none∧HL R a b st c.2.2.2.1 c.2.1 c.2.2.1 aA∧x+1+c.2.1+c.2.2.1≤a.size+b.size) (Q:=fun c aA=>MQ R a b st c.1 aA) ?_ ?_ ⟨rfl,⟨m1,⟨e1,by dsimp only;omega⟩,⟨e2,by dsimp only;omega⟩,.refl _⟩,by dsimp only;omega⟩) ?_)
 ·rintro x ⟨_,na,nb,out,mg⟩ jW _ hx ⟨rfl,L,hm⟩
  dsimp only at L hm ⊢
  refine wpS_bind (wpS_mono (wpS_forRange (I:=fun x' c aA=>c.1=none∧HL R a b st c.2.2.2.1 c.2.1 c.2.2.1 aA∧x'+c.2.1+c.2.2.1≤na+nb)
   (Q:=fun c aA=>MQ R a b st c.1 aA∨(c.1=none∧HL R a b st c.2.2.2.1 c.2.1 c.2.2.1 aA∧1+c.2.1+c.2.2.1≤na+nb)) ?_ ?_ ⟨rfl,L,by dsimp only;omega⟩) ?_)
  ·rintro x' ⟨_,i,j,o,ac,bc⟩ bz _ cB ⟨rfl,L2,oX⟩
   dsimp only at L2 oX ⊢
   have li:=L2.la
   have lj:=L2.lb
   obtain⟨i,rfl⟩:∃i',i=i'+1:=⟨i - 1,by omega⟩
   obtain⟨j,rfl⟩:∃j',j=j'+1:=⟨j - 1,by omega⟩
   rw[Nat.add_sub_cancel,Nat.add_sub_cancel]
   refine wpS_bind (cg (by omega) (wpS_bind (cg (by omega) (wpS_bind (S.lt (L2.same.kind.trans hk) (db _ (by omega)) (da _ (by omega)) ?_)))))
   try dsimp only
   cases hr:R (ga b j) (ga a i)with
   |true=>
    rw[if_pos rfl]
    refine wpS_bind (cg (by omega) ?_)
    have mi:=L2.hi.o4 (by omega) (aw (by omega) (O.fI _ _ hr))
    by_cases c1:(i==0)=true
    ·rw[if_pos c1]
     have:=eq_of_beq c1
     exact wpS_pure (.inl ⟨_,rfl,mi.fin (.inl this),L2.same⟩)
    ·rw[if_neg c1]
     have c1:¬i=0:=fun z=>c1 (by rw[z];rfl)
     refine cP (fun _=>?_) (fun _=>?_)
     ·exact wpS_pure (.inr ⟨rfl,⟨mi,⟨by dsimp only;omega,by dsimp only;omega⟩,lj,L2.same⟩,by dsimp only;omega⟩)
     ·exact wpS_pure ⟨rfl,⟨mi,⟨by dsimp only;omega,by dsimp only;omega⟩,lj,L2.same⟩,by dsimp only;omega⟩
   |false=>
    rw[if_neg (by decide)]
    refine wpS_bind (cg (by omega) ?_)
    have mi:=L2.hi.oZ (by omega) (bw (by omega) hr)
    by_cases c1:(j==1)=true
    ·rw[if_pos c1]
     have:=eq_of_beq c1
     exact wpS_pure (.inl ⟨_,rfl,mi.Ah O sa h0 this,L2.same⟩)
    ·rw[if_neg c1]
     have c1:¬j=1:=fun z=>c1 (by rw[z];rfl)
     refine cP (fun _=>?_) (fun _=>?_)
     ·exact wpS_pure (.inr ⟨rfl,⟨mi,li,⟨by dsimp only;omega,by dsimp only;omega⟩,L2.same⟩,by dsimp only;omega⟩)
     ·exact wpS_pure ⟨rfl,⟨mi,li,⟨by dsimp only;omega,by dsimp only;omega⟩,L2.same⟩,by dsimp only;omega⟩
  ·rintro c bz ⟨h1,h2,h3⟩
   have:=h2.la
   have:=h2.lb
   have:=L.la
   have:=L.lb
   exact .inr ⟨h1,h2,by omega⟩
  ·rintro⟨r,i,j,o,ac,bc⟩ bz (⟨z,rfl,kD,rk⟩|⟨rfl,L2,oX⟩)
   ·exact wpS_pure ⟨z,rfl,kD,rk⟩
   dsimp only at L2 oX ⊢
   refine wpS_bind (wpS_lift (wpAny_rule ⟨rfl,?_⟩))
   refine wpS_bind (wpS_mono (wpS_forRange (I:=fun x' c aA=>c.1=none∧HL R a b st c.2.2.2.1 c.2.1 c.2.2.1 aA∧c.2.1+c.2.2.1≤i+j)
    (Q:=fun c aA=>MQ R a b st c.1 aA∨(c.1=none∧HL R a b st c.2.2.2.1 c.2.1 c.2.2.1 aA∧c.2.1+c.2.2.1≤i+j)) ?_ ?_ ⟨rfl,L2,by dsimp only;omega⟩) ?_)
   ·rintro x' ⟨_,i3,j3,o3,KD,KG,KH⟩ jy _ cB ⟨rfl,L3,zb⟩
    dsimp only at L3 zb ⊢
    have li:=L3.la
    have lj:=L3.lb
    obtain⟨j3,rfl⟩:∃j',j3=j'+1:=⟨j3 - 1,by omega⟩
    rw[Nat.add_sub_cancel]
    refine cP (fun _=>?_) (fun _=>?_)
    all_goals
     refine wpS_bind (lQ fun g8 s4=>?_)
     have S4:=L3.same.trans s4
     have K4:=S4.kind.trans hk
     refine wpS_bind (cg (by omega) (wpS_bind (gg S K4 (db _ (by omega)) (fun i hi=>da _ (by omega)) (by omega) (by omega) ?_ fun k k1 k2 k3=>?_)))
     ·intro u v zd hv gL
      unfold gC at gL ⊢
      simp only[Bool.false_eq_true,if_false,Bool.not_eq_true',Nat.zero_add]at gL ⊢
      exact O.tr _ _ _ (fK sa O (by omega) (by omega)) gL
     have ml:∀u,u<k→R (ga b j3) (ga a u)=false:=fun u h1=>by
      have:=k2 u h1
      unfold gC at this
      simpa only[Bool.false_eq_true,if_false,Bool.not_eq_true',Nat.zero_add]using this
     have oe:∀u,k≤u→u<i3→R (ga b j3) (ga a u)=true:=fun u h1 h2=>by
      have:=k3 u h1 h2
      unfold gC at this
      simpa only[Bool.false_eq_true,if_false,Bool.not_eq_false',Nat.zero_add]using this
     have mi:=L3.hi.DG (m:=k) k1 fun u h1 h2 _=>aw (by omega) (O.fI _ _ (oe u h1 h2))
     have nx:∀y∈a.toList.take k,R (ga b j3) y=false:=fun y hy=>by
      obtain⟨u,h1,h2,rfl⟩:=gh hy
      exact ml u h1
     clear k2 k3 ml oe
     try dsimp only
     by_cases DI:i3 - k > 0
     case' pos=>
      rw[if_pos DI]
      by_cases c1:(k==0)=true
      case' pos=>
       rw[if_pos c1]
       have:=eq_of_beq c1
       exact wpS_pure (.inl ⟨_,rfl,mi.fin (.inl this),S4⟩)
      rw[if_neg c1]
      have c1:¬k=0:=fun z=>c1 (by rw[z];rfl)
      have KI: 0<k∧k≤i3:=by omega
      generalize N5:k=i4 at*
     case' neg=>
      rw[if_neg DI]
      have e:k=i3:=by omega
      subst e
      have mi:=L3.hi
      have KI: 0<k∧k≤k:=by omega
      generalize N5:k=i4 at*
     all_goals
      refine wpS_bind (cg (by omega) ?_)
      have ze:=mi.oZ (by omega) nx
      by_cases d1:(j3==1)=true
      case' pos=>
       rw[if_pos d1]
       have:=eq_of_beq d1
       exact wpS_pure (.inl ⟨_,rfl,ze.Ah O sa h0 this,S4⟩)
      rw[if_neg d1]
      have d1: 1<j3:=by
       have:¬j3=1:=fun z=>d1 (by rw[z];rfl)
       omega
      obtain⟨i5,rfl⟩:∃i',i4=i'+1:=⟨i4 - 1,by omega⟩
      rw[Nat.add_sub_cancel]
      refine wpS_bind (cg (by omega) (wpS_bind (gg S K4 (da _ (by omega)) (fun i hi=>db _ (by omega)) (by omega) (by omega) ?_ fun k' N6 k2 k3=>?_)))
      ·intro u v zd hv gL
       unfold gC at gL ⊢
       simp only[if_true,Nat.zero_add]at gL ⊢
       exact O.y_ (fK sb O (by omega) (by omega)) gL
      have ml:∀u,u<k'→R (ga b u) (ga a i5)=true:=fun u h1=>by
       have:=k2 u h1
       unfold gC at this
       simpa only[if_true,Nat.zero_add]using this
      have oe:∀u,k'≤u→u<j3→R (ga b u) (ga a i5)=false:=fun u h1 h2=>by
       have:=k3 u h1 h2
       unfold gC at this
       simpa only[if_true,Nat.zero_add]using this
      have xl:=ze.DH (m:=k') N6 fun u h1 h2 h3=>bw (by omega) (oe u h1 h2)
      have GI:∀y∈b.toList.take k',R (ga a i5) y=false:=fun y hy=>by
       obtain⟨u,h1,h2,rfl⟩:=gh hy
       exact O.fI _ _ (ml u h1)
      clear k2 k3 ml oe
      try dsimp only
      by_cases Bw:j3 - k' > 0
      case' pos=>
       rw[if_pos Bw]
       by_cases f1:(k'==1)=true
       case' pos=>
        rw[if_pos f1]
        have:=eq_of_beq f1
        exact wpS_pure (.inl ⟨_,rfl,xl.Ah O sa h0 this,S4⟩)
       rw[if_neg f1]
       have f1:¬k'=1:=fun z=>f1 (by rw[z];rfl)
       by_cases f2:(k'==0)=true
       case' pos=>
        rw[if_pos f2]
        have:=eq_of_beq f2
        exact wpS_pure (.inl ⟨_,rfl,xl.fin (.inr this),S4⟩)
       rw[if_neg f2]
       have f2:¬k'=0:=fun z=>f2 (by rw[z];rfl)
       have zf: 1<k'∧k'≤b.size:=by omega
      case' neg=>
       rw[if_neg Bw]
       have e':k'=j3:=by omega
       subst e'
       have xl:=ze
       have zf: 1<k'∧k'≤b.size:=by omega
      all_goals
       refine wpS_bind (cg (by omega) ?_)
       have zg:=xl.o4 (by omega) GI
       by_cases g1:(i5==0)=true
       case' pos=>
        rw[if_pos g1]
        have:=eq_of_beq g1
        exact wpS_pure (.inl ⟨_,rfl,zg.fin (.inl this),S4⟩)
       rw[if_neg g1]
       have g1:¬i5=0:=fun z=>g1 (by rw[z];rfl)
       refine cP (fun _=>?_) (fun _=>?_)
       ·exact wpS_pure (.inr ⟨rfl,⟨zg,⟨by dsimp only;omega,by dsimp only;omega⟩,zf,S4⟩,by dsimp only;omega⟩)
       ·exact wpS_pure ⟨rfl,⟨zg,⟨by dsimp only;omega,by dsimp only;omega⟩,zf,S4⟩,by dsimp only;omega⟩
   ·rintro c jy hh
    exact .inr hh
   ·rintro⟨r,i3,j3,o3,KD,KG,KH⟩ jy (⟨z,rfl,kD,rk⟩|⟨rfl,L3,zb⟩)
    ·exact wpS_pure ⟨z,rfl,kD,rk⟩
    dsimp only at L3 zb ⊢
    refine wpS_bind (lQ fun g8 s4=>?_)
    exact wpS_pure ⟨rfl,⟨L3.hi,L3.la,L3.lb,L3.same.trans s4⟩,by dsimp only;omega⟩
 ·rintro c jW ⟨h1,h2,h3⟩
  have:=h2.la
  have:=h2.lb
  omega
 ·rintro c jW ⟨x,hx,h1,h2⟩
  rw[hx]
  exact wpS_pure (h x jW h2 h1)
end
end L2.TS
namespace L2.TS
open PySem PyProof.Rows
local macro_rules|`(tactic|walk_at $s:str)=>do
 if s.getString.startsWith "open " then
  let c:=Lean.mkCIdent (Lean.mkPrivateNameCore `PySem.Builtin.List.W1All (`PySem.Builtin++(s.getString.drop 5).toString.toName))
  `(tactic|delta $c:ident)
 else Lean.Macro.throwUnsupported
section
variable{R:Keyed→Keyed→Bool}
theorem xp{x:Array Keyed}{i:Nat}{y:Keyed}(h:x.toList[i]? =some y):ga x i=y:=by
 unfold ga
 rw[Array.getD_eq_getD_getElem?,←Array.getElem?_toList,h]
 rfl
theorem qq{x:Array Keyed}{U r W:List Keyed}(e:x.toList=U++r++W){j:Nat}(h:j<r.length):ga x (U.length+j)=r[j]:=by
 refine xp ?_
 rw[e,List.append_assoc,List.getElem?_append_right (by omega),Nat.add_sub_cancel_left,List.getElem?_append_left h,List.getElem?_eq_getElem h]
theorem Ai:∀(l:List Keyed) (base k:Nat) (x:Array Keyed),base+k+l.length≤x.size→((l.zipIdx k).foldl (fun a (p:Keyed×Nat)=>a.setIfInBounds (base+p.2) p.1) x).toList=x.toList.take (base+k)++l++x.toList.drop (base+k+l.length)
 |[],base,k,x,_=>by simp
 |p::l,base,k,x,h=>by
  rw[List.length_cons]at h
  rw[List.zipIdx_cons,List.foldl_cons,Ai l base (k+1) _ (by rw[Array.size_setIfInBounds];omega)]
  dsimp only
  rw[Array.toList_setIfInBounds,List.length_cons]
  have hs:base+k<x.toList.length:=by simp;omega
  have e:(x.toList.set (base+k) p).take (base+k+1)=x.toList.take (base+k)++[p]:=by
   rw[←List.take_append_getElem (by rw[List.length_set];exact hs),List.getElem_set_self,List.take_set,List.set_eq_of_length_le (by rw[List.length_take];omega)]
  rw[show base+(k+1)=base+k+1 by omega,e]
  rw[List.drop_set_of_lt (by omega),show base+k+1+l.length=base+k+(l.length+1)by omega]
  simp
theorem jX{x:Array Keyed}{i:Nat}(h:i<x.size):ga x i∈x.toList:=by
 have:=iH h
 rw[←Array.getElem?_toList]at this
 exact List.mem_of_getElem? this
theorem KJ(O:d8 R){l:List Keyed}(h:dg R l)(n: 0<l.length):∀y∈l,R y l[0]=false:=fun y hy=>by
 obtain⟨j,hj,rfl⟩:=List.mem_iff_getElem.mp hy
 rcases Nat.eq_zero_or_pos j with rfl|hp
 ·exact O.hZ _
 ·exact List.pairwise_iff_getElem.mp h 0 j n hj hp
theorem KL(O:d8 R){l:List Keyed}(h:dg R l){z:Nat}(hz:z+1=l.length):∀y∈l,R (l[z]'(by omega)) y=false:=fun y hy=>by
 obtain⟨j,hj,rfl⟩:=List.mem_iff_getElem.mp hy
 rcases Nat.lt_or_ge j z with hp|hp
 ·exact List.pairwise_iff_getElem.mp h j z hj (by omega) hp
 ·have:j=z:=by omega
  subst this
  exact O.hZ _
theorem Aj{l:List Keyed}{k:Nat}{y:Keyed}(h:y∈l.take k):∃(j:Nat) (hj:j<l.length),j<k∧y=l[j]:=by
 obtain⟨j,hj,rfl⟩:=List.mem_iff_getElem.mp h
 rw[List.length_take]at hj
 exact⟨j,by omega,by omega,by rw[List.getElem_take]⟩
theorem Ak{l:List Keyed}{k:Nat}{y:Keyed}(h:y∈l.drop k):∃(j:Nat) (hj:j<l.length),k≤j∧y=l[j]:=by
 obtain⟨j,hj,rfl⟩:=List.mem_iff_getElem.mp h
 rw[List.length_drop]at hj
 exact⟨k+j,by omega,by omega,by rw[List.getElem_drop]⟩
theorem xq{x:Array Keyed}{U r W:List Keyed}(e:x.toList=U++r++W){k n:Nat}(h:k+n≤r.length):(x.extract (U.length+k) (U.length+k+n)).toList=(r.drop k).take n:=by
 rw[m_,e,show U.length+k+n - (U.length+k)=n by omega,List.append_assoc,←List.drop_drop,List.drop_left,List.drop_append_of_le_length (by omega),List.take_append_of_le_length (by rw[List.length_drop];omega)]
end
section
variable{M:Model}{A:Around}{E:Value→Shared→Prop}{s:Shared}{κ:SortKind}{R:Keyed→Keyed→Bool}{dom:Keyed→Prop}
theorem DJ{st aA:SortSt}{Q:PUnit→SortSt→Prop}(h:Q ⟨⟩ aA):wpS M A E s (set aA:StateT SortSt Sem PUnit) Q st:=by
 unfold wpS
 rw[StateT.run_set]
 exact wpAny_pure ⟨rfl,h⟩
theorem xr(S:Still M A E s κ R dom)(O:d8 R){st:SortSt}{Q:Bool→SortSt→Prop}{i pw GJ:Nat}{U r1 r2 V:List Keyed}(hk:kindOf st=κ)(hf:failedOf st=none)(dm:∀y∈(arrOf st).toList,dom y)
  (e:(arrOf st).toList=U++r1++r2++V)(p1:(pendingOf st)[i]? =some (U.length,r1.length,pw))(p2:(pendingOf st)[i+1]? =some (U.length+r1.length,r2.length,GJ))(s1:dg R r1)(s2:dg R r2)(n1:r1≠[])(n2:r2≠[])
  (h:∀r aA,r.Perm (r1++r2)→dg R r→(arrOf aA).toList=U++r++V→kindOf aA=κ→failedOf aA=none→pendingOf aA=((pendingOf st).setIfInBounds i (U.length,r1.length+r2.length,pw)).eraseIdxIfInBounds (i+1)→Q true aA):wpS M A E s (mergeAt' i) Q st:=by
 unfold mergeAt'
 walk_at "open mergeAt"
 refine wpS_bind (wpS_get ?_)
 have l1: 0<r1.length:=List.length_pos_iff.mpr n1
 have l2: 0<r2.length:=List.length_pos_iff.mpr n2
 have eA:(arrOf st).toList=U++r1++(r2++V):=by rw[e,List.append_assoc]
 have eB:(arrOf st).toList=(U++r1)++r2++V:=e
 have sz:(arrOf st).size=U.length+r1.length+r2.length+V.length:=by
  rw[←Array.length_toList,e];simp only[List.length_append]
 have A1:∀u (hu:u<r1.length),ga (arrOf st) (U.length+u)=r1[u]:=fun u hu=>qq eA hu
 have B1:∀u (hu:u<r2.length),ga (arrOf st) (U.length+r1.length+u)=r2[u]:=fun u hu=>by
  have:=qq eB hu
  rwa[List.length_append]at this
 have dx:∀i,i<(arrOf st).size→dom (ga (arrOf st) i):=fun i hi=>dm _ (jX hi)
 have F0:=KJ O s2 l2
 have FL:=KL O s1 (z:=r1.length - 1) (by omega)
 rw[p1,p2]
 refine wpS_bind (DJ ?_)
 have z1:U.length+r1.length<(arrOf st).size:=by omega
 have z2:U.length+r1.length≤(arrOf st).size:=by omega
 have z3:U.length+r1.length+r2.length≤(arrOf st).size:=by omega
 refine wpS_bind (cg z1 ?_)
 refine wpS_bind (gg S hk (dx _ z1) (fun i hi=>dx _ (by omega)) z2 l1 ?_ fun k k1 k2 k3=>?_)
 ·intro u v zd hv gL
  unfold gC at gL ⊢
  simp only[Bool.false_eq_true,if_false,Bool.not_eq_true']at gL ⊢
  refine O.tr _ _ _ ?_ gL
  rw[A1 u (by omega),A1 v (by omega)]
  rcases Nat.lt_or_eq_of_le zd with hl|rfl
  ·exact List.pairwise_iff_getElem.mp s1 u v (by omega) (by omega) hl
  ·exact O.hZ _
 have IH:ga (arrOf st) (U.length+r1.length)=r2[0]:=B1 0 l2
 have ml:∀y∈r1.take k,R r2[0] y=false:=fun y hy=>by
  obtain⟨j,hj,rm,rfl⟩:=Aj hy
  have:=k2 j rm
  unfold gC at this
  simp only[Bool.false_eq_true,if_false,Bool.not_eq_true']at this
  rwa[IH,A1 j hj]at this
 have oe:∀y∈r1.drop k,R r2[0] y=true:=fun y hy=>by
  obtain⟨j,hj,rm,rfl⟩:=Ak hy
  have:=k3 j rm hj
  unfold gC at this
  simp only[Bool.false_eq_true,if_false,Bool.not_eq_false']at this
  rwa[IH,A1 j hj]at this
 dsimp only
 by_cases c1:(r1.length - k==0)=true
 ·rw[if_pos c1]
  have c1:=eq_of_beq c1
  rw[show k=r1.length by omega,List.take_length]at ml
  refine wpS_pure (h (r1++r2) _ (List.Perm.refl _) (s1.app s2 fun x hx y hy=>O.tr _ _ _ (ml x hx) (F0 y hy)) (by show(arrOf st).toList=_;rw[e];simp) hk hf rfl)
 rw[if_neg c1]
 have c1:k<r1.length:=by
  have:¬r1.length - k=0:=fun z=>c1 (by rw[z];rfl)
  omega
 have z4:U.length+k+(r1.length - k) - 1<(arrOf st).size:=by omega
 refine wpS_bind (cg z4 ?_)
 have ix:U.length+k+(r1.length - k) - 1=U.length+(r1.length - 1):=by omega
 have Al:ga (arrOf st) (U.length+k+(r1.length - k) - 1)=r1[r1.length - 1]:=by rw[ix];exact A1 _ (by omega)
 refine wpS_bind (gg S hk (dx _ z4) (fun i hi=>dx _ (by omega)) z3 (by omega) ?_ fun m m1 m2 m3=>?_)
 ·intro u v zd hv gL
  unfold gC at gL ⊢
  simp only[if_true]at gL ⊢
  refine O.y_ ?_ gL
  rw[B1 u (by omega),B1 v (by omega)]
  rcases Nat.lt_or_eq_of_le zd with hl|rfl
  ·exact List.pairwise_iff_getElem.mp s2 u v (by omega) (by omega) hl
  ·exact O.hZ _
 have Su:∀y∈r2.take m,R y r1[r1.length - 1]=true:=fun y hy=>by
  obtain⟨j,hj,rm,rfl⟩:=Aj hy
  have:=m2 j rm
  unfold gC at this
  simp only[if_true]at this
  rwa[Al,B1 j hj]at this
 have N7:∀y∈r2.drop m,R y r1[r1.length - 1]=false:=fun y hy=>by
  obtain⟨j,hj,rm,rfl⟩:=Ak hy
  have:=m3 j rm hj
  unfold gC at this
  simp only[if_true]at this
  rwa[Al,B1 j hj]at this
 dsimp only
 have lst:r1[r1.length - 1]∈r1.drop k:=List.mem_of_getElem? (i:=r1.length - 1 - k) (by rw[List.getElem?_drop,show k+(r1.length - 1 - k)=r1.length - 1 by omega,List.getElem?_eq_getElem])
 by_cases c2:(m==0)=true
 ·exfalso
  have c2:=eq_of_beq c2
  have h1:=oe _ lst
  have h2:=N7 r2[0] (by rw[c2,List.drop_zero];exact List.getElem_mem _)
  rw[h1]at h2
  cases h2
 rw[if_neg c2]
 have c2: 0<m:=by
  have:¬m=0:=fun z=>c2 (by rw[z];rfl)
  omega
 have X1:((arrOf st).extract (U.length+k) (U.length+r1.length)).toList=r1.drop k:=by
  have:=xq eA (k:=k) (n:=r1.length - k) (by omega)
  rw[show U.length+k+(r1.length - k)=U.length+r1.length by omega]at this
  rw[this,List.take_of_length_le (by rw[List.length_drop];omega)]
 have Y1:((arrOf st).extract (U.length+r1.length) (U.length+r1.length+m)).toList=r2.take m:=by
  have:=xq eB (k:=0) (n:=m) (by omega)
  rwa[List.length_append,Nat.add_zero,List.drop_zero]at this
 generalize (arrOf st).extract (U.length+k) (U.length+r1.length)=X at*
 generalize (arrOf st).extract (U.length+r1.length) (U.length+r1.length+m)=Y at*
 have Xs:X.size=r1.length - k:=by rw[←Array.length_toList,X1,List.length_drop]
 have Ys:Y.size=m:=by rw[←Array.length_toList,Y1,List.length_take];omega
 have dX:∀i,i<X.size→dom (ga X i):=fun i hi=>dm _ (by
  have:=jX hi
  rw[X1]at this
  rw[e]
  simp[List.mem_of_mem_drop this])
 have dY:∀i,i<Y.size→dom (ga Y i):=fun i hi=>dm _ (by
  have:=jX hi
  rw[Y1]at this
  rw[e]
  simp[List.mem_of_mem_take this])
 have sX:dg R X.toList:=by rw[X1];exact List.Pairwise.sublist (List.drop_sublist ..) s1
 have sY:dg R Y.toList:=by rw[Y1];exact List.Pairwise.sublist (List.take_sublist ..) s2
 have g0:ga Y 0=r2[0]:=xp (by rw[Y1,List.getElem?_take,if_pos c2,List.getElem?_eq_getElem])
 have h0:R (ga Y 0) (ga X 0)=true:=by
  rw[g0]
  have:=jX (x:=X) (i:=0) (by omega)
  rw[X1]at this
  exact oe _ this
 have gz:ga X (X.size - 1)=r1[r1.length - 1]:=xp (by rw[X1,Xs,List.getElem?_drop,show k+(r1.length - k - 1)=r1.length - 1 by omega,List.getElem?_eq_getElem])
 have hz:∀j,j<Y.size→R (ga Y j) (ga X (X.size - 1))=true:=fun j hj=>by
  rw[gz]
  have:=jX hj
  rw[Y1]at this
  exact Su _ this
 refine cP (fun _=>wpS_bind (xk S O hk dX dY sX sY (by omega) (by omega) h0 hz fun r bz sm mf=>?_)) (fun _=>wpS_bind (xn S O hk dX dY sX sY (by omega) (by omega) h0 hz fun r bz sm mf=>?_))
 all_goals
  refine wpS_bind (wpS_modify (wpS_bind (wpS_get ?_)))
  obtain⟨pm,sr⟩:=mf
  rw[X1,Y1]at pm
  have ln:r.toList.length=r1.length - k+m:=by
   rw[pm.length_eq,List.length_append,List.length_drop,List.length_take];omega
  have aq:arrOf bz=arrOf st:=sm.arr
  have fo:=Ai r.toList (U.length+k) 0 (arrOf bz) (by rw[aq,ln];omega)
  have f1:(arrOf st).toList.take (U.length+k+0)=U++r1.take k:=by
   rw[eA,List.append_assoc,List.take_append,List.take_of_length_le (by omega),show U.length+k+0 - U.length=k by omega,List.take_append_of_le_length (by omega)]
  have f2:(arrOf st).toList.drop (U.length+k+0+r.toList.length)=r2.drop m++V:=by
   rw[eB,ln,List.append_assoc,show U.length+k+0+(r1.length - k+m)=(U++r1).length+m by rw[List.length_append];omega,←List.drop_drop,List.drop_left,List.drop_append_of_le_length (by omega)]
  rw[show(arrOf bz).toList.take (U.length+k+0)=U++r1.take k by rw[aq];exact f1,show(arrOf bz).toList.drop (U.length+k+0+r.toList.length)=r2.drop m++V by rw[aq];exact f2]at fo
  rw[show(failedOf _).isNone=true from by
   show(failedOf bz).isNone=true
   rw[sm.fail]
   show(failedOf st).isNone=true
   rw[hf];rfl]
  have inr:∀y∈r.toList,y∈r1.drop k∨y∈r2.take m:=fun y hy=>List.mem_append.mp (pm.mem_iff.mp hy)
  have iQ:dg R (r1.take k++r1.drop k):=by rw[List.take_append_drop];exact s1
  have N8:dg R (r2.take m++r2.drop m):=by rw[List.take_append_drop];exact s2
  refine wpS_pure (h (r1.take k++r.toList++r2.drop m) _ ?_ ?_ ?_ (sm.kind.trans hk) (sm.fail.trans hf) sm.pend)
  ·refine((pm.append_left _).append_right _).trans ?_
   rw[←List.append_assoc,List.take_append_drop,List.append_assoc,List.take_append_drop]
  ·refine(dg.app iQ.left sr fun x hx y hy=>?_).app N8.right fun x hx y hy=>?_
   ·rcases inr y hy with hy|hy
    ·exact iQ.kO x hx y hy
    ·exact O.tr _ _ _ (ml x hx) (F0 y (List.mem_of_mem_take hy))
   ·rcases List.mem_append.mp hx with hx|hx
    ·exact O.tr _ _ _ (ml x hx) (F0 y (List.mem_of_mem_drop hy))
    ·rcases inr x hx with hx|hx
     ·exact O.tr _ _ _ (FL x (List.mem_of_mem_drop hx)) (N7 y hy)
     ·exact N8.kO x hx y hy
  ·refine Eq.trans fo ?_
   simp only[List.append_assoc]
end
end L2.TS
namespace L2.TS
open PySem PyProof.Rows
local macro_rules|`(tactic|walk_at $s:str)=>do
 if s.getString.startsWith "open " then
  let c:=Lean.mkCIdent (Lean.mkPrivateNameCore `PySem.Builtin.List.W1All (`PySem.Builtin++(s.getString.drop 5).toString.toName))
  `(tactic|delta $c:ident)
 else Lean.Macro.throwUnsupported
section
variable{R:Keyed→Keyed→Bool}
def Up(R:Keyed→Keyed→Bool)(x:Array Keyed)(lo n:Nat):Prop:=∀i j,i≤j→j<n→R (ga x (lo+j)) (ga x (lo+i))=false
def Dn(R:Keyed→Keyed→Bool)(x:Array Keyed)(lo n:Nat):Prop:=∀i j,i≤j→j<n→R (ga x (lo+i)) (ga x (lo+j))=false
theorem h9{x:Array Keyed}{i j:Nat}(hj:j≤x.size)(k:Nat):ga (mirror x i j ((j - i) / 2)) k=if i≤k∧k<j then ga x (i+j - 1 - k)else ga x k:=by
 unfold ga
 rw[Array.getD_eq_getD_getElem?,getElem?_mirror_all hj]
 split<;>rw[Array.getD_eq_getD_getElem?]
theorem GK{x:Array Keyed}{src d:Nat}(hs:src<x.size)(hd:d≤src)(k:Nat):ga (bubble x src d) k=if k=src - d then ga x src else if src - d<k∧k≤src then ga x (k - 1)else ga x k:=by
 have u:∀(y:Array Keyed) i,ga y i=y[i]?.getD (.none,.none):=fun y i=>by unfold ga;exact Array.getD_eq_getD_getElem? ..
 rw[u,u,u,u,getElem?_bubble hs d hd]
 split
 ·rfl
 ·split<;>rfl
theorem Up.more(O:d8 R){x:Array Keyed}{lo n:Nat}(h:Up R x lo n)(h1: 1≤n)(hc:R (ga x (lo+n)) (ga x (lo+n - 1))=false):Up R x lo (n+1):=fun i j cX hj=>by
 by_cases y4:j<n
 ·exact h i j cX y4
 ·have:j=n:=by omega
  subst this
  by_cases hi:i=j
  ·rw[hi];exact O.hZ _
  ·have:=h i (j - 1) (by omega) (by omega)
   rw[show lo+(j - 1)=lo+j - 1 by omega]at this
   exact O.tr _ _ _ this hc
theorem Dn.more(O:d8 R){x:Array Keyed}{lo n:Nat}(h:Dn R x lo n)(h1: 1≤n)(hc:R (ga x (lo+n - 1)) (ga x (lo+n))=false):Dn R x lo (n+1):=fun i j cX hj=>by
 by_cases y4:j<n
 ·exact h i j cX y4
 ·have:j=n:=by omega
  subst this
  by_cases hi:i=j
  ·rw[hi];exact O.hZ _
  ·have:=h i (j - 1) (by omega) (by omega)
   rw[show lo+(j - 1)=lo+j - 1 by omega]at this
   exact O.tr _ _ _ hc this
structure DK(R:Keyed→Keyed→Bool)(x:Array Keyed)(lo n q:Nat):Prop where
 dn:Dn R x lo n
 le:q+1≤n
 eq:∀i j,n - (q+1)≤i→i<n→n - (q+1)≤j→j<n→R (ga x (lo+i)) (ga x (lo+j))=false
theorem Dn.turn{x:Array Keyed}{lo n a:Nat}(h:Dn R x lo n)(hn:lo+n≤x.size)(ha:a≤n)(eq:∀i j,a≤i→i<n→a≤j→j<n→R (ga x (lo+i)) (ga x (lo+j))=false):Dn R (mirror x (lo+a) (lo+n) ((lo+n - (lo+a)) / 2)) lo n:=fun i j cX hj=>by
 rw[h9 hn,h9 hn]
 by_cases hi:a≤i
 ·rw[if_pos ⟨by omega,by omega⟩,if_pos ⟨by omega,by omega⟩]
  have:=eq (a+n - 1 - i) (a+n - 1 - j) (by omega) (by omega) (by omega) (by omega)
  rwa[show lo+a+(lo+n) - 1 - (lo+i)=lo+(a+n - 1 - i)by omega,show lo+a+(lo+n) - 1 - (lo+j)=lo+(a+n - 1 - j)by omega]
 ·rw[if_neg (by omega)]
  by_cases Dz:a≤j
  ·rw[if_pos ⟨by omega,by omega⟩]
   have:=h i (a+n - 1 - j) (by omega) (by omega)
   rwa[show lo+a+(lo+n) - 1 - (lo+j)=lo+(a+n - 1 - j)by omega]
  ·rw[if_neg (by omega)]
   exact h i j cX hj
theorem Dn.rev{x:Array Keyed}{lo n:Nat}(h:Dn R x lo n)(hn:lo+n≤x.size):Up R (mirror x lo (lo+n) ((lo+n - lo) / 2)) lo n:=fun i j cX hj=>by
 rw[h9 hn,h9 hn,if_pos ⟨by omega,by omega⟩,if_pos ⟨by omega,by omega⟩]
 have:=h (n - 1 - j) (n - 1 - i) (by omega) (by omega)
 rwa[show lo+(lo+n) - 1 - (lo+j)=lo+(n - 1 - j)by omega,show lo+(lo+n) - 1 - (lo+i)=lo+(n - 1 - i)by omega]
end
section
variable{M:Model}{A:Around}{E:Value→Shared→Prop}{s:Shared}{κ:SortKind}{R:Keyed→Keyed→Bool}{dom:Keyed→Prop}{x0:Array Keyed}{p0:Array (Nat×Nat×Nat)}{lo:Nat}
structure CI(κ:SortKind)(x0:Array Keyed)(p0:Array (Nat×Nat×Nat))(lo:Nat)(st:SortSt):Prop where
 kind:kindOf st=κ
 fail:failedOf st=none
 pend:pendingOf st=p0
 perm:(arrOf st).Perm x0
 low:∀k,k<lo→ga (arrOf st) k=ga x0 k
theorem CI.size{st:SortSt}(h:CI κ x0 p0 lo st):(arrOf st).size=x0.size:=by
 have:=(Array.perm_iff_toList_perm.mp h.perm).length_eq
 simpa using this
theorem CI.rev{st:SortSt}(h:CI κ x0 p0 lo st){i j:Nat}(hi:lo≤i)(hj:j≤x0.size):CI κ x0 p0 lo (setArr st (mirror (arrOf st) i j ((j - i) / 2))):=
 ⟨h.kind,h.fail,h.pend,(mirror_perm ..).trans h.perm,fun k hk=>by
  show ga (mirror (arrOf st) i j ((j - i) / 2)) k=_
  rw[h9 (by rw[h.size];exact hj),if_neg (by omega)]
  exact h.low k hk⟩
theorem jI(S:Still M A E s κ R dom)(dm:∀y∈x0.toList,dom y){st:SortSt}(h:CI κ x0 p0 lo st){i j:Nat}{Q:Option Bool→SortSt→Prop}(hi:i<x0.size)(hj:j<x0.size)(hq:Q (some (R (ga (arrOf st) i) (ga (arrOf st) j))) st):wpS M A E s (ltAt' i j) Q st:=by
 rw[ltAt'_eq]
 refine wpS_bind (wpS_get ?_)
 have wQ:i<(arrOf st).size:=by rw[h.size];exact hi
 have Dz:j<(arrOf st).size:=by rw[h.size];exact hj
 have pm:=Array.perm_iff_toList_perm.mp h.perm
 exact wpS_bind (cg wQ (wpS_bind (cg Dz (S.lt h.kind (dm _ (pm.mem_iff.mp (jX wQ))) (dm _ (pm.mem_iff.mp (jX Dz))) hq))))
theorem og{st:SortSt}{i j:Nat}{Q:Unit→SortSt→Prop}(h:Q () (setArr st (mirror (arrOf st) i j ((j - i) / 2)))):wpS M A E s (reverseSlice' i j) Q st:=by
 rw[reverseSlice'_eq]
 exact wpS_modify h
theorem vp(S:Still M A E s κ R dom)(O:d8 R)(dm:∀y∈x0.toList,dom y){st:SortSt}{nrem:Nat}{Q:Option Nat→SortSt→Prop}(h:CI κ x0 p0 lo st)(hn: 1≤nrem)(hs:lo+nrem≤x0.size)
  (hq:∀n aA,CI κ x0 p0 lo aA→1≤n→n≤nrem→Up R (arrOf aA) lo n→Q (some n) aA):wpS M A E s (countRun' lo nrem) Q st:=by
 unfold countRun'
 walk_at "open countRun"
 dsimp only
 refine wpS_bind (wpS_mono (wpS_forRange (I:=fun x c aA=>aA=st∧c=(none,x)∧Up R (arrOf st) lo x) (Q:=fun c aA=>aA=st∧∃n,c=(none,n)∧1≤n∧n≤nrem∧Up R (arrOf st) lo n∧(n=nrem∨R (ga (arrOf st) (lo+n)) (ga (arrOf st) (lo+n - 1))=true)) ?_ ?_ ⟨rfl,rfl,fun i j h1 h2=>by rw[show i=j by omega];exact O.hZ _⟩) ?_)
 ·rintro x c aA GL ET ⟨rfl,rfl,hu⟩
  dsimp only
  refine wpS_bind (jI S dm h (by omega) (by omega) ?_)
  dsimp only
  cases hr:R (ga (arrOf aA) (lo+x)) (ga (arrOf aA) (lo+x - 1))with
  |true=>
   rw[if_pos rfl]
   exact wpS_pure ⟨rfl,x,rfl,GL,by omega,hu,.inr hr⟩
  |false=>
   rw[if_neg (by decide)]
   exact wpS_pure ⟨rfl,rfl,hu.more O GL hr⟩
 ·rintro c aA ⟨rfl,rfl,hu⟩
  rw[show max 1 nrem=nrem by omega]at hu ⊢
  exact⟨rfl,nrem,rfl,hn,Nat.le_refl _,hu,.inl rfl⟩
 ·rintro c aA ⟨rfl,n,rfl,n1,n2,hu,hc⟩
  dsimp only
  by_cases c1:(n==nrem)=true
  ·rw[if_pos c1]
   exact wpS_pure (hq n aA h n1 n2 hu)
  rw[if_neg c1]
  have c1:¬n=nrem:=fun z=>c1 (by rw[z];exact beq_self_eq_true _)
  have hc:=hc.resolve_left c1
  refine cP (fun c2=>?_) (fun c2=>?_)
  case' refine_1=>
   refine wpS_bind (jI S dm h (by omega) (by omega) ?_)
   try dsimp only
   cases hr:R (ga (arrOf aA) lo) (ga (arrOf aA) (lo+n - 1))
   case' true=>
    rw[if_pos rfl]
    exact wpS_pure (hq n aA h n1 n2 hu)
   rw[if_neg (by decide)]
   have sz:=h.size
   have eq:∀i j,0≤i→i<n→0≤j→j<n→R (ga (arrOf aA) (lo+i)) (ga (arrOf aA) (lo+j))=false:=fun i j _ hi _ hj=>by
    have b1:=hu 0 i (by omega) hi
    have b2:=hu j (n - 1) (by omega) (by omega)
    rw[show lo+(n - 1)=lo+n - 1 by omega]at b2
    exact O.tr _ _ _ b2 (O.tr _ _ _ hr b1)
   have d0:Dn R (arrOf aA) lo n:=fun i j cX hj=>eq i j (by omega) (by omega) (by omega) hj
   have d2:=d0.turn (a:=0) (by omega) (by omega) eq
   have h1:=h.rev (i:=lo) (j:=lo+n) (Nat.le_refl _) (by omega)
   have g1:ga (mirror (arrOf aA) lo (lo+n) ((lo+n - lo) / 2)) (lo+n)=ga (arrOf aA) (lo+n):=by rw[h9 (by omega),if_neg (by omega)]
   have g2:ga (mirror (arrOf aA) lo (lo+n) ((lo+n - lo) / 2)) (lo+n - 1)=ga (arrOf aA) (lo+0):=by
    rw[h9 (by omega),if_pos (by omega)]
    congr 1
    omega
   have d1:Dn R (mirror (arrOf aA) lo (lo+n) ((lo+n - lo) / 2)) lo (n+1):=Dn.more O d2 n1 (by
    rw[g1,g2]
    have:=eq 0 (n - 1) (by omega) (by omega) (by omega) (by omega)
    rw[show lo+(n - 1)=lo+n - 1 by omega]at this
    exact O.tr _ _ _ (O.fI _ _ hc) this)
   refine wpS_bind (og ?_)
   have d1:Dn R (arrOf (setArr aA (mirror (arrOf aA) lo (lo+n) ((lo+n - lo) / 2)))) lo (n+1):=d1
   clear g1 g2 d2
   generalize setArr aA (mirror (arrOf aA) lo (lo+n) ((lo+n - lo) / 2))=jW at*
  case' refine_2=>
   have e:n=1:=by omega
   have d0:Dn R (arrOf aA) lo n:=fun i j h1 h2=>by rw[show i=j by omega];exact O.hZ _
   have d1:=d0.more O n1 (O.fI _ _ hc)
   have h1:=h
   generalize U8:aA=jW at*
  all_goals
   refine wpS_bind (wpS_lift (wpAny_rule ⟨rfl,?_⟩))
   refine wpS_bind (wpS_mono (wpS_forRange (I:=fun x c bz=>∃q:Nat,c=(none,x,q)∧CI κ x0 p0 lo bz∧DK R (arrOf bz) lo x q)
    (Q:=fun c bz=>∃m q:Nat,c=(none,m,q)∧CI κ x0 p0 lo bz∧n+1≤m∧m≤nrem∧DK R (arrOf bz) lo m q) ?_ ?_ ⟨0,rfl,h1,d1,by omega,fun i j _ _ _ _=>by rw[show i=j by omega];exact O.hZ _⟩) ?_)
   ·rintro x c bz GL ET ⟨q,rfl,h2,F⟩
    have sz:=h2.size
    have fl:=F.le
    try dsimp only
    refine wpS_bind (jI S dm h2 (by omega) (by omega) ?_)
    try dsimp only
    cases hr:R (ga (arrOf bz) (lo+x)) (ga (arrOf bz) (lo+x - 1))with
    |true=>
     rw[if_pos rfl]
     have N9:=O.fI _ _ hr
     refine cP (fun c3=>?_) (fun c3=>?_)
     ·refine wpS_bind (og ?_)
      have h3:=h2.rev (i:=lo+x - (q+1)) (j:=lo+x) (by omega) (by omega)
      have t:=F.dn.turn (a:=x - (q+1)) (by omega) (by omega) F.eq
      rw[show lo+(x - (q+1))=lo+x - (q+1)by omega]at t
      refine wpS_pure ⟨0,rfl,h3,?_,by omega,fun i j _ _ _ _=>by rw[show i=j by omega];exact O.hZ _⟩
      refine Dn.more O t (by omega) ?_
      rw[h9 (by omega),h9 (by omega),if_pos ⟨by omega,by omega⟩,if_neg (by omega)]
      have:=F.eq (x - (q+1)) (x - 1) (by omega) (by omega) (by omega) (by omega)
      rw[show lo+(x - (q+1))=lo+x - (q+1)+(lo+x) - 1 - (lo+x - 1)by omega,show lo+(x - 1)=lo+x - 1 by omega]at this
      exact O.tr _ _ _ N9 this
     ·exact wpS_pure ⟨0,rfl,h2,F.dn.more O (by omega) N9,by omega,fun i j _ _ _ _=>by rw[show i=j by omega];exact O.hZ _⟩
    |false=>
     rw[if_neg (by decide)]
     refine wpS_bind (jI S dm h2 (by omega) (by omega) ?_)
     try dsimp only
     cases hd:R (ga (arrOf bz) (lo+x - 1)) (ga (arrOf bz) (lo+x))with
     |true=>
      rw[if_pos rfl]
      exact wpS_pure ⟨x,q,rfl,h2,by omega,by omega,F⟩
     |false=>
      rw[if_neg (by decide)]
      refine wpS_pure ⟨q+1,rfl,h2,F.dn.more O (by omega) hd,by omega,fun i j h4 h5 h6 h7=>?_⟩
      have pr:lo+(x - 1)=lo+x - 1:=by omega
      by_cases hi:i=x<;>by_cases hj:j=x
      ·rw[hi,hj];exact O.hZ _
      ·have:=F.eq (x - 1) j (by omega) (by omega) (by omega) (by omega)
       rw[pr]at this
       rw[hi];exact O.tr _ _ _ this hr
      ·have:=F.eq i (x - 1) (by omega) (by omega) (by omega) (by omega)
       rw[pr]at this
       rw[hj];exact O.tr _ _ _ hd this
      ·exact F.eq i j (by omega) (by omega) (by omega) (by omega)
   ·rintro c bz ⟨q,rfl,h2,F⟩
    rw[show max (n+1) nrem=nrem by omega]at F ⊢
    exact⟨nrem,q,rfl,h2,by omega,Nat.le_refl _,F⟩
   ·rintro c bz ⟨m,q,rfl,h2,m1,m2,F⟩
    have sz:=h2.size
    have fl:=F.le
    try dsimp only
    refine cP (fun c3=>?_) (fun c3=>?_)
    case' refine_1=>
     refine wpS_bind (og ?_)
     have h3:=h2.rev (i:=lo+m - (q+1)) (j:=lo+m) (by omega) (by omega)
     have t:=F.dn.turn (a:=m - (q+1)) (by omega) (by omega) F.eq
     rw[show lo+(m - (q+1))=lo+m - (q+1)by omega]at t
     have t:Dn R (arrOf (setArr bz (mirror (arrOf bz) (lo+m - (q+1)) (lo+m) ((lo+m - (lo+m - (q+1))) / 2)))) lo m:=t
     generalize setArr bz (mirror (arrOf bz) (lo+m - (q+1)) (lo+m) ((lo+m - (lo+m - (q+1))) / 2))=jy at*
    case' refine_2=>
     have h3:=h2
     have t:=F.dn
     generalize N_:bz=jy at*
    all_goals
     refine wpS_bind (og ?_)
     have h4:=h3.rev (i:=lo) (j:=lo+m) (Nat.le_refl _) (by omega)
     have u:Up R (arrOf (setArr jy (mirror (arrOf jy) lo (lo+m) ((lo+m - lo) / 2)))) lo m:=t.rev (by rw[h3.size];omega)
     generalize setArr jy (mirror (arrOf jy) lo (lo+m) ((lo+m - lo) / 2))=g8 at*
     refine wpS_bind (wpS_mono (wpS_forRange (I:=fun x c aA=>aA=g8∧c=(none,x)∧Up R (arrOf g8) lo x) (Q:=fun c aA=>aA=g8∧∃n,c=(none,n)∧1≤n∧n≤nrem∧Up R (arrOf g8) lo n) ?_ ?_ ⟨rfl,rfl,u⟩) ?_)
     ·rintro x c aA GL ET ⟨rfl,rfl,hu⟩
      try dsimp only
      refine wpS_bind (jI S dm h4 (by omega) (by omega) ?_)
      try dsimp only
      cases hr:R (ga (arrOf aA) (lo+x)) (ga (arrOf aA) (lo+x - 1))with
      |true=>
       rw[if_pos rfl]
       exact wpS_pure ⟨rfl,x,rfl,by omega,by omega,hu⟩
      |false=>
       rw[if_neg (by decide)]
       exact wpS_pure ⟨rfl,rfl,hu.more O (by omega) hr⟩
     ·rintro c aA ⟨rfl,rfl,hu⟩
      rw[show max m nrem=nrem by omega]at hu ⊢
      exact⟨rfl,nrem,rfl,hn,Nat.le_refl _,hu⟩
     ·rintro c aA ⟨rfl,n',rfl,Sv,Sw,I9⟩
      exact wpS_pure (hq n' aA h4 Sv Sw I9)
end
end L2.TS
namespace L2.TS
open PySem PyProof.Rows
local macro_rules|`(tactic|walk_at $s:str)=>do
 if s.getString.startsWith "open " then
  let c:=Lean.mkCIdent (Lean.mkPrivateNameCore `PySem.Builtin.List.W1All (`PySem.Builtin++(s.getString.drop 5).toString.toName))
  `(tactic|delta $c:ident)
 else Lean.Macro.throwUnsupported
section
variable{M:Model}{A:Around}{E:Value→Shared→Prop}{s:Shared}{κ:SortKind}{R:Keyed→Keyed→Bool}{dom:Keyed→Prop}{x0:Array Keyed}{p0:Array (Nat×Nat×Nat)}{lo:Nat}
theorem DL{st:SortSt}{src dst:Nat}{Q:Unit→SortSt→Prop}(h:Q () (setArr st (bubble (arrOf st) src (src - dst)))):wpS M A E s (moveDown' src dst) Q st:=by
 rw[moveDown'_eq]
 exact wpS_modify h
theorem sf(S:Still M A E s κ R dom)(O:d8 R)(dm:∀y∈x0.toList,dom y){st:SortSt}{n ok:Nat}{Q:Bool→SortSt→Prop}(h:CI κ x0 p0 lo st)(h1: 1≤ok)(hn:ok≤n)(hs:lo+n≤x0.size)(hu:Up R (arrOf st) lo ok)
  (hq:∀aA,CI κ x0 p0 lo aA→Up R (arrOf aA) lo n→Q true aA):wpS M A E s (binarySort' lo n ok) Q st:=by
 unfold binarySort'
 walk_at "open binarySort"
 dsimp only
 rw[show max ok 1=ok by omega]
 refine wpS_bind (wpS_mono (wpS_forRange (I:=fun k c aA=>c=(none,())∧CI κ x0 p0 lo aA∧Up R (arrOf aA) lo k) (Q:=fun c aA=>c=(none,())∧CI κ x0 p0 lo aA∧Up R (arrOf aA) lo n) ?_ ?_ ⟨rfl,h,hu⟩) ?_)
 ·rintro k c aA Bw Vo ⟨rfl,h2,tJ⟩
  have sz:=h2.size
  refine wpS_bind (wpS_mono (wpS_forRange (I:=fun x c bz=>∃l r:Nat,c=(none,l,r)∧bz=aA∧l≤r∧r≤k∧r - l≤k - x∧(∀i,i<l→R (ga (arrOf aA) (lo+k)) (ga (arrOf aA) (lo+i))=false)∧(∀i,r≤i→i<k→R (ga (arrOf aA) (lo+k)) (ga (arrOf aA) (lo+i))=true))
   (Q:=fun c bz=>∃l:Nat,c=(none,l,l)∧bz=aA∧l≤k∧(∀i,i<l→R (ga (arrOf aA) (lo+k)) (ga (arrOf aA) (lo+i))=false)∧(∀i,l≤i→i<k→R (ga (arrOf aA) (lo+k)) (ga (arrOf aA) (lo+i))=true)) ?_ ?_ ⟨0,k,rfl,rfl,by omega,by omega,by omega,fun i hi=>by omega,fun i hi I8=>by omega⟩) ?_)
  ·rintro x c bz _ hx ⟨l,r,rfl,rfl,b1,b2,b3,b4,b5⟩
   dsimp only
   by_cases hl:l≥r
   ·rw[if_pos hl]
    have:l=r:=by omega
    subst this
    exact wpS_pure ⟨l,rfl,rfl,b2,b4,b5⟩
   ·rw[if_neg hl]
    refine wpS_bind (jI S dm h2 (by omega) (by omega) ?_)
    try dsimp only
    cases hr:R (ga (arrOf bz) (lo+k)) (ga (arrOf bz) (lo+(l+r) / 2))with
    |true=>
     rw[if_pos rfl]
     exact wpS_pure ⟨l,(l+r) / 2,rfl,rfl,by omega,by omega,by omega,b4,fun i h3 h4=>O.yZ hr (tJ _ _ h3 h4)⟩
    |false=>
     rw[if_neg (by decide)]
     exact wpS_pure ⟨(l+r) / 2+1,r,rfl,rfl,by omega,by omega,by omega,fun i h3=>O.tr _ _ _ (tJ i ((l+r) / 2) (by omega) (by omega)) hr,b5⟩
  ·rintro c bz ⟨l,r,rfl,rfl,b1,b2,b3,b4,b5⟩
   have:l=r:=by omega
   subst this
   exact⟨l,rfl,rfl,b2,b4,b5⟩
  ·rintro c bz ⟨l,rfl,rfl,b2,b4,b5⟩
   dsimp only
   refine wpS_bind (DL ?_)
   have e0:lo+k - (lo+l)=k - l:=by omega
   rw[e0]
   have gb:∀i,ga (bubble (arrOf bz) (lo+k) (k - l)) i=if i=lo+l then ga (arrOf bz) (lo+k)else if lo+l<i∧i≤lo+k then ga (arrOf bz) (i - 1)else ga (arrOf bz) i:=fun i=>by
    rw[GK (by omega) (by omega),show lo+k - (k - l)=lo+l by omega]
   refine wpS_pure ⟨rfl,⟨h2.kind,h2.fail,h2.pend,(bubble_perm ..).trans h2.perm,fun i hi=>?_⟩,fun i j cX hj=>?_⟩
   ·show ga (bubble (arrOf bz) (lo+k) (k - l)) i=_
    rw[gb,if_neg (by omega),if_neg (by omega)]
    exact h2.low i hi
   ·show R (ga (bubble (arrOf bz) (lo+k) (k - l)) (lo+j)) (ga (bubble (arrOf bz) (lo+k) (k - l)) (lo+i))=false
    rw[gb,gb]
    by_cases ji:j=l
    ·rw[if_pos (by omega)]
     by_cases ii:i=l
     ·rw[if_pos (by omega)];exact O.hZ _
     ·rw[if_neg (by omega),if_neg (by omega)]
      exact b4 i (by omega)
    ·rw[if_neg (by omega)]
     by_cases jl:l<j
     ·rw[if_pos (by omega)]
      by_cases ii:i=l
      ·rw[if_pos (by omega)]
       have:=b5 (j - 1) (by omega) (by omega)
       rw[show lo+(j - 1)=lo+j - 1 by omega]at this
       exact O.fI _ _ this
      ·rw[if_neg (by omega)]
       by_cases il:l<i
       ·rw[if_pos (by omega)]
        have:=tJ (i - 1) (j - 1) (by omega) (by omega)
        rwa[show lo+(j - 1)=lo+j - 1 by omega,show lo+(i - 1)=lo+i - 1 by omega]at this
       ·rw[if_neg (by omega)]
        have:=tJ i (j - 1) (by omega) (by omega)
        rwa[show lo+(j - 1)=lo+j - 1 by omega]at this
     ·rw[if_neg (by omega),if_neg (by omega),if_neg (by omega)]
      exact tJ i j cX (by omega)
 ·rintro c aA ⟨rfl,h2,tJ⟩
  rw[show max ok n=n by omega]at tJ
  exact⟨rfl,h2,tJ⟩
 ·rintro c aA ⟨rfl,h2,tJ⟩
  exact wpS_pure (hq aA h2 tJ)
def starts:Nat→List (List Keyed)→List (Nat×Nat)
 |_,[]=>[]
 |n,r::rs=>(n,r.length)::starts (n+r.length) rs
theorem starts_app:∀(L K:List (List Keyed)) (n:Nat),starts n (L++K)=starts n L++starts (n+L.flatten.length) K
 |[],K,n=>by simp[starts]
 |r::L,K,n=>by
  simp only[List.cons_append,starts,starts_app L K,List.flatten_cons,List.length_append,Nat.add_assoc]
theorem kP:∀(L:List (List Keyed)) (n:Nat),(starts n L).length=L.length
 |[],_=>rfl
 |r::L,n=>by simp[starts,kP L]
def pQ(p:Nat×Nat×Nat):Nat×Nat:=(p.1,p.2.1)
structure PI(κ:SortKind)(R:Keyed→Keyed→Bool)(x0:Array Keyed)(rows:List (List Keyed))(W:List Keyed)(st:SortSt):Prop where
 kind:kindOf st=κ
 fail:failedOf st=none
 arr:(arrOf st).toList=rows.flatten++W
 perm:(arrOf st).toList.Perm x0.toList
 pend:(pendingOf st).toList.map pQ=starts 0 rows
 oV:∀r∈rows,dg R r∧r≠[]
theorem PI.DM{rows:List (List Keyed)}{W:List Keyed}{st:SortSt}(h:PI κ R x0 rows W st):(pendingOf st).size=rows.length:=by
 have:=congrArg List.length h.pend
 rw[List.length_map,kP]at this
 simpa using this
theorem pR(S:Still M A E s κ R dom)(O:d8 R)(dm:∀y∈x0.toList,dom y){st:SortSt}{rows:List (List Keyed)}{W:List Keyed}{i:Nat}{Q:Bool→SortSt→Prop}(h:PI κ R x0 rows W st)(hi:i+1<rows.length)
  (hq:∀bA aA,PI κ R x0 bA W aA→bA.length+1=rows.length→bA.flatten.length=rows.flatten.length→Q true aA):wpS M A E s (mergeAt' i) Q st:=by
 obtain⟨L,r1,r2,K,rfl,hl⟩:∃L r1 r2 K,rows=L++r1::r2::K∧L.length=i:=by
  refine⟨rows.take i,rows[i],rows[i+1],rows.drop (i+2),?_,by rw[List.length_take];omega⟩
  rw[←List.drop_eq_getElem_cons (by omega),←List.drop_eq_getElem_cons (by omega),List.take_append_drop]
 have pe:=h.pend
 rw[starts_app]at pe
 simp only[starts,Nat.zero_add]at pe
 obtain⟨PL,P1,e1,e2,e3⟩:=List.map_eq_append_iff.mp pe
 obtain⟨q1,P2,rfl,e4,e5⟩:=List.map_eq_cons_iff.mp e3
 obtain⟨q2,P3,rfl,e6,e7⟩:=List.map_eq_cons_iff.mp e5
 have pl:PL.length=i:=by
  have:=congrArg List.length e2
  rw[List.length_map,kP]at this
  omega
 obtain⟨a1,a2,pw⟩:=q1
 obtain⟨b1,b2,GJ⟩:=q2
 obtain⟨rfl,rfl⟩:=Prod.mk.inj e4
 obtain⟨rfl,rfl⟩:=Prod.mk.inj e6
 have s1:=h.oV r1 (by simp)
 have s2:=h.oV r2 (by simp)
 refine xr S O (U:=L.flatten) (r1:=r1) (r2:=r2) (V:=K.flatten++W) (pw:=pw) (GJ:=GJ) h.kind h.fail (fun y hy=>dm y (h.perm.mem_iff.mp hy)) (by rw[h.arr];simp) ?_ ?_ s1.1 s2.1 s1.2 s2.2 ?_
 ·rw[←Array.getElem?_toList,e1,List.getElem?_append_right (by omega),pl,Nat.sub_self];rfl
 ·rw[←Array.getElem?_toList,e1,List.getElem?_append_right (by omega),pl,show i+1 - i=1 by omega];rfl
 ·intro r aA pm sr ea ek ef ep
  have rl:r.length=r1.length+r2.length:=by rw[pm.length_eq,List.length_append]
  refine hq (L++r::K) aA ⟨ek,ef,by rw[ea];simp,?_,?_,?_⟩ (by simp only[List.length_append,List.length_cons];omega) (by simp[rl];omega)
  ·rw[ea]
   refine List.Perm.trans ?_ h.perm
   rw[h.arr]
   simp only[List.flatten_append,List.flatten_cons,List.append_assoc]
   refine List.Perm.append_left _ ?_
   rw[←List.append_assoc r1]
   exact pm.append_right _
  ·rw[ep,starts_app]
   simp only[starts,Nat.zero_add,rl]
   rw[Array.toList_eraseIdxIfInBounds,Array.toList_setIfInBounds,e1,←e2]
   rw[List.set_append_right _ _ (by omega),pl,Nat.sub_self,List.set_cons_zero,List.eraseIdx_append_of_length_le (by omega),pl,show i+1 - i=1 by omega]
   simp only[List.eraseIdx_cons_succ,List.eraseIdx_cons_zero,List.map_append,List.map_cons,e7,Nat.add_assoc]
   rfl
  ·intro z hz
   rcases List.mem_append.mp hz with hz|hz
   ·exact h.oV z (by simp[hz])
   ·rcases List.mem_cons.mp hz with rfl|hz
    ·refine⟨sr,fun e=>?_⟩
     rw[e]at rl
     have:=List.length_pos_iff.mpr s1.2
     simp at rl
     omega
    ·exact h.oV z (by simp[hz])
end
end L2.TS
namespace L2.TS
open PySem PyProof.Rows
local macro_rules|`(tactic|walk_at $s:str)=>do
 if s.getString.startsWith "open " then
  let c:=Lean.mkCIdent (Lean.mkPrivateNameCore `PySem.Builtin.List.W1All (`PySem.Builtin++(s.getString.drop 5).toString.toName))
  `(tactic|delta $c:ident)
 else Lean.Macro.throwUnsupported
section
variable{M:Model}{A:Around}{E:Value→Shared→Prop}{s:Shared}{κ:SortKind}{R:Keyed→Keyed→Bool}{dom:Keyed→Prop}{x0:Array Keyed}
theorem GN{x:Array Keyed}{U W:List Keyed}(e:x.toList=U++W){n:Nat}(hn:n≤W.length)(h:Up R x U.length n):dg R (W.take n):=by
 refine List.pairwise_iff_getElem.mpr fun i j hi hj cX=>?_
 rw[List.length_take]at hi hj
 have e':x.toList=U++W++[]:=by rw[e,List.append_nil]
 have:=h i j (by omega) (by omega)
 rw[qq e' (j:=i) (by omega),qq e' (j:=j) (by omega)]at this
 rw[List.getElem_take,List.getElem_take]
 exact this
theorem CI.split{st bz:SortSt}{U W:List Keyed}{p0:Array (Nat×Nat×Nat)}(h:CI κ (arrOf st) p0 U.length bz)(e:(arrOf st).toList=U++W):∃W2,(arrOf bz).toList=U++W2∧W2.Perm W:=by
 have pm:=Array.perm_iff_toList_perm.mp h.perm
 have tk:(arrOf bz).toList.take U.length=U:=by
  have l1:U.length≤(arrOf bz).toList.length:=by rw[pm.length_eq,e,List.length_append];omega
  refine List.ext_getElem (by rw[List.length_take];omega) fun i h1 h2=>?_
  rw[List.getElem_take]
  have a1:ga (arrOf bz) i=(arrOf bz).toList[i]'(by omega):=xp (List.getElem?_eq_getElem _)
  have a2:ga (arrOf st) i=U[i]:=xp (by rw[e,List.getElem?_append_left h2,List.getElem?_eq_getElem])
  rw[←a1,←a2]
  exact h.low i h2
 refine⟨(arrOf bz).toList.drop U.length,?_,?_⟩
 ·conv=>lhs;rw[←List.take_append_drop U.length (arrOf bz).toList,tk]
 ·rw[←List.take_append_drop U.length (arrOf bz).toList,tk,e]at pm
  exact(List.perm_append_left_iff U).mp pm
theorem PI.push{rows:List (List Keyed)}{W:List Keyed}{st aA:SortSt}{n:Nat}(h:PI κ R x0 rows W st)(hn:n≤W.length)(h1: 1≤n)(sr:dg R (W.take n))(ek:kindOf aA=kindOf st)(ef:failedOf aA=failedOf st)(ea:arrOf aA=arrOf st)
  (ep:(pendingOf aA).toList.map pQ=(pendingOf st).toList.map pQ++[(rows.flatten.length,n)]):PI κ R x0 (rows++[W.take n]) (W.drop n) aA:=by
 refine⟨ek.trans h.kind,ef.trans h.fail,?_,by rw[ea];exact h.perm,?_,?_⟩
 ·rw[ea,h.arr]
  simp
 ·rw[ep,h.pend,starts_app]
  simp only[starts,Nat.zero_add,List.length_take]
  rw[show min n W.length=n by omega]
 ·intro r hr
  rcases List.mem_append.mp hr with hr|hr
  ·exact h.oV r hr
  ·rw[List.mem_singleton.mp hr]
   refine⟨sr,fun z=>?_⟩
   have:=congrArg List.length z
   rw[List.length_take,List.length_nil]at this
   omega
theorem DN{f:Nat×Nat×Nat→Nat×Nat}{g:Nat×Nat×Nat→Nat×Nat×Nat}(h:∀x,f (g x)=f x)(l:List (Nat×Nat×Nat))(k:Nat):(l.modify k g).map f=l.map f:=by
 refine List.ext_getElem? fun i=>?_
 rw[List.getElem?_map,List.getElem?_map,List.getElem?_modify]
 cases l[i]? with
 |none=>rfl
 |some y=>
  by_cases e:k=i
  ·simp[e,h]
  ·simp[e]
theorem Bx(w:Nat)(l:List (Nat×Nat×Nat))(k:Nat):(l.modify k fun x=>(x.1,x.2.1,w)).map pQ=l.map pQ:=DN (f:=pQ) (g:=fun x=>(x.1,x.2.1,w)) (fun _=>rfl) l k
theorem DO{rows:List (List Keyed)}(h:∀r∈rows,dg R r∧r≠[]):rows.length≤rows.flatten.length:=by
 induction rows with
 |nil=>simp
 |cons r rows ih=>
  have:=ih fun z hz=>h z (List.mem_cons_of_mem _ hz)
  have:=List.length_pos_iff.mpr (h r List.mem_cons_self).2
  simp only[List.length_cons,List.flatten_cons,List.length_append]
  omega
theorem vq(S:Still M A E s κ R dom)(O:d8 R)(dm:∀y∈x0.toList,dom y){st:SortSt}{Q:Unit→SortSt→Prop}(hk:kindOf st=κ)(hf:failedOf st=none)(hp:pendingOf st= #[])(ha:arrOf st=x0)
  (hq:∀aA,failedOf aA=none→(arrOf aA).toList.Perm x0.toList→dg R (arrOf aA).toList→Q () aA):wpS M A E s sortRuns' Q st:=by
 unfold sortRuns'
 walk_at "open sortRuns"
 dsimp only
 refine wpS_bind (wpS_get ?_)
 have hz:(arrOf st).size=x0.size:=by rw[ha]
 generalize (arrOf st).size=SZ at*
 generalize (sortPriv% PySem.Builtin.minRun) SZ SZ 0=MR at*
 refine wpS_bind (wpS_mono (wpS_forRange (I:=fun x c aA=>∃(lo:Nat) (rows:List (List Keyed)) (W:List Keyed),c=(none,lo)∧PI κ R x0 rows W aA∧rows.flatten.length=lo∧(x≤lo∨x0.size≤lo))
  (Q:=fun c aA=>∃(lo:Nat) (rows:List (List Keyed)) (W:List Keyed),c=(none,lo)∧PI κ R x0 rows W aA∧rows.flatten.length=lo∧x0.size≤lo) ?_ ?_ ⟨0,[],x0.toList,rfl,⟨hk,hf,by rw[ha];rfl,by rw[ha],by rw[hp];rfl,fun _ h=>nomatch h⟩,rfl,.inl (Nat.le_refl _)⟩) ?_)
 ·rintro x c jW _ hx ⟨lo,rows,W,rfl,P,rfl,Vp⟩
  have Sx:(arrOf jW).size=x0.size:=by have:=P.perm.length_eq;simpa using this
  have Vq:rows.flatten.length+W.length=x0.size:=by rw[←Sx,←Array.length_toList,P.arr,List.length_append]
  dsimp only
  refine cP (fun Na=>?_) (fun Na=>?_)
  ·refine wpS_pure ⟨_,rows,W,rfl,P,rfl,?_⟩
   omega
  have Oa:∀y∈(arrOf jW).toList,dom y:=fun y hy=>dm y (P.perm.mem_iff.mp hy)
  have ci:CI κ (arrOf jW) (pendingOf jW) rows.flatten.length jW:=⟨P.kind,P.fail,rfl,Array.Perm.refl _,fun _ _=>rfl⟩
  have q1: 1≤SZ - rows.flatten.length:=by omega
  have q2:rows.flatten.length+(SZ - rows.flatten.length)≤(arrOf jW).size:=by omega
  refine wpS_bind (vp S O Oa ci q1 q2 fun n bz C2 n1 n2 u2=>?_)
  try dsimp only
  refine cP (fun c1=>?_) (fun c1=>?_)
  case' refine_1=>
   refine wpS_bind (wpS_lift (wpAny_rule ⟨rfl,?_⟩))
   have q3:∀k:Nat,n<k→n≤min (SZ - rows.flatten.length) k:=fun k hk=>by omega
   have q4:∀k:Nat,rows.flatten.length+min (SZ - rows.flatten.length) k≤(arrOf jW).size:=fun k=>by omega
   have q5:∀k:Nat,min (SZ - rows.flatten.length) k≤SZ - rows.flatten.length:=fun k=>by omega
   refine wpS_bind (sf S O Oa C2 n1 (q3 _ c1) (q4 _) u2 fun jy C3 u3=>?_)
   rw[if_neg (by decide)]
   have n3: 1≤_:=Nat.le_trans n1 (q3 _ c1)
   have n4:=q5 MR
   generalize hN:min (SZ - rows.flatten.length) MR=N at*
  case' refine_2=>
   have C3:=C2
   have u3:=u2
   have n3:=n1
   have n4:=n2
   generalize N_:bz=jy at*
   generalize hN:n=N at*
  all_goals
   obtain⟨W2,e2,KN⟩:=C3.split P.arr
   have P3:PI κ R x0 rows W2 jy:=⟨C3.kind,C3.fail,e2,(Array.perm_iff_toList_perm.mp C3.perm).trans P.perm,by rw[C3.pend];exact P.pend,P.oV⟩
   have wl:W2.length=W.length:=KN.length_eq
   have nw:N≤W2.length:=by omega
   have sr:=GN e2 nw u3
   refine wpS_bind (wpS_get ?_)
   rcases hb:(pendingOf jy).back? with _|⟨t1,t2,t3⟩
   ·try rw[hb]
    refine wpS_bind (wpS_modify (wpS_pure ⟨_,rows++[W2.take N],W2.drop N,rfl,P3.push nw n3 sr rfl rfl rfl ?_,?_,?_⟩))
    ·show((pendingOf jy).push (rows.flatten.length,N,0)).toList.map pQ=_
     rw[Array.toList_push,List.map_append]
     rfl
    ·simp
     omega
    ·omega
   ·try rw[hb]
    refine wpS_bind (wpS_mono (wpS_forRange (I:=fun _ c g8=>∃bA,c=(none,())∧PI κ R x0 bA W2 g8∧bA.flatten.length=rows.flatten.length) (Q:=fun c g8=>∃bA,c=(none,())∧PI κ R x0 bA W2 g8∧bA.flatten.length=rows.flatten.length) ?_ ?_ ⟨rows,rfl,P3,rfl⟩) ?_)
    ·rintro y c g8 _ hy ⟨bA,rfl,P4,h4⟩
     have ps:=P4.DM
     refine wpS_bind (wpS_get ?_)
     by_cases c2:(pendingOf g8).size > 1
     ·rw[if_pos c2]
      rcases Ob:(pendingOf g8)[(pendingOf g8).size - 2]? with _|⟨v1,v2,v3⟩
      ·try rw[Ob]
       exact wpS_pure ⟨bA,rfl,P4,h4⟩
      ·try rw[Ob]
       refine cP (fun _=>?_) (fun _=>?_)
       ·exact wpS_pure ⟨bA,rfl,P4,h4⟩
       ·have il:(pendingOf g8).size - 2+1<bA.length:=by omega
        refine wpS_bind (pR S O dm P4 il fun KO Fs P5 h5 h6=>?_)
        rw[if_neg (by decide)]
        exact wpS_pure ⟨KO,rfl,P5,h6.trans h4⟩
     ·rw[if_neg c2]
      exact wpS_pure ⟨bA,rfl,P4,h4⟩
    ·rintro c g8 hh
     exact hh
    ·rintro c g8 ⟨bA,rfl,P4,h4⟩
     dsimp only
     refine wpS_bind (wpS_modify (wpS_bind (wpS_modify (wpS_pure ⟨_,bA++[W2.take N],W2.drop N,rfl,P4.push nw n3 sr rfl rfl rfl ?_,?_,?_⟩))))
     ·show(((pendingOf g8).modify ((pendingOf g8).size - 1) _).push (rows.flatten.length,N,0)).toList.map pQ=_
      rw[Array.toList_push,List.map_append,Array.toList_modify,Bx,h4]
      rfl
     ·simp[h4]
      omega
     ·omega
 ·rintro c jW ⟨lo,rows,W,rfl,P,hl,h1⟩
  refine⟨lo,rows,W,rfl,P,hl,h1.elim (fun z=>?_) id⟩
  have kD:max 0 SZ=x0.size:=by omega
  exact kD ▸ z
 ·rintro c jW ⟨lo,rows,W,rfl,P,hl,h1⟩
  have sz:x0.size=rows.flatten.length+W.length:=by
   have:=P.perm.length_eq
   rw[P.arr,List.length_append]at this
   simpa using this.symm
  have w0:W=[]:=List.length_eq_zero_iff.mp (by omega)
  subst w0
  try dsimp only
  refine wpS_bind (wpS_mono (wpS_forRange (I:=fun x c aA=>∃bA,c=(none,())∧PI κ R x0 bA [] aA∧(bA.length≤1∨bA.length+x≤x0.size)) (Q:=fun c aA=>∃bA,c=(none,())∧PI κ R x0 bA [] aA∧bA.length≤1) ?_ ?_ ⟨rows,rfl,P,.inr (by have:=DO P.oV;omega)⟩) ?_)
  ·rintro x c bz _ hx ⟨bA,rfl,P2,h2⟩
   have ps:=P2.DM
   refine wpS_bind (wpS_get ?_)
   by_cases c1:(pendingOf bz).size≤1
   ·rw[if_pos c1]
    exact wpS_pure ⟨bA,rfl,P2,by omega⟩
   ·rw[if_neg c1]
    refine wpS_bind (pR S O dm P2 ?_ fun KP jy P3 h3 _=>?_)
    ·have:∀i:Nat,i≤(pendingOf bz).size - 2→i+1<bA.length:=fun i hi=>by omega
     have il:∀{c:Prop} [Decidable c] {a b k:Nat},a≤k→b≤k→(if c then a else b)≤k:=fun {c} _ {a b k} h1 h2=>by split<;>assumption
     exact this _ (il (Nat.sub_le _ _) (Nat.le_refl _))
    ·rw[if_neg (by decide)]
     exact wpS_pure ⟨KP,rfl,P3,by omega⟩
  ·rintro c bz ⟨bA,rfl,P2,h2⟩
   refine⟨bA,rfl,P2,?_⟩
   have kD:max 0 SZ=x0.size:=by omega
   rcases h2 with h2|h2
   ·exact h2
   ·have h2:bA.length+max 0 SZ≤x0.size:=h2
    omega
  ·rintro c bz ⟨bA,rfl,P2,h2⟩
   refine wpS_pure (hq bz P2.fail P2.perm ?_)
   have e:=P2.arr
   rw[List.append_nil]at e
   rw[e]
   match bA,h2,P2.oV with
   |[],_,_=>exact .nil
   |[r],_,hs=>simpa using(hs r (by simp)).1
   |_::_::_,h2,_=>simp at h2
end
end L2.TS
namespace L2.TS
open PySem PySem.W PySem.Spec PyProof.Rows
section
variable{prog:Program}{w:World}{A:Around}{E:Value→Shared→Prop}{s:Shared}{κ:SortKind}{R:Keyed→Keyed→Bool}{dom:Keyed→Prop}
def iJ(h:Heap)(a:Addr)(vs:List Value):Heap:=((h.update a (Obj.mapSeq fun _=>(#[]:Array Value))).push (seqObj "tuple" vs.toArray 0)).push (seqObj "list" #[] 0)
theorem xt{a:Addr}{vs:List Value}{n:Nat}{P:PySem.Fin→Shared→Prop}(ho:s.heap.get? a=some (seqObj "list" vs.toArray n))(h2: 2≤vs.length)(hl:vs.length≤1000000)(O:d8 R)
  (hk:wpAny (model prog w) A (keyKind' vs.toArray) (fun k s'=>k=κ∧s'= { s with heap:=iJ s.heap a vs }) E { s with heap:=iJ s.heap a vs })
  (S:Still (model prog w) A E { s with heap:=iJ s.heap a vs } κ R dom)(dm:∀v∈vs,dom (v,v))
  (h:∀out:Array Keyed,out.toList.Perm (vs.toArray.zip vs.toArray).toList→dg R out.toList→P (.done (.ret .none)) { s with heap:=sortedHeap s.heap a vs (out.map (·.2)) }):wpAny (model prog w) A (Builtin.«list.sort» ⟨[.ref a],[]⟩) P E s:=by
 rw[list_sort_plain]
 have ha:a<s.heap.objs.size:=Heap.lt_size ho
 refine wpAny_bind (listItems_at ho rfl ?_)
 refine wpAny_bind (listUpdate_at ho rfl ?_ (by rw[List.size_toArray,sizeLine_eq];omega) (Nat.zero_le _))
 obtain⟨e1,xX⟩:∃e1,(s.heap.update a (Obj.mapSeq fun _=>(#[]:Array Value))).get? a=some (seqObj "list" #[] e1):=⟨_,get?_update_seq ho (fun _=>#[])⟩
 refine wpAny_bind (seqEpoch_at xX rfl ?_)
 refine wpAny_bind (wpAny_newTuple ?_ (by show vs.length≤_;rw[sizeLine_eq];omega))
 refine wpAny_bind (wpAny_newList ?_ (Nat.zero_le _))
 refine wpAny_holding ?_
 have DB:(iJ s.heap a vs).get? a=some (seqObj "list" #[] e1):=Heap.get?_push_of_some _ (Heap.get?_push_of_some _ xX)
 show wpAny (model prog w) A _ P E { s with heap:=iJ s.heap a vs }
 dsimp only
 have uW:¬vs.toArray.size<2:=by rw[List.size_toArray];omega
 rw[if_neg uW,if_neg uW]
 refine wpAny_bind (wpAny_mono hk (fun k s' hh=>?_) fun _ _ e=>e)
 obtain⟨rfl,rfl⟩:=hh
 have run:=vq (x0:=vs.toArray.zip vs.toArray) (st:=SortSt.mk' k (vs.toArray.zip vs.toArray) #[] 7 none) (Q:=fun _ aA=>failedOf aA=none∧(arrOf aA).toList.Perm (vs.toArray.zip vs.toArray).toList∧dg R (arrOf aA).toList) S O (fun y hy=>?_) rfl rfl rfl rfl (fun aA a1 a2 a3=>⟨a1,a2,a3⟩)
 ·refine wpAny_bind (wpAny_mono run ?_ fun _ _ e=>e)
  rintro⟨⟨⟩,aA⟩ s' ⟨rfl,hf,pm,sr⟩
  dsimp only at hf pm sr ⊢
  refine wpAny_bind (seqEpoch_at DB rfl ?_)
  refine wpAny_bind (listUpdate_at DB rfl ?_ (Nat.zero_le _) (by
   rw[Array.size_map]
   have:=pm.length_eq
   rw[Array.length_toList,Array.length_toList]at this
   refine Nat.le_trans (Nat.le_of_eq this) ?_
   rw[Array.size_zip,List.size_toArray,sizeLine_eq]
   omega))
  rw[hf]
  simp only[bne_self_eq_false,Bool.false_eq_true,if_false]
  exact wpAny_pure (h _ pm sr)
 ·rw[Array.toList_zip]at hy
  have hv:∀(l:List Value) (z:Keyed),z∈l.zip l→z.1∈l∧z.2=z.1:=fun l=>by
   induction l with
   |nil=>intro z hz;cases hz
   |cons v l ih=>
    intro z hz
    rw[List.zip_cons_cons]at hz
    rcases List.mem_cons.mp hz with rfl|hz
    ·exact⟨List.mem_cons_self,rfl⟩
    ·exact⟨List.mem_cons_of_mem _ (ih z hz).1,(ih z hz).2⟩
  obtain⟨q1,q2⟩:=hv vs y (by simpa using hy)
  have:=dm y.1 q1
  rwa[show(y.1,y.1)=y from Prod.ext rfl q2.symm]at this
end
end L2.TS
namespace L2.TS
open PySem PySem.W PySem.Spec PyProof.Rows L2
def oh(h:Heap)(vs:List Value):Heap:=iJ (((h.push (seqObj "list" #[] 0)).update h.objs.size (Obj.mapSeq (·++vs.toArray))).push (seqObj "list" vs.toArray 0)) (h.objs.size+1) vs
theorem By(h:Heap)(vs:List Value):((h.push (seqObj "list" #[] 0)).update h.objs.size (Obj.mapSeq (·++vs.toArray))).objs.size=h.objs.size+1:=by
 rw[Heap.size_update,size_push']
theorem kQ{h:Heap}{vs:List Value}{b:Addr}{o:Obj}(hb:h.get? b=some o):(oh h vs).get? b=some o:=by
 have du:b<h.objs.size:=Heap.lt_size hb
 unfold oh iJ
 refine Heap.get?_push_of_some _ (Heap.get?_push_of_some _ ?_)
 have n1:b≠h.objs.size+1:=Nat.ne_of_lt (Nat.lt_succ_of_lt du)
 rw[Heap.get?_update_ne _ _ _ _ n1,Heap.get?_push_ne _ _ _ (by rw[By];exact n1),Heap.get?_update_ne _ _ _ _ (Nat.ne_of_lt du),Heap.get?_push_ne _ _ _ (Nat.ne_of_lt du)]
 exact hb
section
variable{prog:Program}{w:World}{A:Around}{E:Value→Shared→Prop}{s:Shared}{κ:SortKind}{R:Keyed→Keyed→Bool}{dom:Keyed→Prop}
theorem vt{l:Addr}{vs:List Value}{Q:Value→Shared→Prop}(hl:s.heap.IsList l vs.toArray)(h2: 2≤vs.length)(hn:vs.length≤1000000)(O:d8 R)
  (hk:∀(A:Around) (E:Value→Shared→Prop),wpAny (model prog w) A (keyKind' vs.toArray) (fun k s'=>k=κ∧s'= { s with heap:=oh s.heap vs }) E { s with heap:=oh s.heap vs })
  (S:∀(A:Around) (E:Value→Shared→Prop),Still (model prog w) A E { s with heap:=oh s.heap vs } κ R dom)(dm:∀v∈vs,dom (v,v))
  (h:∀out:Array Keyed,out.toList.Perm (vs.toArray.zip vs.toArray).toList→dg R out.toList→Q (.ref (s.heap.objs.size+1)) { s with heap:=sortedAll s.heap vs (out.map (·.2)) }):wpAny (model prog w) A (call (.builtin "sorted") [.ref l]) Q E s:=
 nZ hl hn fun _ _=>xt (jV _ _) h2 hn O (hk _ _) (S _ _) dm fun out pm sr=>⟨rfl,h out pm sr⟩
end
theorem mE{h h':Heap}(k:∀b o,h.get? b=some o→h'.get? b=some o):∀{vs fs:List Value},KatTups h vs fs→KatTups h' vs fs
 |[],[],_=>trivial
 |[],_::_,t=>t.elim
 |_::_,[],t=>t.elim
 |_::_,_::_,⟨⟨a,o,xs,n,e,g,c,d,f⟩,t⟩=>⟨⟨a,o,xs,n,e,k _ _ g,c,d,f⟩,mE k t⟩
def KQ:V→Int
 |.int i=>i
 |_=>0
def oi(H:Hp):Value→List Int
 |.ref a=>match H a with
  |some (.tup vs)=>vs.map KQ
  |_=>[]
 |_=>[]
theorem lR{H:Hp}{a:Addr}{t:List Int}(h:H a=some (.tup (t.map V.int))):oi H (.ref a)=t:=by
 show(match H a with|some (.tup vs)=>vs.map KQ|_=>[])=t
 rw[h]
 show(t.map V.int).map KQ=t
 rw[List.map_map]
 exact List.map_id'' (fun _=>rfl) t
def yU(H:Hp)(x y:Keyed):Bool:=a_ (oi H y.1) (oi H x.1)
theorem DP(H:Hp):d8 (yU H):=⟨fun _ _ h=>gf _ _ h,fun _ _ _ h1 h2=>i6 _ _ _ h1 h2⟩
end L2.TS
namespace L2.TS
open PySem PySem.W PySem.Spec PyProof.Rows L2
section
variable{X:Cx}{pins:List (Addr×Obj)}{σ:St}{H:Hp}{s:Shared}
def adr:Value→Addr
 |.ref a=>a
 |_=>0
theorem vv:fC X (.builtin "sorted") (fun xs H Q=>∃(l:Addr) (as:List Addr) (ts:List (List Int)),xs=[.ref l]∧cD X.K H l (as.map V.ref)∧Paired (fun(a:Addr) (t:List Int)=>H a=some (.tup (t.map V.int))∧t≠[]) as ts∧as.length≤1000000∧
  ∀(D:Addr) (bs:List Addr) (us:List (List Int)),H D=none→Paired (fun(a:Addr) (t:List Int)=>H a=some (.tup (t.map V.int))) bs us→us.Perm ts→us.Pairwise (fun a b=>a_ a b=false)→Q (.ref D) (upd H D (.lst (bs.map V.ref)))):=by
 intro pins s σ H xs us Q I r h
 obtain⟨l,as,ts,rfl,hl,pr,hn,q⟩:=h
 by_cases h2:as.length<2
 ·exact w_ _ _ _ _ _ _ _ I r ⟨l,as,ts,rfl,hl,pr,by omega,q⟩
 obtain⟨u,rfl,e1⟩:=vals1 r
 cases e1
 obtain⟨its,rv,pl,zl⟩:=I.list hl
 cases kL rv
 obtain⟨fs,k1,k2,k3⟩:=kN I pr
 have II:∀a∈as,∃t:List Int,H a=some (.tup (t.map V.int)):=fun a ha=>by
  obtain⟨i,hi,rfl⟩:=List.mem_iff_getElem.mp ha
  obtain⟨x,y,ex,ey,uB⟩:=gB pr hi
  rw[List.getElem?_eq_getElem hi]at ex
  cases ex
  exact⟨y,uB.1⟩
 refine vt (κ:=tuples' (Value.type "int" != Value.type "tuple")) (R:=yU H) (dom:=fun y=>∃(a:Addr) (t:List Int),y.1= .ref a∧H a=some (.tup (t.map V.int))) pl.isList (by simpa using(by omega: 2≤as.length)) (by simpa using hn) (DP H)
  (fun A E=>kat_kind (T:=.type "int") (fs:=fs) (mE (fun _ _=>kQ) k1) (by omega) (fun v hv=>?_) (by decide) ⟨rfl,rfl⟩) (fun A E=>⟨fun {st x y Q'} hk dx dy hq=>?_⟩) (fun v hv=>?_) (fun out pm sr=>?_)
 ·obtain⟨i,t,rfl⟩:=k3 v hv
  exact rP
 ·obtain⟨a,t,ea,ra⟩:=dx
  obtain⟨b,w,eb,rb⟩:=dy
  obtain⟨N1,r1,⟨o1,g1,c1,m1,d1⟩,_⟩:=I.tuple (df.of ra)
  obtain⟨mr,r2,⟨o2,g2,c2,m2,d2⟩,_⟩:=I.tuple (df.of rb)
  unfold yU at hq
  rw[ea,eb,lR ra,lR rb]at hq
  rw[lt'_eq]
  refine wpS_bind (wpS_get ?_)
  rw[hk,ea,eb]
  refine wpS_bind (wpS_lift (wpAny_attempt (kat_lt (kQ g1) d1 (kQ g2) d2 (jU 0 (by simpa using ints_of r1) (by simpa using ints_of r2) (fun _=>by simp) ⟨rfl,?_⟩))))
  exact wpS_pure hq
 ·obtain⟨a,ha,rfl⟩:=List.mem_map.mp hv
  obtain⟨t,ht⟩:=II a ha
  exact⟨a,t,rfl,ht⟩
 ·have zp:(((as.map Value.ref).toArray.zip (as.map Value.ref).toArray)).toList=(as.map Value.ref).zip (as.map Value.ref):=by simp
  rw[zp]at pm
  have dz:∀y∈out.toList,∃(a:Addr) (t:List Int),y=(Value.ref a,Value.ref a)∧a∈as∧H a=some (.tup (t.map V.int)):=fun y hy=>by
   have hy:=pm.mem_iff.mp hy
   obtain⟨i,hi,rfl⟩:=List.mem_iff_getElem.mp hy
   simp only[List.length_zip,List.length_map,Nat.min_self]at hi
   obtain⟨t,ht⟩:=II as[i] (List.getElem_mem hi)
   exact⟨as[i],t,by simp,List.getElem_mem hi,ht⟩
  have lo:out.toList.length=as.length:=by rw[pm.length_eq];simp
  generalize hz:out.toList=zs at*
  have vb:((out.map (·.2)).toList)=(zs.map fun y=>adr y.2).map Value.ref:=by
   rw[Array.toList_map,hz,List.map_map]
   refine List.map_congr_left fun y hy=>?_
   obtain⟨a,t,rfl,_⟩:=dz y hy
   rfl
  have pb:∀l:List Keyed,(∀y∈l,∃(a:Addr) (t:List Int),y=(Value.ref a,Value.ref a)∧a∈as∧H a=some (.tup (t.map V.int)))→Paired (fun(a:Addr) (t:List Int)=>H a=some (.tup (t.map V.int))) (l.map fun y=>adr y.2) (l.map fun y=>oi H y.1):=fun l=>by
   induction l with
   |nil=>exact fun _=>.nil
   |cons y l ih=>
    intro pT
    obtain⟨a,t,rfl,_,ht⟩:=pT y List.mem_cons_self
    refine .cons ?_ (ih fun z hz=>pT z (List.mem_cons_of_mem _ hz))
    show H a=some (.tup ((oi H (.ref a)).map V.int))
    rw[lR ht]
    exact ht
  have Sy:((as.map Value.ref).zip (as.map Value.ref)).map (fun y=>oi H y.1)=ts:=by
   have:∀(as:List Addr) (ts:List (List Int)),Paired (fun(a:Addr) (t:List Int)=>H a=some (.tup (t.map V.int))∧t≠[]) as ts→((as.map Value.ref).zip (as.map Value.ref)).map (fun y=>oi H y.1)=ts:=fun as ts p=>by
    induction p with
    |nil=>rfl
    |cons r t ih=>
     simp only[List.map_cons,List.zip_cons_cons,ih,lR r.1]
   exact this as ts pr
  obtain⟨e,he⟩:=sortedAll_at s.heap (as.map Value.ref) (out.map (·.2))
  refine⟨.ref (s.heap.objs.size+1),_,I.laid (a:=s.heap.objs.size+1) (t':=s.toks) (fun _ _=>sortedAll_old) (Nat.le_succ _) (show cC X.prog X.w _ _ _ (.lst ((zs.map fun y=>adr y.2).map V.ref))from⟨?_,(zs.map fun y=>adr y.2).map Value.ref,e,kM _,by rw[he,←Array.toArray_toList (xs:=Array.map (fun x=>x.snd) out),vb]⟩),rfl,q _ (zs.map fun y=>adr y.2) (zs.map fun y=>oi H y.1) (I.aO.fresh (Nat.le_succ _)) (pb zs dz) ?_ ?_⟩
  ·have z:=zl
   simp only[List.length_map]at z ⊢
   rw[lo]
   exact z
  ·have:=pm.map fun y=>oi H y.1
   rwa[Sy]at this
  ·rw[List.pairwise_map]
   exact sr.imp fun h=>h
end
end L2.TS
namespace Qm
open PySem
noncomputable section
def jJ:FN:=one fun x c=>(bq x c).bind fun l=>(omap rowOf l.2).bind fun rs=>if rs.length≤1000000∧rs.all (fun r=>!r.isEmpty)=true then some (.ref c.length,c++[.lst ((rs.mergeSort oW).map fun r=>.tup (r.map .int))])else none
end
end Qm
namespace L2
open PySem PySem.Spec PyProof.Rows PySem.W
theorem zh{K:PySem.W.Frag}:qc K (fun xs H Q=>∃(l:Addr) (as:List Addr) (ts:List (List Int)),xs=[.ref l]∧cD K H l (as.map V.ref)∧Paired (fun(a:Addr) (t:List Int)=>H a=some (.tup (t.map V.int))∧t≠[]) as ts∧as.length≤1000000∧
  ∀(D:Addr) (bs:List Addr) (us:List (List Int)),H D=none→Paired (fun(a:Addr) (t:List Int)=>H a=some (.tup (t.map V.int))) bs us→us.Perm ts→us.Pairwise (fun a b=>a_ a b=false)→Q (.ref D) (upd H D (.lst (bs.map V.ref)))) Qm.jJ:=by
 intro ρ c H ds d c' vs Q rs ra e k
 obtain⟨x,rfl,e⟩:=jS e
 obtain⟨v,rfl,rx⟩:=ra.iX
 obtain⟨l,e1,e⟩:=aE e
 obtain⟨ts,e2,e⟩:=aE e
 split at e
 ·rename_i hz
  cases e
  obtain⟨_,hc,ws,rfl,h1,a1⟩:=rs.bq rx e1
  obtain⟨as,rfl,pr⟩:=xa a1 e2
  have GG:as.length=ts.length:=Paired.length pr
  have jB:∀t∈ts,t≠[]:=fun t ht z=>by
   have:=List.all_eq_true.mp hz.2 t ht
   rw[z]at this;simp at this
  refine⟨_,as,ts,rfl,cD.of h1,xc pr jB,by rw[GG];exact hz.1,fun D bs us hD pb pm oV=>?_⟩
  rw[DD pm oV]at pb
  obtain⟨n,r⟩:=Nx.alloc rs hD (xb pb)
  exact k _ _ _ n r
 ·cases e
end L2
namespace Qm
open PySem
noncomputable section
open Classical in
def lT(o:D):FN:=one fun y c=>(bq o c).bind fun l=>(data c 5 y).bind fun d=>(omap (data c 5) l.2).bind fun ds=>(ds.findIdx? fun e=>decide (e=d)).bind fun j=>some (.int j,c)
end
end Qm
namespace L2
open PySem PySem.Spec PyProof.Rows
def Am(K:PySem.W.Frag):V→List V→Hp→VK→Prop:=fun x vs H Q=>∃(l:Addr) (xs:List V) (y:V) (d:PyData) (ds:List PyData) (j:Nat),x= .ref l∧vs=[y]∧H l=some (.lst xs)∧g_ K H y d∧mh K H xs ds∧SeqAt.shaped d=true∧d.depth≤8∧
 (∀e∈ds,PyData.canLay0 e=true)∧(∃e,ds[j]? =some e∧PyData.eqv e d=true)∧(∀m e,m<j→ds[m]? =some e→PyData.eqv e d=false)∧Q (.int j) H
theorem oj{h:Heap}:∀{us:List Value}{ds:List PyData}{as:List Addr},ReadsAll h us ds as→∀(j:Nat) (u:Value),us[j]? =some u→∃d',ds[j]? =some d'∧∃pY,Reads h u d' pY
 |_,_,_,.nil,j,u,e=>by simp at e
 |_,_,_,.cons r t,0,u,e=>by
  cases e
  exact⟨_,rfl,_,r⟩
 |_,_,_,.cons r t,j+1,u,e=>oj t j u (by simpa using e)
theorem readsAll_len{h:Heap}:∀{us:List Value}{ds:List PyData}{as:List Addr},ReadsAll h us ds as→us.length=ds.length
 |_,_,_,.nil=>rfl
 |_,_,_,.cons _ t=>congrArg (·+1) (readsAll_len t)
section
variable{X:Cx}
theorem Bz(hu:X.A.units+64<cLine):yn X "list.index" (Am X.K):=by
 intro pins s σ H x vs v us Q I rx rv h
 obtain⟨l,xs,y,d,ds,j,rfl,rfl,hH,hy,m6,sd,dd,u9,⟨e,he,hit⟩,CD,q⟩:=h
 cases rx
 obtain⟨u,rfl,ru⟩:=rv.one
 obtain⟨z,its,n,r,hl,ho⟩:=I.pH hH
 obtain⟨h1,_⟩:=uZ hu I ru r hy m6 sd dd u9
 obtain⟨bs,rb⟩:=m6.reads I r
 have at_:∀(m:Nat) (hm:m<its.length) e,ds[m]? =some e→nE s.heap d its[m]=PyData.eqv e d:=fun m hm e ee=>by
  obtain⟨d',g1,pY,g2⟩:=oj rb m its[m] (List.getElem?_eq_getElem hm)
  rw[ee]at g1;cases g1
  exact rn (u9 e (List.mem_of_getElem? ee)) g2
 have el:=readsAll_len rb
 have Oc:j<its.length:=by rw[el];exact(List.getElem?_eq_some_iff.mp he).1
 have hz:its.length≤sizeLine:=by omega
 rw[sizeLine_eq]at hz
 refine call_meets F.slot_list_index ⟨_,ho,rfl⟩ F.entry_list_index (F.args_list_index_2 _ _)
  (SeqAt.list_indexAt l its.toArray n none #[] u (nE s.heap d) j (by simpa using Oc) (by omega) (by rw[←hit,←at_ j Oc e he];simp) fun m hm du=>?_) ⟨ho,h1,.int j,H,I.tok _,⟨_,rfl⟩,q⟩
 have DQ:m<its.length:=by simpa using hm
 have Od:m<ds.length:=by omega
 rw[←CD m ds[m] du (List.getElem?_eq_getElem Od),←at_ m DQ ds[m] (List.getElem?_eq_getElem Od)]
 simp
end
theorem BA{K:PySem.W.Frag}:Bg K (Am K) Qm.lT:=by
 intro ρ c H x ds d c' v vs Q rs rx ra e k
 unfold Qm.lT Qm.one at e
 split at e
 ·rename_i y
  obtain⟨l,e1,e⟩:=aE e
  obtain⟨dy,e2,e⟩:=aE e
  obtain⟨dl,e3,e⟩:=aE e
  obtain⟨j,e4,e⟩:=aE e
  cases e
  obtain⟨u,rfl,ry⟩:=ra.iX
  obtain⟨_,hn,ws,rfl,h,a⟩:=rs.bq rx e1
  obtain⟨a1,a2,a3,a4⟩:=hV rs 5 ry e2
  obtain⟨b1,b2,b3,b4⟩:=qo (k:=5) rs (fun r h=>hV rs 5 r h) a e3
  rw[List.findIdx?_eq_some_iff_getElem]at e4
  obtain⟨hj,hd,CD⟩:=e4
  refine⟨_,ws,u,dy,dl,j,rfl,rfl,h,a1,b1,by simp[SeqAt.shaped,a2];omega,by omega,kI b2,⟨_,List.getElem?_eq_getElem hj,?_⟩,fun m e hm he=>?_,k ρ _ _ (Nx.refl rs) (.int _)⟩
  ·have:dl[j]=dy:=by simpa using hd
   rw[this]
   exact(iF dy dy a4 a4).mpr rfl
  ·have h1:=CD m hm
   obtain⟨oX,rfl⟩:=List.getElem?_eq_some_iff.mp he
   cases hq:PyData.eqv dl[m] dy with
   |false=>rfl
   |true=>
    rw[iF _ _ (rO b4 _ (List.getElem_mem oX)) a4]at hq
    exact absurd (by simpa using hq) h1
 ·cases e
end L2
namespace L2
open PySem PySem.W PySem.Spec PyProof.Rows
def Oe(X:Cx)(g:Str→Bool)(pins:List (Addr×Obj))(D:Ends)(f:Flow)(s':Shared):Prop:=SP (X.less g) pins D f s'
def KR(X:Cx)(g:Str→Bool)(st:List Stmt)(t:TS):Prop:=
 ∀(pins:List (Addr×Obj)) (s:Shared) (σ:St) (H:Hp) (D:Ends),Inv X pins σ H s→t D σ H→wpAny (model X.prog X.w) X.A (execs st X.env) (Oe X g pins D) X.xe s
abbrev GO(X:Cx)(g:Str→Bool)(e:List Stmt)(f:Qm.XS):Prop:=KR X g e (SQ X.K f)
section
variable{X:Cx}{g:Str→Bool}{st:Stmt}{rest:List Stmt}{fs fr:Qm.XS}
theorem SP.less{pins:List (Addr×Obj)}{D:Ends}{f:Flow}{s':Shared}(hX:∀x,X.fn x=true)(h:SP X pins D f s'):Oe X g pins D f s':=by
 cases f with
 |ret u=>
  obtain⟨v,σ',H',J,r⟩:=h
  exact⟨v,σ',H',J.lO hX g,r⟩
 |next=>
  obtain⟨σ',H',J,r⟩:=h
  exact⟨σ',H',J.lO hX g,r⟩
 |brk=>
  obtain⟨σ',H',J,r⟩:=h
  exact⟨σ',H',J.lO hX g,r⟩
 |cont=>
  obtain⟨σ',H',J,r⟩:=h
  exact⟨σ',H',J.lO hX g,r⟩
theorem BB{t u:TS}(hX:∀x,X.fn x=true)(h1:PS X st t)(h2:KR X g rest u):KR X g (st::rest) (Ib t u):=by
 intro pins s σ H D I h
 refine wpAny_execs_cons (bF (h1 pins s σ H { D with nx:=u D } I h) fun f s1 q=>?_)
 cases f with
 |next=>
  obtain⟨σ',H',I',q⟩:=q
  exact h2 pins s1 σ' H' D I' q
 |ret v=>exact SP.less hX q
 |brk=>exact SP.less hX q
 |cont=>exact SP.less hX q
theorem iu(hX:∀x,X.fn x=true)(h1:QS X st fs)(h2:GO X g rest fr):GO X g (st::rest) (Qm.av fs fr):=fun pins s σ H D I q=>
 BB hX h1 h2 pins s σ H D I (by
  obtain⟨ρ,env,c,fl,bO,c',rs,re,e,k⟩:=q
  obtain⟨⟨f,e2,c2⟩,e1,e⟩:=aE e
  cases f with
  |nx=>exact⟨ρ,env,c,.nx,e2,c2,rs,re,e1,fun aF H1 n1 σ1 nQ=>⟨aF,e2,c2,fl,bO,c',n1.rs,nQ,e,fun aM H' n=>k aM H' (n1.trans n)⟩⟩
  |rt d=>cases e;exact⟨ρ,env,c,.rt d,bO,c',rs,re,e1,k⟩
  |bk=>cases e;exact⟨ρ,env,c,.bk,bO,c',rs,re,e1,k⟩
  |ct=>cases e;exact⟨ρ,env,c,.ct,bO,c',rs,re,e1,k⟩)
theorem BC(hX:∀x,X.fn x=true)(h:qb (X.less g) rest fr):GO X g rest fr:=fun pins s σ H D I q=>h pins s σ H D (I.lO hX g) q
end
section
variable{P:Program}{w:World}{K:Frag}{mg:Str→Option Value}{base:Heap}
theorem nV.Of{x qual:Str}{st:Stmt}{f c:Addr}{fd:FuncData}{N ps:List Str}{k n m:Nat}{B:Qm.XS}{FF:Qm.FN}(g:Str→Bool)(F:nV K x qual st f fd c)(S:bp N ps (ao st))(hn:ps.length=n)(hm:N.length=m)(hN:n≤m)(hF:FF=Qm.gw n m B)
  (eS:∀(A:Around) (outer:List Env) (s:Shared) (H:Hp) (E:XK),cS k (A.deeper (envOfC qual (ao st) s.heap.objs.size f (.ref c)))→
   GO (gR cF P w K mg base N qual (ao st) f (.ref c) A outer s H E).qD g (aL st) B):bY P w K mg base cF (k+1) f fd ps (ei K FF):=by
 subst hm hF
 obtain⟨oc,od,kV,doc,pm,an,ct,iA,rfl,lk,km⟩:=F.ex
 refine⟨fun vs H Q E h=>by rw[(e_ hN h).1,hn],fun A outer s H args us vs Q E hr e0 hb r me=>?_⟩
 obtain⟨hl,Kv⟩:=e_ hN me
 have KX:K.In s.heap:=e0.mod.tm.keeps fun b o e=>(e0.bs b o e).1
 have lim:s.heap.NoLimit:=e0.mod.nolimit.keeps fun b o e=>(e0.bs b o e).1
 have qO:∀y∈ps.zip us,(ao st).names.lookup y.1=some .local∨((ao st).names.lookup y.1=some .cell∧((cellsFrom (s.heap.objs.size+1) (ao st).names []).lookup y.1).isSome=true):=by
  rintro⟨n,v⟩ hy
  rcases S.par n (List.of_mem_zip hy).1 with q|q
  ·exact .inl q
  ·exact .inr ⟨q,cellsFrom_some _ _ _ (.inl q)⟩
 refine codeAny_call_function hr.depth (KX _ _ lk) rfl S.co S.gen rfl (codeRec_of KX km) (hb _ _ _ _ ?_)
 refine wpAny_newFunctionEnv_cells S.kind qO fun env he s1 x=>?_
 subst he
 refine⟨lim.keeps x.toInCall.keep,codeAny_func ?_⟩
 have I:=mO (CX:=cF) (E:=E) (N:=N) S hr.hd e0 (by rw[hl,hn]) r x
 refine wpAny_mono (eS A outer s H E (hr.deeper _) [] s1 (start N vs) H _ (I.ko _) Kv) (fun fl s' hs=>?_) fun e s' hs=>False.elim hs
 replace hs:SP ((gR cF P w K mg base N qual (ao st) f (.ref c) A outer s H E).less g) _ _ fl s':=SP.gY (X:=(gR cF P w K mg base N qual (ao st) f (.ref c) A outer s H E).less g) hs
 have fin:∀{σ':St}{H':Hp}{v:V}{u:Value},Inv ((gR cF P w K mg base N qual (ao st) f (.ref c) A outer s H E).less g) [] σ' H' s'→RelV v u→Q v H'→CE outer P w H s Q u s':=
  fun {σ' H' v u} J rv q=>⟨v,H',J.os,J.bare,J.base,J.aO,rv,q⟩
 cases fl with
 |ret u=>
  obtain⟨v,σ',H',J,rv,q⟩:=hs
  exact fin J rv q
 |next=>
  obtain⟨σ',H',J,q⟩:=hs
  exact fin (v:=V.bL) (u:=Value.none) J rfl q
 |brk=>
  obtain⟨_,_,_,q⟩:=hs
  exact False.elim q
 |cont=>
  obtain⟨_,_,_,q⟩:=hs
  exact False.elim q
end
def gU(k:Nat)(st:Stmt):Expr:=match (aL st)[k]? with
 |some (.Assign _ v _)=>v
 |_=>.Constant .none 0 ⟨0,0,0,0⟩
def sh(st:Stmt):Expr:=match (aL st).getLast? with
 |some (.Return (some (.Compare (.Call _ (_::l::_) _ _) _ _ _)) _)=>l
 |_=>.Constant .none 0 ⟨0,0,0,0⟩
theorem vw{X:Cx}:∀q∈([]:List (Qm.aS×Qm.FN)),vf X q.1 q.2:=fun q hq=>nomatch hq
theorem fL{X:Cx}{t:Qm.aS}{F:Qm.FN}{k:Nat}{l:List (Qm.aS×Qm.FN)}(h:oQ X.prog X.w X.K X.mg X.base k t F)(hr:cS k X.A)(r:∀q∈l,vf X q.1 q.2):∀q∈(t,F)::l,vf X q.1 q.2:=fun q hq=>by
 rcases List.mem_cons.mp hq with rfl|hq
 ·exact⟨k,h,hr⟩
 ·exact r q hq
structure Og(K:Frag)(P0 P1:Addr)(a b c:Qm.aS):Prop where
 h0:codeHdIn K a.code P0=true
 h1:codeHdIn K c.code P1=true
 cd:b.code=a.code
 ql:b.qual=a.qual
 ab:a≠b
 ac:a≠c
 bc:b≠c
def GP(P0 P1:Addr)(K:Frag)(F:Qm.aS→Qm.aS→Qm.aS→Nat→Qm.FN):Sp:=fun vs H Q E=>∀(τ:Nat) (a b c:Qm.aS),Og K P0 P1 a b c→ei K (F a b c τ) vs H Q E
theorem DR{K:Frag}{F:Qm.aS→Qm.aS→Qm.aS→Nat→Qm.FN}{ts:List Addr}{P0 P1:Addr}{H:Hp}{l:Addr}{ns:List Int}(hO:vj ts H)(m0:P0∈ts)(m1:P1∈ts)(jB:P0≠P1)(hS:cD K H l (ns.map V.int))
  (h:∀(τ:Nat) (a b c:Qm.aS),b.code=a.code→b.qual=a.qual→a≠b→a≠c→b≠c→∃c',F a b c τ [.ref 0] [.ro (ns.map Qm.D.int),.tab a.code a.qual,.tab c.code c.qual]=some (.bl true,c')):
  GP P0 P1 K F [.ref l] H (fun v _=>v= .bl true) fun _ _ _=>False:=by
 intro τ a b t L
 obtain⟨c',h⟩:=h τ a b t L.cd L.ql L.ab L.ac L.bc
 have GR:zX K H l (ns.map V.int):=by
  rcases hS with(h|⟨o,h⟩)|h
  ·by_cases hb:l∈ts
   ·rw[hO.1 l hb]at h;cases h
   ·rcases hO.2 l hb with z|⟨o,ys,z⟩
    ·rw[z]at h;cases h
    ·rw[z]at h;cases h
  ·exact .inl ⟨o,h⟩
  ·exact .inr (.inr h)
 have zs:∀(ρ:Nat→Addr) (ms:List Int),RA K ρ 3 H (ms.map Qm.D.int) (ms.map V.int):=fun ρ ms=>by
  induction ms with
  |nil=>exact .nil
  |cons m ms ih=>exact .cons (.int m) ih
 refine⟨fun i=>if i=0 then l else if i=1 then P0 else P1,[.ro (ns.map Qm.D.int),.tab a.code a.qual,.tab t.code t.qual],[.ref 0],.bl true,c',⟨fun i j z y h1 h2 e1 e2 e=>?_,fun n z hz=>?_⟩,.cons (.ref (n:=0) (by simp)) .nil,h,fun aM v H' n r=>r.qa⟩
 ·have two:∀(i:Nat) (z:Qm.Cell),([.ro (ns.map Qm.D.int),.tab a.code a.qual,.tab t.code t.qual]:Qm.Cells)[i]? =some z→z.mt=true→i=1∨i=2:=fun i z h m=>by
   match i,h with
   |0,h=>
    have:z= .ro (ns.map Qm.D.int):=by simpa using h.symm
    subst this
    cases m
   |1,_=>exact .inl rfl
   |2,_=>exact .inr rfl
   |i+3,h=>simp at h
  rcases two i z h1 e1 with rfl|rfl<;>rcases two j y h2 e2 with rfl|rfl
  ·rfl
  ·exact absurd e jB
  ·exact absurd e.symm jB
  ·rfl
 ·match n,hz with
  |0,hz=>
   have:z= .ro (ns.map Qm.D.int):=by simpa using hz.symm
   subst this
   exact⟨_,GR,zs _ ns⟩
  |1,hz=>
   have:z= .tab a.code a.qual:=by simpa using hz.symm
   subst this
   exact⟨L.h0,#[],hO.1 P0 m0,trivial,fun pos cv e=>by simp[codeAmong]at e⟩
  |2,hz=>
   have:z= .tab t.code t.qual:=by simpa using hz.symm
   subst this
   exact⟨L.h1,#[],hO.1 P1 m1,trivial,fun pos cv e=>by simp[codeAmong]at e⟩
  |n+3,hz=>simp at hz
end L2
namespace My
abbrev T3:=Int×Int×Int
def xu(p:T3):Prop:=tE p.1 p.2.1 p.2.2
def dG(p q:T3):Bool:=JM p.1 p.2.1 p.2.2 q.1 q.2.1 q.2.2
theorem si{p q:T3}:dG p q=true↔p.1*q.2.2<q.1*p.2.2∨(p.1*q.2.2=q.1*p.2.2∧p.2.1*q.2.2<q.2.1*p.2.2):=by
 unfold dG JM
 split
 ·rename_i h
  simp only[decide_eq_true_eq]
  constructor
  ·exact fun z=>.inr ⟨h,z⟩
  ·rintro(z|z)
   ·omega
   ·exact z.2
 ·rename_i h
  simp only[decide_eq_true_eq]
  constructor
  ·exact fun z=>.inl z
  ·rintro(z|z)
   ·exact z
   ·exact absurd z.1 h
theorem DS(p:T3):dG p p=false:=by
 cases h:dG p p with
 |false=>rfl
 |true=>
  rcases si.mp h with z|z
  ·omega
  ·omega
theorem o6{p q:T3}(h:dG p q=true):dG q p=false:=by
 cases h2:dG q p with
 |false=>rfl
 |true=>
  rw[si]at h h2
  rcases h with h|h<;>rcases h2 with h2|h2<;>omega
def Oh(l:List T3)(k:Nat):List T3:=l.drop k++l.take k
end My
namespace My
abbrev P2:=Int×Int
def cr(a b:P2):Int:=a.1*b.2 - b.1*a.2
def ch:List P2→Int
 |a::b::l=>cr a b+ch (b::l)
 |_=>0
def cz:List (P2×P2)→Int
 |[]=>0
 |z::l=>cr z.1 z.2+cz l
end My
set_option maxHeartbeats 2000000
namespace My
def GS(p q:T3):P2:=(q.1*p.2.2 - p.1*q.2.2,q.2.1*p.2.2 - p.2.1*q.2.2)
def Oi(a b:P2):Int:=a.1*b.2 - a.2*b.1
def Sz(a b:P2):Bool:=decide (Oi a b=0)&&(decide (a.1*b.1≤0)&&decide (a.2*b.2≤0))
def rI(y v k:Int):Int:=if decide (y<0)=decide (v<0)then 0 else if 0<k then(if y<0 then 1 else 0)else(if y<0 then 0 else -1)
def SA(a b:P2):Int:=rI a.2 b.2 (Oi a b)
theorem uR{a:Int}(h:a=0):¬a<0:=by omega
def sm(f:T3→T3→Int):List (T3×T3)→Int
 |[]=>0
 |z::zs=>f z.1 z.2+sm f zs
def an(f:T3→T3→Bool)(zs:List (T3×T3)):Bool:=zs.any fun z=>f z.1 z.2
def tq(q:T3→Int):List T3→Int
 |[]=>0
 |x::xs=>q x+tq q xs
def Oj(p a b:T3):Bool:=Sz (GS p a) (GS p b)
def Ol(p a b:T3):Int:=SA (GS p a) (GS p b)
def wh(l:List T3)(p:T3):Int:=if an (Oj p) (l.zip (Oh l 1))=true then 0 else if sm (Ol p) (l.zip (Oh l 1))=0 then -1 else 1
end My
set_option maxHeartbeats 2000000
namespace My
inductive Om where
 |none|IJ(p:T3)|DT(p q:T3)
 deriving DecidableEq
def BD(a b c:T3):Int:=det a.1 a.2.1 a.2.2 b.1 b.2.1 b.2.2 c.1 c.2.1 c.2.2
def fw(a b:T3):T3×T3:=if dG a b=true then(a,b)else(b,a)
def Oo(l r:T3×T3):Om:=
 let p:=if dG l.1 r.1=true then r.1 else l.1
 let q:=if dG l.2 r.2=true then l.2 else r.2
 if p=q then .IJ p else if dG p q=true then .DT p q else .none
def mX(a b c d:T3):Int:=m0 a.1 a.2.1 a.2.2 b.1 b.2.1 b.2.2 c.1 c.2.1 c.2.2 d.1 d.2.1 d.2.2
def mY(a b c d:T3):Int:=m1 a.1 a.2.1 a.2.2 b.1 b.2.1 b.2.2 c.1 c.2.1 c.2.2 d.1 d.2.1 d.2.2
def mW(a b c d:T3):Int:=m2 a.1 a.2.1 a.2.2 b.1 b.2.1 b.2.2 c.1 c.2.1 c.2.2 d.1 d.2.1 d.2.2
def spT(x y w:Int):T3:=(sx x y w,sy x y w,sw x y w)
def cm(a b c d:T3):Om:=
 if sgn (BD a b c)=0∧sgn (BD a b d)=0 then Oo (fw a b) (fw c d)
 else if 0<sgn (BD a b c)*sgn (BD a b d)∨0<sgn (BD c d a)*sgn (BD c d b)then .none
 else .IJ (spT (mX a b c d) (mY a b c d) (mW a b c d))
def le(p q:T3):Prop:=dG q p=false
theorem BE{p q:T3}(h:dG p q=true):le p q:=o6 h
theorem le_refl(p:T3):le p p:=DS p
theorem KS{l r:T3}(hl:xu l)(hr:xu r):le l (if dG l r=true then r else l)∧le r (if dG l r=true then r else l)∧((if dG l r=true then r else l)=l∨(if dG l r=true then r else l)=r):=by
 by_cases h:dG l r=true
 ·rw[if_pos h];exact⟨BE h,le_refl _,.inr rfl⟩
 ·rw[if_neg h];exact⟨le_refl _,by unfold le;simpa using h,.inl rfl⟩
def SD(u v:P2):Bool:=if u.1=v.1 then(if u.2=v.2 then false else decide (u.2 > v.2))else decide (u.1 > v.1)
def oV(u v:P2):P2×P2:=if SD u v=true then(v,u)else(u,v)
def sc(k:Int)(p:T3):P2:=(p.1*k,p.2.1*k)
theorem om{W k:Int}{p:T3}(hW: 0<W)(hp:xu p)(e1:k*p.2.2=W):spT (sc k p).1 (sc k p).2 W=p:=by
 unfold sc spT
 dsimp only
 have pp:=hp.pos
 obtain⟨z1,z2,z3⟩:=qZ (x:=p.1*k) (y:=p.2.1*k) (w:=W) (x':=p.1) (y':=p.2.1) (w':=p.2.2) (by omega) (by omega) (by rw[←e1];grind) (by rw[←e1];grind)
 obtain⟨y1,y2,y3⟩:=q_ hp
 rw[z1,z2,z3,y1,y2,y3]
end My
namespace Qm
open PySem
section
variable{σ:Env}{c c':Cells}{d:D}{i j:Int}{b:Bool}{xs ys:List D}
@[simp] theorem Oq:eC d σ c=some (d,c):=rfl
@[simp] theorem GU{k:Nat}:eV k σ c=(σ[k]?.join).bind fun d=>some (d,c):=rfl
@[simp] theorem SE{g:G1}{a:XE}:e1 g a σ c=(a σ c).bind fun p=>g p.1 p.2:=rfl
@[simp] theorem Ot{g:G2}{a b:XE}:e2 g a b σ c=(a σ c).bind fun p=>(b σ p.2).bind fun q=>g p.1 q.1 q.2:=rfl
@[simp] theorem Ou:mj (.bl b)=some b:=rfl
@[simp] theorem Ov:oJ (.int i)=some i:=rfl
@[simp] theorem KW{a b:XE}:rz a b σ c=(a σ c).bind fun p=>(mj p.1).bind fun k=>if k=true then b σ p.2 else some (.bl false,p.2):=rfl
@[simp] theorem Ow{a b:XE}:JY a b σ c=(a σ c).bind fun p=>(mj p.1).bind fun k=>if k=true then some (.bl true,p.2)else b σ p.2:=rfl
@[simp] theorem KY{a:XE}:C1 a σ c=(a σ c).bind fun p=>(mj p.1).bind fun k=>some (.bl (!k),p.2):=rfl
@[simp] theorem Ox{t:XT}{a b:XE}:JZ t a b σ c=(t σ c).bind fun p=>if p.1=true then a σ p.2 else b σ p.2:=rfl
@[simp] theorem DU:aj σ c=some ([],c):=rfl
@[simp] theorem An{a:XE}{r:XA}:af a r σ c=(a σ c).bind fun p=>(r σ p.2).bind fun q=>some (p.1::q.1,q.2):=rfl
@[simp] theorem KZ{a:XA}:iC a σ c=(a σ c).bind fun p=>if p.1.length≤dh then some (.tup p.1,p.2)else none:=rfl
@[simp] theorem K0{a:XA}:gS a σ c=(a σ c).bind fun p=>if p.1.length≤dh then some (.ref p.2.length,p.2++[.lst p.1])else none:=rfl
@[simp] theorem GV{F:FN}{ds:List D}{a:XA}:az F ds a σ c=(a σ c).bind fun p=>F (p.1++ds) p.2:=rfl
@[simp] theorem SF{F:FN}{a:XA}:eB F a σ c=(a σ c).bind fun p=>F p.1 p.2:=rfl
@[simp] theorem SG{g:D→FN}{o:XE}{a:XA}:eM g o a σ c=(o σ c).bind fun p=>(bq p.1 p.2).bind fun _=>(a σ p.2).bind fun q=>g p.1 q.1 q.2:=rfl
@[simp] theorem GW:yA σ c=some (none,c):=rfl
@[simp] theorem Oy{g}{a:XE}{lo hi:XO}:yB g a lo hi σ c=(a σ c).bind fun p=>(lo σ p.2).bind fun l=>(hi σ l.2).bind fun h=>g p.1 l.1 h.1 h.2:=rfl
@[simp] theorem GX{a:XE}:tV a σ c=(a σ c).bind fun p=>(mj p.1).bind fun k=>some (k,p.2):=rfl
@[simp] theorem zi{a b:XT}:gQ a b σ c=(a σ c).bind fun p=>if p.1=true then b σ p.2 else some (false,p.2):=rfl
@[simp] theorem Oz{a b:XT}:l_ a b σ c=(a σ c).bind fun p=>if p.1=true then some (true,p.2)else b σ p.2:=rfl
@[simp] theorem zj{a:XT}:eY a σ c=(a σ c).bind fun p=>some (!p.1,p.2):=rfl
@[simp] theorem K1:eF σ c=some (true,c):=rfl
@[simp] theorem DV{g h:G2}{a b e:XE}:Gb g h a b e σ c=(a σ c).bind fun p=>(b σ p.2).bind fun q=>(g p.1 q.1 q.2).bind fun z=>(mj z.1).bind fun k=>if k=true then(e σ z.2).bind fun u=>h q.1 u.1 u.2 else some (.bl false,z.2):=rfl
@[simp] theorem K2:bW σ c=some (.nx,σ,c):=rfl
@[simp] theorem DW{k:Nat}{e:XE}:aK k e σ c=(e σ c).bind fun p=>some (.nx,σ.set k (some p.1),p.2):=rfl
@[simp] theorem K5{e:XE}{g:XG}:wK e g σ c=(e σ c).bind fun p=>(g p.1 σ p.2).bind fun q=>some (.nx,q.1,q.2):=rfl
@[simp] theorem K7{is:List Nat}{a:XA}:iW is a σ c=(a σ c).bind fun p=>if p.1.length=is.length then some (.nx,(is.zip p.1).foldl (fun σ q=>σ.set q.1 (some q.2)) σ,p.2)else none:=rfl
@[simp] theorem xw{t:XT}{a b:XS}:cY t a b σ c=(t σ c).bind fun p=>if p.1=true then a σ p.2 else b σ p.2:=rfl
@[simp] theorem K8{e:XE}:bt e σ c=(e σ c).bind fun p=>some (.rt p.1,σ,p.2):=rfl
@[simp] theorem GY{e:XE}:d5 e σ c=(e σ c).bind fun p=>some (.nx,σ,p.2):=rfl
@[simp] theorem qr{k:Nat}:aI k d σ c=some (σ.set k (some d),c):=rfl
@[simp] theorem K9:jv [] σ c=some (σ,c):=rfl
@[simp] theorem GZ{g:XG}{r:tH}:cE g r (d::xs) σ c=(g d σ c).bind fun p=>r xs p.1 p.2:=rfl
@[simp] theorem K_{n:Nat}{g:tH}:jw n g (.tup xs) σ c=if xs.length=n then g xs σ c else none:=rfl
def sq(b:XS)(p:Fl×Env×Cells):Option (Fl×Env×Cells):=match p.1 with
 |.nx=>b p.2.1 p.2.2
 |_=>some p
@[simp] theorem sj{a b:XS}:av a b σ c=(a σ c).bind (sq b):=rfl
@[simp] theorem DX{b:XS}:sq b (.nx,σ,c)=b σ c:=rfl
@[simp] theorem Lb{b:XS}:sq b (.rt d,σ,c)=some (.rt d,σ,c):=rfl
def fin(p:Fl×Env×Cells):Option (D×Cells):=match p.1 with
 |.rt d=>some (d,p.2.2)
 |.nx=>some (.bL,p.2.2)
 |_=>none
theorem iK{n N:Nat}{b:XS}{ds:List D}:gw n N b ds c=if ds.length=n then(b (ds.map some++List.replicate (N - n) none) c).bind fin else none:=rfl
@[simp] theorem G0:fin (.rt d,σ,c)=some (d,c):=rfl
@[simp] theorem G3:fin (.nx,σ,c)=some (.bL,c):=rfl
theorem vx{f:Int→Int→Option D}:ii f (.int i) (.int j) c=(f i j).bind fun d=>some (d,c):=rfl
@[simp] theorem Lc:bR (.int i) (.int j) c=some (.int (i - j),c):=rfl
@[simp] theorem DY:cp (.int i) (.int j) c=some (.int (i+j),c):=rfl
@[simp] theorem OA:iD (.int i) (.int j) c=some (.bl (decide (i<j)),c):=rfl
@[simp] theorem OB:RW (.int i) (.int j) c=some (.bl (decide (i≤j)),c):=rfl
@[simp] theorem OC:oK (.int i) (.int j) c=some (.bl (decide (j<i)),c):=rfl
@[simp] theorem OD:RX (.int i) (.int j) c=some (.bl (decide (j≤i)),c):=rfl
@[simp] theorem Ld:t7 (.int i) c=some (.int (-i),c):=rfl
theorem mulL(h:i.natAbs<2 ^ 64):MulOk i j:=Or.inr (Or.inl ⟨h⟩)
theorem mulR(h:j.natAbs<2 ^ 64):MulOk i j:=Or.inr (Or.inr ⟨h⟩)
theorem OE(h:My.Bd 90000 i)(g:My.Bd 90000 j):MulOk i j:=Or.inl ⟨h,g⟩
theorem OF(h:i.natAbs<2 ^ 64):My.Bd 64 i:=⟨h⟩
theorem sk(h:MulOk i j):bh (.int i) (.int j) c=some (.int (i*j),c):=by unfold bh;rw[vx,if_pos h];rfl
theorem qt(h: 0<j)(hb:My.Bd 8900 j):eU (.int i) (.int j) c=some (.int (i / j),c):=by
 unfold eU;rw[vx,if_pos ⟨by omega,hb⟩,Int.fdiv_eq_ediv_of_nonneg i (Int.le_of_lt h)];rfl
theorem vy(h: 0<j):dE (.int i) (.int j) c=some (.int (i % j),c):=by
 unfold dE;rw[vx,if_pos (by omega),Int.fmod_eq_emod_of_nonneg i (Int.le_of_lt h)];rfl
@[simp] theorem o7{k:Nat}:data c (k+1) (.int i)=some (.int i):=by simp[data]
theorem xx:uR (.int i) (.int j) c=some (decide (i=j)):=by
 have:uR (.int i) (.int j) c=(data c 6 (.int i)).bind fun d=>(data c 6 (.int j)).bind fun e=>some (@decide (d=e) (Classical.propDecidable _)):=rfl
 rw[this,o7,o7]
 simp
@[simp] theorem DZ:iE (.int i) (.int j) c=some (.bl (decide (i=j)),c):=by unfold iE;rw[xx];rfl
@[simp] theorem D0:fQ (.int i) (.int j) c=some (.bl (!decide (i=j)),c):=by unfold fQ;rw[xx];rfl
@[simp] theorem G4{k:Bool}:iE (.bl b) (.bl k) c=some (.bl (b==k),c):=rfl
@[simp] theorem G5{k:Bool}:fQ (.bl b) (.bl k) c=some (.bl (!(b==k)),c):=rfl
@[simp] theorem zo:bS (.tup xs) c=some xs:=rfl
theorem bI{n:Nat}(h:c[n]? =some (.lst xs)):bS (.ref n) c=some xs:=by simp[bS,h]
theorem uj{n:Nat}(h:c[n]? =some (.ro xs)):bS (.ref n) c=some xs:=by simp[bS,h]
theorem bu{n:Nat}(h:c[n]? =some (.lst xs)):bq (.ref n) c=some (n,xs):=by simp[bq,h]
theorem iL{x:D}:aH x (.int i) c=(bS x c).bind fun xs=>(gJ xs i).bind fun d=>some (d,c):=rfl
@[simp] theorem D1:aH (.tup xs) (.int i) c=(gJ xs i).bind fun d=>some (d,c):=rfl
@[simp] theorem D2{α:Type}{x:α}{xs:List α}:gJ (x::xs) 0=some x:=by simp[gJ,pZ]
@[simp] theorem D3{α:Type}{x y:α}{xs:List α}:gJ (x::y::xs) 1=some y:=by
 have h:(1:Int)<((x::y::xs).length:Int):=by simp only[List.length_cons];omega
 unfold gJ pZ
 rw[if_pos (by decide),if_pos h];rfl
@[simp] theorem Le{α:Type}{x y z:α}{xs:List α}:gJ (x::y::z::xs) 2=some z:=by
 have h:(2:Int)<((x::y::z::xs).length:Int):=by simp only[List.length_cons];omega
 unfold gJ pZ
 rw[if_pos (by decide),if_pos h];rfl
theorem xy{α:Type}{xs:List α}{n:Nat}{x:α}(h:xs[n]? =some x):gJ xs (n:Int)=some x:=by
 have hl:n<xs.length:=(List.getElem?_eq_some_iff.mp h).1
 unfold gJ pZ
 rw[if_pos (by omega),if_pos (by omega)]
 simpa using h
theorem BF{α:Type}{xs:List α}{x:α}:gJ (xs++[x]) (-1)=some x:=by
 unfold gJ pZ
 rw[if_neg (by decide),if_pos (by simp only[List.length_append,List.length_cons,List.length_nil];omega)]
 have:((-1:Int)+((xs++[x]).length:Int)).toNat=xs.length:=by simp only[List.length_append,List.length_cons,List.length_nil];omega
 rw[this]
 simp
@[simp] theorem Lf:d7 [.int i] c=some (.int (if i<0 then -i else i),c):=rfl
@[simp] theorem D4:kA [.bl b] c=some (.int (if b then 1 else 0),c):=rfl
theorem su{x:D}:bM [x] c=(bS x c).bind fun xs=>some (.int xs.length,c):=rfl
@[simp] theorem G6:J2 [.int i,.int j] c=some (.int (if j > i then j else i),c):=rfl
@[simp] theorem G7:J3 [.int i,.int j] c=some (.int (if j<i then j else i),c):=rfl
theorem eL{n:Nat}(h:n≤10000):n≤dh:=Nat.le_trans h (by rw[jA];decide)
@[simp] theorem Lg: 1≤dh:=eL (by decide)
@[simp] theorem Lh: 2≤dh:=eL (by decide)
@[simp] theorem Li: 3≤dh:=eL (by decide)
@[simp] theorem Lj: 4≤dh:=eL (by decide)
@[simp] theorem Ll: 5≤dh:=eL (by decide)
@[simp] theorem Lm: 6≤dh:=eL (by decide)
@[simp] theorem Ln: 7≤dh:=eL (by decide)
@[simp] theorem Lo: 8≤dh:=eL (by decide)
theorem Ao{a:XA}(h:a σ c=some ([.int i,.int j],c'))(h1:i.natAbs<2 ^ 61)(h2:j.natAbs<2 ^ 61):jb a σ c=some (⟨eg i (j - i).toNat,[]⟩,c'):=by
 unfold jb
 rw[h,Option.bind_some]
 dsimp only
 rw[if_pos ⟨⟨by omega,by omega⟩,by omega,by omega⟩]
theorem vz{a:XA}(h:a σ c=some ([.int j],c'))(h2:j.natAbs<2 ^ 61):fB a σ c=some (⟨eg 0 j.toNat,[]⟩,c'):=by
 unfold fB
 rw[h,Option.bind_some]
 dsimp only
 rw[if_pos ⟨by omega,by omega⟩]
theorem eX:stays [] c:=fun _ h=>nomatch h
end
theorem d9{ks:List (Nat×Cell)}{g:XG}{body:XS}(P:Nat→Env→Cells→Prop):
  ∀(ds:List D) (k:Nat) (σ:Env) (c:Cells),(∀i σ c,P i σ c→stays ks c)→(∀i d σ c,ds[i]? =some d→P (k+i) σ c→∃σ1 c1 AX c2,g d σ c=some (σ1,c1)∧body σ1 c1=some (.nx,AX,c2)∧P (k+i+1) AX c2)→
   P k σ c→∃σ' c',fZ ks g body ds σ c=some (.nx,σ',c')∧P (k+ds.length) σ' c'
 |[],k,σ,c,hs,_,h=>⟨σ,c,by unfold fZ;rw[if_pos (hs k σ c h)],h⟩
 |d::ds,k,σ,c,hs,ht,h=>by
  obtain⟨σ1,c1,AX,c2,h1,h2,h3⟩:=ht 0 d σ c rfl h
  obtain⟨σ',c',h4,h5⟩:=d9 P ds (k+1) AX c2 hs (fun i d' σ c hd hp=>by
   have:=ht (i+1) d' σ c (by simpa using hd) (by rw[show k+(i+1)=k+1+i by omega];exact hp)
   rwa[show k+(i+1)+1=k+1+i+1 by omega]at this) h3
  refine⟨σ',c',?_,by rw[show k+(d::ds).length=k+1+ds.length by simp only[List.length_cons];omega];exact h5⟩
  unfold fZ
  rw[if_pos (hs k σ c h),h1]
  simp only[Option.bind_some,h2,h4]
end Qm
namespace xA
open PySem
noncomputable def jY:Qm.XS:=(Qm.av (Qm.cQ (Qm.tV (Qm.e2 Qm.fQ (Qm.eV 1) (Qm.eC (.int 0)))) (Qm.av (Qm.aK 2 (Qm.e2 Qm.dE (Qm.eV 0) (Qm.eV 1)))
   (Qm.av (Qm.aK 0 (Qm.eV 1))
   (Qm.aK 1 (Qm.eV 2)))))
   (Qm.bt (Qm.eB Qm.d7 (Qm.af (Qm.eV 0) Qm.aj))))
noncomputable def dA:Qm.FN:=Qm.gw 2 3 jY
noncomputable def oo:Qm.XS:=(Qm.av (Qm.aK 3 (Qm.az dA [] (Qm.af (Qm.az dA [] (Qm.af (Qm.eV 0) (Qm.af (Qm.eV 2) Qm.aj))) (Qm.af (Qm.eV 1) Qm.aj))))
   (Qm.av (Qm.cY (Qm.tV (Qm.e2 Qm.iD (Qm.eV 2) (Qm.eC (.int 0))))
   (Qm.aK 3 (Qm.e1 Qm.t7 (Qm.eV 3)))
   Qm.bW)
   (Qm.bt (Qm.iC (Qm.af (Qm.e2 Qm.eU (Qm.eV 0) (Qm.eV 3)) (Qm.af (Qm.e2 Qm.eU (Qm.eV 1) (Qm.eV 3)) (Qm.af (Qm.e2 Qm.eU (Qm.eV 2) (Qm.eV 3)) Qm.aj)))))))
noncomputable def dB:Qm.FN:=Qm.gw 3 4 oo
noncomputable def i7:Qm.XS:=(Qm.bt (Qm.e2 Qm.iD (Qm.e2 Qm.bh (Qm.e2 Qm.aH (Qm.eV 0) (Qm.eC (.int 1))) (Qm.e2 Qm.aH (Qm.eV 1) (Qm.eC (.int 2)))) (Qm.e2 Qm.bh (Qm.e2 Qm.aH (Qm.eV 1) (Qm.eC (.int 1))) (Qm.e2 Qm.aH (Qm.eV 0) (Qm.eC (.int 2))))))
noncomputable def d_:Qm.FN:=Qm.gw 2 2 i7
noncomputable def kR:Qm.XS:=(Qm.av (Qm.aK 2 (Qm.e2 Qm.bh (Qm.e2 Qm.aH (Qm.eV 0) (Qm.eC (.int 0))) (Qm.e2 Qm.aH (Qm.eV 1) (Qm.eC (.int 2)))))
   (Qm.av (Qm.aK 3 (Qm.e2 Qm.bh (Qm.e2 Qm.aH (Qm.eV 1) (Qm.eC (.int 0))) (Qm.e2 Qm.aH (Qm.eV 0) (Qm.eC (.int 2)))))
   (Qm.av (Qm.cY (Qm.tV (Qm.e2 Qm.iE (Qm.eV 2) (Qm.eV 3)))
   (Qm.bt (Qm.az d_ [] (Qm.af (Qm.eV 0) (Qm.af (Qm.eV 1) Qm.aj))))
   Qm.bW)
   (Qm.bt (Qm.e2 Qm.iD (Qm.eV 2) (Qm.eV 3))))))
noncomputable def bJ:Qm.FN:=Qm.gw 2 4 kR
noncomputable def ff:Qm.XS:=(Qm.bt (Qm.JY (Qm.e2 Qm.iD (Qm.e2 Qm.bh (Qm.e2 Qm.aH (Qm.eV 0) (Qm.eC (.int 0))) (Qm.e2 Qm.aH (Qm.eV 1) (Qm.eC (.int 2)))) (Qm.e2 Qm.bh (Qm.e2 Qm.aH (Qm.eV 1) (Qm.eC (.int 0))) (Qm.e2 Qm.aH (Qm.eV 0) (Qm.eC (.int 2))))) (Qm.rz (Qm.e2 Qm.iE (Qm.e2 Qm.bh (Qm.e2 Qm.aH (Qm.eV 0) (Qm.eC (.int 0))) (Qm.e2 Qm.aH (Qm.eV 1) (Qm.eC (.int 2)))) (Qm.e2 Qm.bh (Qm.e2 Qm.aH (Qm.eV 1) (Qm.eC (.int 0))) (Qm.e2 Qm.aH (Qm.eV 0) (Qm.eC (.int 2))))) (Qm.e2 Qm.iD (Qm.e2 Qm.bh (Qm.e2 Qm.aH (Qm.eV 0) (Qm.eC (.int 1))) (Qm.e2 Qm.aH (Qm.eV 1) (Qm.eC (.int 2)))) (Qm.e2 Qm.bh (Qm.e2 Qm.aH (Qm.eV 1) (Qm.eC (.int 1))) (Qm.e2 Qm.aH (Qm.eV 0) (Qm.eC (.int 2))))))))
noncomputable def bK:Qm.FN:=Qm.gw 2 2 ff
noncomputable def eu:Qm.FN:=Qm.pO 2 (Qm.az bK [] (Qm.af (Qm.e2 Qm.aH (Qm.eV 0) (Qm.eC (.int 0))) (Qm.af (Qm.e2 Qm.aH (Qm.eV 1) (Qm.eC (.int 0))) Qm.aj)))
noncomputable def ez:Qm.FN:=Qm.pO 3 (Qm.e2 Qm.iD (Qm.e2 Qm.aH (Qm.e2 Qm.aH (Qm.eV 0) (Qm.eC (.int 0))) (Qm.eV 2)) (Qm.e2 Qm.aH (Qm.e2 Qm.aH (Qm.eV 1) (Qm.eC (.int 0))) (Qm.eV 2)))
noncomputable def eD:Qm.FN:=Qm.pO 2 (Qm.e2 Qm.iD (Qm.e2 Qm.aH (Qm.eV 0) (Qm.eC (.int 0))) (Qm.e2 Qm.aH (Qm.eV 1) (Qm.eC (.int 0))))
noncomputable def lU(cI cZ cN:Qm.aS)(aP:Nat):Qm.XS:=(Qm.av (Qm.aK 3 (Qm.gS Qm.aj))
   (Qm.av (Qm.aK 4 (Qm.eC (.int 0)))
   (Qm.av (Qm.gu (Qm.fR (Qm.eV 1)) (Qm.aI 5)
   (Qm.av (Qm.cQ (Qm.gQ (Qm.tV (Qm.e2 Qm.iD (Qm.eV 4) (Qm.eB Qm.bM (Qm.af (Qm.eV 0) Qm.aj)))) (Qm.eY (Qm.tV (Qm.eP [(aP,bJ)] [(cI,eu),(cZ,ez),(cN,eD)] (Qm.eV 2) (Qm.af (Qm.eV 5) (Qm.af (Qm.e2 Qm.aH (Qm.eV 0) (Qm.eV 4)) Qm.aj)))))) (Qm.av (Qm.d5 (Qm.eM Qm.cc (Qm.eV 3) (Qm.af (Qm.e2 Qm.aH (Qm.eV 0) (Qm.eV 4)) Qm.aj)))
   (Qm.aK 4 (Qm.e2 Qm.cp (Qm.eV 4) (Qm.eC (.int 1))))))
   (Qm.d5 (Qm.eM Qm.cc (Qm.eV 3) (Qm.af (Qm.eV 5) Qm.aj)))))
   (Qm.av (Qm.d5 (Qm.eM Qm.kB (Qm.eV 3) (Qm.af (Qm.yB Qm.kz (Qm.eV 0) (Qm.gH (Qm.eV 4)) Qm.yA) Qm.aj)))
   (Qm.bt (Qm.eV 3))))))
noncomputable def fj(cI cZ cN:Qm.aS)(aP:Nat):Qm.FN:=Qm.gw 3 6 (lU cI cZ cN aP)
noncomputable def dH(cI cZ cN:Qm.aS)(aP:Nat):Qm.XS:=(Qm.av (Qm.aK 2 (Qm.cV (Qm.u_ (Qm.af (Qm.eC (.int 0)) (Qm.af (Qm.e2 Qm.bR (Qm.eB Qm.bM (Qm.af (Qm.eV 0) Qm.aj)) (Qm.eC (.int 1))) (Qm.af (Qm.eC (.int 2)) Qm.aj)))) [none,some 1,some 0] (Qm.aI 0) Qm.eF (Qm.az (fj cI cZ cN aP) [] (Qm.af (Qm.e2 Qm.aH (Qm.eV 2) (Qm.eV 0)) (Qm.af (Qm.e2 Qm.aH (Qm.eV 2) (Qm.e2 Qm.cp (Qm.eV 0) (Qm.eC (.int 1)))) (Qm.af (Qm.eV 1) Qm.aj))))))
   (Qm.av (Qm.cY (Qm.tV (Qm.e2 Qm.iE (Qm.e2 Qm.dE (Qm.eB Qm.bM (Qm.af (Qm.eV 0) Qm.aj)) (Qm.eC (.int 2))) (Qm.eC (.int 1))))
   (Qm.d5 (Qm.eM Qm.cc (Qm.eV 2) (Qm.af (Qm.e2 Qm.aH (Qm.eV 0) (Qm.e1 Qm.t7 (Qm.eC (.int 1)))) Qm.aj)))
   Qm.bW)
   (Qm.bt (Qm.eV 2))))
noncomputable def bV(cI cZ cN:Qm.aS)(aP:Nat):Qm.FN:=Qm.gw 2 3 (dH cI cZ cN aP)
noncomputable def gD(cI cZ cN:Qm.aS)(aP:Nat):Qm.XS:=(Qm.av (Qm.aK 2 (Qm.cV (Qm.fR (Qm.eV 0)) [none] (Qm.aI 0) Qm.eF (Qm.gS (Qm.af (Qm.eV 0) Qm.aj))))
   (Qm.av (Qm.cQ (Qm.tV (Qm.e2 Qm.oK (Qm.eB Qm.bM (Qm.af (Qm.eV 2) Qm.aj)) (Qm.eC (.int 1)))) (Qm.aK 2 (Qm.az (bV cI cZ cN aP) [] (Qm.af (Qm.eV 2) (Qm.af (Qm.eV 1) Qm.aj)))))
   (Qm.bt (Qm.JZ (Qm.tV (Qm.e2 Qm.iE (Qm.eB Qm.bM (Qm.af (Qm.eV 2) Qm.aj)) (Qm.eC (.int 1)))) (Qm.e2 Qm.aH (Qm.eV 2) (Qm.eC (.int 0))) (Qm.gS Qm.aj)))))
noncomputable def bj(cI cZ cN:Qm.aS)(aP:Nat):Qm.FN:=Qm.gw 2 3 (gD cI cZ cN aP)
noncomputable def fk:Qm.XS:=(Qm.av (Qm.aK 2 (Qm.eC (.int 0)))
   (Qm.av (Qm.cY (Qm.tV (Qm.e2 Qm.iD (Qm.eV 1) (Qm.eB Qm.bM (Qm.af (Qm.eV 0) Qm.aj))))
   (Qm.aK 2 (Qm.e2 Qm.aH (Qm.eV 0) (Qm.eV 1)))
   Qm.bW)
   (Qm.av (Qm.aK 3 (Qm.e2 Qm.cp (Qm.e2 Qm.cp (Qm.e2 Qm.dE (Qm.eB Qm.d7 (Qm.af (Qm.eV 2) Qm.aj)) (Qm.eC (.int 2305843009213693951))) (Qm.e2 Qm.bh (Qm.eC (.int 7919)) (Qm.eV 1))) (Qm.eC (.int 5))))
   (Qm.av (Qm.aK 4 (Qm.eC (.int 0)))
   (Qm.av (Qm.gu (Qm.fB (Qm.af (Qm.eC (.int 12)) Qm.aj)) (Qm.aI 5)
   (Qm.av (Qm.aK 3 (Qm.e2 Qm.cp (Qm.e2 Qm.bh (Qm.eV 3) (Qm.eC (.int 6364136223846793005))) (Qm.e2 Qm.bh (Qm.eC (.int 1442695040888963407)) (Qm.e2 Qm.cp (Qm.e2 Qm.cp (Qm.eV 1) (Qm.eV 5)) (Qm.eC (.int 1))))))
   (Qm.av (Qm.aK 3 (Qm.e2 Qm.dE (Qm.eV 3) (Qm.eC (.int 2305843009213693951))))
   (Qm.av (Qm.aK 6 (Qm.e2 Qm.bh (Qm.e2 Qm.eU (Qm.eV 3) (Qm.eC (.int 1024))) (Qm.e2 Qm.cp (Qm.e2 Qm.cp (Qm.e2 Qm.dE (Qm.eV 3) (Qm.eC (.int 1000003))) (Qm.e2 Qm.bh (Qm.eC (.int 7919)) (Qm.eV 5))) (Qm.eC (.int 1)))))
   (Qm.aK 4 (Qm.e2 Qm.cp (Qm.e2 Qm.bh (Qm.eV 4) (Qm.eC (.int 1099511627776))) (Qm.e2 Qm.dE (Qm.eV 6) (Qm.eC (.int 1099511627776)))))))))
   (Qm.av (Qm.aK 7 (Qm.e2 Qm.bh (Qm.eB Qm.d7 (Qm.af (Qm.eV 2) Qm.aj)) (Qm.eB Qm.kA (Qm.af (Qm.rz (Qm.e2 Qm.oK (Qm.eB Qm.bM (Qm.af (Qm.eV 0) Qm.aj)) (Qm.eC (.int 0))) (Qm.e2 Qm.iE (Qm.e2 Qm.dE (Qm.e2 Qm.aH (Qm.eV 0) (Qm.eC (.int 0))) (Qm.eC (.int 2))) (Qm.eC (.int 1)))) Qm.aj))))
   (Qm.bt (Qm.gS (Qm.af (Qm.eV 7) (Qm.af (Qm.eV 4) Qm.aj))))))))))
noncomputable def bE:Qm.FN:=Qm.gw 2 8 fk
noncomputable def fM:Qm.XS:=(Qm.av (Qm.aK 2 (Qm.eB Qm.kA (Qm.af (Qm.e2 Qm.iE (Qm.e2 Qm.aH (Qm.eV 0) (Qm.eC (.int 0))) (Qm.eC (.int 0))) Qm.aj)))
   (Qm.av (Qm.aK 3 (Qm.e2 Qm.dE (Qm.e2 Qm.aH (Qm.eV 0) (Qm.eV 2)) (Qm.eV 1)))
   (Qm.av (Qm.wK (Qm.e2 Qm.eU (Qm.e2 Qm.aH (Qm.eV 0) (Qm.eV 2)) (Qm.eV 1)) (Qm.zW (Qm.eV 0) (Qm.eV 2)))
   (Qm.bt (Qm.eV 3)))))
noncomputable def ar:Qm.FN:=Qm.gw 2 4 fM
noncomputable def h_:Qm.XS:=(Qm.bt (Qm.rz (Qm.eB Qm.cM (Qm.af (Qm.eV 0) (Qm.af (Qm.eC (.ty "int")) Qm.aj))) (Qm.C1 (Qm.eB Qm.cM (Qm.af (Qm.eV 0) (Qm.af (Qm.eC (.ty "bool")) Qm.aj))))))
noncomputable def cJ:Qm.FN:=Qm.gw 1 1 h_
noncomputable def dC:Qm.XS:=(Qm.av (Qm.aK 1 (Qm.az ar [] (Qm.af (Qm.eV 0) (Qm.af (Qm.eC (.int 5)) Qm.aj))))
   (Qm.av (Qm.cY (Qm.tV (Qm.e2 Qm.iD (Qm.eV 1) (Qm.eC (.int 2))))
   (Qm.bt (Qm.e2 Qm.bR (Qm.az ar [] (Qm.af (Qm.eV 0) (Qm.af (Qm.eC (.int 9)) Qm.aj))) (Qm.eC (.int 4))))
   Qm.bW)
   (Qm.av (Qm.cY (Qm.tV (Qm.e2 Qm.iE (Qm.eV 1) (Qm.eC (.int 2))))
   (Qm.bt (Qm.e2 Qm.bR (Qm.az ar [] (Qm.af (Qm.eV 0) (Qm.af (Qm.eC (.int 1999999)) Qm.aj))) (Qm.eC (.int 999999))))
   Qm.bW)
   (Qm.av (Qm.cY (Qm.tV (Qm.e2 Qm.iE (Qm.eV 1) (Qm.eC (.int 3))))
   (Qm.bt (Qm.e2 Qm.bh (Qm.e2 Qm.bR (Qm.eC (.int 999999)) (Qm.az ar [] (Qm.af (Qm.eV 0) (Qm.af (Qm.eC (.int 3)) Qm.aj)))) (Qm.e2 Qm.bR (Qm.eC (.int 1)) (Qm.e2 Qm.bh (Qm.eC (.int 2)) (Qm.az ar [] (Qm.af (Qm.eV 0) (Qm.af (Qm.eC (.int 2)) Qm.aj)))))))
   Qm.bW)
   (Qm.bt (Qm.e2 Qm.bR (Qm.az ar [] (Qm.af (Qm.eV 0) (Qm.af (Qm.e2 Qm.cp (Qm.e2 Qm.bh (Qm.eC (.int 2)) (Qm.e2 Qm.d6 (Qm.eC (.int 10)) (Qm.eC (.int 30)))) (Qm.eC (.int 1))) Qm.aj))) (Qm.e2 Qm.d6 (Qm.eC (.int 10)) (Qm.eC (.int 30)))))))))
noncomputable def bG:Qm.FN:=Qm.gw 1 2 dC
noncomputable def ic:Qm.XS:=(Qm.av (Qm.aK 1 (Qm.az ar [] (Qm.af (Qm.eV 0) (Qm.af (Qm.eC (.int 5)) Qm.aj))))
   (Qm.bt (Qm.e2 Qm.cp (Qm.eC (.int 1)) (Qm.az ar [] (Qm.af (Qm.eV 0) (Qm.af (Qm.e2 Qm.aH (Qm.gS (Qm.af (Qm.eC (.int 1)) (Qm.af (Qm.eC (.int 1)) (Qm.af (Qm.eC (.int 9)) (Qm.af (Qm.eC (.int 999999)) (Qm.af (Qm.e2 Qm.d6 (Qm.eC (.int 10)) (Qm.eC (.int 30))) Qm.aj)))))) (Qm.eV 1)) Qm.aj))))))
noncomputable def cK:Qm.FN:=Qm.gw 1 2 ic
noncomputable def gq:Qm.XS:=(Qm.av (Qm.aK 0 (Qm.eB Qm.d7 (Qm.af (Qm.eV 0) Qm.aj)))
   (Qm.av (Qm.aK 1 (Qm.eB Qm.d7 (Qm.af (Qm.eV 1) Qm.aj)))
   (Qm.av (Qm.cQ (Qm.tV (Qm.e2 Qm.oK (Qm.eV 1) (Qm.eC (.int 0)))) (Qm.iW [0,1] (Qm.af (Qm.eV 1) (Qm.af (Qm.e2 Qm.dE (Qm.eV 0) (Qm.eV 1)) Qm.aj))))
   (Qm.bt (Qm.eV 0)))))
noncomputable def cx:Qm.FN:=Qm.gw 2 2 gq
noncomputable def eO:Qm.XS:=(Qm.av (Qm.cY (Qm.tV (Qm.e2 Qm.iD (Qm.eV 2) (Qm.eC (.int 0))))
   (Qm.iW [0,1,2] (Qm.af (Qm.e2 Qm.bR (Qm.eC (.int 0)) (Qm.eV 0)) (Qm.af (Qm.e2 Qm.bR (Qm.eC (.int 0)) (Qm.eV 1)) (Qm.af (Qm.e2 Qm.bR (Qm.eC (.int 0)) (Qm.eV 2)) Qm.aj))))
   Qm.bW)
   (Qm.av (Qm.aK 3 (Qm.az cx [] (Qm.af (Qm.az cx [] (Qm.af (Qm.eV 0) (Qm.af (Qm.eV 1) Qm.aj))) (Qm.af (Qm.eV 2) Qm.aj))))
   (Qm.bt (Qm.iC (Qm.af (Qm.e2 Qm.eU (Qm.eV 0) (Qm.eV 3)) (Qm.af (Qm.e2 Qm.eU (Qm.eV 1) (Qm.eV 3)) (Qm.af (Qm.e2 Qm.eU (Qm.eV 2) (Qm.eV 3)) Qm.aj)))))))
noncomputable def b_:Qm.FN:=Qm.gw 3 4 eO
noncomputable def ie:Qm.XS:=(Qm.av (Qm.aK 1 (Qm.gS Qm.aj))
   (Qm.av (Qm.gu (Qm.fB (Qm.af (Qm.eB Qm.bM (Qm.af (Qm.yB Qm.kz (Qm.eV 0) (Qm.gH (Qm.eC (.int 1))) (Qm.gH (Qm.eC (.int 31)))) Qm.aj)) Qm.aj)) (Qm.aI 2)
   (Qm.av (Qm.aK 3 (Qm.az bE [] (Qm.af (Qm.eV 0) (Qm.af (Qm.e2 Qm.cp (Qm.eC (.int 1)) (Qm.eV 2)) Qm.aj))))
   (Qm.av (Qm.iW [4,5] (Qm.af (Qm.az bG [] (Qm.af (Qm.eV 3) Qm.aj)) (Qm.af (Qm.az bG [] (Qm.af (Qm.eV 3) Qm.aj)) Qm.aj)))
   (Qm.av (Qm.aK 6 (Qm.az cK [] (Qm.af (Qm.eV 3) Qm.aj)))
   (Qm.av (Qm.cY (Qm.gQ (Qm.tV (Qm.e2 Qm.oK (Qm.eB Qm.bM (Qm.af (Qm.eV 1) Qm.aj)) (Qm.eC (.int 0)))) (Qm.tV (Qm.e2 Qm.iE (Qm.az ar [] (Qm.af (Qm.eV 3) (Qm.af (Qm.eC (.int 3)) Qm.aj))) (Qm.eC (.int 0)))))
   (Qm.av (Qm.wK (Qm.e2 Qm.aH (Qm.eV 1) (Qm.e1 Qm.t7 (Qm.eC (.int 1)))) (Qm.jw 3 (Qm.cE (Qm.aI 4) (Qm.cE (Qm.aI 5) (Qm.cE (Qm.aI 6) Qm.jv)))))
   (Qm.av (Qm.aK 7 (Qm.e2 Qm.cp (Qm.eC (.int 1)) (Qm.e2 Qm.bh (Qm.az ar [] (Qm.af (Qm.eV 3) (Qm.af (Qm.eC (.int 3)) Qm.aj))) (Qm.eB Qm.kA (Qm.af (Qm.e2 Qm.iD (Qm.eB Qm.jd (Qm.af (Qm.eB Qm.d7 (Qm.af (Qm.eV 4) Qm.aj)) (Qm.af (Qm.eB Qm.d7 (Qm.af (Qm.eV 5) Qm.aj)) (Qm.af (Qm.eB Qm.d7 (Qm.af (Qm.eV 6) Qm.aj)) Qm.aj)))) (Qm.eC (.int 300000))) Qm.aj)))))
   (Qm.av (Qm.iW [4,5,6] (Qm.af (Qm.e2 Qm.bh (Qm.eV 4) (Qm.eV 7)) (Qm.af (Qm.e2 Qm.bh (Qm.eV 5) (Qm.eV 7)) (Qm.af (Qm.e2 Qm.bh (Qm.eV 6) (Qm.eV 7)) Qm.aj))))
   (Qm.av (Qm.cY (Qm.gQ (Qm.tV (Qm.e2 Qm.iE (Qm.az ar [] (Qm.af (Qm.eV 3) (Qm.af (Qm.eC (.int 2)) Qm.aj))) (Qm.eC (.int 1)))) (Qm.tV (Qm.e2 Qm.iD (Qm.eB Qm.jd (Qm.af (Qm.eB Qm.d7 (Qm.af (Qm.eV 4) Qm.aj)) (Qm.af (Qm.eB Qm.d7 (Qm.af (Qm.eV 5) Qm.aj)) (Qm.af (Qm.eB Qm.d7 (Qm.af (Qm.eV 6) Qm.aj)) Qm.aj)))) (Qm.e2 Qm.d6 (Qm.eC (.int 10)) (Qm.eC (.int 15))))))
   (Qm.iW [4,5,6] (Qm.af (Qm.e2 Qm.bh (Qm.eV 4) (Qm.e2 Qm.d6 (Qm.eC (.int 10)) (Qm.eC (.int 14)))) (Qm.af (Qm.e2 Qm.bh (Qm.eV 5) (Qm.e2 Qm.d6 (Qm.eC (.int 10)) (Qm.eC (.int 14)))) (Qm.af (Qm.e2 Qm.bh (Qm.eV 6) (Qm.e2 Qm.d6 (Qm.eC (.int 10)) (Qm.eC (.int 14)))) Qm.aj))))
   Qm.bW)
   (Qm.av (Qm.aK 4 (Qm.e2 Qm.cp (Qm.eV 4) (Qm.e2 Qm.bh (Qm.e2 Qm.bR (Qm.az ar [] (Qm.af (Qm.eV 3) (Qm.af (Qm.eC (.int 3)) Qm.aj))) (Qm.eC (.int 1))) (Qm.eB Qm.kA (Qm.af (Qm.e2 Qm.iD (Qm.eB Qm.d7 (Qm.af (Qm.eV 4) Qm.aj)) (Qm.e2 Qm.d6 (Qm.eC (.int 10)) (Qm.eC (.int 30)))) Qm.aj)))))
   (Qm.aK 5 (Qm.e2 Qm.cp (Qm.eV 5) (Qm.e2 Qm.bh (Qm.e2 Qm.bR (Qm.az ar [] (Qm.af (Qm.eV 3) (Qm.af (Qm.eC (.int 3)) Qm.aj))) (Qm.eC (.int 1))) (Qm.eB Qm.kA (Qm.af (Qm.e2 Qm.iD (Qm.eB Qm.d7 (Qm.af (Qm.eV 5) Qm.aj)) (Qm.e2 Qm.d6 (Qm.eC (.int 10)) (Qm.eC (.int 30)))) Qm.aj))))))))))
   Qm.bW)
   (Qm.av (Qm.cY (Qm.tV (Qm.e2 Qm.iE (Qm.az ar [] (Qm.af (Qm.eV 3) (Qm.af (Qm.eC (.int 2)) Qm.aj))) (Qm.eC (.int 1))))
   (Qm.iW [4,5,6] (Qm.af (Qm.e2 Qm.bR (Qm.eC (.int 0)) (Qm.eV 4)) (Qm.af (Qm.e2 Qm.bR (Qm.eC (.int 0)) (Qm.eV 5)) (Qm.af (Qm.e2 Qm.bR (Qm.eC (.int 0)) (Qm.eV 6)) Qm.aj))))
   Qm.bW)
   (Qm.d5 (Qm.eM Qm.cc (Qm.eV 1) (Qm.af (Qm.iC (Qm.af (Qm.eV 4) (Qm.af (Qm.eV 5) (Qm.af (Qm.eV 6) Qm.aj)))) Qm.aj)))))))))
   (Qm.bt (Qm.eV 1))))
noncomputable def cL:Qm.FN:=Qm.gw 1 8 ie
noncomputable def gr(cI cZ cN:Qm.aS)(aP:Nat):Qm.XS:=(Qm.av (Qm.cY (Qm.l_ (Qm.eY (Qm.tV (Qm.eB Qm.cM (Qm.af (Qm.eV 1) (Qm.af (Qm.eC (.ty "list")) Qm.aj))))) (Qm.tV (Qm.e2 Qm.fQ (Qm.eB Qm.bM (Qm.af (Qm.eV 1) Qm.aj)) (Qm.eB Qm.bM (Qm.af (Qm.eV 0) Qm.aj)))))
   (Qm.bt (Qm.eC (.bl false)))
   Qm.bW)
   (Qm.av (Qm.aK 3 (Qm.gS Qm.aj))
   (Qm.av (Qm.gu (Qm.fR (Qm.eV 1)) (Qm.aI 4)
   (Qm.av (Qm.cY (Qm.tV (Qm.e2 Qm.nI (Qm.eV 4) (Qm.eV 0)))
   (Qm.bt (Qm.eC (.bl false)))
   Qm.bW)
   (Qm.d5 (Qm.eM Qm.cc (Qm.eV 3) (Qm.af (Qm.eM Qm.lT (Qm.eV 0) (Qm.af (Qm.eV 4) Qm.aj)) Qm.aj)))))
   (Qm.av (Qm.cY (Qm.tV (Qm.e2 Qm.fQ (Qm.eB Qm.nT (Qm.af (Qm.eV 3) Qm.aj)) (Qm.eB Qm.iq (Qm.af (Qm.eB Qm.bM (Qm.af (Qm.eV 0) Qm.aj)) Qm.aj))))
   (Qm.bt (Qm.eC (.bl false)))
   Qm.bW)
   (Qm.av (Qm.gu (Qm.jb (Qm.af (Qm.eC (.int 1)) (Qm.af (Qm.eB Qm.bM (Qm.af (Qm.eV 1) Qm.aj)) Qm.aj))) (Qm.aI 5)
   (Qm.av (Qm.cY (Qm.tV (Qm.eP [(aP,bJ)] [(cI,eu),(cZ,ez),(cN,eD)] (Qm.eV 2) (Qm.af (Qm.e2 Qm.aH (Qm.eV 1) (Qm.eV 5)) (Qm.af (Qm.e2 Qm.aH (Qm.eV 1) (Qm.e2 Qm.bR (Qm.eV 5) (Qm.eC (.int 1)))) Qm.aj))))
   (Qm.bt (Qm.eC (.bl false)))
   Qm.bW)
   (Qm.cY (Qm.gQ (Qm.eY (Qm.tV (Qm.eP [(aP,bJ)] [(cI,eu),(cZ,ez),(cN,eD)] (Qm.eV 2) (Qm.af (Qm.e2 Qm.aH (Qm.eV 1) (Qm.e2 Qm.bR (Qm.eV 5) (Qm.eC (.int 1)))) (Qm.af (Qm.e2 Qm.aH (Qm.eV 1) (Qm.eV 5)) Qm.aj))))) (Qm.tV (Qm.e2 Qm.oK (Qm.e2 Qm.aH (Qm.eV 3) (Qm.e2 Qm.bR (Qm.eV 5) (Qm.eC (.int 1)))) (Qm.e2 Qm.aH (Qm.eV 3) (Qm.eV 5)))))
   (Qm.bt (Qm.eC (.bl false)))
   Qm.bW)))
   (Qm.bt (Qm.eC (.bl true))))))))
noncomputable def bT(cI cZ cN:Qm.aS)(aP:Nat):Qm.FN:=Qm.gw 3 6 (gr cI cZ cN aP)
noncomputable def i8(cI cZ cN:Qm.aS)(aP:Nat):Qm.XS:=(Qm.av (Qm.aK 1 (Qm.az ar [] (Qm.af (Qm.eV 0) (Qm.af (Qm.e2 Qm.aH (Qm.gS (Qm.af (Qm.eC (.int 40)) (Qm.af (Qm.eC (.int 700)) Qm.aj))) (Qm.eB Qm.kA (Qm.af (Qm.e2 Qm.iE (Qm.az ar [] (Qm.af (Qm.eV 0) (Qm.af (Qm.eC (.int 8)) Qm.aj))) (Qm.eC (.int 1))) Qm.aj))) Qm.aj))))
   (Qm.av (Qm.aK 2 (Qm.e2 Qm.cp (Qm.eC (.int 1)) (Qm.az ar [] (Qm.af (Qm.eV 0) (Qm.af (Qm.eC (.int 1000)) Qm.aj)))))
   (Qm.av (Qm.aK 3 (Qm.cV (Qm.fB (Qm.af (Qm.eV 1) Qm.aj)) [none,some 2] (Qm.aI 0) Qm.eF (Qm.iC (Qm.af (Qm.e2 Qm.dE (Qm.e2 Qm.bh (Qm.eV 0) (Qm.eV 1)) (Qm.eC (.int 1009))) (Qm.af (Qm.eV 0) Qm.aj)))))
   (Qm.bt (Qm.e2 Qm.rS (Qm.az (bj cI cZ cN aP) [] (Qm.af (Qm.eV 3) (Qm.af (Qm.iZ cN 2 []) Qm.aj))) (Qm.eB Qm.jJ (Qm.af (Qm.eV 3) Qm.aj)))))))
noncomputable def di(cI cZ cN:Qm.aS)(aP:Nat):Qm.FN:=Qm.gw 1 4 (i8 cI cZ cN aP)
noncomputable def vA(cI cZ cN:Qm.aS)(aP:Nat):Qm.XS:=(Qm.av (Qm.aK 1 (Qm.gS Qm.aj))
   (Qm.av (Qm.gu (Qm.fR (Qm.az cL [] (Qm.af (Qm.eV 0) Qm.aj))) (Qm.jw 3 (Qm.cE (Qm.aI 2) (Qm.cE (Qm.aI 3) (Qm.cE (Qm.aI 4) Qm.jv))))
   (Qm.av (Qm.aK 5 (Qm.az dB [] (Qm.af (Qm.eV 2) (Qm.af (Qm.eV 3) (Qm.af (Qm.eV 4) Qm.aj)))))
   (Qm.av (Qm.cY (Qm.l_ (Qm.eY (Qm.tV (Qm.eB Qm.cM (Qm.af (Qm.eV 5) (Qm.af (Qm.eC (.ty "tuple")) Qm.aj))))) (Qm.l_ (Qm.tV (Qm.e2 Qm.fQ (Qm.eV 5) (Qm.az b_ [] (Qm.af (Qm.eV 2) (Qm.af (Qm.eV 3) (Qm.af (Qm.eV 4) Qm.aj)))))) (Qm.eY (Qm.tV (Qm.eB Qm.wL (Qm.af (Qm.cV (Qm.qF (Qm.eV 5)) [none] (Qm.aI 0) Qm.eF (Qm.az cJ [] (Qm.af (Qm.eV 0) Qm.aj))) Qm.aj))))))
   (Qm.bt (Qm.eC (.bl false)))
   Qm.bW)
   (Qm.av (Qm.cY (Qm.gQ (Qm.tV (Qm.e2 Qm.iD (Qm.eB Qm.jd (Qm.af (Qm.eB Qm.d7 (Qm.af (Qm.e2 Qm.aH (Qm.eV 5) (Qm.eC (.int 0))) Qm.aj)) (Qm.af (Qm.eB Qm.d7 (Qm.af (Qm.e2 Qm.aH (Qm.eV 5) (Qm.eC (.int 1))) Qm.aj)) (Qm.af (Qm.e2 Qm.aH (Qm.eV 5) (Qm.eC (.int 2))) Qm.aj)))) (Qm.e2 Qm.d6 (Qm.eC (.int 10)) (Qm.eC (.int 29))))) (Qm.tV (Qm.e2 Qm.fQ (Qm.az dB [] (Qm.af (Qm.e2 Qm.bh (Qm.e2 Qm.aH (Qm.eV 5) (Qm.eC (.int 0))) (Qm.eC (.int 7))) (Qm.af (Qm.e2 Qm.bh (Qm.e2 Qm.aH (Qm.eV 5) (Qm.eC (.int 1))) (Qm.eC (.int 7))) (Qm.af (Qm.e2 Qm.bh (Qm.e2 Qm.aH (Qm.eV 5) (Qm.eC (.int 2))) (Qm.eC (.int 7))) Qm.aj)))) (Qm.eV 5))))
   (Qm.bt (Qm.eC (.bl false)))
   Qm.bW)
   (Qm.av (Qm.cY (Qm.tV (Qm.e2 Qm.fQ (Qm.az dB [.int 1] (Qm.af (Qm.e2 Qm.aH (Qm.eV 5) (Qm.eC (.int 0))) (Qm.af (Qm.e2 Qm.aH (Qm.eV 5) (Qm.eC (.int 1))) Qm.aj))) (Qm.iC (Qm.af (Qm.e2 Qm.aH (Qm.eV 5) (Qm.eC (.int 0))) (Qm.af (Qm.e2 Qm.aH (Qm.eV 5) (Qm.eC (.int 1))) (Qm.af (Qm.eC (.int 1)) Qm.aj))))))
   (Qm.bt (Qm.eC (.bl false)))
   Qm.bW)
   (Qm.d5 (Qm.eM Qm.cc (Qm.eV 1) (Qm.af (Qm.eV 5) Qm.aj))))))))
   (Qm.av (Qm.gu (Qm.jb (Qm.af (Qm.eC (.int 1)) (Qm.af (Qm.eB Qm.bM (Qm.af (Qm.eV 1) Qm.aj)) Qm.aj))) (Qm.aI 6)
   (Qm.av (Qm.aK 7 (Qm.az bJ [] (Qm.af (Qm.e2 Qm.aH (Qm.eV 1) (Qm.e2 Qm.bR (Qm.eV 6) (Qm.eC (.int 1)))) (Qm.af (Qm.e2 Qm.aH (Qm.eV 1) (Qm.eV 6)) Qm.aj))))
   (Qm.av (Qm.cY (Qm.l_ (Qm.eY (Qm.tV (Qm.eB Qm.cM (Qm.af (Qm.eV 7) (Qm.af (Qm.eC (.ty "bool")) Qm.aj))))) (Qm.tV (Qm.e2 Qm.fQ (Qm.eV 7) (Qm.az bK [] (Qm.af (Qm.e2 Qm.aH (Qm.eV 1) (Qm.e2 Qm.bR (Qm.eV 6) (Qm.eC (.int 1)))) (Qm.af (Qm.e2 Qm.aH (Qm.eV 1) (Qm.eV 6)) Qm.aj))))))
   (Qm.bt (Qm.eC (.bl false)))
   Qm.bW)
   (Qm.cY (Qm.tV (Qm.e2 Qm.fQ (Qm.az bJ [] (Qm.af (Qm.e2 Qm.aH (Qm.eV 1) (Qm.eV 6)) (Qm.af (Qm.e2 Qm.aH (Qm.eV 1) (Qm.e2 Qm.bR (Qm.eV 6) (Qm.eC (.int 1)))) Qm.aj))) (Qm.az bK [] (Qm.af (Qm.e2 Qm.aH (Qm.eV 1) (Qm.eV 6)) (Qm.af (Qm.e2 Qm.aH (Qm.eV 1) (Qm.e2 Qm.bR (Qm.eV 6) (Qm.eC (.int 1)))) Qm.aj)))))
   (Qm.bt (Qm.eC (.bl false)))
   Qm.bW))))
   (Qm.av (Qm.aK 8 (Qm.cV (Qm.m7 (Qm.af (Qm.eV 1) Qm.aj)) [none,none] (Qm.jw 2 (Qm.cE (Qm.aI 0) (Qm.cE (Qm.aI 1) Qm.jv))) Qm.eF (Qm.iC (Qm.af (Qm.eV 1) (Qm.af (Qm.eV 0) Qm.aj)))))
   (Qm.av (Qm.aK 9 (Qm.eB Qm.rC (Qm.af (Qm.eV 8) Qm.aj)))
   (Qm.av (Qm.aK 10 (Qm.az ar [] (Qm.af (Qm.az bE [] (Qm.af (Qm.eV 0) (Qm.af (Qm.eC (.int 40)) Qm.aj))) (Qm.af (Qm.eC (.int 3)) Qm.aj))))
   (Qm.av (Qm.aK 11 (Qm.iZ cI 1 []))
   (Qm.av (Qm.aK 12 (Qm.iZ cZ 1 [10]))
   (Qm.av (Qm.aK 13 (Qm.az (bj cI cZ cN aP) [] (Qm.af (Qm.eV 8) (Qm.af (Qm.eV 11) Qm.aj))))
   (Qm.av (Qm.cY (Qm.l_ (Qm.eY (Qm.tV (Qm.az (bT cI cZ cN aP) [] (Qm.af (Qm.eV 8) (Qm.af (Qm.eV 13) (Qm.af (Qm.eV 11) Qm.aj)))))) (Qm.eY (Qm.tV (Qm.az (bT cI cZ cN aP) [] (Qm.af (Qm.eV 8) (Qm.af (Qm.az (bj cI cZ cN aP) [] (Qm.af (Qm.eV 8) (Qm.af (Qm.eV 12) Qm.aj))) (Qm.af (Qm.eV 12) Qm.aj)))))))
   (Qm.bt (Qm.eC (.bl false)))
   Qm.bW)
   (Qm.av (Qm.cY (Qm.l_ (Qm.tV (Qm.e2 Qm.rT (Qm.eV 8) (Qm.eV 9))) (Qm.tV (Qm.e2 Qm.rT (Qm.az (bj cI cZ cN aP) [] (Qm.af (Qm.eV 1) (Qm.af (Qm.eC (.adr aP)) Qm.aj))) (Qm.cV (Qm.fR (Qm.eV 13)) [none] (Qm.aI 0) Qm.eF (Qm.e2 Qm.aH (Qm.eV 0) (Qm.eC (.int 0)))))))
   (Qm.bt (Qm.eC (.bl false)))
   Qm.bW)
   (Qm.av (Qm.d5 (Qm.eM Qm.lK (Qm.eV 13) Qm.aj))
   (Qm.bt (Qm.rz (Qm.e2 Qm.rS (Qm.eV 8) (Qm.eV 9)) (Qm.az (di cI cZ cN aP) [] (Qm.af (Qm.az bE [] (Qm.af (Qm.eV 0) (Qm.af (Qm.eC (.int 41)) Qm.aj))) Qm.aj))))))))))))))))
noncomputable def kS(cI cZ cN:Qm.aS)(aP:Nat):Qm.FN:=Qm.gw 1 14 (vA cI cZ cN aP)
end xA
namespace xA
open PySem Qm PyProof.Rows
local macro_rules|`(tactic|walk_at "bd")=>`(tactic|first|assumption|((with_reducible show My.Bd _ (_*_));refine' My.Bd.mul ?_ ?_<;>walk_at "bd")|((with_reducible show My.Bd _ (_+_));refine' My.Bd.add ?_ ?_<;>walk_at "bd")|((with_reducible show My.Bd _ (_ - _));refine' My.Bd.sub ?_ ?_<;>walk_at "bd")|((with_reducible show My.Bd _ (- _));refine' My.Bd.neg ?_<;>walk_at "bd")|(refine' OF ?_;omega))
local macro_rules|`(tactic|walk_at "bdm")=>`(tactic|first|assumption|(refine' My.Bd.mono ?b1 ?b2;(case b1=>walk_at "bd");(case b2=>decide)))
local macro_rules|`(tactic|walk_at "mo")=>`(tactic|first|(refine mulL ?_;omega)|(refine mulR ?_;omega)|(refine OE ?_ ?_<;>walk_at "bdm"))
local macro_rules|`(tactic|walk_at "dis")=>`(tactic|first|assumption|omega|walk_at "mo"|walk_at "bdm")
local macro_rules|`(tactic|erw[$[$t:term],*])=>`(tactic|simp (disch:=walk_at "dis") only[iK,sj,DW,K5,K7,xw,K8,GY,K2,Oq,GU,SE,Ot,Ou,Ov,KW,Ow,KY,Ox,DU,An,KZ,K0,GV,SF,SG,GW,Oy,GX,zi,Oz,zj,K1,DV,qr,K9,GZ,K_,DX,Lb,G0,G3,Lc,DY,OA,OB,OC,OD,Ld,sk,qt,vy,DZ,D0,G4,G5,zo,D1,D2,D3,Le,Lf,D4,G6,G7,Lg,Lh,Li,Lj,Ll,Lm,Ln,Lo,List.getElem?_cons_succ,List.getElem?_cons_zero,Option.join_some,Option.join_none,Option.bind_some,Option.bind_none,List.set_cons_succ,List.set_cons_zero,List.map_cons,List.map_nil,List.length_cons,List.length_nil,List.append_nil,List.nil_append,List.cons_append,List.replicate_succ,List.replicate_zero,Nat.reduceAdd,Nat.reduceSub,Nat.reduceEqDiff,if_true,if_false,Bool.false_eq_true,decide_true,decide_false,Bool.not_true,Bool.not_false,eq_self_iff_true,reduceIte,List.zip_cons_cons,List.zip_nil_right,List.zip_nil_left,List.foldl_cons,List.foldl_nil,Int.reduceLT,Int.reduceEq,Int.reduceLE,$[$t:term],*])
def dI(n:Nat)(c:Cells):Prop:=∃a b:Int,c[n]? =some (.lst [.int a,.int b])∧0≤a∧0≤b
structure Kp(n:Nat)(c c':Cells):Prop where
 len:c.length≤c'.length
 at_:∀i,i<c.length→i≠n→c'[i]? =c[i]?
theorem Kp.refl(n:Nat)(c:Cells):Kp n c c:=⟨Nat.le_refl _,fun _ _ _=>rfl⟩
theorem Kp.trans{n:Nat}{c c' yC:Cells}(a:Kp n c c')(b:Kp n c' yC):Kp n c yC:=⟨Nat.le_trans a.len b.len,fun i h h'=>(b.at_ i (Nat.lt_of_lt_of_le h a.len) h').trans (a.at_ i h h')⟩
theorem Kp.set{n:Nat}{c:Cells}{z:Cell}:Kp n c (c.set n z):=⟨by rw[List.length_set];exact Nat.le_refl _,fun i _ h=>by rw[List.getElem?_set,if_neg (fun e=>h e.symm)]⟩
theorem Kp.more{n:Nat}{c:Cells}{zs:List Cell}:Kp n c (c++zs):=⟨by rw[List.length_append];omega,fun i h _=>List.getElem?_append_left h⟩
theorem Kp.get{n i:Nat}{c c':Cells}{z:Cell}(k:Kp n c c')(h:c[i]? =some z)(hi:i≠n):c'[i]? =some z:=by
 rw[k.at_ i (List.getElem?_eq_some_iff.mp h).1 hi];exact h
theorem dI.lt{n:Nat}{c:Cells}(h:dI n c):n<c.length:=by
 obtain⟨a,b,h,_⟩:=h
 exact(List.getElem?_eq_some_iff.mp h).1
theorem dI.more{n:Nat}{c:Cells}{zs:List Cell}(h:dI n c):dI n (c++zs):=by
 have hl:=h.lt
 obtain⟨a,b,h,r⟩:=h
 exact⟨a,b,by rw[List.getElem?_append_left hl];exact h,r⟩
theorem cR{n:Nat}{c:Cells}{m:Int}(h:dI n c)(h0: 0<m)(hm:My.Bd 8900 m):∃d c',ar [.ref n,.int m] c=some (.int d,c')∧0≤d∧d<m∧dI n c'∧Kp n c c':=by
 have du:=h.lt
 obtain⟨a,b,hc,a0,b0⟩:=h
 have s1:=bI hc
 have l1:=bu hc
 by_cases ha:a=0
 ·refine⟨b % m,c.set n (.lst [.int a,.int (b / m)]),?_,Int.emod_nonneg _ (by omega),Int.emod_lt_of_pos _ h0,⟨a,b / m,?_,a0,Int.ediv_nonneg b0 (by omega)⟩,Kp.set⟩
  ·subst ha
   simp[ar,iK,fM,iL,s1,vy h0,qt h0 hm,zW,l1,pZ]
  ·simp[du]
 ·refine⟨a % m,c.set n (.lst [.int (a / m),.int b]),?_,Int.emod_nonneg _ (by omega),Int.emod_lt_of_pos _ h0,⟨a / m,b,?_,Int.ediv_nonneg a0 (by omega),b0⟩,Kp.set⟩
  ·simp[ar,iK,fM,iL,s1,vy h0,qt h0 hm,zW,l1,pZ,ha]
  ·simp[du]
theorem zq{s:Nat}{c:Cells}{ns:List Int}{k:Int}(hs:c[s]? =some (.ro (ns.map D.int)))(k0: 0≤k)(k1:k<1000):∃a b,bE [.ref s,.int k] c=some (.ref c.length,c++[.lst [.int a,.int b]])∧0≤a∧0≤b:=by
 have s1:=uj hs
 -- yc loop
 have loop:∀(z mx:Int),∃kT ot j' xB,0≤ot∧gu (fB (af (eC (.int 12)) aj)) (aI 5)
   (av (aK 3 (e2 cp (e2 bh (eV 3) (eC (.int 6364136223846793005))) (e2 bh (eC (.int 1442695040888963407)) (e2 cp (e2 cp (eV 1) (eV 5)) (eC (.int 1))))))
   (av (aK 3 (e2 dE (eV 3) (eC (.int 2305843009213693951))))
   (av (aK 6 (e2 bh (e2 eU (eV 3) (eC (.int 1024))) (e2 cp (e2 cp (e2 dE (eV 3) (eC (.int 1000003))) (e2 bh (eC (.int 7919)) (eV 5))) (eC (.int 1)))))
   (aK 4 (e2 cp (e2 bh (eV 4) (eC (.int 1099511627776))) (e2 dE (eV 6) (eC (.int 1099511627776))))))))
   [some (.ref s),some (.int k),some (.int z),some (.int mx),some (.int 0),none,none,none] c=some (.nx,[some (.ref s),some (.int k),some (.int z),some (.int kT),some (.int ot),j',xB,none],c):=by
  intro z mx
  have hr:fB (af (eC (.int 12)) aj) [some (.ref s),some (.int k),some (.int z),some (.int mx),some (.int 0),none,none,none] c=some (⟨eg 0 12,[]⟩,c):=vz (j:=12) rfl (by decide)
  have key:=d9 (ks:=[]) (g:=aI 5) (body:=(av (aK 3 (e2 cp (e2 bh (eV 3) (eC (.int 6364136223846793005))) (e2 bh (eC (.int 1442695040888963407)) (e2 cp (e2 cp (eV 1) (eV 5)) (eC (.int 1))))))
   (av (aK 3 (e2 dE (eV 3) (eC (.int 2305843009213693951))))
   (av (aK 6 (e2 bh (e2 eU (eV 3) (eC (.int 1024))) (e2 cp (e2 cp (e2 dE (eV 3) (eC (.int 1000003))) (e2 bh (eC (.int 7919)) (eV 5))) (eC (.int 1)))))
   (aK 4 (e2 cp (e2 bh (eV 4) (eC (.int 1099511627776))) (e2 dE (eV 6) (eC (.int 1099511627776)))))))))
   (fun _ σ c'=>∃kT ot j' xB,0≤ot∧σ=[some (.ref s),some (.int k),some (.int z),some (.int kT),some (.int ot),j',xB,none]∧c'=c) (eg 0 12) 0 [some (.ref s),some (.int k),some (.int z),some (.int mx),some (.int 0),none,none,none] c (fun _ _ _ _=>eX)
  have Al:=key (by
    rintro i d σ c' hd ⟨kT,ot,j',xB,h1,rfl,rfl⟩
    obtain⟨hi,rfl⟩:i<12∧d= .int (0+(i:Int)):=by
     unfold eg at hd
     rw[List.getElem?_map]at hd
     by_cases hi:i<12
     ·rw[List.getElem?_range hi]at hd;cases hd;exact⟨hi,rfl⟩
     ·rw[List.getElem?_eq_none_iff.mpr (by simpa using Nat.le_of_not_lt hi)]at hd;cases hd
    have Vr:=Int.emod_nonneg (kT*6364136223846793005+1442695040888963407*(k+(0+(i:Int))+1)) (show(2305843009213693951:Int)≠0 by decide)
    have Vs:=Int.emod_lt_of_pos (kT*6364136223846793005+1442695040888963407*(k+(0+(i:Int))+1)) (show(0:Int)<2305843009213693951 by decide)
    refine⟨_,c',[some (.ref s),some (.int k),some (.int z),some (.int ((kT*6364136223846793005+1442695040888963407*(k+(0+(i:Int))+1)) % 2305843009213693951)),some (.int (ot*1099511627776+((kT*6364136223846793005+1442695040888963407*(k+(0+(i:Int))+1)) % 2305843009213693951) / 1024*(((kT*6364136223846793005+1442695040888963407*(k+(0+(i:Int))+1)) % 2305843009213693951) % 1000003+7919*(0+(i:Int))+1) % 1099511627776)),some (.int (0+(i:Int))),some (.int (((kT*6364136223846793005+1442695040888963407*(k+(0+(i:Int))+1)) % 2305843009213693951) / 1024*(((kT*6364136223846793005+1442695040888963407*(k+(0+(i:Int))+1)) % 2305843009213693951) % 1000003+7919*(0+(i:Int))+1))),none],c',rfl,?_,⟨_,_,_,_,?_,rfl,rfl⟩⟩
    ·simp (disch:=walk_at "dis") only[sj,DW,Ot,GU,Oq,DY,sk,vy,qt,qr,List.getElem?_cons_succ,List.getElem?_cons_zero,Option.join_some,Option.bind_some,List.set_cons_succ,List.set_cons_zero,DX]
    ·have:=Int.emod_nonneg (((kT*6364136223846793005+1442695040888963407*(k+(0+(i:Int))+1)) % 2305843009213693951) / 1024*(((kT*6364136223846793005+1442695040888963407*(k+(0+(i:Int))+1)) % 2305843009213693951) % 1000003+7919*(0+(i:Int))+1)) (show(1099511627776:Int)≠0 by decide)
     omega) ⟨mx,0,none,none,Int.le_refl _,rfl,rfl⟩
  obtain⟨σ',c',e,kT,ot,j',xB,h1,h2,h3⟩:=Al
  subst h2 h3
  refine⟨kT,ot,j',xB,h1,?_⟩
  unfold gu
  rw[hr]
  exact e
 have hl:((ns.map D.int).length:Int)=ns.length:=by simp
 -- yc own cell
 by_cases hk:k<ns.length
 ·obtain⟨z,hz⟩:∃z,gJ (ns.map D.int) k=some (.int z):=by
   have SH:k.toNat<ns.length:=by omega
   refine⟨ns[k.toNat],?_⟩
   have:=xy (xs:=ns.map D.int) (n:=k.toNat) (x:=.int ns[k.toNat]) (by simp[SH])
   rwa[show((k.toNat:Nat):Int)=k by omega]at this
  obtain⟨w0,hw⟩:∃w0,gJ (ns.map D.int) 0=some (.int w0):=by
   cases ns with
   |nil=>simp at hk;omega
   |cons n ns=>exact⟨n,by simp⟩
  obtain⟨kT,ot,j',xB,ht,el⟩:=loop z ((if z<0 then -z else z) % 2305843009213693951+7919*k+5)
  refine⟨(if z<0 then -z else z)*(if decide (w0 % 2=1)=true then 1 else 0),ot,?_,Int.mul_nonneg (by split<;>omega) (by split<;>omega),ht⟩
  rw[bE,iK,fk]
  have Bp:decide (k<((ns.map D.int).length:Int))=true:=by rw[hl];exact decide_eq_true hk
  have h0:decide ((0:Int)<((ns.map D.int).length:Int))=true:=by rw[hl];exact decide_eq_true (by omega)
  erw[su,s1,iL,Bp,hz,hw,el,h0]
 ·have Bp:decide (k<((ns.map D.int).length:Int))=false:=by rw[hl];exact decide_eq_false (by omega)
  obtain⟨kT,ot,j',xB,ht,el⟩:=loop 0 (0 % 2305843009213693951+7919*k+5)
  by_cases hn: 0<ns.length
  ·obtain⟨w0,hw⟩:∃w0,gJ (ns.map D.int) 0=some (.int w0):=by
    cases ns with
    |nil=>simp at hn
    |cons n ns=>exact⟨n,by simp⟩
   have h0:decide ((0:Int)<((ns.map D.int).length:Int))=true:=by rw[hl];exact decide_eq_true (by omega)
   refine⟨0*(if decide (w0 % 2=1)=true then 1 else 0),ot,?_,by simp,ht⟩
   rw[bE,iK,fk]
   erw[su,s1,iL,Bp,hw,el,h0]
  ·have h0:decide ((0:Int)<((ns.map D.int).length:Int))=false:=by rw[hl];exact decide_eq_false (by omega)
   refine⟨0*(if false=true then 1 else 0),ot,?_,by simp,ht⟩
   rw[bE,iK,fk]
   erw[su,s1,iL,Bp,el,h0]
theorem G8{x:Int}(h1: -3000000000000000000000000000000≤x)(h2:x≤3000000000000000000000000000000):My.Bd 8900 x:=My.Bd.mono (j:=102) ⟨by
 have:(2:Nat) ^ 102=5070602400912917605986812821504:=by decide
 omega⟩ (by decide)
theorem G9{i j:Int}{c:Cells}(h:j≠0):dE (.int i) (.int j) c=some (.int (i.fmod j),c):=by
 unfold dE;rw[vx,if_pos h];rfl
theorem xC{i j:Int}{c:Cells}(h:j≠0)(hb:My.Bd 8900 j):eU (.int i) (.int j) c=some (.int (i.fdiv j),c):=by
 unfold eU;rw[vx,if_pos ⟨h,hb⟩];rfl
theorem o8{c:Cells}:d6 (.int 10) (.int 30) c=some (.int 1000000000000000000000000000000,c):=by
 unfold d6;rw[vx,if_pos (by decide)];rfl
theorem Ap{n:Nat}{c:Cells}(h:dI n c):∃x c',bG [.ref n] c=some (.int x,c')∧-1000000000000000000000000000000≤x∧x≤1000000000000000000000000000000∧dI n c'∧Kp n c c':=by
 obtain⟨d1,c1,e1,l1,u1,p1,k1⟩:=cR h (m:=5) (by decide) (by walk_at "bdm")
 by_cases h1:d1<2
 ·obtain⟨d2,c2,e2,l2,u2,p2,k2⟩:=cR p1 (m:=9) (by decide) (by walk_at "bdm")
  refine⟨d2 - 4,c2,?_,by omega,by omega,p2,k1.trans k2⟩
  erw[bG,dC,e1,h1,e2]
 by_cases h2:d1=2
 ·obtain⟨d2,c2,e2,l2,u2,p2,k2⟩:=cR p1 (m:=1999999) (by decide) (by walk_at "bdm")
  refine⟨d2 - 999999,c2,?_,by omega,by omega,p2,k1.trans k2⟩
  erw[bG,dC,e1,h1,h2,e2]
 by_cases h3:d1=3
 ·obtain⟨d2,c2,e2,l2,u2,p2,k2⟩:=cR p1 (m:=3) (by decide) (by walk_at "bdm")
  obtain⟨d3,c3,e3,l3,u3,p3,k3⟩:=cR p2 (m:=2) (by decide) (by walk_at "bdm")
  refine⟨(999999 - d2)*(1 - 2*d3),c3,?_,?_,?_,p3,k1.trans (k2.trans k3)⟩
  ·erw[bG,dC,e1,h1,h2,h3,e2,e3]
  ·have:d3=0∨d3=1:=by omega
   rcases this with rfl|rfl<;>omega
  ·have:d3=0∨d3=1:=by omega
   rcases this with rfl|rfl<;>omega
 ·obtain⟨d2,c2,e2,l2,u2,p2,k2⟩:=cR p1 (m:=2*1000000000000000000000000000000+1) (by decide) (G8 (by decide) (by decide))
  refine⟨d2 - 1000000000000000000000000000000,c2,?_,by omega,by omega,p2,k1.trans k2⟩
  erw[bG,dC,e1,h1,h2,h3,o8,e2]
theorem G_{n:Nat}{c:Cells}(h:dI n c):∃x c',cK [.ref n] c=some (.int x,c')∧1≤x∧x≤1000000000000000000000000000000∧dI n c'∧Kp n c c':=by
 obtain⟨d1,c1,e1,l1,u1,p1,k1⟩:=cR h (m:=5) (by decide) (by walk_at "bdm")
 have key:∀m:Int,0<m→m≤1000000000000000000000000000000→gJ [D.int 1,.int 1,.int 9,.int 999999,.int 1000000000000000000000000000000] d1=some (.int m)→∃x c',cK [.ref n] c=some (.int x,c')∧1≤x∧x≤1000000000000000000000000000000∧dI n c'∧Kp n c c':=by
  intro m m0 m1 ha
  obtain⟨d2,c2,e2,l2,u2,p2,k2⟩:=cR (p1.more (zs:=[.lst [.int 1,.int 1,.int 9,.int 999999,.int 1000000000000000000000000000000]])) (m:=m) m0 (G8 (by omega) (by omega))
  refine⟨1+d2,c2,?_,by omega,by omega,p2,k1.trans (Kp.more.trans k2)⟩
  have s2:bS (.ref c1.length) (c1++[.lst [.int 1,.int 1,.int 9,.int 999999,.int 1000000000000000000000000000000]])=some [.int 1,.int 1,.int 9,.int 999999,.int 1000000000000000000000000000000]:=bI (by simp)
  erw[cK,ic,e1,o8,iL,s2,ha,e2]
 have:d1=0∨d1=1∨d1=2∨d1=3∨d1=4:=by omega
 rcases this with rfl|rfl|rfl|rfl|rfl
 ·exact key 1 (by decide) (by decide) rfl
 ·exact key 1 (by decide) (by decide) rfl
 ·exact key 9 (by decide) (by decide) rfl
 ·exact key 999999 (by decide) (by decide) rfl
 ·exact key 1000000000000000000000000000000 (by decide) (by decide) rfl
theorem xD{a b:Int}{c:Cells}:cx [.int a,.int b] c=some (.int (Int.gcd a b),c):=by
 have loop:∀(n:Nat) (x y:Int),0≤x→0≤y→y.natAbs=n→cQ (tV (e2 oK (eV 1) (eC (.int 0)))) (iW [0,1] (af (eV 1) (af (e2 dE (eV 0) (eV 1)) aj))) [some (.int x),some (.int y)] c=some (.nx,[some (.int (Int.gcd x y)),some (.int 0)],c):=by
  intro n
  induction n using Nat.strongRecOn with
  |_ n ih=>
   intro x y hx hy hn
   by_cases h: 0<y
   ·have h1:=Int.emod_lt_of_pos x h
    have h2:=Int.emod_nonneg x (show y≠0 by omega)
    have:=ih (x % y).natAbs (by omega) y (x % y) hy h2 rfl
    rw[My.A7]at this
    refine jQ (c':=c) (σ':=[some (.int y),some (.int (x % y))]) (c2:=c) ?_ ?_ this
    ·erw[h]
    ·erw[h]
   ·have:y=0:=by omega
    subst this
    have e:=My.gcd_zero x
    rw[if_neg (by omega)]at e
    rw[e]
    refine fF ?_
    erw[h]
 have:=loop _ (if a<0 then -a else a) (if b<0 then -b else b) (by split<;>omega) (by split<;>omega) rfl
 rw[My.CT]at this
 erw[cx,gq,this]
def sp(x y w:Int):D:=.tup [.int x,.int y,.int w]
theorem D5{x y w:Int}{c:Cells}(hw:w≠0)(hb:My.Bd 8900 w):b_ [.int x,.int y,.int w] c=some (sp (My.sx x y w) (My.sy x y w) (My.sw x y w),c):=by
 have gP:∀(z:Int),z≠0→My.Bd 8900 z→∀(n m:Int),0<(Int.gcd (Int.gcd n m:Int) z:Int)∧My.Bd 8900 (Int.gcd (Int.gcd n m:Int) z:Int):=fun z hz hb n m=>by
  have g0:=My.qW (n:=(Int.gcd n m:Int)) hz
  refine⟨g0,My.Bd.of_le hb ?_⟩
  have:=My.JH (n:=(Int.gcd n m:Int)) hz
  rw[My.qX]at this
  omega
 by_cases h:w<0
 ·obtain⟨e1,e2,e3⟩:=My.wD (x:=x) (y:=y) h
  obtain⟨g0,g1⟩:=gP (0 - w) (by omega) ⟨by have:=hb.lt;omega⟩ (0 - x) (0 - y)
  erw[b_,eO,h,xD,e1,e2,e3]
  rfl
 ·obtain⟨e1,e2,e3⟩:=My.pJ (x:=x) (y:=y) (w:=w) (by omega)
  obtain⟨g0,g1⟩:=gP w hw hb x y
  erw[b_,eO,h,xD,e1,e2,e3]
  rfl
structure Sp(k:Nat)(x y w:Int):Prop where
 low:My.tE x y w
 bx:My.Bd k x
 tK:My.Bd k y
 bw:My.Bd k w
theorem Sp.pos{k:Nat}{x y w:Int}(h:Sp k x y w): 0<w:=h.low.pos
theorem Sp.mono{j k:Nat}{x y w:Int}(h:Sp j x y w)(e:j≤k):Sp k x y w:=⟨h.low,h.bx.mono e,h.tK.mono e,h.bw.mono e⟩
theorem Sp.mk'{k:Nat}{x y w:Int}(hw:w≠0)(bx:My.Bd k x)(tK:My.Bd k y)(bw:My.Bd k w):Sp k (My.sx x y w) (My.sy x y w) (My.sw x y w):=
 ⟨My.lH hw,My.Bd.of_le bx (My.JI hw),My.Bd.of_le tK (My.JJ hw),My.Bd.of_le bw (My.JK hw)⟩
theorem Lp{x:Int}(h1: -1000000000000000000000000000000≤x)(h2:x≤1000000000000000000000000000000):My.Bd 100 x:=⟨by
 have:(2:Nat) ^ 100=1267650600228229401496703205376:=by decide
 omega⟩
abbrev T3:=My.T3
def sd(p:T3):D:=sp p.1 p.2.1 p.2.2
abbrev Ok(k:Nat)(p:T3):Prop:=Sp k p.1 p.2.1 p.2.2
theorem Ok.OG{k:Nat}{p:T3}(h:Ok k p):My.xu p:=h.low
theorem vB{x y w i:Int}{c:Cells}:aH (sp x y w) (.int i) c=(gJ [D.int x,.int y,.int w] i).bind fun d=>some (d,c):=rfl
theorem OH{p q:T3}{c:Cells}(hp:Ok 1000 p)(hq:Ok 1000 q):d_ [sd p,sd q] c=some (.bl (decide (p.2.1*q.2.2<q.2.1*p.2.2)),c):=by
 have a1:=hp.bx;have a2:=hp.tK;have a3:=hp.bw;have b1:=hq.bx;have b2:=hq.tK;have b3:=hq.bw
 erw[d_,i7,sd,vB]
theorem vC{p q:T3}{c:Cells}(hp:Ok 1000 p)(hq:Ok 1000 q):bJ [sd p,sd q] c=some (.bl (My.dG p q),c):=by
 have a1:=hp.bx;have a2:=hp.tK;have a3:=hp.bw;have b1:=hq.bx;have b2:=hq.tK;have b3:=hq.bw
 have e:=OH (c:=c) hp hq
 unfold sd at e ⊢
 unfold My.dG My.JM
 by_cases h:p.1*q.2.2=q.1*p.2.2
 ·rw[if_pos h]
  erw[bJ,kR,vB,decide_eq_true h,e]
 ·rw[if_neg h]
  erw[bJ,kR,vB,decide_eq_false h]
def pd(p:T3):PyData:=.tuple [.int p.1,.int p.2.1,.int p.2.2]
theorem Aq{p q:T3}:pd p=pd q↔p=q:=by
 obtain⟨a,b,c⟩:=p
 obtain⟨x,y,z⟩:=q
 simp[pd]
theorem sv{c:Cells}{k:Nat}{p:T3}:data c (k+2) (sd p)=some (pd p):=rfl
theorem iw{α β γ:Type}{f:β→Option γ}{g:α→β}{h:α→γ}(e:∀a,f (g a)=some (h a)):∀l:List α,omap f (l.map g)=some (l.map h)
 |[]=>rfl
 |a::l=>by simp only[List.map_cons,omap,e,Option.bind_some,iw e l]
theorem Ha{p q:T3}{c:Cells}:uR (sd p) (sd q) c=some (decide (p=q)):=by
 have e:uR (sd p) (sd q) c=(data c 6 (sd p)).bind fun d=>(data c 6 (sd q)).bind fun e=>some (@decide (d=e) (Classical.propDecidable _)):=rfl
 rw[e,sv,sv,Option.bind_some,Option.bind_some]
 congr 1
 rw[Bool.eq_iff_iff];simp only[decide_eq_true_eq]
 exact Aq
theorem vD{p q:T3}{c:Cells}:fQ (sd p) (sd q) c=some (.bl (!decide (p=q)),c):=by unfold fQ;rw[Ha];rfl
theorem Ar{a:XE}{σ:Qm.Env}{c:Cells}:gH a σ c=(a σ c).bind fun p=>(oJ p.1).bind fun i=>some (some i,p.2):=by
 unfold gH
 cases a σ c with
 |none=>rfl
 |some p=>obtain⟨d,c⟩:=p;cases d<;>rfl
theorem aJ{c c':Cells}{i:Nat}{z:Cell}(h:c <+:c')(e:c[i]? =some z):c'[i]? =some z:=by
 obtain⟨t,rfl⟩:=h
 rw[List.getElem?_append_left (List.getElem?_eq_some_iff.mp e).1];exact e
theorem sA{ks:List (Nat×Cell)}{tt:XT}{te:XE}{ρ:Qm.Env}{c:Cells}(hs:stays ks c)(b:D→Bool)(v:D→D):∀(ds:List D),
  (∀d∈ds,∀c',c <+:c'→tt (some d::ρ) c'=some (b d,c'))→
  (∀d∈ds,b d=true→∀c',c <+:c'→∃zs,te (some d::ρ) c'=some (v d,c'++zs))→
  ∀(acc:List D) (zs:List Cell) (x:Option D),acc.length+ds.length≤10000→∃tL,eh c.length ks (aI 0) tt te ds (x::ρ) (c++.lst acc::zs)=some (c++.lst (acc++(ds.filter b).map v)::tL)
 |[],_,_,acc,zs,x,_=>by
  refine⟨zs,?_⟩
  have st:stays ks (c++.lst acc::zs):=fun p hp=>aJ ⟨_,rfl⟩ (hs p hp)
  unfold eh
  rw[if_pos st]
  simp
 |d::ds,ht,hv,acc,zs,x,hn=>by
  have st:stays ks (c++.lst acc::zs):=fun p hp=>aJ ⟨_,rfl⟩ (hs p hp)
  have e1:=ht d List.mem_cons_self (c++.lst acc::zs) ⟨_,rfl⟩
  have OI:=fun d' hd=>ht d' (List.mem_cons_of_mem d hd)
  have OJ:=fun d' hd=>hv d' (List.mem_cons_of_mem d hd)
  rw[List.length_cons]at hn
  unfold eh
  rw[if_pos st]
  by_cases hb:b d=true
  ·obtain⟨ws,e2⟩:=hv d List.mem_cons_self hb (c++.lst acc::zs) ⟨_,rfl⟩
   have e3:(c++.lst acc::zs++ws)[c.length]? =some (.lst acc):=by simp
   have e4:(c++.lst acc::zs++ws).set c.length (.lst (acc++[v d]))=c++.lst (acc++[v d])::(zs++ws):=by simp
   obtain⟨tL,e5⟩:=sA hs b v ds OI OJ (acc++[v d]) (zs++ws) (some d) (by simp only[List.length_append,List.length_cons,List.length_nil];omega)
   refine⟨tL,?_⟩
   simp only[qr,List.set_cons_zero,Option.bind_some,e1,hb,if_true,e2,e3,e4]
   rw[if_pos (Nat.lt_of_lt_of_le (show acc.length<10000 by omega) (eL (Nat.le_refl _))),e5,List.filter_cons_of_pos hb]
   simp
  ·obtain⟨tL,e5⟩:=sA hs b v ds OI OJ acc zs (some d) (by omega)
   refine⟨tL,?_⟩
   have gL:b d=false:=by simpa using hb
   simp only[qr,List.set_cons_zero,Option.bind_some,e1,gL,Bool.false_eq_true,if_false]
   rw[e5,List.filter_cons_of_neg hb]
theorem Lq{it:XI}{cap:List (Option Nat)}{tt:XT}{te:XE}{σ ρ:Qm.Env}{x:Option D}{c:Cells}{ds:List D}{ks:List (Nat×Cell)}(b:D→Bool)(v:D→D)(hi:it σ c=some (⟨ds,ks⟩,c))(hc:nH σ cap=x::ρ)(hs:stays ks c)
  (ht:∀d∈ds,∀c',c <+:c'→tt (some d::ρ) c'=some (b d,c'))(hv:∀d∈ds,b d=true→∀c',c <+:c'→∃zs,te (some d::ρ) c'=some (v d,c'++zs))(hn:ds.length≤1000):
  ∃zs,cV it cap (aI 0) tt te σ c=some (.ref c.length,c++.lst ((ds.filter b).map v)::zs):=by
 obtain⟨zs,e⟩:=sA hs b v ds ht hv [] [] x (by simp;omega)
 refine⟨zs,?_⟩
 unfold cV
 rw[hi,Option.bind_some]
 dsimp only
 rw[hc,e]
 rfl
theorem ou{lo:Int}{n:Nat}{d:D}(h:d∈eg lo n):∃i:Nat,i<n∧d= .int (lo+i):=by
 unfold eg at h
 obtain⟨i,hi,rfl⟩:=List.mem_map.mp h
 exact⟨i,by simpa using hi,rfl⟩
theorem Lr{n:Nat}{i:Int}{j:Nat}(h:(0≤i∧i=j∧j<n)∨(i<0∧i+n=j)):pZ n i=some j:=by
 unfold pZ
 rcases h with⟨h1,h2,h3⟩|⟨h1,h2⟩
 ·rw[if_pos h1,if_pos (by omega)];congr 1;omega
 ·rw[if_neg (by omega),if_pos (by omega)];congr 1;omega
theorem o9{m:Nat}{l:List T3}{c:Cells}{i:Int}{j:Nat}{p:T3}(h:c[m]? =some (.lst (l.map sd)))(hi:(0≤i∧i=j∧j<l.length)∨(i<0∧i+l.length=j))(hp:l[j]? =some p):aH (.ref m) (.int i) c=some (sd p,c):=by
 rw[iL,bI h,Option.bind_some]
 unfold gJ
 rw[List.length_map,Lr hi,Option.bind_some,List.getElem?_map,hp]
 rfl
theorem BG{m:Nat}{c:Cells}{lo hi:Option Int}:kz (.ref m) lo hi c=(bS (.ref m) c).bind fun xs=>some (.ref c.length,c++[.lst (Qm.cutD xs lo hi)]):=rfl
theorem uk{m:Nat}{l:List T3}{p:T3}{c:Cells}(h:c[m]? =some (.lst (l.map sd)))(hn:l.length≤1000):cc (.ref m) [sd p] c=some (.bL,c.set m (.lst ((l++[p]).map sd))):=by
 have e:cc (.ref m) [sd p] c=(bq (.ref m) c).bind fun l=>if l.2.length<dh then some (.bL,c.set l.1 (.lst (l.2++[sd p])))else none:=rfl
 rw[e,bu h,Option.bind_some]
 dsimp only
 rw[List.length_map,if_pos (Nat.lt_of_lt_of_le (show l.length<10000 by omega) (eL (Nat.le_refl _))),List.map_append]
 rfl
theorem Kp.pre{n:Nat}{c c':Cells}(hp:c <+:c'):Kp n c c':=by
 obtain⟨t,rfl⟩:=hp;exact Kp.more
theorem BH{l:List T3}(h: 0<l.length):∃q,l[l.length - 1]? =some q:=⟨l[l.length - 1],List.getElem?_eq_getElem _⟩
theorem zr{it:XI}{cap:List (Option Nat)}{te:XE}{σ ρ:Qm.Env}{x:Option D}{c:Cells}{ds:List D}{ks:List (Nat×Cell)}(v:D→D)(hi:it σ c=some (⟨ds,ks⟩,c))(hc:nH σ cap=x::ρ)(hs:stays ks c)
  (hv:∀d∈ds,∀c',c <+:c'→∃zs,te (some d::ρ) c'=some (v d,c'++zs))(hn:ds.length≤1000):
  ∃c',cV it cap (aI 0) eF te σ c=some (.ref c.length,c')∧c <+:c'∧c'[c.length]? =some (.lst (ds.map v)):=by
 obtain⟨zs,e⟩:=Lq (tt:=eF) (fun _=>true) v hi hc hs (fun _ _ _ _=>rfl) (fun d hd _=>hv d hd) hn
 rw[List.filter_eq_self.mpr (fun _ _=>rfl)]at e
 exact⟨_,e,⟨_,rfl⟩,by simp⟩
theorem zt{a:XE}{σ:Qm.Env}{c:Cells}{m:Nat}{xs:List D}(ha:a σ c=some (.ref m,c))(h:c[m]? =some (.lst xs)):fR a σ c=some (⟨xs,[(m,.lst xs)]⟩,c):=by
 unfold fR
 rw[ha,Option.bind_some]
 dsimp only
 rw[h,Option.bind_some,bI h,Option.bind_some]
theorem BI(r:T3)(c:Cells):aH (sd r) (.int 0) c=some (.int r.1,c):=rfl
theorem BJ(r:T3)(c:Cells):aH (sd r) (.int 1) c=some (.int r.2.1,c):=rfl
theorem D6(r:T3)(c:Cells):aH (sd r) (.int 2) c=some (.int r.2.2,c):=rfl
theorem um{n m:Int}{c:Cells}:dA [.int n,.int m] c=some (.int (Int.gcd n m),c):=by
 have loop:∀(k:Nat) (x y:Int) (z:Option D),y.natAbs=k→∃g z',cQ (tV (e2 fQ (eV 1) (eC (.int 0)))) (av (aK 2 (e2 dE (eV 0) (eV 1))) (av (aK 0 (eV 1)) (aK 1 (eV 2)))) [some (.int x),some (.int y),z] c=some (.nx,[some (.int g),some (.int 0),z'],c)∧(if g<0 then -g else g)=(Int.gcd x y:Int):=by
  intro k
  induction k using Nat.strongRecOn with
  |_ k ih=>
   intro x y z hk
   by_cases h:y=0
   ·subst h
    exact⟨x,z,fF (by erw[]),(My.gcd_zero x).symm⟩
   ·have lt:=My.pW x h
    obtain⟨g,z',e,r⟩:=ih (x.fmod y).natAbs (by omega) y (x.fmod y) (some (.int (x.fmod y))) rfl
    rw[My.A6]at r
    exact⟨g,z',jQ (c':=c) (c2:=c) (by erw[decide_eq_false h]) (by erw[G9 h]) e,r⟩
 obtain⟨g,z',e,r⟩:=loop _ n m none rfl
 erw[dA,jY,e,r]
theorem vF{x y w:Int}{c:Cells}(hw:w≠0)(hb:My.Bd 8900 w):dB [.int x,.int y,.int w] c=some (sd (My.spT x y w),c):=by
 have d1:=um (n:=x) (m:=w) (c:=c)
 have d2:=um (n:=(Int.gcd x w:Int)) (m:=y) (c:=c)
 have n0:=My.qi (x:=x) (y:=y) hw
 have nb:My.Bd 8900 (My.g6 x y w):=My.Bd.of_le hb (My.FV hw)
 unfold My.spT My.sx My.sy My.sw
 by_cases h:w<0
 ·have es:My.g6 x y w= -(Int.gcd (Int.gcd x w:Int) y:Int):=by unfold My.g6;rw[if_pos h]
  rw[es]at n0 nb ⊢
  erw[dB,oo,d1,d2,h,xC n0 nb]
  rfl
 ·have es:My.g6 x y w=(Int.gcd (Int.gcd x w:Int) y:Int):=by unfold My.g6;rw[if_neg h]
  rw[es]at n0 nb ⊢
  erw[dB,oo,d1,d2,h,xC n0 nb]
  rfl
theorem de{i:Nat}{c:Cells}{z:Cell}(h:c[i]? =some z):i<c.length:=(List.getElem?_eq_some_iff.mp h).1
theorem bf{i:Nat}{c zs:Cells}{z:Cell}(h:c[i]? =some z):(c++zs)[i]? =some z:=by rw[List.getElem?_append_left (de h)];exact h
theorem xE{c c':Cells}(h:c <+:c'):c.length≤c'.length:=h.length_le
theorem ow{c c':Cells}{n:Nat}{z:Cell}(h:c <+:c')(hn:c.length≤n):c <+:c'.set n z:=by
 obtain⟨zs,rfl⟩:=h
 refine⟨zs.set (n - c.length) z,?_⟩
 rw[List.set_append_right _ _ hn]
theorem pre_app{c c' zs:Cells}(h:c <+:c'):c <+:c'++zs:=h.trans ⟨zs,rfl⟩
theorem oz{c:Cells}{n i:Nat}{z y:Cell}(h:c[i]? =some y)(hn:i≠n):(c.set n z)[i]? =some y:=by rw[List.getElem?_set,if_neg (Ne.symm hn)];exact h
theorem qu{c:Cells}{n:Nat}{z:Cell}(h:n<c.length):(c.set n z)[n]? =some z:=by rw[List.getElem?_set,if_pos rfl,if_pos h]
theorem o_{it:XI}{g:XG}{b:XS}{σ:Qm.Env}{c c1:Cells}{I:Itm}(h:it σ c=some (I,c1)):gu it g b σ c=fZ I.ks g b I.ds σ c1:=by
 unfold gu
 rw[h]
 rfl
def Fr(L:Nat)(c c':Cells):Prop:=∀j z,j≠L→c[j]? =some z→c'[j]? =some z
theorem Fr.app{L:Nat}{c zs:Cells}:Fr L c (c++zs):=fun _ _ _ e=>bf e
theorem Fr.set{L:Nat}{c:Cells}{z:Cell}:Fr L c (c.set L z):=fun _ _ h e=>oz e h
theorem uo{ks:List (Nat×Cell)}{g:XG}{te:XE}{E:Qm.Env→Prop}{Rel:Nat→D→Cells→Prop}{I:Nat→Cells→Prop}{c:Cells}(hs:stays ks c)(hI:∀i u z,I i u→I i (u.set c.length z))(hR:∀i v c1 c2,Rel i v c1→Fr c.length c1 c2→Rel i v c2):∀(ds acc:List D) (zs:List Cell) (τ:Qm.Env) (k:Nat),k=acc.length→E τ→I k (c++.lst acc::zs)→
  (∀(i:Nat) d,ds[i]? =some d→∀τ c',E τ→c <+:c'→c.length<c'.length→I (k+i) c'→∃jz v ws,g d τ c'=some (jz,c')∧te jz c'=some (v,c'++ws)∧E jz∧Rel (k+i) v (c'++ws)∧I (k+i+1) (c'++ws))→acc.length+ds.length≤9000000→(∀i v,acc[i]? =some v→Rel i v (c++.lst acc::zs))→
  ∃vs tL,eh c.length ks g eF te ds τ (c++.lst acc::zs)=some (c++.lst (acc++vs)::tL)∧vs.length=ds.length∧∀i v,(acc++vs)[i]? =some v→Rel i v (c++.lst (acc++vs)::tL)
 |[],acc,zs,τ,k,_,_,_,_,_,ha=>by
  have st:stays ks (c++.lst acc::zs):=fun p hp=>aJ ⟨_,rfl⟩ (hs p hp)
  refine⟨[],zs,?_,rfl,by simpa using ha⟩
  unfold eh
  rw[if_pos st]
  simp
 |d::ds,acc,zs,τ,k,hk,hE,SI,hv,hn,ha=>by
  have st:stays ks (c++.lst acc::zs):=fun p hp=>aJ ⟨_,rfl⟩ (hs p hp)
  rw[List.length_cons]at hn
  obtain⟨jz,v,ws,f1,f2,SJ,hr,I0⟩:=hv 0 d rfl τ (c++.lst acc::zs) hE ⟨_,rfl⟩ (by simp) (by simpa using SI)
  have f3:(c++.lst acc::zs++ws)[c.length]? =some (.lst acc):=by simp
  have f4:(c++.lst acc::zs++ws).set c.length (.lst (acc++[v]))=c++.lst (acc++[v])::(zs++ws):=by simp
  have fr:Fr c.length (c++.lst acc::zs++ws) (c++.lst (acc++[v])::(zs++ws)):=by rw[←f4];exact Fr.set
  obtain⟨vs,tL,f5,f6,f7⟩:=uo hs hI hR ds (acc++[v]) (zs++ws) jz (k+1) (by simp[hk]) SJ (by rw[←f4];exact hI _ _ _ (by simpa using I0)) (fun i d' h1=>by
   have:=hv (i+1) d' (by simpa using h1)
   rwa[show k+(i+1)=k+1+i by omega]at this) (by simp only[List.length_append,List.length_cons,List.length_nil];omega) (fun i u hu=>by
   rcases Nat.lt_or_ge i acc.length with hi|hi
   ·rw[List.getElem?_append_left hi]at hu
    exact hR _ _ _ _ (hR _ _ _ _ (ha i u hu) Fr.app) fr
   ·have:i=acc.length:=by
     have:=(List.getElem?_eq_some_iff.mp hu).1
     simp at this
     omega
    subst this
    rw[List.getElem?_append_right (Nat.le_refl _),Nat.sub_self]at hu
    cases hu
    rw[←hk]
    exact hR _ _ _ _ (by simpa using hr) fr)
  refine⟨v::vs,tL,?_,by simp[f6],by simpa using f7⟩
  unfold eh
  rw[if_pos st]
  have f0:eF jz (c++.lst acc::zs)=some (true,c++.lst acc::zs):=rfl
  simp only[f1,Option.bind_some,f0,if_true,f2,f3,f4]
  rw[if_pos (show acc.length<dh by rw[jA];omega),f5]
  simp
theorem Ls{it:XI}{cap:List (Option Nat)}{g:XG}{te:XE}{σ:Qm.Env}{c0 c:Cells}{ds:List D}{ks:List (Nat×Cell)}(E:Qm.Env→Prop)(Rel:Nat→D→Cells→Prop)(I:Nat→Cells→Prop)(hI:∀i u z,I i u→I i (u.set c.length z))(SK:I 0 (c++[.lst []]))(hi:it σ c0=some (⟨ds,ks⟩,c))(hs:stays ks c)(hE:E (nH σ cap))(hR:∀i v c1 c2,Rel i v c1→Fr c.length c1 c2→Rel i v c2)
  (hv:∀(i:Nat) d,ds[i]? =some d→∀τ c',E τ→c <+:c'→c.length<c'.length→I i c'→∃jz v ws,g d τ c'=some (jz,c')∧te jz c'=some (v,c'++ws)∧E jz∧Rel i v (c'++ws)∧I (i+1) (c'++ws))(hn:ds.length≤9000000):
  ∃vs c',cV it cap g eF te σ c0=some (.ref c.length,c')∧c <+:c'∧c'[c.length]? =some (.lst vs)∧vs.length=ds.length∧∀i v,vs[i]? =some v→Rel i v c':=by
 obtain⟨vs,zs,e,e2,e3⟩:=uo (te:=te) (g:=g) (E:=E) (Rel:=Rel) (I:=I) (ks:=ks) (c:=c) hs hI hR ds [] [] (nH σ cap) 0 rfl hE SK (fun i d h=>by rw[Nat.zero_add];exact hv i d h) (by simp;omega) (fun i v h=>by cases h)
 refine⟨vs,c++.lst vs::zs,?_,⟨_,rfl⟩,by simp,e2,by simpa using e3⟩
 unfold cV
 rw[hi,Option.bind_some]
 dsimp only
 rw[show c++[Cell.lst []]=c++.lst []::[] from rfl,e]
 rfl
theorem zu{it:XI}{cap:List (Option Nat)}{g:XG}{te:XE}{σ:Qm.Env}{c0 c:Cells}{ds:List D}{ks:List (Nat×Cell)}(E:Qm.Env→Prop)(Rel:Nat→D→Cells→Prop)(hi:it σ c0=some (⟨ds,ks⟩,c))(hs:stays ks c)(hE:E (nH σ cap))(hR:∀i v c1 c2,Rel i v c1→Fr c.length c1 c2→Rel i v c2)
  (hv:∀(i:Nat) d,ds[i]? =some d→∀τ c',E τ→c <+:c'→c.length<c'.length→∃jz v ws,g d τ c'=some (jz,c')∧te jz c'=some (v,c'++ws)∧E jz∧Rel i v (c'++ws))(hn:ds.length≤9000000):
  ∃vs c',cV it cap g eF te σ c0=some (.ref c.length,c')∧c <+:c'∧c'[c.length]? =some (.lst vs)∧vs.length=ds.length∧∀i v,vs[i]? =some v→Rel i v c':=
 Ls E Rel (fun _ _=>True) (fun _ _ _ _=>trivial) trivial hi hs hE hR (fun i d h τ c' h1 h2 h3 _=>let ⟨a,b,d,e,f,g,h⟩:=hv i d h τ c' h1 h2 h3;⟨a,b,d,e,f,g,h,trivial⟩) hn
section
variable{α:Type}(lt:α→α→Bool)
def eE:List α→List α→List α
 |l,[]=>l
 |l,y::r=>l.takeWhile (fun x=>!lt y x)++y::eE (l.dropWhile fun x=>!lt y x) r
def fq:List α→Prop
 |x::y::l=>lt y x=false∧fq (y::l)
 |_=>True
variable{lt}
theorem pf:∀(r l:List α),(eE lt l r).Perm (l++r)
 |[],l=>by simp[eE]
 |y::r,l=>by
  have h:=pf r (l.dropWhile fun x=>!lt y x)
  have e:l++y::r=l.takeWhile (fun x=>!lt y x)++(l.dropWhile (fun x=>!lt y x)++y::r):=by rw[←List.append_assoc,List.takeWhile_append_dropWhile]
  rw[e]
  refine List.Perm.append_left _ ?_
  exact(List.Perm.cons y h).trans List.perm_middle.symm
theorem lV{x:α}{l:List α}(h:fq lt (x::l)):fq lt l:=by
 cases l with
 |nil=>trivial
 |cons y l=>exact h.2
theorem ph{x:α}{l:List α}(h:fq lt l)(h2:∀y,l.head?=some y→lt y x=false):fq lt (x::l):=by
 cases l with
 |nil=>trivial
 |cons y l=>exact⟨h2 y rfl,h⟩
theorem xF:∀{l m:List α},fq lt l→fq lt m→(∀x y,l.getLast?=some x→m.head?=some y→lt y x=false)→fq lt (l++m)
 |[],m,_,h,_=>h
 |[x],m,_,h,h2=>ph h fun y hy=>h2 x y rfl hy
 |x::z::l,m,h,hm,h2=>⟨h.1,xF (l:=z::l) h.2 hm fun a b ha hb=>h2 a b (by simpa using ha) hb⟩
theorem uq{p:α→Bool}:∀{l:List α},fq lt l→fq lt (l.takeWhile p)
 |[],_=>trivial
 |x::l,h=>by
  rw[List.takeWhile_cons]
  split
  ·refine ph (uq (lV h)) fun y hy=>?_
   cases l with
   |nil=>cases hy
   |cons z l=>
    rw[List.takeWhile_cons]at hy
    split at hy
    ·cases hy;exact h.1
    ·cases hy
  ·trivial
theorem ur{p:α→Bool}:∀{l:List α},fq lt l→fq lt (l.dropWhile p)
 |[],_=>trivial
 |x::l,h=>by
  rw[List.dropWhile_cons]
  split
  ·exact ur (lV h)
  ·exact h
theorem BK:∀(r l:List α) {y:α},(eE lt l r).head?=some y→l.head?=some y∨r.head?=some y
 |[],l,y,h=>.inl h
 |z::r,l,y,h=>by
  unfold eE at h
  cases l with
  |nil=>exact .inr h
  |cons x l=>
   rw[List.takeWhile_cons]at h
   split at h
   ·exact .inl h
   ·exact .inr h
theorem uu{p:α→Bool}:∀{l:List α}{x:α},x∈l.takeWhile p→p x=true
 |[],x,h=>by cases h
 |z::l,x,h=>by
  rw[List.takeWhile_cons]at h
  split at h
  ·rename_i hz
   rcases List.mem_cons.mp h with rfl|h
   ·exact hz
   ·exact uu h
  ·cases h
theorem zv{p:α→Bool}{l:List α}{x:α}(h:(l.takeWhile p).getLast?=some x):p x=true:=uu (List.mem_of_getLast? h)
theorem sC{p:α→Bool}:∀{l:List α}{x:α},(l.dropWhile p).head?=some x→p x=false
 |[],x,h=>by cases h
 |z::l,x,h=>by
  rw[List.dropWhile_cons]at h
  split at h
  ·exact sC h
  ·rename_i hz
   cases h
   simpa using hz
theorem sE(pj:∀x y,lt x y=true→lt y x=false):∀(r l:List α),fq lt l→fq lt r→fq lt (eE lt l r)
 |[],l,h,_=>h
 |y::r,l,h,hr=>by
  unfold eE
  refine xF (uq h) (ph (sE pj r _ (ur h) (lV hr)) fun z hz=>?_) fun a b ha hb=>?_
  ·rcases BK r _ hz with hz|hz
   ·have:=sC hz
    exact pj y z (by simpa using this)
   ·cases r with
    |nil=>cases hz
    |cons z' r=>cases hz;exact hr.1
  ·cases hb
   have:=zv ha
   simpa using this
theorem uv(tr:∀x y z,lt y x=false→lt z y=false→lt z x=false):∀{l:List α},fq lt l→l.Pairwise fun x y=>lt y x=false
 |[],_=>.nil
 |x::l,h=>by
  have ih:=uv tr (lV h)
  refine List.pairwise_cons.mpr ⟨fun y hy=>?_,ih⟩
  cases l with
  |nil=>cases hy
  |cons z l=>
   rcases List.mem_cons.mp hy with rfl|hy
   ·exact h.1
   ·exact tr x z y h.1 ((List.pairwise_cons.mp ih).1 y hy)
end
section
variable{α:Type}{e:α→D}{lt:α→α→Bool}{L0 L1 L2:aS}{aP:Nat}{fv:D}
structure Look(L0 L1 L2:aS)(aP:Nat)(fv:D)(e:α→D)(lt:α→α→Bool)(ok:α→Prop):Prop where
 at_:∀(x y:α) (c:Cells) (f:XE) (a:XA) (σ:Qm.Env),f σ c=some (fv,c)→a σ c=some ([e x,e y],c)→ok x→ok y→eP [(aP,bJ)] [(L0,eu),(L1,ez),(L2,eD)] f a σ c=some (.bl (lt x y),c)
theorem As{e:α→D}{l:List α}{k:Nat}{x:α}(h:l[k]? =some x):gJ (l.map e) (k:Int)=some (e x):=xy (by rw[List.getElem?_map,h];rfl)
theorem kU{e:α→D}{a:Nat}{l:List α}{c:Cells}(h:c[a]? =some (.lst (l.map e))):bM [.ref a] c=some (.int l.length,c):=by
 rw[su,bI h]
 simp
theorem Au{e:α→D}{a:Nat}{l:List α}{x:α}{c:Cells}(h:c[a]? =some (.lst (l.map e)))(hn:l.length<9000000):cc (.ref a) [e x] c=some (.bL,c.set a (.lst ((l++[x]).map e))):=by
 unfold cc one
 simp only[bu h,Option.bind_some,List.length_map]
 rw[if_pos (show l.length<dh by rw[jA];omega)]
 simp
theorem uw{c:Cells}{z y:Cell}:(c++[z]).set c.length y=c++[y]:=by simp
theorem bN{c:Cells}{z:Cell}:(c++[z])[c.length]? =some z:=by simp
noncomputable abbrev wT(L0 L1 L2:aS)(aP:Nat):XT:=gQ (tV (e2 iD (eV 4) (eB bM (af (eV 0) aj)))) (eY (tV (eP [(aP,bJ)] [(L0,eu),(L1,ez),(L2,eD)] (eV 2) (af (eV 5) (af (e2 aH (eV 0) (eV 4)) aj)))))
noncomputable abbrev wB:XS:=av (d5 (eM cc (eV 3) (af (e2 aH (eV 0) (eV 4)) aj))) (aK 4 (e2 cp (eV 4) (eC (.int 1))))
theorem Hb{ok:α→Prop}(Lk:Look L0 L1 L2 aP fv e lt ok){l:List α}{y:α}{a:Nat}{c:Cells}{w1:Option D}(aO:∀x∈l,ok x)(hy:ok y)(ha:c[a]? =some (.lst (l.map e)))(hl:l.length≤1000000):∀(n k:Nat) (row:List α),l.length - k=n→k≤l.length→row.length≤2000000+k→
  cQ (wT L0 L1 L2 aP) wB [some (.ref a),w1,some fv,some (.ref c.length),some (.int k),some (e y)] (c++[.lst (row.map e)])=some (.nx,[some (.ref a),w1,some fv,some (.ref c.length),some (.int (k+((l.drop k).takeWhile fun x=>!lt y x).length:Nat)),some (e y)],c++[.lst ((row++(l.drop k).takeWhile fun x=>!lt y x).map e)]):=by
 have Lu:∀row:List α,(c++[.lst (row.map e)])[a]? =some (.lst (l.map e)):=fun row=>bf ha
 intro n
 induction n with
 |zero=>
  intro k row hk hle hr
  have Hc:k=l.length:=by omega
  have b1:=kU (Lu row)
  have d0:l.drop k=[]:=List.drop_eq_nil_of_le (by omega)
  rw[d0]
  simp only[List.takeWhile_nil,List.length_nil,Nat.add_zero,List.append_nil]
  refine fF ?_
  have du:decide ((k:Int)<(l.length:Int))=false:=decide_eq_false (by omega)
  erw[b1,du]
 |succ n ih=>
  intro k row hk hle hr
  have Hc:k<l.length:=by omega
  have b1:=kU (Lu row)
  have du:decide ((k:Int)<(l.length:Int))=true:=decide_eq_true (by omega)
  obtain⟨x,hx⟩:∃x,l[k]? =some x:=⟨_,List.getElem?_eq_getElem Hc⟩
  have SM:x∈l:=List.mem_of_getElem? hx
  have d0:l.drop k=x::l.drop (k+1):=by
   rw[List.drop_eq_getElem_cons Hc]
   rw[List.getElem?_eq_getElem Hc]at hx
   rw[Option.some.inj hx]
  have s1:=bI (Lu row)
  have a1:=As (e:=e) hx
  have Hd:wT L0 L1 L2 aP [some (.ref a),w1,some fv,some (.ref c.length),some (.int k),some (e y)] (c++[.lst (row.map e)])=some (!lt y x,c++[.lst (row.map e)]):=by
   have cv:eP [(aP,bJ)] [(L0,eu),(L1,ez),(L2,eD)] (eV 2) (af (eV 5) (af (e2 aH (eV 0) (eV 4)) aj)) [some (.ref a),w1,some fv,some (.ref c.length),some (.int k),some (e y)] (c++[.lst (row.map e)])=some (.bl (lt y x),c++[.lst (row.map e)]):=by
    refine Lk.at_ y x _ _ _ _ (by erw[]) (by erw[iL,s1,a1]) hy (aO x SM)
   erw[b1,du,cv]
  cases uB:lt y x with
  |true=>
   rw[uB]at Hd
   rw[d0,List.takeWhile_cons]
   simp only[uB,Bool.not_true,Bool.false_eq_true,if_false,List.length_nil,Nat.add_zero,List.append_nil]
   exact fF Hd
  |false=>
   rw[uB]at Hd
   rw[d0,List.takeWhile_cons]
   simp only[uB,Bool.not_false,if_true,List.length_cons]
   have ap:=Au (e:=e) (x:=x) (bN (c:=c) (z:=.lst (row.map e))) (by omega)
   rw[uw]at ap
   have bd:wB [some (.ref a),w1,some fv,some (.ref c.length),some (.int k),some (e y)] (c++[.lst (row.map e)])=some (.nx,[some (.ref a),w1,some fv,some (.ref c.length),some (.int ((k+1:Nat):Int)),some (e y)],c++[.lst ((row++[x]).map e)]):=by
    have s2:=bu (bN (c:=c) (z:=.lst (row.map e)))
    erw[iL,s1,a1,s2,ap]
    rfl
   have r:=ih (k+1) (row++[x]) (by omega) (by omega) (by simp;omega)
   rw[show k+1+((l.drop (k+1)).takeWhile fun x=>!lt y x).length=k+(((l.drop (k+1)).takeWhile fun x=>!lt y x).length+1)by omega,List.append_assoc]at r
   exact jQ Hd bd r
theorem He{e:α→D}{l:List α}{k:Nat}(h:k≤l.length):Qm.cutD (l.map e) (some (k:Int)) none=(l.drop k).map e:=by
 have h1:Qm.uS (l.map e).length 0 (some (k:Int))=k:=by
  show(if (k:Int)<0 then((k:Int)+(l.map e).length).toNat else min (k:Int).toNat (l.map e).length)=k
  rw[if_neg (by omega),List.length_map,Int.toNat_natCast]
  omega
 have h2:Qm.uS (l.map e).length (l.map e).length none=l.length:=by simp[Qm.uS]
 unfold Qm.cutD
 rw[h1,h2,List.take_of_length_le (by simp)]
 simp
theorem D7{ok:α→Prop}(Lk:Look L0 L1 L2 aP fv e lt ok){l r:List α}{a b:Nat}{c:Cells}(hl:∀x∈l,ok x)(hr:∀x∈r,ok x)(ha:c[a]? =some (.lst (l.map e)))(hb:c[b]? =some (.lst (r.map e)))(nl:l.length≤1000000)(nr:r.length≤1000000):
  ∃ws,fj L0 L1 L2 aP [.ref a,.ref b,fv] c=some (.ref c.length,c++.lst ((eE lt l r).map e)::ws):=by
 have lk:∀z,(c++[z])[b]? =some (.lst (r.map e)):=fun z=>bf hb
 have it:fR (eV 1) [some (.ref a),some (.ref b),some fv,some (.ref c.length),some (.int 0),none] (c++[.lst []])=some (⟨r.map e,[(b,.lst (r.map e))]⟩,c++[.lst []]):=zt rfl (lk _)
 obtain⟨σ',c',e1,row,k,z,rfl,rfl,h1,h2,h3⟩:=d9 (ks:=[(b,.lst (r.map e))]) (g:=aI 5) (body:=av (cQ (wT L0 L1 L2 aP) wB) (d5 (eM cc (eV 3) (af (eV 5) aj))))
  (fun i σ c'=>∃row k z,σ=[some (.ref a),some (.ref b),some fv,some (.ref c.length),some (.int ((k:Nat):Int)),z]∧c'=c++[.lst (row.map e)]∧eE lt l r=row++eE lt (l.drop k) (r.drop i)∧k≤l.length∧row.length=k+i)
  (r.map e) 0 [some (.ref a),some (.ref b),some fv,some (.ref c.length),some (.int 0),none] (c++[.lst []])
  (by
   rintro i σ c' ⟨row,k,z,gE,dq,_⟩ p hp
   subst dq
   cases List.mem_singleton.mp hp
   exact lk _)
  (by
   rintro i d σ c' hd ⟨row,k,z,gE,dq,h1,h2,h3⟩
   subst gE dq
   rw[List.getElem?_map]at hd
   obtain⟨y,hy,rfl⟩:=Option.map_eq_some_iff.mp hd
   have SN:y∈r:=List.mem_of_getElem? hy
   have D8:i<r.length:=(List.getElem?_eq_some_iff.mp hy).1
   have w:=Hb Lk (y:=y) (w1:=some (.ref b)) hl (hr y SN) ha nl _ k row rfl h2 (by omega)
   generalize AY:(l.drop k).takeWhile (fun x=>!lt y x)=tk at w
   have SO:(l.drop k).dropWhile (fun x=>!lt y x)=l.drop (k+tk.length):=by
    have h:=List.takeWhile_append_dropWhile (p:=fun x=>!lt y x) (l:=l.drop k)
    rw[AY]at h
    have h4:=congrArg (List.drop tk.length) h
    rw[List.drop_left]at h4
    rw[←List.drop_drop]
    exact h4
   have OK:k+tk.length≤l.length:=by
    have:tk.length≤(l.drop k).length:=by rw[←AY];exact(List.takeWhile_sublist _).length_le
    rw[List.length_drop]at this
    omega
   have ap:=Au (e:=e) (x:=y) (bN (c:=c) (z:=.lst ((row++tk).map e))) (by simp;omega)
   rw[uw]at ap
   have s2:=bu (bN (c:=c) (z:=.lst ((row++tk).map e)))
   refine⟨_,_,[some (.ref a),some (.ref b),some fv,some (.ref c.length),some (.int ((k+tk.length:Nat):Int)),some (e y)],c++[.lst ((row++tk++[y]).map e)],rfl,?_,row++tk++[y],k+tk.length,some (e y),rfl,rfl,?_,OK,by simp;omega⟩
   ·erw[w,s2,ap]
   ·rw[h1,show 0+i+1=i+1 from by omega,show 0+i=i from by omega]
    rw[List.drop_eq_getElem_cons D8]
    have:r[i]=y:=by
     rw[List.getElem?_eq_getElem D8]at hy
     exact Option.some.inj hy
    rw[this,eE,AY,SO]
    simp)
  ⟨[],0,none,rfl,rfl,rfl,Nat.zero_le _,rfl⟩
 have s0:=bI (bf (zs:=[.lst (row.map e)]) ha)
 have e2:=o_ (g:=aI 5) (b:=av (cQ (wT L0 L1 L2 aP) wB) (d5 (eM cc (eV 3) (af (eV 5) aj)))) it
 rw[e1]at e2
 have e3:r.drop (0+(r.map e).length)=[]:=List.drop_eq_nil_of_le (by simp)
 rw[e3,eE]at h1
 have s2:bq (.ref c.length) (c++[.lst (row.map e)]++[.lst ((l.drop k).map e)])=some (c.length,row.map e):=bu (bf bN)
 have SR:bq (.ref c.length) (c++[.lst (row.map e)])=some (c.length,row.map e):=bu bN
 have s3:bq (.ref (c++[Cell.lst (row.map e)]).length) (c++[.lst (row.map e)]++[.lst ((l.drop k).map e)])=some ((c++[Cell.lst (row.map e)]).length,(l.drop k).map e):=bu bN
 have mx:kB (.ref c.length) [.ref (c++[Cell.lst (row.map e)]).length] (c++[.lst (row.map e)]++[.lst ((l.drop k).map e)])=some (.bL,c++.lst ((eE lt l r).map e)::[.lst ((l.drop k).map e)]):=by
  unfold kB one
  simp only[s2,s3,Option.bind_some,List.length_map]
  rw[if_pos (show row.length+(l.drop k).length≤dh by rw[jA,List.length_drop,h3];simp;omega)]
  rw[h1]
  simp
 refine⟨[.lst ((l.drop k).map e)],?_⟩
 have ct:kz (.ref a) (some (k:Int)) none (c++[.lst (row.map e)])=some (.ref (c++[Cell.lst (row.map e)]).length,c++[.lst (row.map e)]++[.lst ((l.drop k).map e)]):=by
  show((bS (.ref a) (c++[.lst (row.map e)])).bind _)=_
  rw[s0,Option.bind_some,He h2]
 rw[fj,iK,lU]
 erw[e2,SR,Ar,ct,mx,Nat.zero_le]
end
section
variable{α:Type}{e:α→D}{lt:α→α→Bool}{L0 L1 L2:aS}{aP:Nat}{fv:D}
structure Runs(e:α→D)(c:Cells)(ids:List Nat)(rows:List (List α)):Prop where
 len:ids.length=rows.length
 at_:∀(i n:Nat) l,ids[i]? =some n→rows[i]? =some l→c[n]? =some (.lst (l.map e))
theorem Runs.up{c c':Cells}{ids:List Nat}{rows:List (List α)}(h:Runs e c ids rows)(k:c <+:c'):Runs e c' ids rows:=⟨h.len,fun i n l h1 h2=>aJ k (h.at_ i n l h1 h2)⟩
theorem Runs.get{c:Cells}{ids:List Nat}{rows:List (List α)}(h:Runs e c ids rows){i:Nat}{l:List α}(hl:rows[i]? =some l):∃n,ids[i]? =some n∧c[n]? =some (.lst (l.map e)):=by
 have hi:=(List.getElem?_eq_some_iff.mp hl).1
 rw[←h.len]at hi
 exact⟨ids[i],List.getElem?_eq_getElem hi,h.at_ i _ l (List.getElem?_eq_getElem hi) hl⟩
def fy(lt:α→α→Bool):List (List α)→List (List α)
 |a::b::r=>eE lt a b::fy lt r
 |r=>r
theorem sF:∀(rows:List (List α)),(fy lt rows).length=(rows.length+1) / 2
 |[]=>by simp[fy]
 |[_]=>by simp[fy]
 |a::b::r=>by
  have:=sF r
  simp only[fy,List.length_cons,this]
  omega
theorem vG:∀(rows:List (List α)) (i:Nat) (a b:List α),rows[2*i]? =some a→rows[2*i+1]? =some b→(fy lt rows)[i]? =some (eE lt a b)
 |[],i,a,b,h,_=>by simp at h
 |[_],i,a,b,h,g=>by simp at g
 |x::y::r,0,a,b,h,g=>by
  simp at h g
  subst h g
  rfl
 |x::y::r,i+1,a,b,h,g=>by
  rw[show 2*(i+1)=2*i+1+1 by omega]at h
  rw[show 2*(i+1)+1=2*i+1+1+1 by omega]at g
  exact vG r i a b (by simpa using h) (by simpa using g)
theorem xG:∀(rows:List (List α)) (a:List α),rows.length % 2=1→rows[rows.length - 1]? =some a→(fy lt rows)[rows.length / 2]? =some a
 |[],a,h,_=>by simp at h
 |[x],a,_,h=>by simpa[fy]using h
 |x::y::r,a,h,g=>by
  have hr:r.length % 2=1:=by simp at h;omega
  have h1:(x::y::r).length - 1=(r.length - 1)+1+1:=by simp;omega
  have h2:(x::y::r).length / 2=r.length / 2+1:=by simp;omega
  rw[h1]at g
  rw[h2]
  exact xG r a hr (by simpa using g)
theorem pk:∀(rows:List (List α)),(fy lt rows).flatten.Perm rows.flatten
 |[]=>.refl _
 |[_]=>.refl _
 |a::b::r=>by
  simp only[fy,List.flatten_cons]
  exact((pf b a).append (pk r)).trans (by rw[List.append_assoc])
theorem oA{P:List α→Prop}(hP:∀a b,P a→P b→P (eE lt a b)):∀(rows:List (List α)),(∀l∈rows,P l)→∀l∈fy lt rows,P l
 |[],h=>h
 |[_],h=>h
 |a::b::r,h=>by
  intro l hl
  rcases List.mem_cons.mp hl with rfl|hl
  ·exact hP _ _ (h a (by simp)) (h b (by simp))
  ·exact oA hP r (fun l hl=>h l (by simp[hl])) l hl
theorem sG{ids:List Nat}{i n:Nat}(h:ids[i]? =some n):gJ (ids.map D.ref) (i:Int)=some (.ref n):=As (e:=D.ref) h
theorem D9{lo:Int}{n i:Nat}{d:D}(h:(kJ lo n)[i]? =some d):i<n∧d= .int (lo+i*2):=by
 unfold kJ at h
 rw[List.getElem?_map]at h
 obtain⟨j,hj,rfl⟩:=Option.map_eq_some_iff.mp h
 obtain⟨h1,h2⟩:=List.getElem?_eq_some_iff.mp hj
 simp at h1 h2
 subst h2
 exact⟨h1,rfl⟩
theorem sH{ok:α→Prop}(Lk:Look L0 L1 L2 aP fv e lt ok){ids:List Nat}{rows:List (List α)}{R:Nat}{c:Cells}(hR:c[R]? =some (.lst (ids.map D.ref)))(hr:Runs e c ids rows)(aO:∀l∈rows,∀x∈l,ok x)(hn:∀l∈rows,l.length≤1000000)(h2: 2≤rows.length)(h3:rows.length≤1000000):
  ∃oB c',bV L0 L1 L2 aP [.ref R,fv] c=some (.ref c.length,c')∧c <+:c'∧c'[c.length]? =some (.lst (oB.map D.ref))∧Runs e c' oB (fy lt rows)∧∀m∈oB,m∈ids∨c.length≤m:=by
 have sI:=hr.len
 have bl:bM [.ref R] c=some (.int ids.length,c):=kU (e:=D.ref) hR
 have hi:u_ (af (eC (.int 0)) (af (e2 bR (eB bM (af (eV 0) aj)) (eC (.int 1))) (af (eC (.int 2)) aj))) [some (.ref R),some fv,none] c=some (⟨kJ 0 (rows.length / 2),[]⟩,c):=by
  unfold u_
  have ha:af (eC (.int 0)) (af (e2 bR (eB bM (af (eV 0) aj)) (eC (.int 1))) (af (eC (.int 2)) aj)) [some (.ref R),some fv,none] c=some ([.int 0,.int (ids.length - 1),.int 2],c):=by erw[bl]
  rw[ha,Option.bind_some]
  dsimp only
  rw[if_pos ⟨rfl,⟨by omega,by omega⟩,⟨by omega,by omega⟩⟩]
  rw[show((ids.length:Int) - 1 - 0+1) / 2=((rows.length / 2:Nat):Int)by omega]
  rfl
 obtain⟨vs,c1,e1,p1,g1,l1,r1⟩:=zu (te:=az (fj L0 L1 L2 aP) [] (af (e2 aH (eV 2) (eV 0)) (af (e2 aH (eV 2) (e2 cp (eV 0) (eC (.int 1)))) (af (eV 1) aj)))) (g:=aI 0) (cap:=[none,some 1,some 0])
  (fun τ=>∃z,τ=[z,some fv,some (.ref R)]) (fun i v c'=>∃n a b,v= .ref n∧c.length<n∧rows[2*i]? =some a∧rows[2*i+1]? =some b∧c'[n]? =some (.lst ((eE lt a b).map e))) hi eX ⟨none,rfl⟩
  (fun i v c1 c2 ⟨n,a,b,h1,h2,h3,h4,h5⟩ fr=>⟨n,a,b,h1,h2,h3,h4,fr n _ (by omega) h5⟩)
  (by
   rintro i d hd τ c' ⟨z,D_⟩ pc lc
   subst D_
   obtain⟨I8,rfl⟩:=D9 hd
   obtain⟨a,ha⟩:∃a,rows[2*i]? =some a:=⟨_,List.getElem?_eq_getElem (by omega)⟩
   obtain⟨b,hb⟩:∃b,rows[2*i+1]? =some b:=⟨_,List.getElem?_eq_getElem (by omega)⟩
   obtain⟨na,ga,ca⟩:=hr.get ha
   obtain⟨nb,gb,cb⟩:=hr.get hb
   have ma:=List.mem_of_getElem? ha
   have mb:=List.mem_of_getElem? hb
   obtain⟨ws,em⟩:=D7 Lk (aO a ma) (aO b mb) (aJ pc ca) (aJ pc cb) (hn a ma) (hn b mb)
   have s0:=bI (aJ pc hR)
   have t1:=sG ga
   have t2:=sG gb
   rw[show(((2*i:Nat)):Int)=0+(i:Int)*2 by omega]at t1
   rw[show(((2*i+1:Nat)):Int)=0+(i:Int)*2+1 by omega]at t2
   refine⟨[some (.int (0+i*2)),some fv,some (.ref R)],.ref c'.length,.lst ((eE lt a b).map e)::ws,rfl,?_,⟨_,rfl⟩,c'.length,a,b,rfl,by omega,ha,hb,by simp⟩
   erw[iL,s0,t1,t2,em])
  (by simp[kJ];omega)
 have Lv:vs.length=rows.length / 2:=by rw[l1];simp[kJ]
 have ref:∃ns:List Nat,vs=ns.map D.ref∧ns.length=vs.length∧∀(i n:Nat),ns[i]? =some n→c.length<n∧∃a b,rows[2*i]? =some a∧rows[2*i+1]? =some b∧c1[n]? =some (.lst ((eE lt a b).map e)):=by
  clear e1 g1 l1 Lv
  have:∀(vs:List D) (k:Nat),(∀i v,vs[i]? =some v→∃n a b,v=D.ref n∧c.length<n∧rows[2*(k+i)]? =some a∧rows[2*(k+i)+1]? =some b∧c1[n]? =some (.lst ((eE lt a b).map e)))→∃ns:List Nat,vs=ns.map D.ref∧ns.length=vs.length∧∀(i n:Nat),ns[i]? =some n→c.length<n∧∃a b,rows[2*(k+i)]? =some a∧rows[2*(k+i)+1]? =some b∧c1[n]? =some (.lst ((eE lt a b).map e)):=by
   intro vs
   induction vs with
   |nil=>exact fun k _=>⟨[],rfl,rfl,fun i n h=>by cases h⟩
   |cons v vs ih=>
    intro k h
    obtain⟨n,a,b,rfl,h0,h1,h2,h3⟩:=h 0 v rfl
    obtain⟨ns,rfl,h4,h5⟩:=ih (k+1) fun i v hv=>by
     have:=h (i+1) v (by simpa using hv)
     rwa[show k+(i+1)=k+1+i by omega]at this
    refine⟨n::ns,rfl,by simp,fun i m hm=>?_⟩
    cases i with
    |zero=>
     cases hm
     exact⟨h0,a,b,h1,h2,h3⟩
    |succ i=>
     have:=h5 i m (by simpa using hm)
     rwa[show k+1+i=k+(i+1)by omega]at this
  obtain⟨ns,h1,h2,h3⟩:=this vs 0 fun i v hv=>by rw[Nat.zero_add];exact r1 i v hv
  exact⟨ns,h1,h2,fun i n hn=>by have:=h3 i n hn;rwa[Nat.zero_add]at this⟩
 obtain⟨ns,rfl,ln,rg⟩:=ref
 have OL:bM [.ref R] c1=some (.int ids.length,c1):=kU (e:=D.ref) (aJ p1 hR)
 have dS:=sF (lt:=lt) rows
 rw[←ln]at Lv
 by_cases OM:rows.length % 2=1
 ·obtain⟨a,ha⟩:∃a,rows[rows.length - 1]? =some a:=⟨_,List.getElem?_eq_getElem (by omega)⟩
  obtain⟨m,gm,cm⟩:=hr.get ha
  have hm:decide ((ids.length:Int) % 2=1)=true:=decide_eq_true (by omega)
  have s0:=bI (aJ p1 hR)
  have t1:gJ (ids.map D.ref) (-1)=some (.ref m):=by
   have jB:ids≠[]:=fun h=>by rw[h]at sI;simp at sI;omega
   have:ids=ids.dropLast++[m]:=by
    have h4:=List.dropLast_concat_getLast jB
    rw[List.getLast_eq_getElem]at h4
    have h5:ids[ids.length - 1]'(by omega)=m:=by
     rw[←sI,List.getElem?_eq_getElem (by omega)]at gm
     exact Option.some.inj gm
    rw[h5]at h4
    exact h4.symm
   rw[this,List.map_append]
   exact BF
  have SS:m≠c.length:=by have:=de cm;omega
  have s2:=bu g1
  have ap:=Au (e:=D.ref) (x:=m) g1 (by omega)
  refine⟨ns++[m],c1.set c.length (.lst ((ns++[m]).map D.ref)),?_,ow p1 (Nat.le_refl _),qu (de g1),⟨by rw[dS];simp;omega,fun i n l h1 h2=>?_⟩,fun q hq=>?_⟩
  ·rw[bV,iK,dH]
   erw[e1,OL,hm,iL,s0,t1,s2,ap]
  ·rcases Nat.lt_or_ge i ns.length with BL|BL
   ·rw[List.getElem?_append_left BL]at h1
    obtain⟨q1,a',b',q2,q3,q4⟩:=rg i n h1
    rw[vG rows i a' b' q2 q3]at h2
    cases h2
    exact oz q4 (by omega)
   ·have:i=ns.length:=by
     have:=(List.getElem?_eq_some_iff.mp h1).1
     simp at this
     omega
    subst this
    rw[List.getElem?_append_right (Nat.le_refl _),Nat.sub_self]at h1
    cases h1
    rw[Lv,xG rows a OM ha]at h2
    cases h2
    exact oz (aJ p1 cm) SS
  ·rcases List.mem_append.mp hq with hq|hq
   ·obtain⟨i,BL⟩:=List.getElem?_of_mem hq
    exact .inr (Nat.le_of_lt (rg i q BL).1)
   ·cases List.mem_singleton.mp hq
    exact .inl (List.mem_of_getElem? gm)
 ·have hm:decide ((ids.length:Int) % 2=1)=false:=decide_eq_false (by omega)
  refine⟨ns,c1,?_,p1,g1,⟨by rw[dS];omega,fun i n l h1 h2=>?_⟩,fun q hq=>?_⟩
  ·rw[bV,iK,dH]
   erw[e1,OL,hm]
  ·obtain⟨q1,a',b',q2,q3,q4⟩:=rg i n h1
   rw[vG rows i a' b' q2 q3]at h2
   cases h2
   exact q4
  ·obtain⟨i,BL⟩:=List.getElem?_of_mem hq
   exact .inr (Nat.le_of_lt (rg i q BL).1)
theorem xH{a b:List α}{x:α}:x∈eE lt a b↔x∈a∨x∈b:=by rw[(pf b a).mem_iff,List.mem_append]
def fA(lt:α→α→Bool):Nat→List (List α)→List (List α)
 |0,r=>r
 |n+1,r=>fA lt n (fy lt r)
theorem Ea{ok:α→Prop}(Lk:Look L0 L1 L2 aP fv e lt ok)(pj:∀x y,lt x y=true→lt y x=false){A:Option D}{c0:Cells}:∀(n:Nat) (ids:List Nat) (rows:List (List α)) (R:Nat) (c:Cells),rows.length=n→c[R]? =some (.lst (ids.map D.ref))→Runs e c ids rows→(∀l∈rows,fq lt l)→(∀l∈rows,∀x∈l,ok x)→rows.flatten.length≤1000000→n≤1000000→c0 <+:c→(∀m∈ids,c0.length≤m)→
  ∃oB bA R' c',cQ (tV (e2 oK (eB bM (af (eV 2) aj)) (eC (.int 1)))) (aK 2 (az (bV L0 L1 L2 aP) [] (af (eV 2) (af (eV 1) aj)))) [A,some fv,some (.ref R)] c=some (.nx,[A,some fv,some (.ref R')],c')∧c0 <+:c'∧c'[R']? =some (.lst (oB.map D.ref))∧Runs e c' oB bA∧bA.length≤1∧bA.flatten.Perm rows.flatten∧(∀l∈bA,fq lt l)∧(rows.length=0→bA.length=0)∧(∀m∈oB,c0.length≤m)∧∃t,bA=fA lt t rows:=by
 intro n
 induction n using Nat.strongRecOn with
 |_ n ih=>
  intro ids rows R c hn hR hr eQ aO Hf Vt hp ON
  have bl:bM [.ref R] c=some (.int ids.length,c):=kU (e:=D.ref) hR
  have sI:=hr.len
  by_cases h1:rows.length≤1
  ·have hm:decide ((ids.length:Int) > 1)=false:=decide_eq_false (by omega)
   exact⟨ids,rows,R,c,fF (by erw[bl,hm]),hp,hR,hr,h1,.refl _,eQ,id,ON,0,rfl⟩
  ·have hm:decide ((ids.length:Int) > 1)=true:=decide_eq_true (by omega)
   have qP:∀l∈rows,l.length≤1000000:=fun l hl=>by
    have:=(List.sublist_flatten_of_mem hl).length_le
    omega
   obtain⟨oB,c',e1,p1,g1,r1,m1⟩:=sH Lk hR hr aO qP (by omega) (by omega)
   have dS:=sF (lt:=lt) rows
   have OO:=pk (lt:=lt) rows
   have SU:=xE hp
   obtain⟨OP,Lw,R2,c2,f1,f2,f3,f4,f5,f6,f7,f8,f9,t,ft⟩:=ih (fy lt rows).length (by omega) oB (fy lt rows) c.length c' rfl g1 r1 (oA (P:=fq lt) (fun a b ha hb=>sE pj b a ha hb) rows eQ) (oA (P:=fun l=>∀x∈l,ok x) (fun a b ha hb x hx=>(xH.mp hx).elim (ha x) (hb x)) rows aO) (by rw[OO.length_eq];exact Hf) (by omega) (hp.trans p1) (fun m hm=>(m1 m hm).elim (ON m) fun h=>Nat.le_trans SU h)
   refine⟨OP,Lw,R2,c2,jQ (c':=c) (c2:=c') (σ':=[A,some fv,some (.ref c.length)]) (by erw[bl,hm]) (by erw[e1]) f1,f2,f3,f4,f5,f6.trans OO,f7,fun h=>by omega,f9,t+1,ft⟩
theorem single:∀(xs:List α),(xs.map fun x=>[x]).flatten=xs
 |[]=>rfl
 |x::xs=>by
  rw[List.map_cons,List.flatten_cons,single xs]
  rfl
theorem jZ{ok:α→Prop}(Lk:Look L0 L1 L2 aP fv e lt ok)(pj:∀x y,lt x y=true→lt y x=false){xs:List α}{a:Nat}{c:Cells}(ha:c[a]? =some (.lst (xs.map e)))(aO:∀x∈xs,ok x)(hn:xs.length≤1000000):
  ∃n ys c',bj L0 L1 L2 aP [.ref a,fv] c=some (.ref n,c')∧c <+:c'∧c.length≤n∧c'[n]? =some (.lst (ys.map e))∧ys.Perm xs∧fq lt ys∧∃t,(fA lt t (xs.map fun x=>[x])).length≤1∧ys=(fA lt t (xs.map fun x=>[x])).flatten:=by
 have hi:fR (eV 0) [some (.ref a),some fv,none] c=some (⟨xs.map e,[(a,.lst (xs.map e))]⟩,c):=zt rfl ha
 obtain⟨vs,c1,e1,p1,g1,l1,r1⟩:=zu (te:=gS (af (eV 0) aj)) (g:=aI 0) (cap:=[none]) (fun τ=>∃z,τ=[z]) (fun i v c'=>∃n x,v= .ref n∧c.length<n∧xs[i]? =some x∧c'[n]? =some (.lst ([x].map e))) hi (fun p hp=>by cases List.mem_singleton.mp hp;exact ha) ⟨none,rfl⟩
  (fun i v c1 c2 ⟨n,x,h1,h2,h3,h4⟩ fr=>⟨n,x,h1,h2,h3,fr n _ (by omega) h4⟩)
  (by
   rintro i d hd τ c' ⟨z,D_⟩ pc lc
   subst D_
   rw[List.getElem?_map]at hd
   obtain⟨x,hx,rfl⟩:=Option.map_eq_some_iff.mp hd
   refine⟨[some (e x)],.ref c'.length,[.lst [e x]],rfl,?_,⟨_,rfl⟩,c'.length,x,rfl,lc,hx,by simp⟩
   erw[])
  (by simp;omega)
 have ref:∃ns:List Nat,vs=ns.map D.ref∧Runs e c1 ns (xs.map fun x=>[x])∧∀m∈ns,c.length≤m:=by
  clear e1 g1
  rw[List.length_map]at l1
  have:∀(vs:List D) (xs:List α),vs.length=xs.length→(∀(i:Nat) v,vs[i]? =some v→∃n x,v=D.ref n∧c.length<n∧xs[i]? =some x∧c1[n]? =some (.lst ([x].map e)))→∃ns:List Nat,vs=ns.map D.ref∧Runs e c1 ns (xs.map fun x=>[x])∧∀m∈ns,c.length≤m:=by
   intro vs
   induction vs with
   |nil=>
    intro xs hl _
    cases xs with
    |nil=>exact⟨[],rfl,⟨rfl,fun i n l h=>by cases h⟩,fun m h=>nomatch h⟩
    |cons _ _=>simp at hl
   |cons v vs ih=>
    intro xs hl h
    cases xs with
    |nil=>simp at hl
    |cons x xs=>
     obtain⟨n,x',rfl,h0,h1,h2⟩:=h 0 v rfl
     cases h1
     obtain⟨ns,rfl,h4,h5⟩:=ih xs (by simpa using hl) fun i v hv=>by
      have:=h (i+1) v (by simpa using hv)
      simpa using this
     refine⟨n::ns,rfl,⟨by simpa using h4.len,fun i m l h6 h7=>?_⟩,fun m hm=>?_⟩
     ·cases i with
      |zero=>
       cases h6
       cases h7
       exact h2
      |succ i=>exact h4.at_ i m l (by simpa using h6) (by simpa using h7)
     ·rcases List.mem_cons.mp hm with rfl|hm
      ·exact Nat.le_of_lt h0
      ·exact h5 m hm
  exact this vs xs l1 r1
 obtain⟨ns,rfl,hr,hm⟩:=ref
 have Hf:(xs.map fun x=>[x]).flatten=xs:=single xs
 obtain⟨ids,rows,R,c2,f1,f2,f3,f4,f5,f6,f7,f8,f9,t,ft⟩:=Ea Lk pj (A:=some (.ref a)) (c0:=c) _ ns (xs.map fun x=>[x]) c.length c1 rfl g1 hr (fun l hl=>by
  obtain⟨x,_,rfl⟩:=List.mem_map.mp hl
  trivial) (fun l hl y hy=>by
  obtain⟨x,hx,rfl⟩:=List.mem_map.mp hl
  cases List.mem_singleton.mp hy
  exact aO _ hx) (by rw[Hf];exact hn) (by simpa using hn) p1 hm
 rw[Hf]at f6
 have sI:=f4.len
 have bl:bM [.ref R] c2=some (.int ids.length,c2):=kU (e:=D.ref) f3
 cases OR:rows with
 |nil=>
  subst OR
  have SV:ids.length=0:=sI
  have hm:decide ((ids.length:Int)=1)=false:=decide_eq_false (by omega)
  refine⟨c2.length,[],c2++[.lst []],?_,pre_app f2,xE f2,by simp,by simpa using f6,trivial,t,by rw[←ft];exact f5,by rw[←ft];rfl⟩
  rw[bj,iK,gD]
  erw[e1,f1,bl,hm,Nat.zero_le]
 |cons l rest=>
  subst OR
  have SW:rest=[]:=by
   cases rest with
   |nil=>rfl
   |cons _ _=>simp at f5
  subst SW
  obtain⟨n,gn,cn⟩:=f4.get (i:=0) (l:=l) rfl
  have SV:ids.length=1:=sI
  have hm:decide ((ids.length:Int)=1)=true:=decide_eq_true (by omega)
  have s0:=bI f3
  have t1:gJ (ids.map D.ref) 0=some (.ref n):=sG gn
  refine⟨n,l,c2,?_,f2,f9 n (List.mem_of_getElem? gn),cn,by simpa using f6,f7 l (by simp),t,by rw[←ft];exact f5,by rw[←ft];simp⟩
  rw[bj,iK,gD]
  erw[e1,f1,bl,hm,iL,s0,t1]
end
section
variable{α:Type}{lt:α→α→Bool}{pos:α→Nat}
def jh(lt:α→α→Bool)(pos:α→Nat)(x y:α):Bool:=lt x y||(!lt y x&&decide (pos x<pos y))
theorem Eb{x y:α}(h:pos x<pos y):jh lt pos y x=lt y x:=by
 unfold jh
 rw[decide_eq_false (by omega),Bool.and_false,Bool.or_false]
theorem uy{p q:α→Bool}:∀{l:List α},(∀x∈l,p x=q x)→l.takeWhile p=l.takeWhile q∧l.dropWhile p=l.dropWhile q
 |[],_=>⟨rfl,rfl⟩
 |x::l,h=>by
  have ih:=uy fun y hy=>h y (List.mem_cons_of_mem _ hy)
  have hx:=h x List.mem_cons_self
  rw[List.takeWhile_cons,List.takeWhile_cons,List.dropWhile_cons,List.dropWhile_cons,hx,ih.1,ih.2]
  exact⟨rfl,rfl⟩
theorem Ec:∀(r l:List α),(∀x∈l,∀y∈r,pos x<pos y)→eE lt l r=eE (jh lt pos) l r
 |[],l,_=>rfl
 |y::r,l,h=>by
  have e:=uy (p:=fun x=>!lt y x) (q:=fun x=>!jh lt pos y x) (l:=l) fun x hx=>by rw[Eb (h x hx y List.mem_cons_self)]
  unfold eE
  rw[e.1,e.2,Ec r _ fun x hx z hz=>h x ((List.dropWhile_sublist _).subset hx) z (List.mem_cons_of_mem _ hz)]
def Sep(pos:α→Nat)(rows:List (List α)):Prop:=rows.Pairwise fun a b=>∀x∈a,∀y∈b,pos x<pos y
theorem Ed:∀(rows:List (List α)),Sep pos rows→fy lt rows=fy (jh lt pos) rows∧Sep pos (fy lt rows)
 |[],_=>⟨rfl,.nil⟩
 |[a],h=>⟨rfl,h⟩
 |a::b::rows,h=>by
  obtain⟨h1,h2⟩:=List.pairwise_cons.mp h
  obtain⟨h3,h4⟩:=List.pairwise_cons.mp h2
  obtain⟨i1,i2⟩:=Ed rows h4
  have m:=Ec (lt:=lt) b a (h1 b List.mem_cons_self)
  constructor
  ·show eE lt a b::fy lt rows=eE (jh lt pos) a b::fy (jh lt pos) rows
   rw[m,i1]
  ·show Sep pos (eE lt a b::fy lt rows)
   refine List.pairwise_cons.mpr ⟨fun c hc x hx y hy=>?_,i2⟩
   have yf:y∈rows.flatten:=(pk rows).mem_iff.mp (List.mem_flatten.mpr ⟨c,hc,hy⟩)
   obtain⟨d,hd,OS⟩:=List.mem_flatten.mp yf
   rcases xH.mp hx with hx|hx
   ·exact h1 d (List.mem_cons_of_mem _ hd) x hx y OS
   ·exact h3 d hd x hx y OS
theorem Ee:∀(t:Nat) (rows:List (List α)),Sep pos rows→fA lt t rows=fA (jh lt pos) t rows
 |0,_,_=>rfl
 |t+1,rows,h=>by
  obtain⟨h1,h2⟩:=Ed (lt:=lt) rows h
  show fA lt t (fy lt rows)=fA (jh lt pos) t (fy (jh lt pos) rows)
  rw[Ee t _ h2,h1]
theorem xI(pj:∀x y,lt x y=true→lt y x=false):∀(t:Nat) (rows:List (List α)),(∀l∈rows,fq lt l)→∀l∈fA lt t rows,fq lt l
 |0,_,h=>h
 |t+1,rows,h=>xI pj t _ (oA (P:=fq lt) (fun a b ha hb=>sE pj b a ha hb) rows h)
theorem Hg(pj:∀x y,lt x y=true→lt y x=false)(x y:α)(h:jh lt pos x y=true):jh lt pos y x=false:=by
 unfold jh at*
 rcases Bool.or_eq_true_iff.mp h with h|h
 ·rw[pj x y h,h];rfl
 ·obtain⟨h1,h2⟩:=Bool.and_eq_true_iff.mp h
  have h1:lt y x=false:=by simpa using h1
  have h2:=of_decide_eq_true h2
  rw[h1,decide_eq_false (by omega),Bool.and_false]
  rfl
theorem sJ(pj:∀x y,lt x y=true→lt y x=false){xs:List α}{t:Nat}(hp:xs.Pairwise fun x y=>pos x<pos y)(h1:(fA lt t (xs.map fun x=>[x])).length≤1):fq (jh lt pos) (fA lt t (xs.map fun x=>[x])).flatten:=by
 have sp:Sep pos (xs.map fun x=>[x]):=by
  unfold Sep
  rw[List.pairwise_map]
  exact hp.imp fun h x hx y hy=>by rw[List.mem_singleton.mp hx,List.mem_singleton.mp hy];exact h
 have e:=Ee (lt:=lt) t _ sp
 have c:=xI (lt:=jh lt pos) (Hg pj) t (xs.map fun x=>[x]) fun l hl=>by
  obtain⟨x,_,rfl⟩:=List.mem_map.mp hl
  trivial
 rw[←e]at c
 generalize fA lt t (xs.map fun x=>[x])=rows at*
 match rows,h1,c with
 |[],_,_=>trivial
 |[r],_,c=>simpa using c r (by simp)
 |_::_::_,h1,_=>simp at h1
end
theorem aN{a b:XS}{σ σ1:Qm.Env}{c c1:Cells}{r:Option (Fl×Qm.Env×Cells)}(h1:a σ c=some (.nx,σ1,c1))(h2:b σ1 c1=r):av a b σ c=r:=by
 rw[sj,h1,Option.bind_some]
 exact h2
def gW(x:Int):Prop:=-1000000000000000000000000000000≤x∧x≤1000000000000000000000000000000
def Raw(p:T3):Prop:=gW p.1∧gW p.2.1∧gW p.2.2∧p.2.2≠0
theorem gW.bd{x:Int}(h:gW x):My.Bd 100 x:=Lp h.1 h.2
theorem Ef{i j k:Int}{c:Cells}:jd [.int i,.int j,.int k] c=some (.int (if j > i then(if k > j then k else j)else(if k > i then k else i)),c):=rfl
theorem Eg{c:Cells}:d6 (.int 10) (.int 15) c=some (.int 1000000000000000,c):=by
 unfold d6;rw[vx,if_pos (by decide)];rfl
theorem Eh{c:Cells}:d6 (.int 10) (.int 14) c=some (.int 100000000000000,c):=by
 unfold d6;rw[vx,if_pos (by decide)];rfl
theorem Ei{c:Cells}:d6 (.int 10) (.int 29) c=some (.int 100000000000000000000000000000,c):=by
 unfold d6;rw[vx,if_pos (by decide)];rfl
noncomputable abbrev OT:XE:=eB jd (af (eB d7 (af (eV 4) aj)) (af (eB d7 (af (eV 5) aj)) (af (eB d7 (af (eV 6) aj)) aj)))
theorem KS(x y w:Int):∃m:Int,(∀c:Cells,jd [.int (if x<0 then -x else x),.int (if y<0 then -y else y),.int (if w<0 then -w else w)] c=some (.int m,c))∧(x≤m∧-x≤m)∧(y≤m∧-y≤m)∧w≤m∧-w≤m:=by
 refine⟨_,fun c=>Ef,?_,?_,?_⟩<;>(constructor<;>(repeat' split)<;>omega)
noncomputable abbrev s7:XS:=aK 7 (e2 cp (eC (.int 1)) (e2 bh (az ar [] (af (eV 3) (af (eC (.int 3)) aj))) (eB kA (af (e2 iD OT (eC (.int 300000))) aj))))
noncomputable abbrev sM(e:XE):XS:=iW [4,5,6] (af (e2 bh (eV 4) e) (af (e2 bh (eV 5) e) (af (e2 bh (eV 6) e) aj)))
noncomputable abbrev IK:XS:=cY (gQ (tV (e2 iE (az ar [] (af (eV 3) (af (eC (.int 2)) aj))) (eC (.int 1)))) (tV (e2 iD OT (e2 d6 (eC (.int 10)) (eC (.int 15)))))) (sM (e2 d6 (eC (.int 10)) (eC (.int 14)))) bW
noncomputable abbrev vH(i:Nat):XS:=aK i (e2 cp (eV i) (e2 bh (e2 bR (az ar [] (af (eV 3) (af (eC (.int 3)) aj))) (eC (.int 1))) (eB kA (af (e2 iD (eB d7 (af (eV i) aj)) (e2 d6 (eC (.int 10)) (eC (.int 30)))) aj))))
section
variable{z0 z1 z2 z7:Option D}{n:Nat}{x y w:Int}{c:Cells}
theorem SX(h:dI n c)(hx:Raw (x,y,w)):∃o c',s7 [z0,z1,z2,some (.ref n),some (.int x),some (.int y),some (.int w),z7] c=some (.nx,[z0,z1,z2,some (.ref n),some (.int x),some (.int y),some (.int w),some (.int o)],c')∧0<o∧o≤3∧Raw (x*o,y*o,w*o)∧dI n c'∧Kp n c c':=by
 obtain⟨d,c',e,l,u,p,k⟩:=cR h (m:=3) (by decide) (by walk_at "bdm")
 obtain⟨m,em,⟨a1,a2⟩,⟨b1,b2⟩,c1,c2⟩:=KS x y w
 obtain⟨⟨x1,x2⟩,⟨y1,y2⟩,⟨w1,w2⟩,w3⟩:=hx
 dsimp only at x1 x2 y1 y2 w1 w2 w3
 have fin:∀o:Int,0<o→o≤3→(o=1∨m<300000)→Raw (x*o,y*o,w*o):=fun o o0 o3 ho=>by
  rcases ho with rfl|hm
  ·rw[Int.mul_one,Int.mul_one,Int.mul_one]
   exact⟨⟨x1,x2⟩,⟨y1,y2⟩,⟨w1,w2⟩,w3⟩
  ·have:o=1∨o=2∨o=3:=by omega
   unfold Raw gW
   dsimp only
   rcases this with rfl|rfl|rfl<;>refine⟨⟨?_,?_⟩,⟨?_,?_⟩,⟨?_,?_⟩,?_⟩<;>omega
 by_cases hm:m<300000
 ·refine⟨1+d*1,c',?_,by omega,by omega,fin _ (by omega) (by omega) (.inr hm),p,k⟩
  erw[e,em,decide_eq_true hm]
 ·refine⟨1+d*0,c',?_,by omega,by omega,fin _ (by omega) (by omega) (.inl (by omega)),p,k⟩
  erw[e,em,decide_eq_false hm]
theorem SY{o:Int}{e:XE}(ho:MulOk x o∧MulOk y o∧MulOk w o)(he:∀z4 z5 z6 c,e [z0,z1,z2,some (.ref n),z4,z5,z6,z7] c=some (.int o,c)):
  sM e [z0,z1,z2,some (.ref n),some (.int x),some (.int y),some (.int w),z7] c=some (.nx,[z0,z1,z2,some (.ref n),some (.int (x*o)),some (.int (y*o)),some (.int (w*o)),z7],c):=by
 erw[he,sk ho.1,sk ho.2.1,sk ho.2.2]
theorem Lx(h:dI n c)(hx:Raw (x,y,w)):∃x' y' w' c',IK [z0,z1,z2,some (.ref n),some (.int x),some (.int y),some (.int w),z7] c=some (.nx,[z0,z1,z2,some (.ref n),some (.int x'),some (.int y'),some (.int w'),z7],c')∧Raw (x',y',w')∧dI n c'∧Kp n c c':=by
 obtain⟨d,c',e,l,u,p,k⟩:=cR h (m:=2) (by decide) (by walk_at "bdm")
 obtain⟨m,em,⟨a1,a2⟩,⟨b1,b2⟩,c1,c2⟩:=KS x y w
 by_cases hd:d=1
 ·by_cases hm:m<1000000000000000
  ·obtain⟨⟨x1,x2⟩,⟨y1,y2⟩,⟨w1,w2⟩,w3⟩:=hx
   dsimp only at x1 x2 y1 y2 w1 w2 w3
   refine⟨x*100000000000000,y*100000000000000,w*100000000000000,c',?_,?_,p,k⟩
   ·erw[e,em,Eg,Eh,decide_eq_true hd,decide_eq_true hm]
   ·unfold Raw gW
    dsimp only
    refine⟨⟨?_,?_⟩,⟨?_,?_⟩,⟨?_,?_⟩,?_⟩<;>omega
  ·refine⟨x,y,w,c',?_,hx,p,k⟩
   erw[e,em,Eg,Eh,decide_eq_true hd,decide_eq_false hm]
 ·refine⟨x,y,w,c',?_,hx,p,k⟩
  erw[e,decide_eq_false hd]
theorem Hh(h:dI n c)(hx:gW x):∃x' c',vH 4 [z0,z1,z2,some (.ref n),some (.int x),some (.int y),some (.int w),z7] c=some (.nx,[z0,z1,z2,some (.ref n),some (.int x'),some (.int y),some (.int w),z7],c')∧gW x'∧dI n c'∧Kp n c c':=by
 obtain⟨d,c',e,l,u,p,k⟩:=cR h (m:=3) (by decide) (by walk_at "bdm")
 obtain⟨x1,x2⟩:=hx
 by_cases ha:(if x<0 then -x else x)<1000000000000000000000000000000
 ·refine⟨x+(d - 1)*1,c',?_,?_,p,k⟩
  ·erw[e,o8,decide_eq_true ha]
  ·unfold gW
   split at ha<;>constructor<;>omega
 ·refine⟨x+(d - 1)*0,c',?_,?_,p,k⟩
  ·erw[e,o8,decide_eq_false ha]
  ·unfold gW
   rw[Int.mul_zero,Int.add_zero]
   exact⟨x1,x2⟩
theorem Hi(h:dI n c)(hx:gW y):∃x' c',vH 5 [z0,z1,z2,some (.ref n),some (.int x),some (.int y),some (.int w),z7] c=some (.nx,[z0,z1,z2,some (.ref n),some (.int x),some (.int x'),some (.int w),z7],c')∧gW x'∧dI n c'∧Kp n c c':=by
 obtain⟨d,c',e,l,u,p,k⟩:=cR h (m:=3) (by decide) (by walk_at "bdm")
 obtain⟨x1,x2⟩:=hx
 by_cases ha:(if y<0 then -y else y)<1000000000000000000000000000000
 ·refine⟨y+(d - 1)*1,c',?_,?_,p,k⟩
  ·erw[e,o8,decide_eq_true ha]
  ·unfold gW
   split at ha<;>constructor<;>omega
 ·refine⟨y+(d - 1)*0,c',?_,?_,p,k⟩
  ·erw[e,o8,decide_eq_false ha]
  ·unfold gW
   rw[Int.mul_zero,Int.add_zero]
   exact⟨x1,x2⟩
end
noncomputable abbrev vI:XS:=av (wK (e2 aH (eV 1) (e1 t7 (eC (.int 1)))) (jw 3 (cE (aI 4) (cE (aI 5) (cE (aI 6) jv))))) (av s7 (av (sM (eV 7)) (av IK (av (vH 4) (vH 5)))))
theorem Hj{z0 z2 z4 z5 z6 z7:Option D}{n L:Nat}{l:List T3}{c:Cells}(h:dI n c)(hL:c[L]? =some (.lst (l.map sd)))(hl: 0<l.length)(hr:∀p∈l,Raw p):
  ∃x y w z c',vI [z0,some (.ref L),z2,some (.ref n),z4,z5,z6,z7] c=some (.nx,[z0,some (.ref L),z2,some (.ref n),some (.int x),some (.int y),some (.int w),z],c')∧Raw (x,y,w)∧dI n c'∧Kp n c c':=by
 obtain⟨⟨x0,y0,w0⟩,hp⟩:=BH hl
 have OU:=hr _ (List.mem_of_getElem? hp)
 have e0:aH (.ref L) (.int (-1)) c=some (sd (x0,y0,w0),c):=o9 hL (.inr ⟨by decide,by omega⟩) hp
 unfold sd sp at e0
 obtain⟨o,c1,e1,o1,o2,r1,p1,k1⟩:=SX (z0:=z0) (z1:=some (.ref L)) (z2:=z2) (z7:=z7) h OU
 obtain⟨x2,y2,w2,c2,e2,r2,p2,k2⟩:=Lx (z0:=z0) (z1:=some (.ref L)) (z2:=z2) (z7:=some (.int o)) p1 r1
 obtain⟨x3,c3,e3,r3,p3,k3⟩:=Hh (z0:=z0) (z1:=some (.ref L)) (z2:=z2) (z7:=some (.int o)) (y:=y2) (w:=w2) p2 r2.1
 obtain⟨y3,c4,e4,r4,p4,k4⟩:=Hi (z0:=z0) (z1:=some (.ref L)) (z2:=z2) (z7:=some (.int o)) (x:=x3) (w:=w2) p3 r2.2.1
 refine⟨x3,y3,w2,some (.int o),c4,?_,⟨r3,r4,r2.2.2.1,r2.2.2.2⟩,p4,k1.trans (k2.trans (k3.trans k4))⟩
 refine aN (σ1:=[z0,some (.ref L),z2,some (.ref n),some (.int x0),some (.int y0),some (.int w0),z7]) (c1:=c) (by erw[e0]) (aN e1 (aN ?_ (aN e2 (aN e3 e4))))
 exact SY ⟨mulR (by omega),mulR (by omega),mulR (by omega)⟩ fun _ _ _ _=>rfl
noncomputable abbrev Hk:XS:=av (aK 3 (az bE [] (af (eV 0) (af (e2 cp (eC (.int 1)) (eV 2)) aj))))
 (av (iW [4,5] (af (az bG [] (af (eV 3) aj)) (af (az bG [] (af (eV 3) aj)) aj)))
 (av (aK 6 (az cK [] (af (eV 3) aj)))
 (av (cY (gQ (tV (e2 oK (eB bM (af (eV 1) aj)) (eC (.int 0)))) (tV (e2 iE (az ar [] (af (eV 3) (af (eC (.int 3)) aj))) (eC (.int 0))))) vI bW)
 (av (cY (tV (e2 iE (az ar [] (af (eV 3) (af (eC (.int 2)) aj))) (eC (.int 1)))) (iW [4,5,6] (af (e2 bR (eC (.int 0)) (eV 4)) (af (e2 bR (eC (.int 0)) (eV 5)) (af (e2 bR (eC (.int 0)) (eV 6)) aj)))) bW)
 (d5 (eM cc (eV 1) (af (iC (af (eV 4) (af (eV 5) (af (eV 6) aj)))) aj)))))))
theorem xJ{m:Nat}{l:List T3}{c:Cells}(h:c[m]? =some (.lst (l.map sd))):bM [.ref m] c=some (.int l.length,c):=kU h
theorem Ly{L k:Nat}{l:List T3}{c0 c:Cells}{ns:List Int}{z3 z4 z5 z6 z7:Option D}(h0:c[0]? =some (.ro (ns.map D.int)))(hL:c[L]? =some (.lst (l.map sd)))(hr:∀p∈l,Raw p)(hn:l.length≤100)(hk:k<100)(hp:c0 <+:c)(vh:c0.length≤L):
  ∃zw zx zy zz zA p c',Hk [some (.ref 0),some (.ref L),some (.int k),z3,z4,z5,z6,z7] c=some (.nx,[some (.ref 0),some (.ref L),some (.int k),zw,zx,zy,zz,zA],c')∧Raw p∧c'[L]? =some (.lst ((l++[p]).map sd))∧c'[0]? =some (.ro (ns.map D.int))∧c0 <+:c':=by
 obtain⟨a,b,e1,a0,b0⟩:=zq (k:=1+k) h0 (by omega) (by omega)
 have du:=de hL
 have U9:=de h0
 have p1:dI c.length (c++[.lst [.int a,.int b]]):=⟨a,b,by simp,a0,b0⟩
 obtain⟨x,c2,e2,x1,x2,p2,k2⟩:=Ap p1
 obtain⟨y,c3,e3,y1,y2,p3,k3⟩:=Ap p2
 obtain⟨w,c4,e4,w1,w2,p4,k4⟩:=G_ p3
 have K4:Kp c.length (c++[.lst [.int a,.int b]]) c4:=k2.trans (k3.trans k4)
 have OV:c4[L]? =some (.lst (l.map sd)):=K4.get (bf hL) (by omega)
 have r0:Raw (x,y,w):=⟨⟨x1,x2⟩,⟨y1,y2⟩,⟨by dsimp only;omega,w2⟩,by dsimp only;omega⟩
 have mid:∃x' y' w' z c5,cY (gQ (tV (Qm.e2 oK (eB bM (af (eV 1) aj)) (eC (.int 0)))) (tV (Qm.e2 iE (az ar [] (af (eV 3) (af (eC (.int 3)) aj))) (eC (.int 0))))) vI bW [some (.ref 0),some (.ref L),some (.int k),some (.ref c.length),some (.int x),some (.int y),some (.int w),z7] c4=some (.nx,[some (.ref 0),some (.ref L),some (.int k),some (.ref c.length),some (.int x'),some (.int y'),some (.int w'),z],c5)∧Raw (x',y',w')∧dI c.length c5∧Kp c.length c4 c5:=by
  have bl:=xJ OV
  by_cases hl: 0<l.length
  ·have t1:decide ((0:Int)<(l.length:Int))=true:=decide_eq_true (by omega)
   obtain⟨d,c5,f1,_,_,q1,g1⟩:=cR p4 (m:=3) (by decide) (by walk_at "bdm")
   by_cases hd:d=0
   ·obtain⟨x',y',w',z,c6,f2,r2,q2,g2⟩:=Hj (z0:=some (.ref 0)) (z2:=some (.int k)) (z4:=some (.int x)) (z5:=some (.int y)) (z6:=some (.int w)) (z7:=z7) q1 (g1.get OV (by omega)) hl hr
    refine⟨x',y',w',z,c6,?_,r2,q2,g1.trans g2⟩
    rw[xw]
    have tt:gQ (tV (Qm.e2 oK (eB bM (af (eV 1) aj)) (eC (.int 0)))) (tV (Qm.e2 iE (az ar [] (af (eV 3) (af (eC (.int 3)) aj))) (eC (.int 0)))) [some (.ref 0),some (.ref L),some (.int k),some (.ref c.length),some (.int x),some (.int y),some (.int w),z7] c4=some (true,c5):=by
     erw[bl,t1,f1,decide_eq_true hd]
    rw[tt,Option.bind_some]
    dsimp only
    rw[if_pos rfl]
    exact f2
   ·refine⟨x,y,w,z7,c5,?_,r0,q1,g1⟩
    erw[bl,t1,f1,decide_eq_false hd]
  ·have t1:decide ((0:Int)<(l.length:Int))=false:=decide_eq_false (by omega)
   refine⟨x,y,w,z7,c4,?_,r0,p4,Kp.refl _ _⟩
   erw[bl,t1]
 obtain⟨x',y',w',z,c5,e5,r5,p5,k5⟩:=mid
 obtain⟨d,c6,e6,d1,d2,p6,k6⟩:=cR p5 (m:=2) (by decide) (by walk_at "bdm")
 have K6:=K4.trans (k5.trans k6)
 have Lz:c6[L]? =some (.lst (l.map sd)):=K6.get (bf hL) (by omega)
 have neg:∃p:T3,cY (tV (Qm.e2 iE (az ar [] (af (eV 3) (af (eC (.int 2)) aj))) (eC (.int 1)))) (iW [4,5,6] (af (Qm.e2 bR (eC (.int 0)) (eV 4)) (af (Qm.e2 bR (eC (.int 0)) (eV 5)) (af (Qm.e2 bR (eC (.int 0)) (eV 6)) aj)))) bW [some (.ref 0),some (.ref L),some (.int k),some (.ref c.length),some (.int x'),some (.int y'),some (.int w'),z] c5=some (.nx,[some (.ref 0),some (.ref L),some (.int k),some (.ref c.length),some (.int p.1),some (.int p.2.1),some (.int p.2.2),z],c6)∧Raw p:=by
  by_cases hd:d=1
  ·refine⟨(0 - x',0 - y',0 - w'),?_,?_⟩
   ·erw[e6,decide_eq_true hd]
   ·obtain⟨⟨u1,u2⟩,⟨u3,u4⟩,⟨u5,u6⟩,u7⟩:=r5
    dsimp only at u1 u2 u3 u4 u5 u6 u7
    unfold Raw gW
    dsimp only
    refine⟨⟨?_,?_⟩,⟨?_,?_⟩,⟨?_,?_⟩,?_⟩<;>omega
  ·refine⟨(x',y',w'),?_,r5⟩
   erw[e6,decide_eq_false hd]
 obtain⟨p,e7,r7⟩:=neg
 have ap:=uk (p:=p) Lz (by omega)
 have lo:=bu Lz
 unfold sd sp at ap
 have jB:c.length≠L:=by omega
 have OW:c0 <+:c6.set L (.lst ((l++[p]).map sd)):=by
  refine ow ?_ vh
  obtain⟨t,rfl⟩:=hp
  have lk:=K6.len
  simp only[List.length_append,List.length_cons,List.length_nil]at lk
  refine List.prefix_iff_eq_take.mpr (List.ext_getElem? fun i=>?_)
  rw[List.getElem?_take]
  split
  ·rename_i hi
   rw[K6.at_ i (by simp only[List.length_append,List.length_cons,List.length_nil];omega) (by simp only[List.length_append];omega),List.append_assoc,List.getElem?_append_left hi]
  ·exact List.getElem?_eq_none (by omega)
 refine⟨some (.ref c.length),some (.int p.1),some (.int p.2.1),some (.int p.2.2),z,p,c6.set L (.lst ((l++[p]).map sd)),?_,r7,qu (de Lz),?_,OW⟩
 ·refine aN (σ1:=[some (.ref 0),some (.ref L),some (.int k),some (.ref c.length),z4,z5,z6,z7]) (c1:=c++[.lst [.int a,.int b]]) (by erw[e1]) ?_
  refine aN (σ1:=[some (.ref 0),some (.ref L),some (.int k),some (.ref c.length),some (.int x),some (.int y),z6,z7]) (c1:=c3) (by erw[e2,e3]) ?_
  refine aN (σ1:=[some (.ref 0),some (.ref L),some (.int k),some (.ref c.length),some (.int x),some (.int y),some (.int w),z7]) (c1:=c4) (by erw[e4]) ?_
  refine aN e5 (aN e7 ?_)
  erw[lo,ap]
  rfl
 ·refine oz (K6.get (bf h0) (by omega)) ?_
  rintro rfl
  rw[h0]at hL;cases hL
theorem zB{c:Cells}{ns:List Int}(h0:c[0]? =some (.ro (ns.map D.int))):∃(n:Nat) (l:List T3) (c':Cells),cL [.ref 0] c=some (.ref n,c')∧c <+:c'∧c.length≤n∧c'[n]? =some (.lst (l.map sd))∧(∀p∈l,Raw p)∧l.length≤30:=by
 have s0:bS (.ref 0) (c++[.lst []])=some (ns.map D.int):=uj (bf h0)
 have cut:kz (.ref 0) (some 1) (some 31) (c++[.lst []])=some (.ref (c++[Cell.lst []]).length,c++[.lst []]++[.lst (Qm.cutD (ns.map D.int) (some 1) (some 31))]):=by rw[BG,s0];rfl
 have S0:(Qm.cutD (ns.map D.int) (some 1) (some 31)).length≤30:=by
  have e1:∀n d,uS n d (some 1)=min 1 n:=fun n d=>rfl
  have e2:∀n d,uS n d (some 31)=min 31 n:=fun n d=>rfl
  unfold Qm.cutD
  rw[e1,e2,List.length_take]
  omega
 generalize Qm.cutD (ns.map D.int) (some 1) (some 31)=cs at cut S0
 have bl:bM [.ref (c++[Cell.lst []]).length] (c++[.lst []]++[.lst cs])=some (.int cs.length,c++[.lst []]++[.lst cs]):=by
  rw[su,bI bN];rfl
 have hi:fB (af (eB bM (af (yB kz (eV 0) (gH (eC (.int 1))) (gH (eC (.int 31)))) aj)) aj) [some (.ref 0),some (.ref c.length),none,none,none,none,none,none] (c++[.lst []])=some (⟨eg 0 cs.length,[]⟩,c++[.lst []]++[.lst cs]):=by
  have:=vz (a:=af (eB bM (af (yB kz (eV 0) (gH (eC (.int 1))) (gH (eC (.int 31)))) aj)) aj) (σ:=[some (.ref 0),some (.ref c.length),none,none,none,none,none,none]) (c:=c++[.lst []]) (c':=c++[.lst []]++[.lst cs]) (j:=cs.length) (by erw[Ar,cut,bl]) (by omega)
  simpa using this
 obtain⟨σ',c',e,z3,z4,z5,z6,z7,zk,l,gE,hl,hr,hn,GR,hp⟩:=d9 (ks:=[]) (g:=aI 2) (body:=Hk) (fun i σ c'=>∃(z3 z4 z5 z6 z7 zk:Option D) (l:List T3),σ=[some (.ref 0),some (.ref c.length),zk,z3,z4,z5,z6,z7]∧c'[c.length]? =some (.lst (List.map sd l))∧(∀p∈l,Raw p)∧l.length=i∧c'[0]? =some (.ro (ns.map D.int))∧c <+:c')
  (eg 0 cs.length) 0 [some (.ref 0),some (.ref c.length),none,none,none,none,none,none] (c++[.lst []]++[.lst cs]) (fun _ _ _ _=>eX)
  (by
   rintro i d σ c' hd ⟨z3,z4,z5,z6,z7,zk,l,gE,hl,hr,hn,GR,hp⟩
   subst gE
   obtain⟨j,hj,rfl⟩:=ou (List.mem_of_getElem? hd)
   have cX:i<(eg 0 cs.length).length:=(List.getElem?_eq_some_iff.mp hd).1
   have D8:i<cs.length:=by simpa[eg]using cX
   obtain⟨zw,zx,zy,zz,zA,p,yC,f,rp,g1,g2,g3⟩:=Ly (k:=j) (z3:=z3) (z4:=z4) (z5:=z5) (z6:=z6) (z7:=z7) GR hl hr (by omega) (by omega) hp (Nat.le_refl _)
   refine⟨_,c',_,yC,rfl,?_,zw,zx,zy,zz,zA,some (.int j),l++[p],rfl,g1,fun q hq=>?_,by rw[List.length_append];simp;omega,g2,g3⟩
   ·simpa using f
   ·rcases List.mem_append.mp hq with hq|hq
    ·exact hr q hq
    ·rw[List.mem_singleton.mp hq];exact rp)
  ⟨none,none,none,none,none,none,[],rfl,bf (by simp),(fun p hp=>nomatch hp),rfl,bf (bf h0),⟨_,by rw[List.append_assoc]⟩⟩
 subst gE
 refine⟨c.length,l,c',?_,hp,Nat.le_refl _,hl,hr,by simp[eg]at hn;omega⟩
 rw[cL,iK,ie]
 have f:=(o_ (g:=aI 2) (b:=Hk) hi).trans e
 have st:aK 1 (gS aj) [some (.ref 0),none,none,none,none,none,none,none] c=some (.nx,[some (.ref 0),some (.ref c.length),none,none,none,none,none,none],c++[.lst []]):=by erw[Nat.zero_le]
 rw[if_pos (show [D.ref 0].length=1 from rfl)]
 have body:=aN (b:=av (gu (fB (af (eB bM (af (yB kz (eV 0) (gH (eC (.int 1))) (gH (eC (.int 31)))) aj)) aj)) (aI 2) Hk) (bt (eV 1))) st (aN f (show bt (eV 1) _ c'=some (.rt (.ref c.length),[some (.ref 0),some (.ref c.length),zk,z3,z4,z5,z6,z7],c')from rfl))
 exact(congrArg (fun o=>Option.bind o fin) body).trans rfl
theorem Hl{i:Int}{c:Cells}:cJ [.int i] c=some (.bl true,c):=by
 have h1:cM [.int i,.ty "int"] c=some (.bl true,c):=rfl
 have h2:cM [.int i,.ty "bool"] c=some (.bl false,c):=rfl
 erw[cJ,h_,h1,h2]
theorem zC{p q:T3}{c:Cells}(hp:Ok 1000 p)(hq:Ok 1000 q):bK [sd p,sd q] c=some (.bl (My.dG p q),c):=by
 have a1:=hp.bx;have a2:=hp.tK;have a3:=hp.bw;have b1:=hq.bx;have b2:=hq.tK;have b3:=hq.bw
 have e:My.dG p q=(decide (p.1*q.2.2<q.1*p.2.2)||(decide (p.1*q.2.2=q.1*p.2.2)&&decide (p.2.1*q.2.2<q.2.1*p.2.2))):=by
  rw[Bool.eq_iff_iff,My.si]
  simp
 rw[e]
 by_cases h1:p.1*q.2.2<q.1*p.2.2
 ·erw[bK,ff,BI,BJ,D6,decide_eq_true h1,Bool.true_or]
 ·by_cases h2:p.1*q.2.2=q.1*p.2.2
  ·erw[bK,ff,BI,BJ,D6,decide_eq_false h1,decide_eq_true h2,Bool.false_or,Bool.true_and]
  ·erw[bK,ff,BI,BJ,D6,decide_eq_false h1,decide_eq_false h2,Bool.false_or,Bool.false_and]
theorem Av{x y w:Int}(h:Raw (x,y,w)):Ok 100 (My.spT x y w):=Sp.mk' h.2.2.2 h.1.bd h.2.1.bd h.2.2.1.bd
theorem Ej{p:T3}{k:Int}(h:My.xu p)(hk:k≠0):My.spT (p.1*k) (p.2.1*k) (p.2.2*k)=p:=by
 have h0: 0<p.2.2:=My.tE.pos h
 have:=My.uN (x':=p.1*k) (y':=p.2.1*k) (w':=p.2.2*k) h (Int.mul_ne_zero (by omega) hk) (by grind) (by grind)
 unfold My.spT
 rw[this.1,this.2.1,this.2.2]
theorem Ek{x y:Int}:My.spT x y 1=(x,y,1):=by
 have l:My.tE x y 1:=⟨by decide,by simp⟩
 have:=My.q_ l
 unfold My.spT
 rw[this.1,this.2.1,this.2.2]
noncomputable abbrev IL:XE:=cV (qF (eV 5)) [none] (aI 0) eF (az cJ [] (af (eV 0) aj))
noncomputable abbrev Aw:XS:=av (aK 5 (az dB [] (af (eV 2) (af (eV 3) (af (eV 4) aj)))))
 (av (cY (l_ (eY (tV (eB cM (af (eV 5) (af (eC (.ty "tuple")) aj))))) (l_ (tV (e2 fQ (eV 5) (az b_ [] (af (eV 2) (af (eV 3) (af (eV 4) aj)))))) (eY (tV (eB wL (af IL aj)))))) (bt (eC (.bl false))) bW)
 (av (cY (gQ (tV (e2 iD (eB jd (af (eB d7 (af (e2 aH (eV 5) (eC (.int 0))) aj)) (af (eB d7 (af (e2 aH (eV 5) (eC (.int 1))) aj)) (af (e2 aH (eV 5) (eC (.int 2))) aj)))) (e2 d6 (eC (.int 10)) (eC (.int 29))))) (tV (e2 fQ (az dB [] (af (e2 bh (e2 aH (eV 5) (eC (.int 0))) (eC (.int 7))) (af (e2 bh (e2 aH (eV 5) (eC (.int 1))) (eC (.int 7))) (af (e2 bh (e2 aH (eV 5) (eC (.int 2))) (eC (.int 7))) aj)))) (eV 5)))) (bt (eC (.bl false))) bW)
 (av (cY (tV (e2 fQ (az dB [.int 1] (af (e2 aH (eV 5) (eC (.int 0))) (af (e2 aH (eV 5) (eC (.int 1))) aj))) (iC (af (e2 aH (eV 5) (eC (.int 0))) (af (e2 aH (eV 5) (eC (.int 1))) (af (eC (.int 1)) aj)))))) (bt (eC (.bl false))) bW)
 (d5 (eM cc (eV 1) (af (eV 5) aj))))))
theorem OX{z0 z5:Option D}{T:List (Option D)}{F:Nat}{l:List T3}{x y w:Int}{c0 c:Cells}(h:Raw (x,y,w))(hF:c[F]? =some (.lst (l.map sd)))(hn:l.length≤100)(hp:c0 <+:c)(vh:c0.length≤F):
  ∃c',Aw (z0::some (.ref F)::some (.int x)::some (.int y)::some (.int w)::z5::T) c=some (.nx,z0::some (.ref F)::some (.int x)::some (.int y)::some (.int w)::some (sd (My.spT x y w))::T,c')∧c'[F]? =some (.lst ((l++[My.spT x y w]).map sd))∧c0 <+:c'∧Kp F c c':=by
 have hw:w≠0:=h.2.2.2
 have bw:=h.2.2.1.bd
 have ok:=Av h
 have e1:=vF (x:=x) (y:=y) (c:=c) hw (bw.mono (by decide))
 have e2:=D5 (x:=x) (y:=y) (c:=c) hw (bw.mono (by decide))
 change b_ _ c=some (sd (My.spT x y w),c)at e2
 generalize My.spT x y w=p at*
 have LA:cM [sd p,.ty "tuple"] c=some (.bl true,c):=rfl
 have ne1:fQ (sd p) (sd p) c=some (.bl false,c):=by rw[vD,decide_eq_true rfl];rfl
 obtain⟨c1,e3,p1,g1⟩:=zr (it:=qF (eV 5)) (cap:=[none]) (te:=az cJ [] (af (eV 0) aj)) (σ:=z0::some (.ref F)::some (.int x)::some (.int y)::some (.int w)::some (sd p)::T) (ρ:=[]) (x:=none) (c:=c) (ds:=[.int p.1,.int p.2.1,.int p.2.2]) (ks:=[]) (fun _=>.bl true) rfl rfl eX
  (fun d hd c' _=>by
   obtain⟨i,rfl⟩:∃i,d= .int i:=by
    simp only[List.mem_cons,List.not_mem_nil,or_false]at hd
    rcases hd with rfl|rfl|rfl<;>exact⟨_,rfl⟩
   refine⟨[],?_⟩
   erw[Hl]) (by simp)
 have al:wL [.ref c.length] c1=some (.bl true,c1):=by
  have:wL [.ref c.length] c1=(bq (.ref c.length) c1).bind fun l=>(omap mj l.2).bind fun bs=>some (.bl (bs.all id),c1):=rfl
  rw[this,bu g1]
  rfl
 have LB:c1[F]? =some (.lst (l.map sd)):=aJ p1 hF
 have lo:=bu LB
 have ap:=uk (p:=p) LB (by omega)
 have IM:=ok.OG
 have b1:=ok.bx;have b2:=ok.tK;have b3:=ok.bw
 have h0: 0<p.2.2:=My.tE.pos IM
 have d1:jd [.int (if p.1<0 then -p.1 else p.1),.int (if p.2.1<0 then -p.2.1 else p.2.1),.int p.2.2] c1=_:=Ef
 generalize (if (if p.2.1<0 then -p.2.1 else p.2.1) > (if p.1<0 then -p.1 else p.1)then(if p.2.2 > (if p.2.1<0 then -p.2.1 else p.2.1)then p.2.2 else(if p.2.1<0 then -p.2.1 else p.2.1))else(if p.2.2 > (if p.1<0 then -p.1 else p.1)then p.2.2 else(if p.1<0 then -p.1 else p.1)))=m at d1
 have e4:=vF (x:=p.1*7) (y:=p.2.1*7) (w:=p.2.2*7) (c:=c1) (by omega) ((My.Bd.mul b3 (show My.Bd 64 7 from⟨by decide⟩)).mono (by decide))
 rw[Ej IM (by decide)]at e4
 have ne2:fQ (sd p) (sd p) c1=some (.bl false,c1):=by rw[vD,decide_eq_true rfl];rfl
 have e5:=vF (x:=p.1) (y:=p.2.1) (w:=1) (c:=c1) (by decide) (G8 (by decide) (by decide))
 rw[Ek]at e5
 have ne3:fQ (sd (p.1,p.2.1,1)) (.tup [.int p.1,.int p.2.1,.int 1]) c1=some (.bl false,c1):=by
  have:fQ (sd (p.1,p.2.1,1)) (sd (p.1,p.2.1,1)) c1=some (.bl false,c1):=by rw[vD,decide_eq_true rfl];rfl
  exact this
 have Vu:=de hF
 refine⟨c1.set F (.lst ((l++[p]).map sd)),?_,qu (de LB),ow (hp.trans p1) vh,(Kp.pre p1).trans Kp.set⟩
 refine aN (σ1:=z0::some (.ref F)::some (.int x)::some (.int y)::some (.int w)::some (sd p)::T) (c1:=c) (by erw[e1]) ?_
 refine aN (σ1:=z0::some (.ref F)::some (.int x)::some (.int y)::some (.int w)::some (sd p)::T) (c1:=c1) ?_ ?_
 ·unfold IL
  erw[LA,e2,ne1,e3,al]
 refine aN (σ1:=z0::some (.ref F)::some (.int x)::some (.int y)::some (.int w)::some (sd p)::T) (c1:=c1) ?_ ?_
 ·by_cases hm:m<100000000000000000000000000000
  ·erw[BI,BJ,D6,d1,Ei,decide_eq_true hm,e4,ne2]
  ·erw[BI,BJ,D6,d1,Ei,decide_eq_false hm]
 refine aN (σ1:=z0::some (.ref F)::some (.int x)::some (.int y)::some (.int w)::some (sd p)::T) (c1:=c1) ?_ ?_
 ·erw[BI,BJ,e5,ne3]
 ·erw[lo,ap]
noncomputable abbrev Ax:XG:=jw 3 (cE (aI 2) (cE (aI 3) (cE (aI 4) jv)))
theorem Hm{F n:Nat}{l:List T3}{T:List (Option D)}{z0 z2 z3 z4 z5:Option D}{c0 c:Cells}(hl:∀p∈l,Raw p)(hn:c[n]? =some (.lst (l.map sd)))(hF:c[F]? =some (.lst []))(jB:n≠F)(mm:l.length≤30)(hp:c0 <+:c)(vh:c0.length≤F):
  ∃LC zw zx zy c',fZ [(n,.lst (l.map sd))] Ax Aw (l.map sd) (z0::some (.ref F)::z2::z3::z4::z5::T) c=some (.nx,z0::some (.ref F)::LC::zw::zx::zy::T,c')∧c'[F]? =some (.lst ((l.map fun p=>My.spT p.1 p.2.1 p.2.2).map sd))∧c0 <+:c'∧Kp F c c':=by
 obtain⟨σ',c',e,LC,zw,zx,zy,gE,h1,h2,h3,h4⟩:=d9 (ks:=[(n,.lst (l.map sd))]) (g:=Ax) (body:=Aw) (fun i σ c'=>∃(z2 z3 z4 z5:Option D),σ=z0::some (.ref F)::z2::z3::z4::z5::T∧c'[F]? =some (.lst (((l.take i).map fun p=>My.spT p.1 p.2.1 p.2.2).map sd))∧c0 <+:c'∧Kp F c c'∧c'[n]? =some (.lst (l.map sd)))
  (l.map sd) 0 (z0::some (.ref F)::z2::z3::z4::z5::T) c (fun i σ c' ⟨_,_,_,_,_,_,_,_,h⟩ p hp=>by cases List.mem_singleton.mp hp;exact h)
  (by
   rintro i d σ c' hd ⟨z2,z3,z4,z5,gE,h1,h2,h3,h4⟩
   subst gE
   rw[List.getElem?_map]at hd
   obtain⟨⟨x,y,w⟩,hx,rfl⟩:=Option.map_eq_some_iff.mp hd
   rw[Nat.zero_add]at h1 ⊢
   have hi:=(List.getElem?_eq_some_iff.mp hx).1
   obtain⟨c2,f1,f2,f3,f4⟩:=OX (z0:=z0) (z5:=z5) (T:=T) (hl _ (List.mem_of_getElem? hx)) h1 (by rw[List.length_map,List.length_take];omega) h2 vh
   refine⟨z0::some (.ref F)::some (.int x)::some (.int y)::some (.int w)::z5::T,c',_,c2,by unfold Ax sd sp;erw[],f1,_,_,_,_,rfl,?_,f3,h3.trans f4,f4.get h4 jB⟩
   rw[f2,List.take_succ,hx,Option.toList_some,List.map_append (l₁:=l.take i)]
   rfl)
  ⟨z2,z3,z4,z5,rfl,by simpa using hF,hp,Kp.refl _ _,hn⟩
 subst gE
 refine⟨LC,zw,zx,zy,c',e,?_,h2,h3⟩
 rw[h1,Nat.zero_add,List.length_map,List.take_length]
noncomputable abbrev El:XS:=av (aK 7 (az bJ [] (af (e2 aH (eV 1) (e2 bR (eV 6) (eC (.int 1)))) (af (e2 aH (eV 1) (eV 6)) aj))))
 (av (cY (l_ (eY (tV (eB cM (af (eV 7) (af (eC (.ty "bool")) aj))))) (tV (e2 fQ (eV 7) (az bK [] (af (e2 aH (eV 1) (e2 bR (eV 6) (eC (.int 1)))) (af (e2 aH (eV 1) (eV 6)) aj)))))) (bt (eC (.bl false))) bW)
 (cY (tV (e2 fQ (az bJ [] (af (e2 aH (eV 1) (eV 6)) (af (e2 aH (eV 1) (e2 bR (eV 6) (eC (.int 1)))) aj))) (az bK [] (af (e2 aH (eV 1) (eV 6)) (af (e2 aH (eV 1) (e2 bR (eV 6) (eC (.int 1)))) aj))))) (bt (eC (.bl false))) bW))
theorem Hn{F:Nat}{l:List T3}{T:List (Option D)}{z0 z2 z3 z4 z5 z6 z7:Option D}{c:Cells}(hF:c[F]? =some (.lst (l.map sd)))(aO:∀p∈l,Ok 100 p)(mm:l.length≤30):
  ∃zz zA,gu (jb (af (eC (.int 1)) (af (eB bM (af (eV 1) aj)) aj))) (aI 6) El (z0::some (.ref F)::z2::z3::z4::z5::z6::z7::T) c=some (.nx,z0::some (.ref F)::z2::z3::z4::z5::zz::zA::T,c):=by
 have bl:=xJ hF
 have hi:=Ao (a:=af (eC (.int 1)) (af (eB bM (af (eV 1) aj)) aj)) (σ:=z0::some (.ref F)::z2::z3::z4::z5::z6::z7::T) (c:=c) (c':=c) (i:=1) (j:=l.length) (by erw[bl]) (by decide) (by omega)
 rw[o_ hi]
 obtain⟨σ',c',e,hc,zz,zA,gE⟩:=d9 (ks:=[]) (g:=aI 6) (body:=El) (fun _ σ c'=>c'=c∧∃(z6 z7:Option D),σ=z0::some (.ref F)::z2::z3::z4::z5::z6::z7::T)
  (eg 1 ((l.length:Int) - 1).toNat) 0 (z0::some (.ref F)::z2::z3::z4::z5::z6::z7::T) c (fun _ _ _ _=>eX)
  (by
   rintro i d σ c' hd ⟨hc,z6,z7,gE⟩
   subst hc gE
   obtain⟨j,hj,rfl⟩:=ou (List.mem_of_getElem? hd)
   obtain⟨p,hp⟩:∃p,l[j]? =some p:=⟨_,List.getElem?_eq_getElem (by omega)⟩
   obtain⟨q,hq⟩:∃q,l[j+1]? =some q:=⟨_,List.getElem?_eq_getElem (by omega)⟩
   have op:=(aO p (List.mem_of_getElem? hp)).mono (show 100≤1000 by decide)
   have oq:=(aO q (List.mem_of_getElem? hq)).mono (show 100≤1000 by decide)
   have g1:aH (.ref F) (.int (1+(j:Int) - 1)) c'=some (sd p,c'):=o9 hF (.inl ⟨by omega,by omega,by omega⟩) hp
   have g2:aH (.ref F) (.int (1+(j:Int))) c'=some (sd q,c'):=o9 (j:=j+1) hF (.inl ⟨by omega,by omega,by omega⟩) hq
   have a1:=vC (c:=c') op oq
   have a2:=vC (c:=c') oq op
   have l1:=zC (c:=c') op oq
   have l2:=zC (c:=c') oq op
   have LA:cM [.bl (My.dG p q),.ty "bool"] c'=some (.bl true,c'):=rfl
   refine⟨_,c',z0::some (.ref F)::z2::z3::z4::z5::some (.int (1+(j:Int)))::some (.bl (My.dG p q))::T,c',rfl,?_,rfl,_,_,rfl⟩
   refine aN (σ1:=z0::some (.ref F)::z2::z3::z4::z5::some (.int (1+(j:Int)))::some (.bl (My.dG p q))::T) (c1:=c') (by erw[g1,g2,a1]) ?_
   refine aN (σ1:=z0::some (.ref F)::z2::z3::z4::z5::some (.int (1+(j:Int)))::some (.bl (My.dG p q))::T) (c1:=c') (by erw[LA,g1,g2,l1,beq_self_eq_true]) ?_
   erw[g1,g2,a2,l2,beq_self_eq_true])
  ⟨rfl,z6,z7,rfl⟩
 subst hc gE
 exact⟨zz,zA,e⟩
theorem gf:∀a b:List Int,a_ a b=true→a_ b a=false
 |[],[],_=>rfl
 |[],_::_,h=>by simp[a_]at h
 |_::_,[],_=>by simp[a_]
 |x::a,y::b,h=>by
  by_cases e:x=y
  ·subst e
   simp[a_]at h ⊢
   exact gf a b h
  ·simp[a_,e,Ne.symm e]at h ⊢
   omega
theorem i6:∀a b c:List Int,a_ a b=false→a_ b c=false→a_ a c=false
 |[],_,[],_,_=>by simp[a_]
 |[],_,_::_,_,_=>by simp[a_]
 |_::_,[],_,h,_=>by simp[a_]at h
 |_::_,_::_,[],_,h=>by simp[a_]at h
 |x::a,y::b,z::c,h1,h2=>by
  by_cases e:x=y
  ·subst e
   by_cases e2:x=z
   ·subst e2
    simp[a_]at h1 h2 ⊢
    exact i6 a b c h1 h2
   ·simp[a_,e2]at h1 h2 ⊢
    omega
  ·by_cases e2:y=z
   ·subst e2
    simp[a_,e]at h1 h2 ⊢
    omega
   ·simp[a_,e,e2]at h1 h2
    have e3:x≠z:=by omega
    simp[a_,e3]
    omega
theorem jG:∀a b:List Int,a_ a b=false→a_ b a=false→a=b
 |[],[],_,_=>rfl
 |[],_::_,_,h=>by simp[a_]at h
 |_::_,[],h,_=>by simp[a_]at h
 |x::a,y::b,h1,h2=>by
  by_cases e:x=y
  ·subst e
   simp[a_]at h1 h2
   rw[jG a b h1 h2]
  ·simp[a_,e,Ne.symm e]at h1 h2
   omega
theorem fJ:∀{xs ys:List (List Int)},xs.Perm ys→xs.Pairwise (fun a b=>a_ a b=false)→ys.Pairwise (fun a b=>a_ a b=false)→xs=ys
 |[],_,p,_,_=>(List.nil_perm.mp p).symm
 |x::xs,[],p,_,_=>absurd p.length_eq (by simp)
 |x::xs,y::ys,p,h1,h2=>by
  have e:x=y:=by
   have m1:x∈y::ys:=p.subset List.mem_cons_self
   have m2:y∈x::xs:=p.symm.subset List.mem_cons_self
   rcases List.mem_cons.mp m1 with e|m1
   ·exact e
   rcases List.mem_cons.mp m2 with e|m2
   ·exact e.symm
   exact jG _ _ ((List.pairwise_cons.mp h1).1 _ m2) ((List.pairwise_cons.mp h2).1 _ m1)
  subst e
  rw[fJ (List.Perm.cons_inv p) (List.pairwise_cons.mp h1).2 (List.pairwise_cons.mp h2).2]
theorem Ho(ts:List (List Int)):(ts.mergeSort oW).Pairwise fun a b=>a_ a b=false:=by
 have:=List.pairwise_mergeSort (le:=oW) (fun a b c h1 h2=>by
  unfold oW at*
  simp only[Bool.not_eq_true']at*
  exact i6 a b c h1 h2) (fun a b=>by
  unfold oW
  simp only[Bool.or_eq_true,Bool.not_eq_true']
  cases h:a_ a b with
  |false=>exact .inl rfl
  |true=>exact .inr (gf _ _ h)) ts
 exact this.imp fun h=>by
  unfold oW at h
  simpa only[Bool.not_eq_true']using h
def Ay(l:List Int):List Int:=l.mergeSort fun a b=>decide (a≤b)
theorem BM(l:List Int):nums (l.map D.int)=some l:=by
 unfold nums
 induction l with
 |nil=>rfl
 |cons x l ih=>
  show((oJ (D.int x)).bind fun d=>(omap oJ (l.map D.int)).bind fun ds=>some (d::ds))=_
  rw[ih]
  rfl
theorem LD{c:Cells}{n:Nat}{row:List Int}(h:c[n]? =some (.lst (row.map D.int)))(hn:row.length<64):nT [.ref n] c=some (.ref c.length,c++[.lst ((Ay row).map D.int)]):=by
 unfold nT one
 simp only[bu h,Option.bind_some,BM]
 rw[if_pos hn]
 rfl
theorem gA:∀{xs ys:List Int},xs.Perm ys→xs.Pairwise (·≤·)→ys.Pairwise (·≤·)→xs=ys
 |[],_,p,_,_=>(List.nil_perm.mp p).symm
 |x::xs,[],p,_,_=>absurd p.length_eq (by simp)
 |x::xs,y::ys,p,h1,h2=>by
  have e:x=y:=by
   have m1:x∈y::ys:=p.subset List.mem_cons_self
   have m2:y∈x::xs:=p.symm.subset List.mem_cons_self
   rcases List.mem_cons.mp m1 with e|m1
   ·exact e
   rcases List.mem_cons.mp m2 with e|m2
   ·exact e.symm
   have a1:=(List.pairwise_cons.mp h1).1 _ m2
   have a2:=(List.pairwise_cons.mp h2).1 _ m1
   omega
  subst e
  rw[gA (List.Perm.cons_inv p) (List.pairwise_cons.mp h1).2 (List.pairwise_cons.mp h2).2]
theorem Em{r d:List Int}(hr:r.Nodup)(hd:d.Pairwise (·< ·))(h:∀k,k∈r↔k∈d):Ay r=d:=by
 have nd:d.Nodup:=hd.imp fun h=>by omega
 have pe:r.Perm d:=(List.perm_ext_iff_of_nodup hr nd).mpr h
 unfold Ay
 refine gA ((List.mergeSort_perm ..).trans pe) ?_ (hd.imp fun h=>by omega)
 have:=List.pairwise_mergeSort (le:=fun a b:Int=>decide (a≤b)) (fun a b c h1 h2=>by simp at *;omega) (fun a b=>by simp;omega) r
 exact this.imp fun h=>by simpa using h
abbrev PN:=T3×Nat
def ep(a:PN):D:=.tup [sd a.1,.int a.2]
def pe(a:PN):PyData:=.tuple [pd a.1,.int a.2]
theorem Hq{a b:PN}:pe a=pe b↔a=b:=by
 obtain⟨p,i⟩:=a
 obtain⟨q,j⟩:=b
 constructor
 ·intro h
  simp only[pe,PyData.tuple.injEq,List.cons.injEq,PyData.int.injEq,and_true]at h
  have h1:=Aq.mp h.1
  have h2:i=j:=by omega
  rw[h1,h2]
 ·intro h;rw[h]
theorem sL{c:Cells}{k:Nat}{a:PN}:data c (k+3) (ep a)=some (pe a):=rfl
theorem sN{c:Cells}{k:Nat}(l:List PN):omap (data c (k+3)) (l.map ep)=some (l.map pe):=iw (fun _=>sL) l
theorem Hr{a:PN}{m:Nat}{l:List PN}{c:Cells}(h:c[m]? =some (.lst (l.map ep)))(ha:a∈l):nI (ep a) (.ref m) c=some (.bl false,c):=by
 unfold nI J1
 rw[bI h,Option.bind_some,sL,Option.bind_some,sN,Option.bind_some,Option.bind_some]
 have:pe a∈l.map pe:=List.mem_map_of_mem ha
 simp[this]
theorem Hs{a:PN}{m j:Nat}{l:List PN}{c:Cells}(h:c[m]? =some (.lst (l.map ep)))(ha:l[j]? =some a)(hf:∀i,i<j→l[i]?≠some a):lT (.ref m) [ep a] c=some (.int j,c):=by
 unfold lT one
 simp only[bu h,Option.bind_some,sL,sN]
 have hl:=(List.getElem?_eq_some_iff.mp ha).1
 have:(l.map pe).findIdx? (fun e=>@decide (e=pe a) (Classical.propDecidable _))=some j:=by
  rw[List.findIdx?_eq_some_iff_getElem]
  refine⟨by simpa using hl,?_,fun i hi=>?_⟩
  ·rw[List.getElem_map,(List.getElem?_eq_some_iff.mp ha).2]
   simp
  ·rw[List.getElem_map]
   have D8:i<l.length:=by omega
   have h1:=hf i hi
   rw[List.getElem?_eq_getElem D8]at h1
   simp only[decide_eq_true_eq,Hq]
   exact fun e=>h1 (by rw[e])
 rw[this]
 rfl
theorem Az{m:Nat}{l:List PN}{c:Cells}{i:Int}{j:Nat}{a:PN}(h:c[m]? =some (.lst (l.map ep)))(hi: 0≤i∧i=j∧j<l.length)(ha:l[j]? =some a):aH (.ref m) (.int i) c=some (ep a,c):=by
 rw[iL,bI h,Option.bind_some]
 unfold gJ
 rw[List.length_map,Lr (.inl hi),Option.bind_some,List.getElem?_map,ha]
 rfl
def en(k:Nat):D:=.int (k:Int)
theorem AA{m:Nat}{l:List Nat}{c:Cells}{i:Int}{j a:Nat}(h:c[m]? =some (.lst (l.map en)))(hi: 0≤i∧i=j∧j<l.length)(ha:l[j]? =some a):aH (.ref m) (.int i) c=some (.int (a:Int),c):=by
 rw[iL,bI h,Option.bind_some]
 unfold gJ
 rw[List.length_map,Lr (.inl hi),Option.bind_some,List.getElem?_map,ha]
 rfl
theorem IP(n:Nat):eg 0 n=((List.range n).map fun(k:Nat)=>(k:Int)).map D.int:=by
 unfold eg
 rw[List.map_map]
 refine List.map_congr_left fun i _=>?_
 show D.int (0+(i:Int))=D.int (i:Int)
 rw[Int.zero_add]
theorem lW{c:Cells}{a k:Nat}{xs:List D}(h:c[a]? =some (.lst xs)):data c (k+1) (.ref a)=(omap (data c k) xs).bind fun ds=>some (.list ds):=by
 simp[data,h]
theorem BN{a b:Nat}{l:List Int}{c:Cells}(ha:c[a]? =some (.lst (l.map D.int)))(hb:c[b]? =some (.lst (l.map D.int))):fQ (.ref a) (.ref b) c=some (.bl false,c):=by
 have o:omap (data c 5) (l.map D.int)=some (l.map PyData.int):=iw (fun _=>o7) l
 have e1:data c 6 (.ref a)=some (.list (l.map PyData.int)):=by rw[lW ha,o];rfl
 have e2:data c 6 (.ref b)=some (.list (l.map PyData.int)):=by rw[lW hb,o];rfl
 have:fQ (.ref a) (.ref b) c=((data c 6 (.ref a)).bind fun d=>(data c 6 (.ref b)).bind fun e=>some (@decide (d=e) (Classical.propDecidable _))).bind fun b=>some (.bl (!b),c):=rfl
 rw[this,e1,e2]
 simp
theorem AB{α:Type}{lt:α→α→Bool}:∀{l:List α}{i:Nat}{x y:α},fq lt l→l[i]? =some x→l[i+1]? =some y→lt y x=false
 |[],i,x,y,_,h,_=>by simp at h
 |[_],i,x,y,_,_,h=>by simp at h
 |a::b::l,0,x,y,h,h1,h2=>by
  cases h1;cases h2
  exact h.1
 |a::b::l,i+1,x,y,h,h1,h2=>AB (l:=b::l) (i:=i) h.2 (by simpa using h1) (by simpa using h2)
theorem BO{n:Nat}{c:Cells}(h:n≤1000):iq [.int (n:Int)] c=some (.ref c.length,c++[.lst (eg 0 n)]):=by
 have:iq [.int (n:Int)] c=if 0≤(n:Int)∧(n:Int)≤1000 then some (.ref c.length,c++[.lst (eg 0 (n:Int).toNat)])else none:=rfl
 rw[this,if_pos ⟨by omega,by omega⟩,Int.toNat_natCast]
theorem En{t:Nat}{xs:List D}{c:Cells}(h:c[t]? =some (.lst xs)):cM [.ref t,.ty "list"] c=some (.bl true,c):=by
 have:cM [.ref t,.ty "list"] c=(qj "list" (.ref t) c).bind fun k=>some (.bl k,c):=rfl
 rw[this]
 simp[qj,h]
noncomputable abbrev Eo:XS:=av (cY (tV (e2 nI (eV 4) (eV 0))) (bt (eC (.bl false))) bW) (d5 (eM cc (eV 3) (af (eM lT (eV 0) (af (eV 4) aj)) aj)))
noncomputable abbrev cW(L0 L1 L2:aS)(aP:Nat)(a:XA):XE:=eP [(aP,bJ)] [(L0,eu),(L1,ez),(L2,eD)] (eV 2) a
noncomputable abbrev Ep(L0 L1 L2:aS)(aP:Nat):XS:=av (cY (tV (cW L0 L1 L2 aP (af (e2 aH (eV 1) (eV 5)) (af (e2 aH (eV 1) (e2 bR (eV 5) (eC (.int 1)))) aj)))) (bt (eC (.bl false))) bW)
 (cY (gQ (eY (tV (cW L0 L1 L2 aP (af (e2 aH (eV 1) (e2 bR (eV 5) (eC (.int 1)))) (af (e2 aH (eV 1) (eV 5)) aj))))) (tV (e2 oK (e2 aH (eV 3) (e2 bR (eV 5) (eC (.int 1)))) (e2 aH (eV 3) (eV 5))))) (bt (eC (.bl false))) bW)
section
variable{L0 L1 L2:aS}{aP:Nat}{fv:D}{lt:PN→PN→Bool}{ok:PN→Prop}{S ys:List PN}{m t:Nat}{c:Cells}
theorem Er(hm:c[m]? =some (.lst (S.map ep)))(ht:c[t]? =some (.lst (ys.map ep)))(hS:∀(i:Nat) a,S[i]? =some a→a.2=i)(hp:ys.Perm S)(mm:S.length≤30):
  ∃z c',fZ [(t,.lst (ys.map ep))] (aI 4) Eo (ys.map ep) [some (.ref m),some (.ref t),some fv,some (.ref c.length),none,none] (c++[.lst []])=some (.nx,[some (.ref m),some (.ref t),some fv,some (.ref c.length),z,none],c')∧c'[c.length]? =some (.lst ((ys.map (·.2)).map en))∧c <+:c':=by
 have Vv:=de hm
 have OK:=de ht
 have S_:=hp.length_eq
 obtain⟨σ',c',e,z,gE,h1,h2⟩:=d9 (ks:=[(t,.lst (ys.map ep))]) (g:=aI 4) (body:=Eo) (fun i σ c'=>∃z:Option D,σ=[some (.ref m),some (.ref t),some fv,some (.ref c.length),z,none]∧c'[c.length]? =some (.lst (((ys.take i).map (·.2)).map en))∧c <+:c')
  (ys.map ep) 0 [some (.ref m),some (.ref t),some fv,some (.ref c.length),none,none] (c++[.lst []]) (fun i σ c' ⟨_,_,_,h⟩ p hp=>by cases List.mem_singleton.mp hp;exact aJ h ht)
  (by
   rintro i d σ c' hd ⟨z,gE,h1,h2⟩
   subst gE
   rw[List.getElem?_map]at hd
   obtain⟨a,ha,rfl⟩:=Option.map_eq_some_iff.mp hd
   rw[Nat.zero_add]at h1 ⊢
   have hi:=(List.getElem?_eq_some_iff.mp ha).1
   have DQ:=aJ h2 hm
   have OY:a∈S:=hp.mem_iff.mp (List.mem_of_getElem? ha)
   obtain⟨j,hj⟩:=List.getElem?_of_mem OY
   have ej:=hS j a hj
   have ni:=Hr DQ OY
   have ix:=Hs DQ hj (fun i hi e=>by have:=hS i a e;omega)
   have lo:=bu h1
   have lm:=bu DQ
   have ap:=Au (e:=en) (x:=j) h1 (by rw[List.length_map,List.length_take];omega)
   change cc (.ref c.length) [.int (j:Int)] c'=_ at ap
   refine⟨_,c',[some (.ref m),some (.ref t),some fv,some (.ref c.length),some (ep a),none],c'.set c.length (.lst (((ys.take i).map (·.2)++[j]).map en)),rfl,?_,_,rfl,?_,ow h2 (Nat.le_refl _)⟩
   ·erw[ni,lo,lm,ix,ap]
   ·rw[qu (de h1),List.take_succ,ha,Option.toList_some,←ej]
    simp)
  ⟨none,rfl,by simp,⟨_,rfl⟩⟩
 subst gE
 refine⟨z,c',e,?_,h2⟩
 rw[h1,Nat.zero_add,List.length_map,List.take_length]
theorem Ht(Lk:Look L0 L1 L2 aP fv ep lt ok){z:Option D}{n:Nat}(ht:c[t]? =some (.lst (ys.map ep)))(hn:c[n]? =some (.lst ((ys.map (·.2)).map en)))(eQ:fq (jh lt (·.2)) ys)(aO:∀a∈ys,ok a)(mm:ys.length≤30){zm:Option D}:
  ∃z5,gu (jb (af (eC (.int 1)) (af (eB bM (af (eV 1) aj)) aj))) (aI 5) (Ep L0 L1 L2 aP) [zm,some (.ref t),some fv,some (.ref n),z,none] c=some (.nx,[zm,some (.ref t),some fv,some (.ref n),z,z5],c):=by
 have bl:bM [.ref t] c=some (.int ys.length,c):=kU ht
 have hi:=Ao (a:=af (eC (.int 1)) (af (eB bM (af (eV 1) aj)) aj)) (σ:=[zm,some (.ref t),some fv,some (.ref n),z,none]) (c:=c) (c':=c) (i:=1) (j:=ys.length) (by erw[bl]) (by decide) (by omega)
 rw[o_ hi]
 obtain⟨σ',c',e,hc,z5,gE⟩:=d9 (ks:=[]) (g:=aI 5) (body:=Ep L0 L1 L2 aP) (fun _ σ c'=>c'=c∧∃z5:Option D,σ=[zm,some (.ref t),some fv,some (.ref n),z,z5])
  (eg 1 ((ys.length:Int) - 1).toNat) 0 [zm,some (.ref t),some fv,some (.ref n),z,none] c (fun _ _ _ _=>eX)
  (by
   rintro i d σ c' hd ⟨hc,z5,gE⟩
   subst hc gE
   obtain⟨j,hj,rfl⟩:=ou (List.mem_of_getElem? hd)
   obtain⟨x,hx⟩:∃x,ys[j]? =some x:=⟨_,List.getElem?_eq_getElem (by omega)⟩
   obtain⟨y,hy⟩:∃y,ys[j+1]? =some y:=⟨_,List.getElem?_eq_getElem (by omega)⟩
   have ox:=aO x (List.mem_of_getElem? hx)
   have oy:=aO y (List.mem_of_getElem? hy)
   have g1:aH (.ref t) (.int (1+(j:Int) - 1)) c'=some (ep x,c'):=Az (j:=j) ht ⟨by omega,by omega,by omega⟩ hx
   have g2:aH (.ref t) (.int (1+(j:Int))) c'=some (ep y,c'):=Az (j:=j+1) ht ⟨by omega,by omega,by omega⟩ hy
   have g3:aH (.ref n) (.int (1+(j:Int) - 1)) c'=some (.int (x.2:Int),c'):=AA (j:=j) hn ⟨by omega,by omega,by rw[List.length_map];omega⟩ (by rw[List.getElem?_map,hx];rfl)
   have g4:aH (.ref n) (.int (1+(j:Int))) c'=some (.int (y.2:Int),c'):=AA (j:=j+1) hn ⟨by omega,by omega,by rw[List.length_map];omega⟩ (by rw[List.getElem?_map,hy];rfl)
   have ch:=AB eQ hx hy
   unfold jh at ch
   obtain⟨Ta,OZ⟩:=Bool.or_eq_false_iff.mp ch
   have f1:cW L0 L1 L2 aP (af (e2 aH (eV 1) (eV 5)) (af (e2 aH (eV 1) (e2 bR (eV 5) (eC (.int 1)))) aj)) [zm,some (.ref t),some fv,some (.ref n),z,some (.int (1+(j:Int)))] c'=some (.bl false,c'):=by
    rw[←Ta]
    exact Lk.at_ y x c' _ _ _ rfl (by erw[g1,g2]) oy ox
   have f2:cW L0 L1 L2 aP (af (e2 aH (eV 1) (e2 bR (eV 5) (eC (.int 1)))) (af (e2 aH (eV 1) (eV 5)) aj)) [zm,some (.ref t),some fv,some (.ref n),z,some (.int (1+(j:Int)))] c'=some (.bl (lt x y),c'):=
    Lk.at_ x y c' _ _ _ rfl (by erw[g1,g2]) ox oy
   refine⟨_,c',[zm,some (.ref t),some fv,some (.ref n),z,some (.int (1+(j:Int)))],c',rfl,?_,rfl,_,rfl⟩
   refine aN (σ1:=[zm,some (.ref t),some fv,some (.ref n),z,some (.int (1+(j:Int)))]) (c1:=c') ?_ ?_
   ·rw[xw,GX]
    show((cW L0 L1 L2 aP _ [zm,some (.ref t),some fv,some (.ref n),z,some (.int (1+(j:Int)))] c').bind _).bind _=_
    rw[f1]
    rfl
   ·cases du:lt x y with
    |true=>
     rw[du]at f2
     rw[xw,zi,zj,GX,f2]
     rfl
    |false=>
     rw[du]at f2 OZ
     have hd:decide ((y.2:Int)<(x.2:Int))=false:=by
      have:decide (y.2<x.2)=false:=by simpa using OZ
      exact decide_eq_false (by have:=of_decide_eq_false this;omega)
     rw[xw,zi,zj,GX,f2]
     erw[g3,g4,hd])
  ⟨rfl,none,rfl⟩
 subst hc gE
 exact⟨z5,e⟩
theorem uz(Lk:Look L0 L1 L2 aP fv ep lt ok)(hm:c[m]? =some (.lst (S.map ep)))(ht:c[t]? =some (.lst (ys.map ep)))(hS:∀(i:Nat) a,S[i]? =some a→a.2=i)(hp:ys.Perm S)(eQ:fq (jh lt (·.2)) ys)(aO:∀a∈S,ok a)(mm:S.length≤30):
  ∃c',bT L0 L1 L2 aP [.ref m,.ref t,fv] c=some (.bl true,c')∧c <+:c':=by
 have S_:=hp.length_eq
 have b1:bM [.ref t] c=some (.int ys.length,c):=kU ht
 have b2:bM [.ref m] c=some (.int S.length,c):=kU hm
 obtain⟨z,c1,e1,g1,p1⟩:=Er (fv:=fv) hm ht hS hp mm
 have dS:(ys.map (·.2)).map en=((ys.map (·.2)).map fun(k:Nat)=>(k:Int)).map D.int:=by simp[en,List.map_map]
 have so:=LD (c:=c1) (n:=c.length) (row:=(ys.map (·.2)).map fun(k:Nat)=>(k:Int)) (by rw[←dS];exact g1) (by simp;omega)
 have LF:((ys.map (·.2)).map fun(k:Nat)=>(k:Int)).Perm ((List.range S.length).map fun(k:Nat)=>(k:Int)):=by
  refine(((hp.map (·.2)).map _).trans ?_)
  have:S.map (·.2)=List.range S.length:=by
   apply List.ext_getElem?
   intro i
   rw[List.getElem?_map]
   by_cases hi:i<S.length
   ·rw[List.getElem?_eq_getElem hi,List.getElem?_range hi,Option.map_some,hS i S[i] (List.getElem?_eq_getElem hi)]
   ·rw[List.getElem?_eq_none (by omega),List.getElem?_eq_none (by simp;omega)]
    rfl
  rw[this]
 have es:Ay ((ys.map (·.2)).map fun(k:Nat)=>(k:Int))=(List.range S.length).map fun(k:Nat)=>(k:Int):=by
  have pw:((List.range S.length).map fun(k:Nat)=>(k:Int)).Pairwise (·< ·):=List.Pairwise.map _ (fun a b (h:a<b)=>by omega) List.pairwise_lt_range
  have nd:((List.range S.length).map fun(k:Nat)=>(k:Int)).Nodup:=pw.imp fun h=>by omega
  exact Em (LF.nodup_iff.mpr nd) pw fun k=>LF.mem_iff
 rw[es]at so
 have b3:bM [.ref m] (c1++[.lst (((List.range S.length).map fun(k:Nat)=>(k:Int)).map D.int)])=some (.int S.length,_):=kU (bf (aJ p1 hm))
 have rl:=BO (n:=S.length) (c:=c1++[.lst (((List.range S.length).map fun(k:Nat)=>(k:Int)).map D.int)]) (by omega)
 rw[IP]at rl
 generalize hR:(List.range S.length).map (fun(k:Nat)=>(k:Int))=R at so b3 rl
 have ne:=BN (a:=c1.length) (b:=(c1++[Cell.lst (R.map D.int)]).length) (l:=R) (c:=c1++[.lst (R.map D.int)]++[.lst (R.map D.int)]) (bf bN) bN
 have p2:c <+:c1++[.lst (R.map D.int)]++[.lst (R.map D.int)]:=pre_app (pre_app p1)
 obtain⟨z5,e5⟩:=Ht Lk (z:=z) (zm:=some (.ref m)) (n:=c.length) (aJ p2 ht) (bf (bf g1)) eQ (fun a ha=>aO a (hp.mem_iff.mp ha)) (by omega)
 refine⟨_,?_,p2⟩
 have hit:fR (eV 1) [some (.ref m),some (.ref t),some fv,some (.ref c.length),none,none] (c++[.lst []])=some (⟨ys.map ep,[(t,.lst (ys.map ep))]⟩,c++[.lst []]):=zt rfl (bf ht)
 have Tb:=En ht
 have jB:(!decide ((ys.length:Int)=(S.length:Int)))=false:=by rw[decide_eq_true (by omega)];rfl
 rw[bT,iK,gr,if_pos (show [D.ref m,.ref t,fv].length=3 from rfl)]
 have s1:cY (l_ (eY (tV (eB cM (af (eV 1) (af (eC (.ty "list")) aj))))) (tV (e2 fQ (eB bM (af (eV 1) aj)) (eB bM (af (eV 0) aj))))) (bt (eC (.bl false))) bW [some (.ref m),some (.ref t),some fv,none,none,none] c=some (.nx,[some (.ref m),some (.ref t),some fv,none,none,none],c):=by
  erw[Tb,b1,b2,jB]
 have s2:aK 3 (gS aj) [some (.ref m),some (.ref t),some fv,none,none,none] c=some (.nx,[some (.ref m),some (.ref t),some fv,some (.ref c.length),none,none],c++[.lst []]):=by
  erw[Nat.zero_le]
 have s4:cY (tV (e2 fQ (eB nT (af (eV 3) aj)) (eB iq (af (eB bM (af (eV 0) aj)) aj)))) (bt (eC (.bl false))) bW [some (.ref m),some (.ref t),some fv,some (.ref c.length),z,none] c1=some (.nx,[some (.ref m),some (.ref t),some fv,some (.ref c.length),z,none],c1++[.lst (R.map D.int)]++[.lst (R.map D.int)]):=by
  erw[so,b3,rl,ne]
 have s6:bt (eC (.bl true)) [some (.ref m),some (.ref t),some fv,some (.ref c.length),z,z5] (c1++[.lst (R.map D.int)]++[.lst (R.map D.int)])=some (.rt (.bl true),[some (.ref m),some (.ref t),some fv,some (.ref c.length),z,z5],c1++[.lst (R.map D.int)]++[.lst (R.map D.int)]):=rfl
 have s3:=(o_ (g:=aI 4) (b:=Eo) hit).trans e1
 clear e1 so b3 rl ne LF es hR
 have body:=aN s1 (aN s2 (aN s3 (aN s4 (aN e5 s6))))
 exact(congrArg (fun o=>Option.bind o fin) body).trans rfl
end
theorem kW{tab:List (Nat×FN)}{lt:List (aS×FN)}{f:XE}{a:XA}{σ:Qm.Env}{c:Cells}{t:aS}{bs r:List D}{F:FN}(hf:f σ c=some (.cU t bs,c))(hl:fG lt t=some F)(ha:a σ c=some (r,c)):eP tab lt f a σ c=F (r++bs) c:=by
 unfold eP
 rw[hf,Option.bind_some]
 dsimp only
 rw[hl,Option.bind_some,ha,Option.bind_some]
theorem xK{tab:List (Nat×FN)}{lt:List (aS×FN)}{f:XE}{a:XA}{σ:Qm.Env}{c:Cells}{n:Nat}{r:List D}{F:FN}(hf:f σ c=some (.adr n,c))(hl:tab.lookup n=some F)(ha:a σ c=some (r,c)):eP tab lt f a σ c=F r c:=by
 unfold eP
 rw[hf,Option.bind_some]
 dsimp only
 rw[hl,Option.bind_some,ha,Option.bind_some]
section
variable{L0 L1 L2:aS}{aP:Nat}
theorem LG:fG [(L0,eu),(L1,ez),(L2,eD)] L0=some eu:=by unfold fG;rw[if_pos rfl]
theorem LH(h:L0≠L1):fG [(L0,eu),(L1,ez),(L2,eD)] L1=some ez:=by unfold fG;rw[if_neg h];unfold fG;rw[if_pos rfl]
theorem LI(h:L0≠L2)(h':L1≠L2):fG [(L0,eu),(L1,ez),(L2,eD)] L2=some eD:=by unfold fG;rw[if_neg h];unfold fG;rw[if_neg h'];unfold fG;rw[if_pos rfl]
theorem LJ(a:PN)(c:Cells):aH (ep a) (.int 0) c=some (sd a.1,c):=rfl
theorem Es:Look L0 L1 L2 aP (.cU L0 []) ep (fun a b=>My.dG a.1 b.1) (fun a=>Ok 100 a.1):=⟨fun x y c f a σ hf ha hx hy=>by
 rw[kW hf LG ha]
 have l:=zC (c:=c) (hx.mono (show 100≤1000 by decide)) (hy.mono (show 100≤1000 by decide))
 unfold eu pO
 erw[LJ,l]⟩
def part(k:Nat)(p:T3):Int:=if k=0 then p.1 else if k=1 then p.2.1 else p.2.2
theorem LK{k:Nat}(hk:k<3)(p:T3)(c:Cells):aH (sd p) (.int (k:Int)) c=some (.int (part k p),c):=by
 have:k=0∨k=1∨k=2:=by omega
 rcases this with rfl|rfl|rfl<;>rfl
theorem Et(h:L0≠L1){k:Nat}(hk:k<3):Look L0 L1 L2 aP (.cU L1 [.int (k:Int)]) ep (fun a b=>decide (part k a.1<part k b.1)) (fun a=>Ok 100 a.1):=⟨fun x y c f a σ hf ha hx hy=>by
 rw[kW hf (LH h) ha]
 unfold ez pO
 erw[LJ,LK hk]⟩
theorem LL:Look L0 L1 L2 aP (.adr aP) sd My.dG (fun a=>Ok 100 a):=⟨fun x y c f a σ hf ha hx hy=>by
 rw[xK (F:=bJ) hf (by simp) ha]
 exact vC (hx.mono (by decide)) (hy.mono (by decide))⟩
def pq(a:Int×Nat):D:=.tup [.int a.1,.int a.2]
theorem LM(h:L0≠L2)(h':L1≠L2):Look L0 L1 L2 aP (.cU L2 []) pq (fun a b=>decide (a.1<b.1)) (fun _=>True):=⟨fun x y c f a σ hf ha hx hy=>by
 rw[kW hf (LI h h') ha]
 have g:∀a:Int×Nat,aH (pq a) (.int 0) c=some (.int a.1,c):=fun _=>rfl
 unfold eD pO
 erw[g]⟩
end
section
variable{α β:Type}{lt:β→β→Bool}{f:α→β}
theorem xM:∀(r l:List α),(eE (fun a b=>lt (f a) (f b)) l r).map f=eE lt (l.map f) (r.map f)
 |[],l=>rfl
 |y::r,l=>by
  show((l.takeWhile fun x=>!lt (f y) (f x))++y::eE (fun a b=>lt (f a) (f b)) (l.dropWhile fun x=>!lt (f y) (f x)) r).map f=(l.map f).takeWhile (fun x=>!lt (f y) x)++f y::eE lt ((l.map f).dropWhile fun x=>!lt (f y) x) (r.map f)
  rw[List.map_append,List.map_cons,xM r,List.takeWhile_map,List.dropWhile_map]
  rfl
theorem xN:∀(rows:List (List α)),(fy (fun a b=>lt (f a) (f b)) rows).map (·.map f)=fy lt (rows.map (·.map f))
 |[]=>rfl
 |[a]=>rfl
 |a::b::rows=>by
  show eE _ a b |>.map f |> fun z=>z::(fy _ rows).map (·.map f)=eE lt (a.map f) (b.map f)::fy lt (rows.map (·.map f))
  rw[xN rows]
  exact congrArg (·::_) (xM b a)
theorem xO:∀(t:Nat) (rows:List (List α)),(fA (fun a b=>lt (f a) (f b)) t rows).map (·.map f)=fA lt t (rows.map (·.map f))
 |0,_=>rfl
 |t+1,rows=>by
  show(fA _ t (fy _ rows)).map (·.map f)=fA lt t (fy lt (rows.map (·.map f)))
  rw[xO t,xN]
end
section
variable{α:Type}{lt:α→α→Bool}
theorem lX:∀(t:Nat) (rows:List (List α)),rows.length≤1→fA lt t rows=rows
 |0,_,_=>rfl
 |t+1,[],_=>lX t [] (by simp)
 |t+1,[a],_=>lX t [a] (by simp)
 |_+1,_::_::_,h=>by simp at h
theorem sO:∀(t d:Nat) (rows:List (List α)),fA lt (t+d) rows=fA lt d (fA lt t rows)
 |0,d,rows=>by rw[Nat.zero_add];rfl
 |t+1,d,rows=>by
  rw[show t+1+d=(t+d)+1 by omega]
  exact sO t d (fy lt rows)
theorem BP{t u:Nat}{rows:List (List α)}(h1:(fA lt t rows).length≤1)(h2:(fA lt u rows).length≤1):fA lt t rows=fA lt u rows:=by
 rcases Nat.le_total t u with h|h
 ·obtain⟨d,rfl⟩:=Nat.exists_eq_add_of_le h
  rw[sO,lX _ _ h1]
 ·obtain⟨d,rfl⟩:=Nat.exists_eq_add_of_le h
  rw[sO,lX _ _ h2]
end
theorem zD{xs:List PN}{t u:Nat}(h1:(fA (fun a b:PN=>My.dG a.1 b.1) t (xs.map fun x=>[x])).length≤1)(h2:(fA My.dG u ((xs.map (·.1)).map fun x=>[x])).length≤1):
  (fA My.dG u ((xs.map (·.1)).map fun x=>[x])).flatten=(fA (fun a b:PN=>My.dG a.1 b.1) t (xs.map fun x=>[x])).flatten.map (·.1):=by
 have e:=xO (lt:=My.dG) (f:=fun a:PN=>a.1) t (xs.map fun x=>[x])
 have er:(xs.map fun x=>[x]).map (·.map fun a:PN=>a.1)=(xs.map (·.1)).map fun x=>[x]:=by simp[List.map_map]
 rw[er]at e
 rw[List.map_flatten]
 have:fA My.dG u ((xs.map (·.1)).map fun x=>[x])=fA My.dG t ((xs.map (·.1)).map fun x=>[x]):=BP h2 (by rw[←e,List.length_map];exact h1)
 rw[this,←e]
theorem lY{a b:Nat}{l:List D}{ds:List PyData}{c:Cells}(ha:c[a]? =some (.lst l))(hb:c[b]? =some (.lst l))(hd:omap (data c 59) l=some ds):rS (.ref a) (.ref b) c=some (.bl true,c)∧rT (.ref a) (.ref b) c=some (.bl false,c):=by
 have e1:data c 60 (.ref a)=some (.list ds):=by rw[lW ha,hd];rfl
 have e2:data c 60 (.ref b)=some (.list ds):=by rw[lW hb,hd];rfl
 have e:ub (.ref a) (.ref b) c=some true:=by
  unfold ub
  rw[e1,e2]
  simp
 exact⟨by unfold rS;rw[e];rfl,by unfold rT;rw[e];rfl⟩
def pA(a:Int×Nat):List Int:=[a.1,(a.2:Int)]
theorem Eu(x y:Int×Nat):jh (fun a b:Int×Nat=>decide (a.1<b.1)) (·.2) y x=a_ (pA x) (pA y):=by
 obtain⟨a,i⟩:=x
 obtain⟨b,j⟩:=y
 unfold jh pA
 by_cases h:a=b
 ·subst h
  have e:a_ [a,(i:Int)] [a,(j:Int)]=a_ [(i:Int)] [(j:Int)]:=by simp[a_]
  rw[e]
  by_cases h2:(i:Int)=j
  ·have:i=j:=by omega
   subst this
   simp[a_]
  ·have e2:a_ [(i:Int)] [(j:Int)]=decide ((i:Int) > (j:Int)):=by simp[a_,h2]
   rw[e2]
   simp
 ·have e:a_ [a,(i:Int)] [b,(j:Int)]=decide (a > b):=by simp[a_,h]
  rw[e]
  by_cases h2:b<a
  ·simp[h2]
  ·have:a<b:=by omega
   simp[h2,this]
theorem sP{α:Type}{lt lt':α→α→Bool}(h:∀x y,lt x y=lt' x y):∀{l:List α},fq lt l→fq lt' l
 |[],_=>trivial
 |[_],_=>trivial
 |x::y::l,⟨h1,h2⟩=>⟨by rw[←h];exact h1,sP h (l:=y::l) h2⟩
theorem zE{xs ys:List (Int×Nat)}(hp:ys.Perm xs)(hc:fq (jh (fun a b:Int×Nat=>decide (a.1<b.1)) (·.2)) ys):(xs.map pA).mergeSort oW=ys.map pA:=by
 have h1:=uv (lt:=fun y x=>a_ (pA x) (pA y)) (fun x y z h1 h2=>i6 _ _ _ h1 h2) (sP (fun y x=>Eu x y) hc)
 exact fJ ((List.mergeSort_perm ..).trans (hp.map pA).symm) (Ho _) (h1.map pA fun _ _ h=>h)
theorem Ew{xs:List (Int×Nat)}{n:Nat}{c:Cells}(h:c[n]? =some (.lst (xs.map pq)))(hn:xs.length≤1000):jJ [.ref n] c=some (.ref c.length,c++[.lst (((xs.map pA).mergeSort oW).map fun r=>.tup (r.map .int))]):=by
 have e:omap rowOf (xs.map pq)=some (xs.map pA):=iw (f:=rowOf) (g:=pq) (h:=pA) (fun a=>rfl) xs
 unfold jJ one
 simp only[bu h,Option.bind_some,e]
 rw[if_pos ⟨by rw[List.length_map];omega,by simp[pA]⟩]
section
variable{L0 L1 L2:aS}{aP:Nat}
theorem BR{c:Cells}{k:Nat}{a:Int×Nat}:data c (k+2) (pq a)=some (PyData.tuple [.int a.1,.int (a.2:Int)]):=rfl
theorem zF(c:Cells)(ys:List (Int×Nat)):omap (data c 59) (ys.map pq)=some (ys.map fun a=>PyData.tuple [.int a.1,.int (a.2:Int)]):=
 iw (f:=data c 59) (g:=pq) (h:=fun a=>PyData.tuple [.int a.1,.int (a.2:Int)]) (fun a=>BR (k:=57)) ys
theorem LN{n:Nat}{c:Cells}(h:dI n c)(h2:c[2]? =some (.tab L2.code L2.qual))(uW:n≠2)(LO:L0≠L2)(LP:L1≠L2):∃c',di L0 L1 L2 aP [.ref n] c=some (.bl true,c'):=by
 obtain⟨d1,c1,e1,l1,u1,p1,k1⟩:=cR (h.more (zs:=[.lst [.int 40,.int 700]])) (m:=8) (by decide) (by walk_at "bdm")
 have nl:=h.lt
 have s1:bS (.ref c.length) c1=some [.int 40,.int 700]:=bI (k1.get bN (by omega))
 obtain⟨b,Tc,Vw,ha⟩:∃b:Int,0<b∧b≤700∧∀c',aH (.ref c.length) (.int (if decide (d1=1)=true then 1 else 0)) c1=some (.int b,c')↔c'=c1:=by
  rw[iL,s1,Option.bind_some]
  by_cases hd:d1=1
  ·exact⟨700,by decide,by decide,fun c'=>by rw[decide_eq_true hd];simp[D3,eq_comm]⟩
  ·exact⟨40,by decide,by decide,fun c'=>by rw[decide_eq_false hd];simp[D2,eq_comm]⟩
 have ha:=(ha c1).mpr rfl
 obtain⟨d2,c2,e2,l2,u2,p2,k2⟩:=cR p1 (m:=b) Tc (G8 (by omega) (by omega))
 obtain⟨d3,c3,e3,l3,u3,p3,k3⟩:=cR p2 (m:=1000) (by decide) (by walk_at "bdm")
 have K3:Kp n (c++[.lst [.int 40,.int 700]]) c3:=k1.trans (k2.trans k3)
 have Td:c3[2]? =some (.tab L2.code L2.qual):=K3.get (bf h2) (by omega)
 have hi:=vz (a:=af (eV 1) aj) (σ:=[some (.ref n),some (.int d2),some (.int (1+d3)),none]) (c:=c3) (c':=c3) (j:=d2) rfl (by omega)
 obtain⟨c4,e4,p4,g4⟩:=zr (it:=fB (af (eV 1) aj)) (cap:=[none,some 2]) (te:=iC (af (Qm.e2 dE (Qm.e2 bh (eV 0) (eV 1)) (eC (.int 1009))) (af (eV 0) aj))) (σ:=[some (.ref n),some (.int d2),some (.int (1+d3)),none]) (ρ:=[some (.int (1+d3))]) (x:=none) (c:=c3) (ks:=[])
  (fun d=>match d with|.int k=>.tup [.int ((k*(1+d3)) % 1009),.int k]|d=>d) hi rfl eX
  (fun d hd c' _=>by
   obtain⟨i,hi,rfl⟩:=ou hd
   refine⟨[],?_⟩
   erw[]) (by simp[eg];omega)
 have O0:(eg 0 d2.toNat).map (fun d=>match d with|.int k=>D.tup [.int ((k*(1+d3)) % 1009),.int k]|d=>d)=((List.range d2.toNat).map fun(k:Nat)=>(((k:Int)*(1+d3)) % 1009,k)).map pq:=by
  rw[IP,List.map_map,List.map_map,List.map_map]
  rfl
 rw[O0]at g4
 generalize m6:(List.range d2.toNat).map (fun(k:Nat)=>(((k:Int)*(1+d3)) % 1009,k))=xs at g4
 have hlen:xs.length=d2.toNat:=by rw[←m6];simp
 have O1:xs.Pairwise fun x y=>x.2<y.2:=by
  rw[←m6,List.pairwise_map]
  exact List.pairwise_lt_range
 obtain⟨m,ys,c5,e5,p5,_,g5,pm,ch,t,ht,yI⟩:=jZ (LM (aP:=aP) LO LP) (fun x y h=>by simp at h ⊢;omega) g4 (fun _ _=>trivial) (by omega)
 have st:=sJ (lt:=fun a b:Int×Nat=>decide (a.1<b.1)) (pos:=(·.2)) (fun x y h=>by simp at h ⊢;omega) O1 ht
 rw[←yI]at st
 have so:=Ew (aJ p5 g4) (by omega)
 rw[zE pm st,List.map_map]at so
 have so:jJ [.ref c3.length] c5=some (.ref c5.length,c5++[.lst (ys.map pq)]):=so
 have dt:=zF (c5++[.lst (ys.map pq)]) ys
 have eq:=(lY (a:=m) (b:=c5.length) (bf g5) bN dt).1
 have lam:iZ L2 2 [] [some (.ref n),some (.int d2),some (.int (1+d3)),some (.ref c3.length)] c4=some (.cU L2 [],c4):=by
  unfold iZ
  rw[aJ p4 Td]
  dsimp only
  rw[if_pos ⟨rfl,rfl⟩]
  rfl
 refine⟨c5++[.lst (ys.map pq)],?_⟩
 rw[di,iK,i8,if_pos (show [D.ref n].length=1 from rfl)]
 have b1:aK 1 (az ar [] (af (eV 0) (af (Qm.e2 aH (gS (af (eC (.int 40)) (af (eC (.int 700)) aj))) (eB kA (af (Qm.e2 iE (az ar [] (af (eV 0) (af (eC (.int 8)) aj))) (eC (.int 1))) aj))) aj))) [some (.ref n),none,none,none] c=some (.nx,[some (.ref n),some (.int d2),none,none],c2):=by
  erw[e1,ha,e2]
 have b2:aK 2 (Qm.e2 cp (eC (.int 1)) (az ar [] (af (eV 0) (af (eC (.int 1000)) aj)))) [some (.ref n),some (.int d2),none,none] c2=some (.nx,[some (.ref n),some (.int d2),some (.int (1+d3)),none],c3):=by
  erw[e3]
 have b3:aK 3 (cV (fB (af (eV 1) aj)) [none,some 2] (aI 0) eF (iC (af (Qm.e2 dE (Qm.e2 bh (eV 0) (eV 1)) (eC (.int 1009))) (af (eV 0) aj)))) [some (.ref n),some (.int d2),some (.int (1+d3)),none] c3=some (.nx,[some (.ref n),some (.int d2),some (.int (1+d3)),some (.ref c3.length)],c4):=by
  erw[e4]
 have b4:bt (Qm.e2 rS (az (bj L0 L1 L2 aP) [] (af (eV 3) (af (iZ L2 2 []) aj))) (eB jJ (af (eV 3) aj))) [some (.ref n),some (.int d2),some (.int (1+d3)),some (.ref c3.length)] c4=some (.rt (.bl true),[some (.ref n),some (.int d2),some (.int (1+d3)),some (.ref c3.length)],c5++[.lst (ys.map pq)]):=by
  erw[lam,e5,so,eq]
 have body:=aN b1 (aN b2 (aN b3 b4))
 clear b1 b2 b3 b4
 exact(congrArg (fun o=>Option.bind o fin) body).trans rfl
end
theorem Ex{a:XE}{σ:Qm.Env}{c c1:Cells}{m:Nat}{xs:List D}(ha:a σ c=some (.ref m,c1))(h:c1[m]? =some (.lst xs)):fR a σ c=some (⟨xs,[(m,.lst xs)]⟩,c1):=by
 unfold fR
 rw[ha,Option.bind_some]
 dsimp only
 rw[h,Option.bind_some,bI h,Option.bind_some]
noncomputable abbrev S1:XS:=aK 1 (gS aj)
noncomputable abbrev S2:XS:=gu (fR (az cL [] (af (eV 0) aj))) Ax Aw
noncomputable abbrev S3:XS:=gu (jb (af (eC (.int 1)) (af (eB bM (af (eV 1) aj)) aj))) (aI 6) El
noncomputable abbrev S4:XS:=aK 8 (cV (m7 (af (eV 1) aj)) [none,none] (jw 2 (cE (aI 0) (cE (aI 1) jv))) eF (iC (af (eV 1) (af (eV 0) aj))))
noncomputable abbrev S5:XS:=aK 9 (eB rC (af (eV 8) aj))
noncomputable abbrev S6:XS:=aK 10 (az ar [] (af (az bE [] (af (eV 0) (af (eC (.int 40)) aj))) (af (eC (.int 3)) aj)))
noncomputable abbrev S7(L0:aS):XS:=aK 11 (iZ L0 1 [])
noncomputable abbrev S8(L1:aS):XS:=aK 12 (iZ L1 1 [10])
noncomputable abbrev S9(L0 L1 L2:aS)(aP:Nat):XS:=aK 13 (az (bj L0 L1 L2 aP) [] (af (eV 8) (af (eV 11) aj)))
noncomputable abbrev Hu(L0 L1 L2:aS)(aP:Nat):XS:=cY (l_ (eY (tV (az (bT L0 L1 L2 aP) [] (af (eV 8) (af (eV 13) (af (eV 11) aj)))))) (eY (tV (az (bT L0 L1 L2 aP) [] (af (eV 8) (af (az (bj L0 L1 L2 aP) [] (af (eV 8) (af (eV 12) aj))) (af (eV 12) aj))))))) (bt (eC (.bl false))) bW
noncomputable abbrev Hv(L0 L1 L2:aS)(aP:Nat):XS:=cY (l_ (tV (e2 rT (eV 8) (eV 9))) (tV (e2 rT (az (bj L0 L1 L2 aP) [] (af (eV 1) (af (eC (.adr aP)) aj))) (cV (fR (eV 13)) [none] (aI 0) eF (e2 aH (eV 0) (eC (.int 0))))))) (bt (eC (.bl false))) bW
noncomputable abbrev Hw:XS:=d5 (eM lK (eV 13) aj)
noncomputable abbrev Hx(L0 L1 L2:aS)(aP:Nat):XS:=bt (rz (e2 rS (eV 8) (eV 9)) (az (di L0 L1 L2 aP) [] (af (az bE [] (af (eV 0) (af (eC (.int 41)) aj))) aj)))
theorem BS(L0 L1 L2:aS)(aP:Nat):vA L0 L1 L2 aP=av S1 (av S2 (av S3 (av S4 (av S5 (av S6 (av (S7 L0) (av (S8 L1) (av (S9 L0 L1 L2 aP) (av (Hu L0 L1 L2 aP) (av (Hv L0 L1 L2 aP) (av Hw (Hx L0 L1 L2 aP)))))))))))):=rfl
theorem Hy{ns:List Int}{c0:Cells}(h0:c0[0]? =some (.ro (ns.map D.int)))(h3:c0.length=3):∃(z2 z3 z4 z5:Option D) (l:List T3) (c':Cells),av S1 S2 [some (.ref 0),none,none,none,none,none,none,none,none,none,none,none,none,none] c0=some (.nx,[some (.ref 0),some (.ref 3),z2,z3,z4,z5,none,none,none,none,none,none,none,none],c')∧c0 <+:c'∧c'[3]? =some (.lst (l.map sd))∧(∀p∈l,Ok 100 p)∧l.length≤30:=by
 obtain⟨n,l,c1,e1,p1,hn,g1,hr,mm⟩:=zB (c:=c0++[.lst []]) (bf h0)
 have Vx: 4≤n:=by simpa[h3]using hn
 have g3:c1[3]? =some (.lst []):=aJ p1 (by rw[←h3];exact bN)
 obtain⟨z2,z3,z4,z5,c2,e2,g2,p2,_⟩:=Hm (F:=3) (T:=[none,none,none,none,none,none,none,none]) (z0:=some (.ref 0)) (z2:=none) (z3:=none) (z4:=none) (z5:=none) (c0:=c0) hr g1 g3 (by omega) mm ((show c0 <+:c0++[.lst []] from⟨_,rfl⟩).trans p1) (by omega)
 refine⟨z2,z3,z4,z5,_,c2,?_,p2,g2,fun p hp=>?_,by rw[List.length_map];exact mm⟩
 ·have s1:S1 [some (.ref 0),none,none,none,none,none,none,none,none,none,none,none,none,none] c0=some (.nx,[some (.ref 0),some (.ref 3),none,none,none,none,none,none,none,none,none,none,none,none],c0++[.lst []]):=by
   erw[Nat.zero_le,h3]
  have ha:az cL [] (af (eV 0) aj) [some (.ref 0),some (.ref 3),none,none,none,none,none,none,none,none,none,none,none,none] (c0++[.lst []])=some (.ref n,c1):=by erw[e1]
  exact aN s1 ((o_ (Ex ha g1)).trans e2)
 ·obtain⟨q,hq,rfl⟩:=List.mem_map.mp hp
  exact Av (hr q hq)
theorem Hz{ps:List T3}{σ:Qm.Env}{c:Cells}(gE:σ[1]? =some (some (.ref 3)))(h:c[3]? =some (.lst (ps.map sd)))(mm:ps.length≤30):
  ∃c',cV (m7 (af (eV 1) aj)) [none,none] (jw 2 (cE (aI 0) (cE (aI 1) jv))) eF (iC (af (eV 1) (af (eV 0) aj))) σ c=some (.ref c.length,c')∧c <+:c'∧c'[c.length]? =some (.lst (ps.zipIdx.map ep)):=by
 have hi:m7 (af (eV 1) aj) σ c=some (⟨jf (ps.map sd),[(3,.lst (ps.map sd))]⟩,c):=by
  unfold m7
  rw[An,GU,gE]
  simp only[Option.join_some,Option.bind_some,DU,h,bu h]
 have len:(jf (ps.map sd)).length=ps.length:=by simp[jf]
 obtain⟨vs,c',e,p,g,lv,hv⟩:=zu (it:=m7 (af (eV 1) aj)) (cap:=[none,none]) (g:=jw 2 (cE (aI 0) (cE (aI 1) jv))) (te:=iC (af (eV 1) (af (eV 0) aj))) (fun τ=>∃a b,τ=[a,b]) (fun i v _=>∃q,ps[i]? =some q∧v=ep (q,i)) hi (fun q hq=>by cases List.mem_singleton.mp hq;exact h) ⟨none,none,rfl⟩ (fun _ _ _ _ h _=>h)
  (by
   rintro i d hd τ c' ⟨a,b,D_⟩ _ _
   subst D_
   unfold jf at hd
   rw[List.getElem?_map,List.getElem?_zipIdx,List.getElem?_map]at hd
   obtain⟨q,hq⟩:∃q,ps[i]? =some q:=by
    cases hq:ps[i]? with
    |none=>rw[hq]at hd;simp at hd
    |some q=>exact⟨q,rfl⟩
   rw[hq]at hd
   simp only[Option.map_some,Nat.zero_add,Option.some.injEq]at hd
   subst hd
   refine⟨[some (.int (i:Int)),some (sd q)],ep (q,i),[],?_,?_,⟨_,_,rfl⟩,q,hq,rfl⟩
   ·erw[]
   ·rw[List.append_nil]
    erw[]
    rfl) (by omega)
 refine⟨c',e,p,?_⟩
 rw[g]
 have:vs=ps.zipIdx.map ep:=by
  apply List.ext_getElem?
  intro i
  rw[List.getElem?_map,List.getElem?_zipIdx]
  by_cases hi:i<vs.length
  ·obtain⟨q,hq,hw⟩:=hv i vs[i] (List.getElem?_eq_getElem hi)
   rw[List.getElem?_eq_getElem hi,hw,hq]
   simp
  ·have:ps.length≤i:=by omega
   rw[List.getElem?_eq_none (by omega),List.getElem?_eq_none this]
   rfl
 rw[this]
theorem HA{ps:List T3}(i:Nat)(a:PN)(h:ps.zipIdx[i]? =some a):a.2=i:=by
 rw[List.getElem?_zipIdx]at h
 obtain⟨q,_,rfl⟩:=Option.map_eq_some_iff.mp h
 simp
theorem uA(c:Cells)(l:List PN):omap (data c 59) (l.map ep)=some (l.map pe):=sN (k:=56) l
theorem BU(c:Cells)(l:List T3):omap (data c 59) (l.map sd)=some (l.map pd):=iw (f:=data c 59) (g:=sd) (h:=pd) (fun _=>sv (k:=57)) l
def O2(d:D):D:=match d with
 |.tup (x::_)=>x
 |d=>d
theorem Ey{ys:List PN}{σ:Qm.Env}{c:Cells}{n:Nat}(gE:σ[13]? =some (some (.ref n)))(h:c[n]? =some (.lst (ys.map ep)))(mm:ys.length≤1000):
  ∃c',cV (fR (eV 13)) [none] (aI 0) eF (e2 aH (eV 0) (eC (.int 0))) σ c=some (.ref c.length,c')∧c <+:c'∧c'[c.length]? =some (.lst ((ys.map (·.1)).map sd)):=by
 have hi:fR (eV 13) σ c=some (⟨ys.map ep,[(n,.lst (ys.map ep))]⟩,c):=Ex (by rw[GU,gE];rfl) h
 obtain⟨c',e,p,g⟩:=zr (cap:=[none]) (te:=e2 aH (eV 0) (eC (.int 0))) (ρ:=[]) (x:=none) O2 hi rfl (fun q hq=>by cases List.mem_singleton.mp hq;exact h)
  (fun d hd c' _=>by
   obtain⟨a,_,rfl⟩:=List.mem_map.mp hd
   refine⟨[],?_⟩
   rw[List.append_nil]
   erw[LJ]
   rfl) (by rw[List.length_map];exact mm)
 refine⟨c',e,p,?_⟩
 rw[g,List.map_map,List.map_map]
 rfl
theorem Ez{L0 L1 L2:aS}{aP:Nat}(h1:L1.code=L0.code)(h2:L1.qual=L0.qual)(O3:L0≠L1)(LO:L0≠L2)(LP:L1≠L2){ns:List Int}{c:Cells}{z2 z3 z4 z5 z6 z7:Option D}{ps:List T3}
  (q0:c[0]? =some (.ro (ns.map D.int)))(q1:c[1]? =some (.tab L0.code L0.qual))(q2:c[2]? =some (.tab L2.code L2.qual))(q3:c[3]? =some (.lst (ps.map sd)))(aO:∀p∈ps,Ok 100 p)(mm:ps.length≤30):
  ∃σ' c',av S4 (av S5 (av S6 (av (S7 L0) (av (S8 L1) (av (S9 L0 L1 L2 aP) (av (Hu L0 L1 L2 aP) (av (Hv L0 L1 L2 aP) (av Hw (Hx L0 L1 L2 aP))))))))) [some (.ref 0),some (.ref 3),z2,z3,z4,z5,z6,z7,none,none,none,none,none,none] c=some (.rt (.bl true),σ',c'):=by
 have l3:=de q3
 -- yc pairs
 obtain⟨c4,e4,p4,g4⟩:=Hz (σ:=[some (.ref 0),some (.ref 3),z2,z3,z4,z5,z6,z7,none,none,none,none,none,none]) rfl q3 mm
 have hS:=HA (ps:=ps)
 have lS:ps.zipIdx.length=ps.length:=by simp
 have HB:∀a∈ps.zipIdx,Ok 100 a.1:=fun a ha=>aO a.1 (List.fst_mem_of_mem_zipIdx ha)
 have fS:ps.zipIdx.map (·.1)=ps:=by simp
 have IS:ps.zipIdx.Pairwise fun x y=>x.2<y.2:=by
  rw[List.pairwise_iff_getElem]
  intro i j hi hj cX
  rw[hS i _ (List.getElem?_eq_getElem hi),hS j _ (List.getElem?_eq_getElem hj)]
  exact cX
 generalize ps.zipIdx=S at*
 generalize hA:c.length=A at*
 have s4:S4 [some (.ref 0),some (.ref 3),z2,z3,z4,z5,z6,z7,none,none,none,none,none,none] c=some (.nx,[some (.ref 0),some (.ref 3),z2,z3,z4,z5,z6,z7,some (.ref A),none,none,none,none,none],c4):=by
  erw[e4]
 have lA:=de g4
 -- kept
 have bl:rC [.ref A] c4=some (.ref c4.length,c4++[.lst (S.map ep)]):=by
  have:rC [.ref A] c4=(bS (.ref A) c4).bind fun xs=>some (.ref c4.length,c4++[.lst xs]):=rfl
  rw[this,bI g4];rfl
 have s5:S5 [some (.ref 0),some (.ref 3),z2,z3,z4,z5,z6,z7,some (.ref A),none,none,none,none,none] c4=some (.nx,[some (.ref 0),some (.ref 3),z2,z3,z4,z5,z6,z7,some (.ref A),some (.ref c4.length),none,none,none,none],c4++[.lst (S.map ep)]):=by
  erw[bl]
 generalize hB:c4.length=B at*
 -- yc number drawn
 obtain⟨a,b,e6,a0,b0⟩:=zq (s:=0) (k:=40) (c:=c4++[.lst (S.map ep)]) (bf (aJ p4 q0)) (by decide) (by decide)
 have O4:(c4++[Cell.lst (S.map ep)]).length=B+1:=by simp[hB]
 rw[O4]at e6
 obtain⟨d,c6,e7,d0,d3,p6,k6⟩:=cR (n:=B+1) (c:=c4++[.lst (S.map ep)]++[.lst [.int a,.int b]]) (m:=3) ⟨a,b,by rw[←O4];exact bN,a0,b0⟩ (by decide) (by walk_at "bdm")
 obtain⟨k,rfl⟩:∃k:Nat,d=k:=⟨d.toNat,by omega⟩
 have hk:k<3:=by omega
 have s6:S6 [some (.ref 0),some (.ref 3),z2,z3,z4,z5,z6,z7,some (.ref A),some (.ref B),none,none,none,none] (c4++[.lst (S.map ep)])=some (.nx,[some (.ref 0),some (.ref 3),z2,z3,z4,z5,z6,z7,some (.ref A),some (.ref B),some (.int k),none,none,none],c6):=by
  erw[e6,e7]
 have keep:∀i z,i≠B+1→(c4++[.lst (S.map ep)])[i]? =some z→c6[i]? =some z:=fun i z hi h=>k6.get (bf h) hi
 have r0:c6[0]? =some (.ro (ns.map D.int)):=keep 0 _ (by omega) (bf (aJ p4 q0))
 have r1:c6[1]? =some (.tab L0.code L0.qual):=keep 1 _ (by omega) (bf (aJ p4 q1))
 have r2:c6[2]? =some (.tab L2.code L2.qual):=keep 2 _ (by omega) (bf (aJ p4 q2))
 have r3:c6[3]? =some (.lst (ps.map sd)):=keep 3 _ (by omega) (bf (aJ p4 q3))
 have rA:c6[A]? =some (.lst (S.map ep)):=keep A _ (by omega) (bf g4)
 have rB:c6[B]? =some (.lst (S.map ep)):=keep B _ (by omega) (by rw[←hB];exact bN)
 have lB:=de rB
 clear e4 e6 e7 p6 k6 keep bl g4 p4 q0 q1 q2 q3
 have s7:S7 L0 [some (.ref 0),some (.ref 3),z2,z3,z4,z5,z6,z7,some (.ref A),some (.ref B),some (.int k),none,none,none] c6=some (.nx,[some (.ref 0),some (.ref 3),z2,z3,z4,z5,z6,z7,some (.ref A),some (.ref B),some (.int k),some (.cU L0 []),none,none],c6):=by
  have:iZ L0 1 [] [some (.ref 0),some (.ref 3),z2,z3,z4,z5,z6,z7,some (.ref A),some (.ref B),some (.int k),none,none,none] c6=some (.cU L0 [],c6):=by
   unfold iZ
   rw[r1]
   dsimp only
   rw[if_pos ⟨rfl,rfl⟩]
   rfl
  erw[this]
 have s8:S8 L1 [some (.ref 0),some (.ref 3),z2,z3,z4,z5,z6,z7,some (.ref A),some (.ref B),some (.int k),some (.cU L0 []),none,none] c6=some (.nx,[some (.ref 0),some (.ref 3),z2,z3,z4,z5,z6,z7,some (.ref A),some (.ref B),some (.int k),some (.cU L0 []),some (.cU L1 [.int k]),none],c6):=by
  have:iZ L1 1 [10] [some (.ref 0),some (.ref 3),z2,z3,z4,z5,z6,z7,some (.ref A),some (.ref B),some (.int k),some (.cU L0 []),none,none] c6=some (.cU L1 [.int k],c6):=by
   unfold iZ
   rw[r1]
   dsimp only
   rw[if_pos ⟨h1.symm,h2.symm⟩]
   rfl
  erw[this]
 -- in order by place
 have O5:∀x y:PN,My.dG x.1 y.1=true→My.dG y.1 x.1=false:=fun _ _ h=>My.o6 h
 have JW:∀x y:PN,decide (part k x.1<part k y.1)=true→decide (part k y.1<part k x.1)=false:=fun x y h=>by simp at h ⊢;omega
 obtain⟨n1,ys,c7,e9,p7,Vy,g7,pm,_,t,ht,yI⟩:=jZ (Es (L0:=L0) (L1:=L1) (L2:=L2) (aP:=aP)) O5 rA HB (by omega)
 have st:=sJ (lt:=fun a b:PN=>My.dG a.1 b.1) (pos:=(·.2)) O5 IS ht
 rw[←yI]at st
 have s9:S9 L0 L1 L2 aP [some (.ref 0),some (.ref 3),z2,z3,z4,z5,z6,z7,some (.ref A),some (.ref B),some (.int k),some (.cU L0 []),some (.cU L1 [.int k]),none] c6=some (.nx,[some (.ref 0),some (.ref 3),z2,z3,z4,z5,z6,z7,some (.ref A),some (.ref B),some (.int k),some (.cU L0 []),some (.cU L1 [.int k]),some (.ref n1)],c7):=by
  erw[e9]
 obtain⟨c8,O6,p8⟩:=uz (Es (L0:=L0) (L1:=L1) (L2:=L2) (aP:=aP)) (aJ p7 rA) g7 hS pm st HB (by omega)
 -- in order by a part
 obtain⟨n2,ws,c9,O7,p9,_,g9,pw,_,u,hu,O8⟩:=jZ (Et (L2:=L2) (aP:=aP) O3 hk) JW (aJ p8 (aJ p7 rA)) HB (by omega)
 have sw:=sJ (lt:=fun a b:PN=>decide (part k a.1<part k b.1)) (pos:=(·.2)) JW IS hu
 rw[←O8]at sw
 obtain⟨vJ,O9,LQ⟩:=uz (Et (L2:=L2) (aP:=aP) O3 hk) (aJ p9 (aJ p8 (aJ p7 rA))) g9 hS pw sw HB (by omega)
 have Nt:Hu L0 L1 L2 aP [some (.ref 0),some (.ref 3),z2,z3,z4,z5,z6,z7,some (.ref A),some (.ref B),some (.int k),some (.cU L0 []),some (.cU L1 [.int k]),some (.ref n1)] c7=some (.nx,[some (.ref 0),some (.ref 3),z2,z3,z4,z5,z6,z7,some (.ref A),some (.ref B),some (.int k),some (.cU L0 []),some (.cU L1 [.int k]),some (.ref n1)],vJ):=by
  erw[O6,O7,O9]
 have HC:c6 <+:vJ:=p7.trans (p8.trans (p9.trans LQ))
 have O_:vJ[n1]? =some (.lst (ys.map ep)):=aJ (p8.trans (p9.trans LQ)) g7
 clear O6 O7 O9 p8 p9 LQ g9 sw O8
 -- alone
 have ne1:=(lY (a:=A) (b:=B) (aJ HC rA) (aJ HC rB) (uA vJ S)).2
 obtain⟨n3,vs,EA,Pa,HD,_,Pb,pv,_,v,hv,GA⟩:=jZ (LL (L0:=L0) (L1:=L1) (L2:=L2) (aP:=aP)) (fun x y h=>My.o6 h) (aJ HC r3) aO (by omega)
 have same:vs=ys.map (·.1):=by
  rw[GA,yI]
  have:=zD (xs:=S) (t:=t) (u:=v) ht (by rw[fS];exact hv)
  rw[fS]at this
  exact this
 obtain⟨iQ,Pc,HE,Pd⟩:=Ey (ys:=ys) (σ:=[some (.ref 0),some (.ref 3),z2,z3,z4,z5,z6,z7,some (.ref A),some (.ref B),some (.int k),some (.cU L0 []),some (.cU L1 [.int k]),some (.ref n1)]) (n:=n1) rfl (aJ HD O_) (by rw[pm.length_eq];omega)
 have ne2:=(lY (a:=n3) (b:=EA.length) (aJ HE (by rw[Pb,same])) Pd (BU iQ (ys.map (·.1)))).2
 have Te:Hv L0 L1 L2 aP [some (.ref 0),some (.ref 3),z2,z3,z4,z5,z6,z7,some (.ref A),some (.ref B),some (.int k),some (.cU L0 []),some (.cU L1 [.int k]),some (.ref n1)] vJ=some (.nx,[some (.ref 0),some (.ref 3),z2,z3,z4,z5,z6,z7,some (.ref A),some (.ref B),some (.int k),some (.cU L0 []),some (.cU L1 [.int k]),some (.ref n1)],iQ):=by
  erw[ne1,Pa,Pc,ne2]
 have Tf:c6 <+:iQ:=HC.trans (HD.trans HE)
 have Tg:iQ[n1]? =some (.lst (ys.map ep)):=aJ (HD.trans HE) O_
 clear ne1 Pa Pc ne2 HD HE Pb Pd same GA
 -- emptied
 have lo:=bu Tg
 have Th:Hw [some (.ref 0),some (.ref 3),z2,z3,z4,z5,z6,z7,some (.ref A),some (.ref B),some (.int k),some (.cU L0 []),some (.cU L1 [.int k]),some (.ref n1)] iQ=some (.nx,[some (.ref 0),some (.ref 3),z2,z3,z4,z5,z6,z7,some (.ref A),some (.ref B),some (.int k),some (.cU L0 []),some (.cU L1 [.int k]),some (.ref n1)],iQ.set n1 (.lst [])):=by
  have cl:lK (.ref n1) [] iQ=some (.bL,iQ.set n1 (.lst [])):=by
   have:lK (.ref n1) [] iQ=(bq (.ref n1) iQ).bind fun l=>some (.bL,iQ.set l.1 (.lst [])):=rfl
   rw[this,lo];rfl
  erw[lo,cl]
 have kp:∀i z,c6[i]? =some z→(iQ.set n1 (.lst []))[i]? =some z:=fun i z h=>oz (aJ Tf h) (by have:=de h;omega)
 have eq:=(lY (a:=A) (b:=B) (kp A _ rA) (kp B _ rB) (uA _ S)).1
 obtain⟨a',b',Ti,a1,b1⟩:=zq (s:=0) (k:=41) (kp 0 _ r0) (by decide) (by decide)
 obtain⟨EB,Tj⟩:=LN (L0:=L0) (L1:=L1) (L2:=L2) (aP:=aP) (n:=(iQ.set n1 (.lst [])).length) (c:=iQ.set n1 (.lst [])++[.lst [.int a',.int b']]) ⟨a',b',bN,a1,b1⟩ (bf (kp 2 _ r2)) (by have:=de (kp 2 _ r2);omega) LO LP
 have Tn:Hx L0 L1 L2 aP [some (.ref 0),some (.ref 3),z2,z3,z4,z5,z6,z7,some (.ref A),some (.ref B),some (.int k),some (.cU L0 []),some (.cU L1 [.int k]),some (.ref n1)] (iQ.set n1 (.lst []))=some (.rt (.bl true),[some (.ref 0),some (.ref 3),z2,z3,z4,z5,z6,z7,some (.ref A),some (.ref B),some (.int k),some (.cU L0 []),some (.cU L1 [.int k]),some (.ref n1)],EB):=by
  erw[eq,Ti,Tj]
 exact⟨_,_,aN s4 (aN s5 (aN s6 (aN s7 (aN s8 (aN s9 (aN Nt (aN Te (aN Th Tn))))))))⟩
theorem BV(cI cZ cN:Qm.aS)(τ:Nat)(h1:cZ.code=cI.code)(h2:cZ.qual=cI.qual)(h3:cI≠cZ)(h4:cI≠cN)(h5:cZ≠cN)(ns:List Int)(h:ns.length≤63):∃c,kS cI cZ cN τ [.ref 0] [.ro (ns.map Qm.D.int),.tab cI.code cI.qual,.tab cN.code cN.qual]=some (.bl true,c):=by
 obtain⟨z2,z3,z4,z5,ps,c1,e1,p1,g1,aO,mm⟩:=Hy (ns:=ns) (c0:=[.ro (ns.map Qm.D.int),.tab cI.code cI.qual,.tab cN.code cN.qual]) rfl rfl
 obtain⟨z6,z7,e2⟩:=Hn (z0:=some (.ref 0)) (z2:=z2) (z3:=z3) (z4:=z4) (z5:=z5) (z6:=none) (z7:=none) (T:=[none,none,none,none,none,none]) g1 aO mm
 obtain⟨σ',c',e3⟩:=Ez (aP:=τ) h1 h2 h3 h4 h5 (z2:=z2) (z3:=z3) (z4:=z4) (z5:=z5) (z6:=z6) (z7:=z7) (aJ p1 rfl) (aJ p1 rfl) (aJ p1 rfl) g1 aO mm
 refine⟨c',?_⟩
 rw[kS,iK,BS,if_pos (show [D.ref 0].length=1 from rfl)]
 have body:av S1 (av S2 (av S3 (av S4 (av S5 (av S6 (av (S7 cI) (av (S8 cZ) (av (S9 cI cZ cN τ) (av (Hu cI cZ cN τ) (av (Hv cI cZ cN τ) (av Hw (Hx cI cZ cN τ)))))))))))) [some (.ref 0),none,none,none,none,none,none,none,none,none,none,none,none,none] [.ro (ns.map Qm.D.int),.tab cI.code cI.qual,.tab cN.code cN.qual]=some (.rt (.bl true),σ',c'):=by
  rw[sj]at e1
  rw[sj]
  cases hq:S1 [some (.ref 0),none,none,none,none,none,none,none,none,none,none,none,none,none] [.ro (ns.map Qm.D.int),.tab cI.code cI.qual,.tab cN.code cN.qual] with
  |none=>rw[hq]at e1;cases e1
  |some r=>
   obtain⟨f,σ1,d1⟩:=r
   rw[hq,Option.bind_some]at e1
   cases f with
   |nx=>exact aN e1 (aN e2 e3)
   |rt d=>cases e1
   |bk=>cases e1
   |ct=>cases e1
 exact(congrArg (fun o=>Option.bind o fin) body).trans rfl
end xA
set_option maxHeartbeats 4000000
namespace xA
open PySem L2
def top(i:Nat):Stmt:=PySem.Challenge.pw_sheetlay_k13_spots.main.body.getD i (.Pass ⟨0,0,0,0⟩)
def fT(c:Nat):Qm.aS:=⟨yW (top 21) (gU 6 (top 21)),yX (gU 6 (top 21)),fH (top 21) (gU 6 (top 21)),("law":Str)++".<locals>."++"<lambda>",c,yY (gU 6 (top 21)),[]⟩
def fU(c:Nat):Qm.aS:=⟨yW (top 21) (gU 7 (top 21)),yX (gU 7 (top 21)),fH (top 21) (gU 7 (top 21)),("law":Str)++".<locals>."++"<lambda>",c,yY (gU 7 (top 21)),["_law_at"]⟩
def fV(c:Nat):Qm.aS:=⟨yW (top 20) (sh (top 20)),yX (sh (top 20)),fH (top 20) (sh (top 20)),("_law_many":Str)++".<locals>."++"<lambda>",c,yY (sh (top 20)),[]⟩
set_option genInjectivity false in
structure Pe where
 eJ:Addr
 oC:Addr
 jK:Addr
 oD:Addr
 ng:Addr
 nh:FuncData
 vK:Addr
 qv:FuncData
 HF:Tok
 kX:Addr
 kY:FuncData
 cG:Addr
 sQ:FuncData
 kZ:Addr
 k_:FuncData
 pB:Addr
 pC:FuncData
 gM:Addr
 gN:FuncData
 lg:Addr
 lh:FuncData
 ll:Addr
 lq:FuncData
 j4:Addr
 j5:FuncData
 j6:Addr
 j7:FuncData
 j8:Addr
 j9:FuncData
 j_:Addr
 ka:FuncData
 jj:Addr
 jk:FuncData
 jm:Addr
 jn:FuncData
 kb:Addr
 kc:FuncData
 jo:Addr
 jq:FuncData
 lr:Addr
 lu:FuncData
 zG:Addr
 sR:FuncData
structure Txt(K:PySem.W.Frag)(mg:Str→Option Value)(t:Pe):Prop where
 wI:K.lookup t.oC=none
 BW:PySem.W.codeHdIn K t.eJ t.oC=true
 zH:K.lookup t.oD=none
 BX:PySem.W.codeHdIn K t.jK t.oD=true
 dA:gZ K "divisor" "divisor" (top 1) t.ng t.nh
 sS:mg "divisor" =some (.ref t.ng)
 sT:Binds K t.nh ["n","m"] []
 dB:t6 K "spot" "spot" (top 3) t.vK t.qv
 vL:mg "spot" =some (.ref t.vK)
 AD:Binds K t.qv ["x","y","w"] []
 EC:Binds K t.qv ["x","y","w"] [Value.int 1 t.HF]
 d_:gZ K "is_below" "is_below" (top 4) t.kX t.kY
 xP:mg "is_below" =some (.ref t.kX)
 xQ:Binds K t.kY ["p","q"] []
 bJ:gZ K "ahead" "ahead" (top 5) t.cG t.sQ
 sU:mg "ahead" =some (.ref t.cG)
 lx:Binds K t.sQ ["p","q"] []
 bK:gZ K "_law_left" "_law_left" (top 18) t.kZ t.k_
 ly:mg "_law_left" =some (.ref t.kZ)
 lz:Binds K t.k_ ["_law_p","_law_q"] []
 fj:gZ K "merged" "merged" (top 6) t.pB t.pC
 BY:mg "merged" =some (.ref t.pB)
 BZ:Binds K t.pC ["left","right","first"] []
 bV:gZ K "merged_pairs" "merged_pairs" (top 7) t.gM t.gN
 qe:mg "merged_pairs" =some (.ref t.gM)
 qf:Binds K t.gN ["runs","first"] []
 bj:gZ K "in_order" "in_order" (top 8) t.lg t.lh
 i9:mg "in_order" =some (.ref t.lg)
 i_:Binds K t.lh ["some","first"] []
 bE:gZ K "_law_pool" "_law_pool" (top 10) t.ll t.lq
 lC:mg "_law_pool" =some (.ref t.ll)
 lD:Binds K t.lq ["_law_script","_law_k"] []
 ar:gZ K "_law_digit" "_law_digit" (top 11) t.j4 t.j5
 aW:mg "_law_digit" =some (.ref t.j4)
 aX:Binds K t.j5 ["_law_pool_here","_law_many_here"] []
 cJ:gZ K "_law_whole" "_law_whole" (top 12) t.j6 t.j7
 vM:mg "_law_whole" =some (.ref t.j6)
 vN:Binds K t.j7 ["_law_found"] []
 bG:gZ K "_law_drawn" "_law_drawn" (top 13) t.j8 t.j9
 oE:mg "_law_drawn" =some (.ref t.j8)
 oF:Binds K t.j9 ["_law_pool_here"] []
 cK:gZ K "_law_below" "_law_below" (top 14) t.j_ t.ka
 vO:mg "_law_below" =some (.ref t.j_)
 vP:Binds K t.ka ["_law_pool_here"] []
 cx:gZ K "_law_shared" "_law_shared" (top 15) t.jj t.jk
 mF:mg "_law_shared" =some (.ref t.jj)
 mG:Binds K t.jk ["_law_a","_law_b"] []
 b_:gZ K "_law_lowest" "_law_lowest" (top 16) t.jm t.jn
 tM:mg "_law_lowest" =some (.ref t.jm)
 tN:Binds K t.jn ["_law_x","_law_y","_law_w"] []
 cL:gZ K "_law_spots" "_law_spots" (top 17) t.kb t.kc
 vQ:mg "_law_spots" =some (.ref t.kb)
 vR:Binds K t.kc ["_law_script"] []
 bT:gZ K "_law_sorted" "_law_sorted" (top 19) t.jo t.jq
 mH:mg "_law_sorted" =some (.ref t.jo)
 mI:Binds K t.jq ["_law_some","_law_found","_law_first"] []
 di:nV K "_law_many" "_law_many" (top 20) t.lr t.lu t.jK
 xR:mg "_law_many" =some (.ref t.lr)
 xS:Binds K t.lu ["_law_pool_here"] []
 kS:nV K "law" "law" (top 21) t.zG t.sR t.eJ
 LR:mg "law" =some (.ref t.zG)
 To:Binds K t.sR ["_law_script"] []
 dD:mg "abs" =none
 sV:mg "all" =none
 lZ:mg "bool" =none
 fN:mg "enumerate" =none
 iM:mg "int" =none
 cy:mg "isinstance" =none
 dJ:mg "len" =none
 kd:mg "list" =none
 nj:mg "max" =none
 ed:mg "range" =none
 iy:mg "sorted" =none
 lE:mg "tuple" =none
section
open L2.Zu
variable{P:Program}{w:World}{K:PySem.W.Frag}{mg:Str→Option Value}{base:Heap}{t:Pe}
theorem ja:bp ["n","m","rest"] ["n","m"] (ao (top 1)):=⟨rfl,rfl,rfl,by decide +kernel,rfl,by decide +kernel,by decide +kernel⟩
theorem pS(T:Txt K mg t):bY P w K mg base cF 1 t.ng t.nh ["n","m"] (ei K dA):=by
 refine T.dA.jD (n:=2) (m:=3) (B:=jY) ja rfl rfl (by decide) rfl fun bP A outer s H E hr=>?_
 unfold jY
 exact(au (lM PassesOwn.never (bC (gp hr.units) kH (ag 1 (pv 1)) ai (aQ _)) (au (aR (i:=2) ja.nd rfl (Or.inl rfl) (ay eK gj (ag 0 (pv 0)) (ag 1 (pv 1))))
   (au (aR (i:=0) ja.nd rfl (Or.inl rfl) (ag 1 (pv 1)))
   (aB (aR (i:=1) ja.nd rfl (Or.inl rfl) (ag 2 (pv 2)))))))
   (aB (ba (aD cq dv (by rfl) T.dD dr (ah (ag 0 (pv 0)) ak)))))
theorem om:bp ["x","y","w","shared"] ["x","y","w"] (ao (top 3)):=⟨rfl,rfl,rfl,by decide +kernel,rfl,by decide +kernel,by decide +kernel⟩
theorem sW(T:Txt K mg t):bY P w K mg base cF 2 t.vK t.qv ["x","y","w"] (ei K dB):=by
 refine T.dB.jD (n:=3) (m:=4) (B:=oo) om rfl rfl (by decide) rfl fun bP A outer s H E hr=>?_
 unfold oo
 exact(au (aR (i:=3) om.nd rfl (Or.inl rfl) (aC [] (pS T) (hr.mono (by decide)) (by rfl) T.sS T.dA.kp T.sT .nil (fun _ _ _=>.nil) (ah (aC [] (pS T) (hr.mono (by decide)) (by rfl) T.sS T.dA.kp T.sT .nil (fun _ _ _=>.nil) (ah (ag 0 (pv 0)) (ah (ag 2 (pv 2)) ak))) (ah (ag 1 (pv 1)) ak))))
   (au (cO (bC eH eI (ag 2 (pv 2)) ai (aQ _)) (aB (aR (i:=3) om.nd rfl (Or.inl rfl) (uV (ag 3 (pv 3))))) bH)
   (aB (ba (lL (ah (ay eZ gx (ag 0 (pv 0)) (ag 3 (pv 3))) (ah (ay eZ gx (ag 1 (pv 1)) (ag 3 (pv 3))) (ah (ay eZ gx (ag 2 (pv 2)) (ag 3 (pv 3))) ak))))))))
theorem vS:bp ["p","q"] ["p","q"] (ao (top 4)):=⟨rfl,rfl,rfl,by decide +kernel,rfl,by decide +kernel,by decide +kernel⟩
theorem vT(T:Txt K mg t):bY P w K mg base cF 1 t.kX t.kY ["p","q"] (ei K d_):=by
 refine T.d_.jD (n:=2) (m:=2) (B:=i7) vS rfl rfl (by decide) rfl fun bP A outer s H E hr=>?_
 unfold i7
 exact(aB (ba (dc eH eI (ay aU bo (ax (ag 0 (pv 0)) ai (fun _ _=>rfl)) (ax (ag 1 (pv 1)) ai (fun _ _=>rfl))) (ay aU bo (ax (ag 1 (pv 1)) ai (fun _ _=>rfl)) (ax (ag 0 (pv 0)) ai (fun _ _=>rfl))) (aQ _))))
theorem pD:bp ["p","q","one","other"] ["p","q"] (ao (top 5)):=⟨rfl,rfl,rfl,by decide +kernel,rfl,by decide +kernel,by decide +kernel⟩
theorem jL(T:Txt K mg t):bY P w K mg base cF 2 t.cG t.sQ ["p","q"] (ei K bJ):=by
 refine T.bJ.jD (n:=2) (m:=4) (B:=kR) pD rfl rfl (by decide) rfl fun bP A outer s H E hr=>?_
 unfold kR
 exact(au (aR (i:=2) pD.nd rfl (Or.inl rfl) (ay aU bo (ax (ag 0 (pv 0)) ai (fun _ _=>rfl)) (ax (ag 1 (pv 1)) ai (fun _ _=>rfl))))
   (au (aR (i:=3) pD.nd rfl (Or.inl rfl) (ay aU bo (ax (ag 1 (pv 1)) ai (fun _ _=>rfl)) (ax (ag 0 (pv 0)) ai (fun _ _=>rfl))))
   (au (cO (bC (dQ hr.units) gK (ag 2 (pv 2)) (ag 3 (pv 3)) (aQ _)) (aB (ba (aC [] (vT T) (hr.mono (by decide)) (by rfl) T.xP T.d_.kp T.xQ .nil (fun _ _ _=>.nil) (ah (ag 0 (pv 0)) (ah (ag 1 (pv 1)) ak))))) bH)
   (aB (ba (dc eH eI (ag 2 (pv 2)) (ag 3 (pv 3)) (aQ _)))))))
theorem vU:bp ["_law_p","_law_q"] ["_law_p","_law_q"] (ao (top 18)):=⟨rfl,rfl,rfl,by decide +kernel,rfl,by decide +kernel,by decide +kernel⟩
theorem ke(T:Txt K mg t):bY P w K mg base cF 1 t.kZ t.k_ ["_law_p","_law_q"] (ei K bK):=by
 refine T.bK.jD (n:=2) (m:=2) (B:=ff) vU rfl rfl (by decide) rfl fun bP A outer s H E hr=>?_
 unfold ff
 exact(aB (ba (Kb (dc eH eI (ay aU bo (ax (ag 0 (pv 0)) ai (fun _ _=>rfl)) (ax (ag 1 (pv 1)) ai (fun _ _=>rfl))) (ay aU bo (ax (ag 1 (pv 1)) ai (fun _ _=>rfl)) (ax (ag 0 (pv 0)) ai (fun _ _=>rfl))) (aQ _)) (nN (qm (dc (dQ hr.units) gK (ay aU bo (ax (ag 0 (pv 0)) ai (fun _ _=>rfl)) (ax (ag 1 (pv 1)) ai (fun _ _=>rfl))) (ay aU bo (ax (ag 1 (pv 1)) ai (fun _ _=>rfl)) (ax (ag 0 (pv 0)) ai (fun _ _=>rfl))) (aQ _)) (nN (dc eH eI (ay aU bo (ax (ag 0 (pv 0)) ai (fun _ _=>rfl)) (ax (ag 1 (pv 1)) ai (fun _ _=>rfl))) (ay aU bo (ax (ag 1 (pv 1)) ai (fun _ _=>rfl)) (ax (ag 0 (pv 0)) ai (fun _ _=>rfl))) (aQ _))))))))
theorem xT:∀y∈(fH (top 21) (gU 6 (top 21))).names,y.2=NameKind.free→y.1∈([]:List Str):=by decide +kernel
theorem ED:∀x∈(["_law_one","_law_other"]:List Str),(fH (top 21) (gU 6 (top 21))).names.lookup x=some NameKind.local:=by decide +kernel
theorem EE:∀y∈(fH (top 21) (gU 6 (top 21))).names,y.2≠NameKind.cell:=by decide +kernel
theorem EF{c:Nat}:lN ["_law_one","_law_other"] ["_law_one","_law_other"] (fT c):=⟨rfl,rfl,rfl,by decide +kernel,rfl,ED,n8,EE,fun x h=>xT (x,.free) (PySem.mem_of_lookup h) rfl,fun _ _ _ _ us hl=>match us,hl with|[_,_],_=>rfl⟩
theorem sZ(T:Txt K mg t):oQ P w K mg base 2 (fT t.eJ) eu:=by
 refine ve (N:=["_law_one","_law_other"]) (ps:=["_law_one","_law_other"]) EF rfl fun f c' bZ A outer s H hr=>?_
 exact(aC [] (ke T) (hr.mono (by decide)) (by rfl) T.ly T.bK.kp T.lz .nil (fun _ _ _=>.nil) (ah (ax (ag 0 (pv 0)) ai (fun _ _=>rfl)) (ah (ax (ag 1 (pv 1)) ai (fun _ _=>rfl)) ak)))
theorem xU:∀y∈(fH (top 21) (gU 7 (top 21))).names,y.2=NameKind.free→y.1∈(["_law_at"]:List Str):=by decide +kernel
theorem EG:∀x∈(["_law_at"]:List Str),(x,NameKind.free)∈(fH (top 21) (gU 7 (top 21))).names∧(ao (top 21)).names.lookup x=some NameKind.cell∧(!(x==("_law_at":Str)))=false:=by decide +kernel
theorem EH:∀x∈(["_law_mine","_law_theirs"]:List Str),(fH (top 21) (gU 7 (top 21))).names.lookup x=some NameKind.local:=by decide +kernel
theorem EI:∀x∈(["_law_at"]:List Str),(fH (top 21) (gU 7 (top 21))).names.lookup x=some NameKind.free:=by decide +kernel
theorem EJ:∀y∈(fH (top 21) (gU 7 (top 21))).names,y.2≠NameKind.cell:=by decide +kernel
theorem EK{c:Nat}:lN ["_law_mine","_law_theirs","_law_at"] ["_law_mine","_law_theirs"] (fU c):=⟨rfl,rfl,rfl,by decide +kernel,rfl,EH,EI,EJ,fun x h=>xU (x,.free) (PySem.mem_of_lookup h) rfl,fun _ _ _ _ us hl=>match us,hl with|[_,_],_=>rfl⟩
theorem s_(T:Txt K mg t):oQ P w K mg base 1 (fU t.eJ) ez:=by
 refine ve (N:=["_law_mine","_law_theirs","_law_at"]) (ps:=["_law_mine","_law_theirs"]) EK rfl fun f c' bZ A outer s H hr=>?_
 exact(dc eH eI (ax (ax (ag 0 (pv 0)) ai (fun _ _=>rfl)) (ag 2 (pv 2)) (fun _ _=>rfl)) (ax (ax (ag 1 (pv 1)) ai (fun _ _=>rfl)) (ag 2 (pv 2)) (fun _ _=>rfl)) (aQ _))
theorem xV:∀y∈(fH (top 20) (sh (top 20))).names,y.2=NameKind.free→y.1∈([]:List Str):=by decide +kernel
theorem EL:∀x∈(["_law_mine","_law_theirs"]:List Str),(fH (top 20) (sh (top 20))).names.lookup x=some NameKind.local:=by decide +kernel
theorem EM:∀y∈(fH (top 20) (sh (top 20))).names,y.2≠NameKind.cell:=by decide +kernel
theorem EN{c:Nat}:lN ["_law_mine","_law_theirs"] ["_law_mine","_law_theirs"] (fV c):=⟨rfl,rfl,rfl,by decide +kernel,rfl,EL,n8,EM,fun x h=>xV (x,.free) (PySem.mem_of_lookup h) rfl,fun _ _ _ _ us hl=>match us,hl with|[_,_],_=>rfl⟩
theorem tf(T:Txt K mg t):oQ P w K mg base 1 (fV t.jK) eD:=by
 refine ve (N:=["_law_mine","_law_theirs"]) (ps:=["_law_mine","_law_theirs"]) EN rfl fun f c' bZ A outer s H hr=>?_
 exact(dc eH eI (ax (ag 0 (pv 0)) ai (fun _ _=>rfl)) (ax (ag 1 (pv 1)) ai (fun _ _=>rfl)) (aQ _))
theorem iN:bp ["left","right","first","row","k","thing"] ["left","right","first"] (ao (top 6)):=⟨rfl,rfl,rfl,by decide +kernel,rfl,by decide +kernel,by decide +kernel⟩
theorem zI(T:Txt K mg t):bY P w K mg base cF 3 t.pB t.pC ["left","right","first"] (ei K (fj (fT t.eJ) (fU t.eJ) (fV t.jK) t.cG)):=by
 refine T.fj.jD (n:=3) (m:=6) (B:=(lU (fT t.eJ) (fU t.eJ) (fV t.jK) t.cG)) iN rfl rfl (by decide) rfl fun bP A outer s H E hr=>?_
 unfold lU
 exact(au (aR (i:=3) iN.nd rfl (Or.inl rfl) (hJ ak))
   (au (aR (i:=4) iN.nd rfl (Or.inl rfl) ai)
   (au (jT PassesOwn.never rfl (kG (ag 1 (pv 1))) (cf (i:=5) iN.nd rfl (Or.inl rfl)) (au (lM PassesOwn.never (PW.pt (nP (bC eH eI (ag 4 (pv 4)) (aD br dO (by rfl) T.dJ dM (ah (ag 0 (pv 0)) ak)) (aQ _)) (kE (iY (hU (oR _ _ (oP (jL T) (hr.mono (by decide)) T.bJ.kp T.lx rV) (fL (sZ T) (hr.mono (by decide)) (fL (s_ T) (hr.mono (by decide)) (fL (tf T) (hr.mono (by decide)) vw))) (ag 2 (pv 2)) (ah (ag 5 (pv 5)) (ah (ax (ag 0 (pv 0)) (ag 4 (pv 4)) (fun _ _=>rfl)) ak)))))))) (au (gy (pN PySem.F.slot_list_append PySem.F.type_list_append eT gc (ag 3 (pv 3)) (ah (ax (ag 0 (pv 0)) (ag 4 (pv 4)) (fun _ _=>rfl)) ak)))
   (aB (aR (i:=4) iN.nd rfl (Or.inl rfl) (ay cA cT (ag 4 (pv 4)) ai)))))
   (aB (gy (pN PySem.F.slot_list_append PySem.F.type_list_append eT gc (ag 3 (pv 3)) (ah (ag 5 (pv 5)) ak))))))
   (au (gy (pN PySem.F.slot_list_extend PySem.F.type_list_extend yo yF (ag 3 (pv 3)) (ah (t_ (ag 0 (pv 0)) (rH (ag 4 (pv 4))) Dd) ak)))
   (aB (ba (ag 3 (pv 3))))))))
theorem jM:bp ["runs","first","pairs"] ["runs","first"] (ao (top 7)):=⟨rfl,rfl,rfl,by decide +kernel,rfl,by decide +kernel,by decide +kernel⟩
theorem pE(T:Txt K mg t):bY P w K mg base cF 4 t.gM t.gN ["runs","first"] (ei K (bV (fT t.eJ) (fU t.eJ) (fV t.jK) t.cG)):=by
 refine T.bV.jD (n:=2) (m:=3) (B:=(dH (fT t.eJ) (fU t.eJ) (fV t.jK) t.cG)) jM rfl rfl (by decide) rfl fun bP A outer s H E hr=>?_
 unfold dH
 exact(au (nS (i:=2) (N':=["k","first","runs"]) (cap:=[none,some 1,some 0]) (lJ (sc:=ao (top 7)) (NN:=["runs","first","pairs"]) rfl rfl rfl (by decide +kernel) (by decide +kernel) (by decide +kernel) (by decide +kernel)) rfl (yQ (by rfl) T.ed (ah ai (ah (ay cu cw (aD br dO (by rfl) T.dJ dM (ah (ag 0 (pv 0)) ak)) ai) (ah ai ak)))) (fun _ _ _ _=>(cf (i:=0) (show List.Nodup (["k","first","runs"]:List Str)by decide +kernel) rfl (Or.inl rfl))) (fun _ _ _ _=>gd) (fun _ _ _ _=>(aC [] (zI T) (hr.mono (by decide)) (by rfl) T.BY T.fj.kp T.BZ .nil (fun _ _ _=>.nil) (ah (ax (ag 2 (pv 2)) (ag 0 (pv 0)) (fun _ _=>rfl)) (ah (ax (ag 2 (pv 2)) (ay cA cT (ag 0 (pv 0)) ai) (fun _ _=>rfl)) (ah (ag 1 (pv 1)) ak))))) jM.nd rfl (Or.inl rfl) (by rfl))
   (au (cO (bC (dQ hr.units) gK (ay eK gj (aD br dO (by rfl) T.dJ dM (ah (ag 0 (pv 0)) ak)) ai) ai (aQ _)) (aB (gy (pN PySem.F.slot_list_append PySem.F.type_list_append eT gc (ag 2 (pv 2)) (ah (ax (ag 0 (pv 0)) (uV ai) (fun _ _=>rfl)) ak)))) bH)
   (aB (ba (ag 2 (pv 2))))))
theorem kf:bp ["some","first","runs"] ["some","first"] (ao (top 8)):=⟨rfl,rfl,rfl,by decide +kernel,rfl,by decide +kernel,by decide +kernel⟩
theorem ig(T:Txt K mg t):bY P w K mg base cF 5 t.lg t.lh ["some","first"] (ei K (bj (fT t.eJ) (fU t.eJ) (fV t.jK) t.cG)):=by
 refine T.bj.jD (n:=2) (m:=3) (B:=(gD (fT t.eJ) (fU t.eJ) (fV t.jK) t.cG)) kf rfl rfl (by decide) rfl fun bP A outer s H E hr=>?_
 unfold gD
 exact(au (nS (i:=2) (N':=["thing"]) (cap:=[none]) (lJ (sc:=ao (top 8)) (NN:=["some","first","runs"]) rfl rfl rfl (by decide +kernel) (by decide +kernel) (by decide +kernel) (by decide +kernel)) rfl (kG (ag 0 (pv 0))) (fun _ _ _ _=>(cf (i:=0) (show List.Nodup (["thing"]:List Str)by decide +kernel) rfl (Or.inl rfl))) (fun _ _ _ _=>gd) (fun _ _ _ _=>(hJ (ah (ag 0 (pv 0)) ak))) kf.nd rfl (Or.inl rfl) (by rfl))
   (au (lM PassesOwn.never (bC qH rG (aD br dO (by rfl) T.dJ dM (ah (ag 2 (pv 2)) ak)) ai (aQ _)) (aB (aR (i:=2) kf.nd rfl (Or.inl rfl) (aC [] (pE T) (hr.mono (by decide)) (by rfl) T.qe T.bV.kp T.qf .nil (fun _ _ _=>.nil) (ah (ag 2 (pv 2)) (ah (ag 1 (pv 1)) ak))))))
   (aB (ba (Bf (bC (dQ hr.units) gK (aD br dO (by rfl) T.dJ dM (ah (ag 2 (pv 2)) ak)) ai (aQ _)) (ax (ag 2 (pv 2)) ai (fun _ _=>rfl)) (hJ ak))))))
theorem cj:bp ["_law_script","_law_k","_law_cell","_law_mixed","_law_total","_law_j","_law_more","_law_own"] ["_law_script","_law_k"] (ao (top 10)):=⟨rfl,rfl,rfl,by decide +kernel,rfl,by decide +kernel,by decide +kernel⟩
theorem kg(T:Txt K mg t):bY P w K mg base cF 1 t.ll t.lq ["_law_script","_law_k"] (ei K bE):=by
 refine T.bE.jD (n:=2) (m:=8) (B:=fk) cj rfl rfl (by decide) rfl fun bP A outer s H E hr=>?_
 unfold fk
 exact(au (aR (i:=2) cj.nd rfl (Or.inl rfl) ai)
   (au (cO (bC eH eI (ag 1 (pv 1)) (aD br dO (by rfl) T.dJ dM (ah (ag 0 (pv 0)) ak)) (aQ _)) (aB (aR (i:=2) cj.nd rfl (Or.inl rfl) (ax (ag 0 (pv 0)) (ag 1 (pv 1)) (fun _ _=>rfl)))) bH)
   (au (aR (i:=3) cj.nd rfl (Or.inl rfl) (ay cA cT (ay cA cT (ay eK gj (aD cq dv (by rfl) T.dD dr (ah (ag 2 (pv 2)) ak)) ai) (ay aU bo ai (ag 1 (pv 1)))) ai))
   (au (aR (i:=4) cj.nd rfl (Or.inl rfl) ai)
   (au (jT PassesOwn.never rfl (m4 (by rfl) T.ed (ah ai ak)) (cf (i:=5) cj.nd rfl (Or.inl rfl)) (au (aR (i:=3) cj.nd rfl (Or.inl rfl) (ay cA cT (ay aU bo (ag 3 (pv 3)) ai) (ay aU bo ai (ay cA cT (ay cA cT (ag 1 (pv 1)) (ag 5 (pv 5))) ai))))
   (au (aR (i:=3) cj.nd rfl (Or.inl rfl) (ay eK gj (ag 3 (pv 3)) ai))
   (au (aR (i:=6) cj.nd rfl (Or.inl rfl) (ay aU bo (ay eZ gx (ag 3 (pv 3)) ai) (ay cA cT (ay cA cT (ay eK gj (ag 3 (pv 3)) ai) (ay aU bo ai (ag 5 (pv 5)))) ai)))
   (aB (aR (i:=4) cj.nd rfl (Or.inl rfl) (ay cA cT (ay aU bo (ag 4 (pv 4)) ai) (ay eK gj (ag 6 (pv 6)) ai))))))))
   (au (aR (i:=7) cj.nd rfl (Or.inl rfl) (ay aU bo (aD cq dv (by rfl) T.dD dr (ah (ag 2 (pv 2)) ak)) (eW fY jC (by rfl) T.iM jO (ah (qm (dc qH rG (aD br dO (by rfl) T.dJ dM (ah (ag 0 (pv 0)) ak)) ai (aQ _)) (nN (dc (dQ hr.units) gK (ay eK gj (ax (ag 0 (pv 0)) ai (fun _ _=>rfl)) ai) ai (aQ _)))) ak))))
   (aB (ba (hJ (ah (ag 7 (pv 7)) (ah (ag 4 (pv 4)) ak)))))))))))
theorem jr:bp ["_law_pool_here","_law_many_here","_law_at","_law_digit_here"] ["_law_pool_here","_law_many_here"] (ao (top 11)):=⟨rfl,rfl,rfl,by decide +kernel,rfl,by decide +kernel,by decide +kernel⟩
theorem aT(T:Txt K mg t):bY P w K mg base cF 1 t.j4 t.j5 ["_law_pool_here","_law_many_here"] (ei K ar):=by
 refine T.ar.jD (n:=2) (m:=4) (B:=fM) jr rfl rfl (by decide) rfl fun bP A outer s H E hr=>?_
 unfold fM
 exact(au (aR (i:=2) jr.nd rfl (Or.inl rfl) (eW fY jC (by rfl) T.iM jO (ah (dc (dQ hr.units) gK (ax (ag 0 (pv 0)) ai (fun _ _=>rfl)) ai (aQ _)) ak)))
   (au (aR (i:=3) jr.nd rfl (Or.inl rfl) (ay eK gj (ax (ag 0 (pv 0)) (ag 2 (pv 2)) (fun _ _=>rfl)) (ag 1 (pv 1))))
   (au (zY (ay eZ gx (ax (ag 0 (pv 0)) (ag 2 (pv 2)) (fun _ _=>rfl)) (ag 1 (pv 1))) (Gk (ag 0 (pv 0)) (ag 2 (pv 2))))
   (aB (ba (ag 3 (pv 3)))))))
theorem tO:bp ["_law_found"] ["_law_found"] (ao (top 12)):=⟨rfl,rfl,rfl,by decide +kernel,rfl,by decide +kernel,by decide +kernel⟩
theorem tP(T:Txt K mg t):bY P w K mg base cF 1 t.j6 t.j7 ["_law_found"] (ei K cJ):=by
 refine T.cJ.jD (n:=1) (m:=1) (B:=h_) tO rfl rfl (by decide) rfl fun bP A outer s H E hr=>?_
 unfold h_
 exact(aB (ba (qm (aD fD iG (by rfl) T.cy d4 (ah (ag 0 (pv 0)) (ah (pM (.ty "int") (kn (v:=.ty "int") (by rfl) T.iM jO rfl) fun _ _ _=>.ty "int") ak))) (nN (Gf (aD fD iG (by rfl) T.cy d4 (ah (ag 0 (pv 0)) (ah (pM (.ty "bool") (kn (v:=.ty "bool") (by rfl) T.lZ wF rfl) fun _ _ _=>.ty "bool") ak))))))))
theorem mJ:bp ["_law_pool_here","_law_pick"] ["_law_pool_here"] (ao (top 13)):=⟨rfl,rfl,rfl,by decide +kernel,rfl,by decide +kernel,by decide +kernel⟩
theorem mK(T:Txt K mg t):bY P w K mg base cF 2 t.j8 t.j9 ["_law_pool_here"] (ei K bG):=by
 refine T.bG.jD (n:=1) (m:=2) (B:=dC) mJ rfl rfl (by decide) rfl fun bP A outer s H E hr=>?_
 unfold dC
 exact(au (aR (i:=1) mJ.nd rfl (Or.inl rfl) (aC [] (aT T) (hr.mono (by decide)) (by rfl) T.aW T.ar.kp T.aX .nil (fun _ _ _=>.nil) (ah (ag 0 (pv 0)) (ah ai ak))))
   (au (cO (bC eH eI (ag 1 (pv 1)) ai (aQ _)) (aB (ba (ay cu cw (aC [] (aT T) (hr.mono (by decide)) (by rfl) T.aW T.ar.kp T.aX .nil (fun _ _ _=>.nil) (ah (ag 0 (pv 0)) (ah ai ak))) ai))) bH)
   (au (cO (bC (dQ hr.units) gK (ag 1 (pv 1)) ai (aQ _)) (aB (ba (ay cu cw (aC [] (aT T) (hr.mono (by decide)) (by rfl) T.aW T.ar.kp T.aX .nil (fun _ _ _=>.nil) (ah (ag 0 (pv 0)) (ah ai ak))) ai))) bH)
   (au (cO (bC (dQ hr.units) gK (ag 1 (pv 1)) ai (aQ _)) (aB (ba (ay aU bo (ay cu cw ai (aC [] (aT T) (hr.mono (by decide)) (by rfl) T.aW T.ar.kp T.aX .nil (fun _ _ _=>.nil) (ah (ag 0 (pv 0)) (ah ai ak)))) (ay cu cw ai (ay aU bo ai (aC [] (aT T) (hr.mono (by decide)) (by rfl) T.aW T.ar.kp T.aX .nil (fun _ _ _=>.nil) (ah (ag 0 (pv 0)) (ah ai ak)))))))) bH)
   (aB (ba (ay cu cw (aC [] (aT T) (hr.mono (by decide)) (by rfl) T.aW T.ar.kp T.aX .nil (fun _ _ _=>.nil) (ah (ag 0 (pv 0)) (ah (ay cA cT (ay aU bo ai (ay gi gk ai ai)) ai) ak))) (ay gi gk ai ai))))))))
theorem mL:bp ["_law_pool_here","_law_pick"] ["_law_pool_here"] (ao (top 14)):=⟨rfl,rfl,rfl,by decide +kernel,rfl,by decide +kernel,by decide +kernel⟩
theorem tQ(T:Txt K mg t):bY P w K mg base cF 2 t.j_ t.ka ["_law_pool_here"] (ei K cK):=by
 refine T.cK.jD (n:=1) (m:=2) (B:=ic) mL rfl rfl (by decide) rfl fun bP A outer s H E hr=>?_
 unfold ic
 exact(au (aR (i:=1) mL.nd rfl (Or.inl rfl) (aC [] (aT T) (hr.mono (by decide)) (by rfl) T.aW T.ar.kp T.aX .nil (fun _ _ _=>.nil) (ah (ag 0 (pv 0)) (ah ai ak))))
   (aB (ba (ay cA cT ai (aC [] (aT T) (hr.mono (by decide)) (by rfl) T.aW T.ar.kp T.aX .nil (fun _ _ _=>.nil) (ah (ag 0 (pv 0)) (ah (ax (hJ (ah ai (ah ai (ah ai (ah ai (ah (ay gi gk ai ai) ak)))))) (ag 1 (pv 1)) (fun _ _=>rfl)) ak)))))))
theorem fO:bp ["_law_a","_law_b"] ["_law_a","_law_b"] (ao (top 15)):=⟨rfl,rfl,rfl,by decide +kernel,rfl,by decide +kernel,by decide +kernel⟩
theorem lF(T:Txt K mg t):bY P w K mg base cF 1 t.jj t.jk ["_law_a","_law_b"] (ei K cx):=by
 refine T.cx.jD (n:=2) (m:=2) (B:=gq) fO rfl rfl (by decide) rfl fun bP A outer s H E hr=>?_
 unfold gq
 exact(au (aR (i:=0) fO.nd rfl (Or.inl rfl) (aD cq dv (by rfl) T.dD dr (ah (ag 0 (pv 0)) ak)))
   (au (aR (i:=1) fO.nd rfl (Or.inl rfl) (aD cq dv (by rfl) T.dD dr (ah (ag 1 (pv 1)) ak)))
   (au (lM PassesOwn.never (bC qH rG (ag 1 (pv 1)) ai (aQ _)) (aB (wO (i:=0) (j:=1) rfl fO.nd rfl rfl (by decide) rfl rfl (ah (ag 1 (pv 1)) (ah (ay eK gj (ag 0 (pv 0)) (ag 1 (pv 1))) ak)) (by rfl))))
   (aB (ba (ag 0 (pv 0)))))))
theorem iO:bp ["_law_x","_law_y","_law_w","_law_part"] ["_law_x","_law_y","_law_w"] (ao (top 16)):=⟨rfl,rfl,rfl,by decide +kernel,rfl,by decide +kernel,by decide +kernel⟩
theorem tj(T:Txt K mg t):bY P w K mg base cF 2 t.jm t.jn ["_law_x","_law_y","_law_w"] (ei K b_):=by
 refine T.b_.jD (n:=3) (m:=4) (B:=eO) iO rfl rfl (by decide) rfl fun bP A outer s H E hr=>?_
 unfold eO
 exact(au (cO (bC eH eI (ag 2 (pv 2)) ai (aQ _)) (aB (nR (i:=0) (j:=1) (l:=2) rfl iO.nd rfl rfl rfl (by decide) (by decide) (by decide) rfl rfl rfl (ah (ay cu cw ai (ag 0 (pv 0))) (ah (ay cu cw ai (ag 1 (pv 1))) (ah (ay cu cw ai (ag 2 (pv 2))) ak))) (by rfl))) bH)
   (au (aR (i:=3) iO.nd rfl (Or.inl rfl) (aC [] (lF T) (hr.mono (by decide)) (by rfl) T.mF T.cx.kp T.mG .nil (fun _ _ _=>.nil) (ah (aC [] (lF T) (hr.mono (by decide)) (by rfl) T.mF T.cx.kp T.mG .nil (fun _ _ _=>.nil) (ah (ag 0 (pv 0)) (ah (ag 1 (pv 1)) ak))) (ah (ag 2 (pv 2)) ak))))
   (aB (ba (lL (ah (ay eZ gx (ag 0 (pv 0)) (ag 3 (pv 3))) (ah (ay eZ gx (ag 1 (pv 1)) (ag 3 (pv 3))) (ah (ay eZ gx (ag 2 (pv 2)) (ag 3 (pv 3))) ak))))))))
theorem bb:bp ["_law_script","_law_spots_here","_law_k","_law_pool_here","_law_x","_law_y","_law_w","_law_often"] ["_law_script"] (ao (top 17)):=⟨rfl,rfl,rfl,by decide +kernel,rfl,by decide +kernel,by decide +kernel⟩
theorem tR(T:Txt K mg t):bY P w K mg base cF 3 t.kb t.kc ["_law_script"] (ei K cL):=by
 refine T.cL.jD (n:=1) (m:=8) (B:=ie) bb rfl rfl (by decide) rfl fun bP A outer s H E hr=>?_
 unfold ie
 exact(au (aR (i:=1) bb.nd rfl (Or.inl rfl) (hJ ak))
   (au (jT PassesOwn.never rfl (m4 (by rfl) T.ed (ah (aD br dO (by rfl) T.dJ dM (ah (t_ (ag 0 (pv 0)) (rH ai) (rH ai)) ak)) ak)) (cf (i:=2) bb.nd rfl (Or.inl rfl)) (au (aR (i:=3) bb.nd rfl (Or.inl rfl) (aC [] (kg T) (hr.mono (by decide)) (by rfl) T.lC T.bE.kp T.lD .nil (fun _ _ _=>.nil) (ah (ag 0 (pv 0)) (ah (ay cA cT ai (ag 2 (pv 2))) ak))))
   (au (wO (i:=4) (j:=5) rfl bb.nd rfl rfl (by decide) rfl rfl (ah (aC [] (mK T) (hr.mono (by decide)) (by rfl) T.oE T.bG.kp T.oF .nil (fun _ _ _=>.nil) (ah (ag 3 (pv 3)) ak)) (ah (aC [] (mK T) (hr.mono (by decide)) (by rfl) T.oE T.bG.kp T.oF .nil (fun _ _ _=>.nil) (ah (ag 3 (pv 3)) ak)) ak)) (by rfl))
   (au (aR (i:=6) bb.nd rfl (Or.inl rfl) (aC [] (tQ T) (hr.mono (by decide)) (by rfl) T.vO T.cK.kp T.vP .nil (fun _ _ _=>.nil) (ah (ag 3 (pv 3)) ak)))
   (au (cO (PW.pt (nP (bC qH rG (aD br dO (by rfl) T.dJ dM (ah (ag 1 (pv 1)) ak)) ai (aQ _)) (kE (bC (dQ hr.units) gK (aC [] (aT T) (hr.mono (by decide)) (by rfl) T.aW T.ar.kp T.aX .nil (fun _ _ _=>.nil) (ah (ag 3 (pv 3)) (ah ai ak))) ai (aQ _))))) (au (zY (ax (ag 1 (pv 1)) (uV ai) (fun _ _=>rfl)) (uX rfl (e8 (cf (i:=4) bb.nd rfl (Or.inl rfl)) (e8 (cf (i:=5) bb.nd rfl (Or.inl rfl)) (e8 (cf (i:=6) bb.nd rfl (Or.inl rfl)) rJ)))))
   (au (aR (i:=7) bb.nd rfl (Or.inl rfl) (ay cA cT ai (ay aU bo (aC [] (aT T) (hr.mono (by decide)) (by rfl) T.aW T.ar.kp T.aX .nil (fun _ _ _=>.nil) (ah (ag 3 (pv 3)) (ah ai ak))) (eW fY jC (by rfl) T.iM jO (ah (dc eH eI (aD (mV rfl) r_ (by rfl) T.nj uO (ah (aD cq dv (by rfl) T.dD dr (ah (ag 4 (pv 4)) ak)) (ah (aD cq dv (by rfl) T.dD dr (ah (ag 5 (pv 5)) ak)) (ah (aD cq dv (by rfl) T.dD dr (ah (ag 6 (pv 6)) ak)) ak)))) ai (aQ _)) ak)))))
   (au (nR (i:=4) (j:=5) (l:=6) rfl bb.nd rfl rfl rfl (by decide) (by decide) (by decide) rfl rfl rfl (ah (ay aU bo (ag 4 (pv 4)) (ag 7 (pv 7))) (ah (ay aU bo (ag 5 (pv 5)) (ag 7 (pv 7))) (ah (ay aU bo (ag 6 (pv 6)) (ag 7 (pv 7))) ak))) (by rfl))
   (au (cO (PW.pt (nP (bC (dQ hr.units) gK (aC [] (aT T) (hr.mono (by decide)) (by rfl) T.aW T.ar.kp T.aX .nil (fun _ _ _=>.nil) (ah (ag 3 (pv 3)) (ah ai ak))) ai (aQ _)) (kE (bC eH eI (aD (mV rfl) r_ (by rfl) T.nj uO (ah (aD cq dv (by rfl) T.dD dr (ah (ag 4 (pv 4)) ak)) (ah (aD cq dv (by rfl) T.dD dr (ah (ag 5 (pv 5)) ak)) (ah (aD cq dv (by rfl) T.dD dr (ah (ag 6 (pv 6)) ak)) ak)))) (ay gi gk ai ai) (aQ _))))) (aB (nR (i:=4) (j:=5) (l:=6) rfl bb.nd rfl rfl rfl (by decide) (by decide) (by decide) rfl rfl rfl (ah (ay aU bo (ag 4 (pv 4)) (ay gi gk ai ai)) (ah (ay aU bo (ag 5 (pv 5)) (ay gi gk ai ai)) (ah (ay aU bo (ag 6 (pv 6)) (ay gi gk ai ai)) ak))) (by rfl))) bH)
   (au (aR (i:=4) bb.nd rfl (Or.inl rfl) (ay cA cT (ag 4 (pv 4)) (ay aU bo (ay cu cw (aC [] (aT T) (hr.mono (by decide)) (by rfl) T.aW T.ar.kp T.aX .nil (fun _ _ _=>.nil) (ah (ag 3 (pv 3)) (ah ai ak))) ai) (eW fY jC (by rfl) T.iM jO (ah (dc eH eI (aD cq dv (by rfl) T.dD dr (ah (ag 4 (pv 4)) ak)) (ay gi gk ai ai) (aQ _)) ak)))))
   (aB (aR (i:=5) bb.nd rfl (Or.inl rfl) (ay cA cT (ag 5 (pv 5)) (ay aU bo (ay cu cw (aC [] (aT T) (hr.mono (by decide)) (by rfl) T.aW T.ar.kp T.aX .nil (fun _ _ _=>.nil) (ah (ag 3 (pv 3)) (ah ai ak))) ai) (eW fY jC (by rfl) T.iM jO (ah (dc eH eI (aD cq dv (by rfl) T.dD dr (ah (ag 5 (pv 5)) ak)) (ay gi gk ai ai) (aQ _)) ak))))))))))) bH)
   (au (cO (bC (dQ hr.units) gK (aC [] (aT T) (hr.mono (by decide)) (by rfl) T.aW T.ar.kp T.aX .nil (fun _ _ _=>.nil) (ah (ag 3 (pv 3)) (ah ai ak))) ai (aQ _)) (aB (nR (i:=4) (j:=5) (l:=6) rfl bb.nd rfl rfl rfl (by decide) (by decide) (by decide) rfl rfl rfl (ah (ay cu cw ai (ag 4 (pv 4))) (ah (ay cu cw ai (ag 5 (pv 5))) (ah (ay cu cw ai (ag 6 (pv 6))) ak))) (by rfl))) bH)
   (aB (gy (pN PySem.F.slot_list_append PySem.F.type_list_append eT gc (ag 1 (pv 1)) (ah (lL (ah (ag 4 (pv 4)) (ah (ag 5 (pv 5)) (ah (ag 6 (pv 6)) ak)))) ak))))))))))
   (aB (ba (ag 1 (pv 1))))))
theorem fP:bp ["_law_some","_law_found","_law_first","_law_places","_law_thing","_law_k"] ["_law_some","_law_found","_law_first"] (ao (top 19)):=⟨rfl,rfl,rfl,by decide +kernel,rfl,by decide +kernel,by decide +kernel⟩
theorem lG(T:Txt K mg t):bY P w K mg base cF 3 t.jo t.jq ["_law_some","_law_found","_law_first"] (ei K (bT (fT t.eJ) (fU t.eJ) (fV t.jK) t.cG)):=by
 refine T.bT.jD (n:=3) (m:=6) (B:=(gr (fT t.eJ) (fU t.eJ) (fV t.jK) t.cG)) fP rfl rfl (by decide) rfl fun bP A outer s H E hr=>?_
 unfold gr
 exact(au (cO (PW.pt (oM (iY (hU (aD fD iG (by rfl) T.cy d4 (ah (ag 1 (pv 1)) (ah (pM (.ty "list") (kn (v:=.ty "list") (by rfl) T.kd wG rfl) fun _ _ _=>.ty "list") ak))))) (nO (bC (gp hr.units) kH (aD br dO (by rfl) T.dJ dM (ah (ag 1 (pv 1)) ak)) (aD br dO (by rfl) T.dJ dM (ah (ag 0 (pv 0)) ak)) (aQ _))))) (aB (ba f_)) bH)
   (au (aR (i:=3) fP.nd rfl (Or.inl rfl) (hJ ak))
   (au (jT PassesOwn.never rfl (kG (ag 1 (pv 1))) (cf (i:=4) fP.nd rfl (Or.inl rfl)) (au (cO (bC (yJ hr.units) Bj (ag 4 (pv 4)) (ag 0 (pv 0)) (by with_unfolding_all rfl)) (aB (ba f_)) bH)
   (aB (gy (pN PySem.F.slot_list_append PySem.F.type_list_append eT gc (ag 3 (pv 3)) (ah (pN PySem.F.slot_list_index PySem.F.type_list_index (Bz hr.units) BA (ag 0 (pv 0)) (ah (ag 4 (pv 4)) ak)) ak))))))
   (au (cO (bC (gp hr.units) kH (aD wY Bn (by rfl) T.iy rQ (ah (ag 3 (pv 3)) ak)) (xi (by rfl) T.kd (by rfl) T.ed (ah (aD br dO (by rfl) T.dJ dM (ah (ag 0 (pv 0)) ak)) ak)) (aQ _)) (aB (ba f_)) bH)
   (au (jT PassesOwn.never rfl (rK (by rfl) T.ed (ah ai (ah (aD br dO (by rfl) T.dJ dM (ah (ag 1 (pv 1)) ak)) ak))) (cf (i:=5) fP.nd rfl (Or.inl rfl)) (au (cO (hU (oR _ _ (oP (jL T) (hr.mono (by decide)) T.bJ.kp T.lx rV) (fL (sZ T) (hr.mono (by decide)) (fL (s_ T) (hr.mono (by decide)) (fL (tf T) (hr.mono (by decide)) vw))) (ag 2 (pv 2)) (ah (ax (ag 1 (pv 1)) (ag 5 (pv 5)) (fun _ _=>rfl)) (ah (ax (ag 1 (pv 1)) (ay cu cw (ag 5 (pv 5)) ai) (fun _ _=>rfl)) ak)))) (aB (ba f_)) bH)
   (aB (cO (PW.pt (nP (iY (hU (oR _ _ (oP (jL T) (hr.mono (by decide)) T.bJ.kp T.lx rV) (fL (sZ T) (hr.mono (by decide)) (fL (s_ T) (hr.mono (by decide)) (fL (tf T) (hr.mono (by decide)) vw))) (ag 2 (pv 2)) (ah (ax (ag 1 (pv 1)) (ay cu cw (ag 5 (pv 5)) ai) (fun _ _=>rfl)) (ah (ax (ag 1 (pv 1)) (ag 5 (pv 5)) (fun _ _=>rfl)) ak))))) (kE (bC qH rG (ax (ag 3 (pv 3)) (ay cu cw (ag 5 (pv 5)) ai) (fun _ _=>rfl)) (ax (ag 3 (pv 3)) (ag 5 (pv 5)) (fun _ _=>rfl)) (aQ _))))) (aB (ba f_)) bH))))
   (aB (ba f_)))))))
theorem ij:bp ["_law_pool_here","_law_many_here","_law_step","_law_some"] ["_law_pool_here"] (ao (top 20)):=⟨rfl,rfl,rfl,by decide +kernel,rfl,by decide +kernel,by decide +kernel⟩
theorem vV(T:Txt K mg t):bY P w K mg base cF 6 t.lr t.lu ["_law_pool_here"] (ei K (di (fT t.eJ) (fU t.eJ) (fV t.jK) t.cG)):=by
 refine T.di.jD (fun _=>true) (n:=1) (m:=4) (B:=(i8 (fT t.eJ) (fU t.eJ) (fV t.jK) t.cG)) ij rfl rfl (by decide) rfl fun A outer s H E hr=>?_
 unfold i8
 exact(au (aR (i:=1) ij.nd rfl (Or.inl rfl) (aC [] (aT T) (hr.mono (by decide)) (by rfl) T.aW T.ar.kp T.aX .nil (fun _ _ _=>.nil) (ah (ag 0 (pv 0)) (ah (ax (hJ (ah ai (ah ai ak))) (eW fY jC (by rfl) T.iM jO (ah (dc (dQ hr.units) gK (aC [] (aT T) (hr.mono (by decide)) (by rfl) T.aW T.ar.kp T.aX .nil (fun _ _ _=>.nil) (ah (ag 0 (pv 0)) (ah ai ak))) ai (aQ _)) ak)) (fun _ _=>rfl)) ak))))
   (au (aR (i:=2) ij.nd rfl (Or.inr rfl) (ay cA cT ai (aC [] (aT T) (hr.mono (by decide)) (by rfl) T.aW T.ar.kp T.aX .nil (fun _ _ _=>.nil) (ah (ag 0 (pv 0)) (ah ai ak)))))
   (au (nS (i:=3) (N':=["_law_k","_law_step"]) (cap:=[none,some 2]) (lJ (sc:=ao (top 20)) (NN:=["_law_pool_here","_law_many_here","_law_step","_law_some"]) rfl rfl rfl (by decide +kernel) (by decide +kernel) (by decide +kernel) (by decide +kernel)) rfl (m4 (by rfl) T.ed (ah (ag 1 (pv 1)) ak)) (fun _ _ _ _=>(cf (i:=0) (show List.Nodup (["_law_k","_law_step"]:List Str)by decide +kernel) rfl (Or.inl rfl))) (fun _ _ _ _=>gd) (fun _ _ _ _=>(lL (ah (ay eK gj (ay aU bo (ag 0 (pv 0)) (ag 1 (pv 1))) ai) (ah (ag 0 (pv 0)) ak)))) ij.nd rfl (Or.inl rfl) (by rfl))
   (aB (ba (dc (dQ hr.units) z9 (aC [] (ig T) (hr.mono (by decide)) (by rfl) T.i9 T.bj.kp T.i_ .nil (fun _ _ _=>.nil) (ah (ag 3 (pv 3)) (ah (vg (t:=(fV t.jK)) (n:=2) (is:=[]) rfl rfl rfl xV n8 rfl xf (vi (CX:=cF) (P:=P) (w:=w) (K:=K) (mg:=mg) (base:=base) (N:=[]) (A:=A) (outer:=outer) (s:=s) (H:=H) (E:=E))) ak))) (aD TS.vv zh (by rfl) T.iy rQ (ah (ag 3 (pv 3)) ak)) (aQ _)))))))
theorem dR:bp ["_law_script","_law_found","_law_x","_law_y","_law_w","_law_p","_law_k","_law_one","_law_some","_law_kept","_law_at","_law_by_place","_law_by_part","_law_told"] ["_law_script"] (ao (top 21)):=⟨rfl,rfl,rfl,by decide +kernel,rfl,by decide +kernel,by decide +kernel⟩
theorem HG(T:Txt K mg t):bY P w K mg base cF 7 t.zG t.sR ["_law_script"] (ei K (kS (fT t.eJ) (fU t.eJ) (fV t.jK) t.cG)):=by
 refine T.kS.Of (fun x=>!(x==("_law_at":Str))) (n:=1) (m:=14) (B:=(vA (fT t.eJ) (fU t.eJ) (fV t.jK) t.cG)) dR rfl rfl (by decide) rfl fun A outer s H E hr=>?_
 unfold vA
 exact(iu (fun _=>rfl) (aR (i:=1) dR.nd rfl (Or.inl rfl) (hJ ak))
   (iu (fun _=>rfl) (jT PassesOwn.never rfl (kG (aC [] (tR T) (hr.mono (by decide)) (by rfl) T.vQ T.cL.kp T.vR .nil (fun _ _ _=>.nil) (ah (ag 0 (pv 0)) ak))) (uX rfl (e8 (cf (i:=2) dR.nd rfl (Or.inl rfl)) (e8 (cf (i:=3) dR.nd rfl (Or.inl rfl)) (e8 (cf (i:=4) dR.nd rfl (Or.inl rfl)) rJ)))) (au (aR (i:=5) dR.nd rfl (Or.inl rfl) (aC [] (sW T) (hr.mono (by decide)) (by rfl) T.vL T.dB.kp T.AD .nil (fun _ _ _=>.nil) (ah (ag 2 (pv 2)) (ah (ag 3 (pv 3)) (ah (ag 4 (pv 4)) ak)))))
   (au (cO (PW.pt (oM (iY (hU (aD fD iG (by rfl) T.cy d4 (ah (ag 5 (pv 5)) (ah (pM (.ty "tuple") (kn (v:=.ty "tuple") (by rfl) T.lE A_ rfl) fun _ _ _=>.ty "tuple") ak))))) (oM (bC (gp hr.units) kH (ag 5 (pv 5)) (aC [] (tj T) (hr.mono (by decide)) (by rfl) T.tM T.b_.kp T.tN .nil (fun _ _ _=>.nil) (ah (ag 2 (pv 2)) (ah (ag 3 (pv 3)) (ah (ag 4 (pv 4)) ak)))) (aQ _)) (nO (iY (hU (aD (yL rfl) Gq (by rfl) T.sV Gr (ah (wU (N':=["_law_part"]) (cap:=[none]) (lJ (sc:=ao (top 21)) (NN:=["_law_script","_law_found","_law_x","_law_y","_law_w","_law_p","_law_k","_law_one","_law_some","_law_kept","_law_at","_law_by_place","_law_by_part","_law_told"]) rfl rfl rfl (by decide +kernel) (by decide +kernel) (by decide +kernel) (by decide +kernel)) rfl (Gm (ag 5 (pv 5))) (fun _ _ _ _=>(cf (i:=0) (show List.Nodup (["_law_part"]:List Str)by decide +kernel) rfl (Or.inl rfl))) (fun _ _ _ _=>gd) (fun _ _ _ _=>(aC [] (tP T) (hr.mono (by decide)) (by rfl) T.vM T.cJ.kp T.vN .nil (fun _ _ _=>.nil) (ah (ag 0 (pv 0)) ak)))) ak)))))))) (aB (ba f_)) bH)
   (au (cO (PW.pt (nP (bC eH eI (aD (mV rfl) r_ (by rfl) T.nj uO (ah (aD cq dv (by rfl) T.dD dr (ah (ax (ag 5 (pv 5)) ai (fun _ _=>rfl)) ak)) (ah (aD cq dv (by rfl) T.dD dr (ah (ax (ag 5 (pv 5)) ai (fun _ _=>rfl)) ak)) (ah (ax (ag 5 (pv 5)) ai (fun _ _=>rfl)) ak)))) (ay gi gk ai ai) (aQ _)) (kE (bC (gp hr.units) kH (aC [] (sW T) (hr.mono (by decide)) (by rfl) T.vL T.dB.kp T.AD .nil (fun _ _ _=>.nil) (ah (ay aU bo (ax (ag 5 (pv 5)) ai (fun _ _=>rfl)) ai) (ah (ay aU bo (ax (ag 5 (pv 5)) ai (fun _ _=>rfl)) ai) (ah (ay aU bo (ax (ag 5 (pv 5)) ai (fun _ _=>rfl)) ai) ak)))) (ag 5 (pv 5)) (aQ _))))) (aB (ba f_)) bH)
   (au (cO (bC (gp hr.units) kH (aC (mN:=[.int 1]) [.int 1] (sW T) (hr.mono (by decide)) (by rfl) T.vL T.dB.kp T.EC (.cons ⟨_,rfl⟩ .nil) (fun _ _ _=>.cons (.int 1) .nil) (ah (ax (ag 5 (pv 5)) ai (fun _ _=>rfl)) (ah (ax (ag 5 (pv 5)) ai (fun _ _=>rfl)) ak))) (lL (ah (ax (ag 5 (pv 5)) ai (fun _ _=>rfl)) (ah (ax (ag 5 (pv 5)) ai (fun _ _=>rfl)) (ah ai ak)))) (aQ _)) (aB (ba f_)) bH)
   (aB (gy (pN PySem.F.slot_list_append PySem.F.type_list_append eT gc (ag 1 (pv 1)) (ah (ag 5 (pv 5)) ak)))))))))
   (iu (fun _=>rfl) (jT PassesOwn.never rfl (rK (by rfl) T.ed (ah ai (ah (aD br dO (by rfl) T.dJ dM (ah (ag 1 (pv 1)) ak)) ak))) (cf (i:=6) dR.nd rfl (Or.inl rfl)) (au (aR (i:=7) dR.nd rfl (Or.inl rfl) (aC [] (jL T) (hr.mono (by decide)) (by rfl) T.sU T.bJ.kp T.lx .nil (fun _ _ _=>.nil) (ah (ax (ag 1 (pv 1)) (ay cu cw (ag 6 (pv 6)) ai) (fun _ _=>rfl)) (ah (ax (ag 1 (pv 1)) (ag 6 (pv 6)) (fun _ _=>rfl)) ak))))
   (au (cO (PW.pt (oM (iY (hU (aD fD iG (by rfl) T.cy d4 (ah (ag 7 (pv 7)) (ah (pM (.ty "bool") (kn (v:=.ty "bool") (by rfl) T.lZ wF rfl) fun _ _ _=>.ty "bool") ak))))) (nO (bC (gp hr.units) kH (ag 7 (pv 7)) (aC [] (ke T) (hr.mono (by decide)) (by rfl) T.ly T.bK.kp T.lz .nil (fun _ _ _=>.nil) (ah (ax (ag 1 (pv 1)) (ay cu cw (ag 6 (pv 6)) ai) (fun _ _=>rfl)) (ah (ax (ag 1 (pv 1)) (ag 6 (pv 6)) (fun _ _=>rfl)) ak))) (aQ _))))) (aB (ba f_)) bH)
   (aB (cO (bC (gp hr.units) kH (aC [] (jL T) (hr.mono (by decide)) (by rfl) T.sU T.bJ.kp T.lx .nil (fun _ _ _=>.nil) (ah (ax (ag 1 (pv 1)) (ag 6 (pv 6)) (fun _ _=>rfl)) (ah (ax (ag 1 (pv 1)) (ay cu cw (ag 6 (pv 6)) ai) (fun _ _=>rfl)) ak))) (aC [] (ke T) (hr.mono (by decide)) (by rfl) T.ly T.bK.kp T.lz .nil (fun _ _ _=>.nil) (ah (ax (ag 1 (pv 1)) (ag 6 (pv 6)) (fun _ _=>rfl)) (ah (ax (ag 1 (pv 1)) (ay cu cw (ag 6 (pv 6)) ai) (fun _ _=>rfl)) ak))) (aQ _)) (aB (ba f_)) bH)))))
   (iu (fun _=>rfl) (nS (i:=8) (N':=["_law_k","_law_p"]) (cap:=[none,none]) (lJ (sc:=ao (top 21)) (NN:=["_law_script","_law_found","_law_x","_law_y","_law_w","_law_p","_law_k","_law_one","_law_some","_law_kept","_law_at","_law_by_place","_law_by_part","_law_told"]) rfl rfl rfl (by decide +kernel) (by decide +kernel) (by decide +kernel) (by decide +kernel)) rfl (Dt (by rfl) T.fN (ah (ag 1 (pv 1)) ak)) (fun _ _ _ _=>(uX rfl (e8 (cf (i:=0) (show List.Nodup (["_law_k","_law_p"]:List Str)by decide +kernel) rfl (Or.inl rfl)) (e8 (cf (i:=1) (show List.Nodup (["_law_k","_law_p"]:List Str)by decide +kernel) rfl (Or.inl rfl)) rJ)))) (fun _ _ _ _=>gd) (fun _ _ _ _=>(lL (ah (ag 1 (pv 1)) (ah (ag 0 (pv 0)) ak)))) dR.nd rfl (Or.inl rfl) (by rfl))
   (iu (fun _=>rfl) (aR (i:=9) dR.nd rfl (Or.inl rfl) (eW tD Dg (by rfl) T.kd wG (ah (ag 8 (pv 8)) ak)))
   (iu (fun _=>rfl) (aR (i:=10) dR.nd rfl (Or.inr rfl) (aC [] (aT T) (hr.mono (by decide)) (by rfl) T.aW T.ar.kp T.aX .nil (fun _ _ _=>.nil) (ah (aC [] (kg T) (hr.mono (by decide)) (by rfl) T.lC T.bE.kp T.lD .nil (fun _ _ _=>.nil) (ah (ag 0 (pv 0)) (ah ai ak))) (ah ai ak))))
   (BC (fun _=>rfl) (au (aR (i:=11) dR.nd rfl (Or.inl rfl) (vg (t:=(fT t.eJ)) (n:=1) (is:=[]) rfl rfl rfl xT n8 rfl xf (vi (CX:=cF) (P:=P) (w:=w) (K:=K) (mg:=mg) (base:=base) (N:=[]) (A:=A) (outer:=outer) (s:=s) (H:=H) (E:=E))))
   (au (aR (i:=12) dR.nd rfl (Or.inl rfl) (vg (t:=(fU t.eJ)) (n:=1) (is:=[10]) rfl rfl rfl xU EG rfl (Dy rfl) (vi (CX:=cF) (P:=P) (w:=w) (K:=K) (mg:=mg) (base:=base) (N:=[]) (A:=A) (outer:=outer) (s:=s) (H:=H) (E:=E))))
   (au (aR (i:=13) dR.nd rfl (Or.inl rfl) (aC [] (ig T) (hr.mono (by decide)) (by rfl) T.i9 T.bj.kp T.i_ .nil (fun _ _ _=>.nil) (ah (ag 8 (pv 8)) (ah (ag 11 (pv 11)) ak))))
   (au (cO (PW.pt (oM (iY (hU (aC [] (lG T) (hr.mono (by decide)) (by rfl) T.mH T.bT.kp T.mI .nil (fun _ _ _=>.nil) (ah (ag 8 (pv 8)) (ah (ag 13 (pv 13)) (ah (ag 11 (pv 11)) ak)))))) (nO (iY (hU (aC [] (lG T) (hr.mono (by decide)) (by rfl) T.mH T.bT.kp T.mI .nil (fun _ _ _=>.nil) (ah (ag 8 (pv 8)) (ah (aC [] (ig T) (hr.mono (by decide)) (by rfl) T.i9 T.bj.kp T.i_ .nil (fun _ _ _=>.nil) (ah (ag 8 (pv 8)) (ah (ag 12 (pv 12)) ak))) (ah (ag 12 (pv 12)) ak))))))))) (aB (ba f_)) bH)
   (au (cO (PW.pt (oM (bC (gp hr.units) z_ (ag 8 (pv 8)) (ag 9 (pv 9)) (aQ _)) (nO (bC (gp hr.units) z_ (aC [] (ig T) (hr.mono (by decide)) (by rfl) T.i9 T.bj.kp T.i_ .nil (fun _ _ _=>.nil) (ah (ag 1 (pv 1)) (ah (Km (by rfl) T.sU) ak))) (wU (N':=["_law_thing"]) (cap:=[none]) (lJ (sc:=ao (top 21)) (NN:=["_law_script","_law_found","_law_x","_law_y","_law_w","_law_p","_law_k","_law_one","_law_some","_law_kept","_law_at","_law_by_place","_law_by_part","_law_told"]) rfl rfl rfl (by decide +kernel) (by decide +kernel) (by decide +kernel) (by decide +kernel)) rfl (kG (ag 13 (pv 13))) (fun _ _ _ _=>(cf (i:=0) (show List.Nodup (["_law_thing"]:List Str)by decide +kernel) rfl (Or.inl rfl))) (fun _ _ _ _=>gd) (fun _ _ _ _=>(ax (ag 0 (pv 0)) ai (fun _ _=>rfl)))) (aQ _))))) (aB (ba f_)) bH)
   (au (gy (Kc PySem.F.slot_list_clear PySem.F.type_list_clear A5 Bh (ag 13 (pv 13))))
   (aB (ba (qm (dc (dQ hr.units) z9 (ag 8 (pv 8)) (ag 9 (pv 9)) (aQ _)) (nN (aC [] (vV T) (hr.mono (by decide)) (by rfl) T.xR T.di.kp T.xS .nil (fun _ _ _=>.nil) (ah (aC [] (kg T) (hr.mono (by decide)) (by rfl) T.lC T.bE.kp T.lD .nil (fun _ _ _=>.nil) (ah (ag 0 (pv 0)) (ah ai ak))) ak)))))))))))))))))))
end
theorem HH{K:PySem.W.Frag}{h:Heap}{mg:Str→Option Value}(X:K.In h)(G:h.Ns mainGlobals mg)
  {f0:Addr}{Tp Tq:Option Addr}{Tr:Array (Option Value)}{Tt Tu Tv Tw Pf Tx:Value}
  {f1:Addr}{Tz LS:Option Addr}{TB:Array (Option Value)}{TC LU LV LW HJ LX:Value}
  {HK:Addr}{jK:Value}{Pg:Option Addr}{zH:Nat}{LY:Tok}{Ph:Array (Option Value)}
  {f2:Addr}{TF TH:Option Addr}{FE:Array (Option Value)}{TJ TK TL KN Pj TM:Value}
  {f3:Addr}{TN TR:Option Addr}{TU:Array (Option Value)}{TV TX TY TZ Pk T1:Value}
  {f4:Addr}{T2 T4:Option Addr}{T5:Array (Option Value)}{T6 T7 T8 T9 Pm T_:Value}
  {f5:Addr}{Ua Ub:Option Addr}{Uc:Array (Option Value)}{Ud Ue Ug Uh Pn Ui:Value}
  {f6:Addr}{Uj Uk:Option Addr}{Ul:Array (Option Value)}{Um Uo Uq Ur Po Us:Value}
  {f7:Addr}{Ut Uu:Option Addr}{Uv:Array (Option Value)}{Uw Ux Uy Uz Pp UA:Value}
  {f8:Addr}{UB UC:Option Addr}{UD:Array (Option Value)}{UE UG UH UI Pq UJ:Value}
  {f9:Addr}{UK UL:Option Addr}{UM:Array (Option Value)}{UN UO UP UQ Pr UR:Value}
  {HM:Addr}{Pt Pu:Option Addr}{Pw:Array (Option Value)}{Px Py Pz PB IT PF:Value}
  {HN:Addr}{PH PJ:Option Addr}{PK:Array (Option Value)}{PM PQ PR PU IU PV:Value}
  {HP:Addr}{PX PY:Option Addr}{PZ:Array (Option Value)}{P6 P7 P8 P9 IV P_:Value}
  {HQ:Addr}{Qa Qb:Option Addr}{Qc:Array (Option Value)}{Qd Qe Qf Qg IW Qh:Value}
  {HR:Addr}{Qi Qj:Option Addr}{Qk:Array (Option Value)}{Ql Qn Qo Qp IX Qq:Value}
  {HS:Addr}{Qr Qs:Option Addr}{Qt:Array (Option Value)}{Qu Qv Qw Qx IY Qy:Value}
  {HU:Addr}{Qz QB:Option Addr}{QC:Array (Option Value)}{QD QF QH QJ IZ QK:Value}
  {HV:Addr}{QL QM:Option Addr}{QN:Array (Option Value)}{QP QQ QR QU QV:Value}{AE oD:Addr}
  {HW:Addr}{QX QY:Option Addr}{QZ:Array (Option Value)}{Q0 Q1 Q2 Q3 Q4:Value}{AF oC:Addr}
  (a0:PySem.W.nsIn K mainGlobals "divisor" =some (some (.ref f0)))
  (l0:K.lookup f0=some ⟨Tt,Tp,.func (PySem.W.fnOf "divisor" "divisor" (aV (top 1)) (aL (top 1)) (ao (top 1)) .none Tu Tv Tw Tq Pf Tx),Tr⟩)
  (c0:PySem.W.codeIn K Pf "divisor" =true)(k0:PySem.W.keepIn K (.ref f0)=true)
  (a1:PySem.W.nsIn K mainGlobals "spot" =some (some (.ref f1)))
  (l1:K.lookup f1=some ⟨TC,Tz,.func (PySem.W.fnOf "spot" "spot" (aV (top 3)) (aL (top 3)) (ao (top 3)) (.ref HK) LU LV LW LS HJ LX),TB⟩)
  (c1:PySem.W.codeIn K HJ "spot" =true)(k1:PySem.W.keepIn K (.ref f1)=true)
  (HX:K.lookup HK=some ⟨jK,Pg,.seq #[Value.int 1 LY] zH,Ph⟩)
  (a2:PySem.W.nsIn K mainGlobals "is_below" =some (some (.ref f2)))
  (l2:K.lookup f2=some ⟨TJ,TF,.func (PySem.W.fnOf "is_below" "is_below" (aV (top 4)) (aL (top 4)) (ao (top 4)) .none TK TL KN TH Pj TM),FE⟩)
  (c2:PySem.W.codeIn K Pj "is_below" =true)(k2:PySem.W.keepIn K (.ref f2)=true)
  (a3:PySem.W.nsIn K mainGlobals "ahead" =some (some (.ref f3)))
  (l3:K.lookup f3=some ⟨TV,TN,.func (PySem.W.fnOf "ahead" "ahead" (aV (top 5)) (aL (top 5)) (ao (top 5)) .none TX TY TZ TR Pk T1),TU⟩)
  (c3:PySem.W.codeIn K Pk "ahead" =true)(k3:PySem.W.keepIn K (.ref f3)=true)
  (a4:PySem.W.nsIn K mainGlobals "_law_left" =some (some (.ref f4)))
  (l4:K.lookup f4=some ⟨T6,T2,.func (PySem.W.fnOf "_law_left" "_law_left" (aV (top 18)) (aL (top 18)) (ao (top 18)) .none T7 T8 T9 T4 Pm T_),T5⟩)
  (c4:PySem.W.codeIn K Pm "_law_left" =true)(k4:PySem.W.keepIn K (.ref f4)=true)
  (a5:PySem.W.nsIn K mainGlobals "merged" =some (some (.ref f5)))
  (l5:K.lookup f5=some ⟨Ud,Ua,.func (PySem.W.fnOf "merged" "merged" (aV (top 6)) (aL (top 6)) (ao (top 6)) .none Ue Ug Uh Ub Pn Ui),Uc⟩)
  (c5:PySem.W.codeIn K Pn "merged" =true)(k5:PySem.W.keepIn K (.ref f5)=true)
  (a6:PySem.W.nsIn K mainGlobals "merged_pairs" =some (some (.ref f6)))
  (l6:K.lookup f6=some ⟨Um,Uj,.func (PySem.W.fnOf "merged_pairs" "merged_pairs" (aV (top 7)) (aL (top 7)) (ao (top 7)) .none Uo Uq Ur Uk Po Us),Ul⟩)
  (c6:PySem.W.codeIn K Po "merged_pairs" =true)(k6:PySem.W.keepIn K (.ref f6)=true)
  (a7:PySem.W.nsIn K mainGlobals "in_order" =some (some (.ref f7)))
  (l7:K.lookup f7=some ⟨Uw,Ut,.func (PySem.W.fnOf "in_order" "in_order" (aV (top 8)) (aL (top 8)) (ao (top 8)) .none Ux Uy Uz Uu Pp UA),Uv⟩)
  (c7:PySem.W.codeIn K Pp "in_order" =true)(k7:PySem.W.keepIn K (.ref f7)=true)
  (a8:PySem.W.nsIn K mainGlobals "_law_pool" =some (some (.ref f8)))
  (l8:K.lookup f8=some ⟨UE,UB,.func (PySem.W.fnOf "_law_pool" "_law_pool" (aV (top 10)) (aL (top 10)) (ao (top 10)) .none UG UH UI UC Pq UJ),UD⟩)
  (c8:PySem.W.codeIn K Pq "_law_pool" =true)(k8:PySem.W.keepIn K (.ref f8)=true)
  (a9:PySem.W.nsIn K mainGlobals "_law_digit" =some (some (.ref f9)))
  (l9:K.lookup f9=some ⟨UN,UK,.func (PySem.W.fnOf "_law_digit" "_law_digit" (aV (top 11)) (aL (top 11)) (ao (top 11)) .none UO UP UQ UL Pr UR),UM⟩)
  (c9:PySem.W.codeIn K Pr "_law_digit" =true)(k9:PySem.W.keepIn K (.ref f9)=true)
  (LZ:PySem.W.nsIn K mainGlobals "_law_whole" =some (some (.ref HM)))
  (L4:K.lookup HM=some ⟨Px,Pt,.func (PySem.W.fnOf "_law_whole" "_law_whole" (aV (top 12)) (aL (top 12)) (ao (top 12)) .none Py Pz PB Pu IT PF),Pw⟩)
  (vJ:PySem.W.codeIn K IT "_law_whole" =true)(L5:PySem.W.keepIn K (.ref HM)=true)
  (L6:PySem.W.nsIn K mainGlobals "_law_drawn" =some (some (.ref HN)))
  (L7:K.lookup HN=some ⟨PM,PH,.func (PySem.W.fnOf "_law_drawn" "_law_drawn" (aV (top 13)) (aL (top 13)) (ao (top 13)) .none PQ PR PU PJ IU PV),PK⟩)
  (EA:PySem.W.codeIn K IU "_law_drawn" =true)(L8:PySem.W.keepIn K (.ref HN)=true)
  (L9:PySem.W.nsIn K mainGlobals "_law_below" =some (some (.ref HP)))
  (L_:K.lookup HP=some ⟨P6,PX,.func (PySem.W.fnOf "_law_below" "_law_below" (aV (top 14)) (aL (top 14)) (ao (top 14)) .none P7 P8 P9 PY IV P_),PZ⟩)
  (iQ:PySem.W.codeIn K IV "_law_below" =true)(Ma:PySem.W.keepIn K (.ref HP)=true)
  (Mb:PySem.W.nsIn K mainGlobals "_law_shared" =some (some (.ref HQ)))
  (Mc:K.lookup HQ=some ⟨Qd,Qa,.func (PySem.W.fnOf "_law_shared" "_law_shared" (aV (top 15)) (aL (top 15)) (ao (top 15)) .none Qe Qf Qg Qb IW Qh),Qc⟩)
  (EB:PySem.W.codeIn K IW "_law_shared" =true)(Md:PySem.W.keepIn K (.ref HQ)=true)
  (Me:PySem.W.nsIn K mainGlobals "_law_lowest" =some (some (.ref HR)))
  (Mf:K.lookup HR=some ⟨Ql,Qi,.func (PySem.W.fnOf "_law_lowest" "_law_lowest" (aV (top 16)) (aL (top 16)) (ao (top 16)) .none Qn Qo Qp Qj IX Qq),Qk⟩)
  (Mg:PySem.W.codeIn K IX "_law_lowest" =true)(Mh:PySem.W.keepIn K (.ref HR)=true)
  (Mi:PySem.W.nsIn K mainGlobals "_law_spots" =some (some (.ref HS)))
  (Mj:K.lookup HS=some ⟨Qu,Qr,.func (PySem.W.fnOf "_law_spots" "_law_spots" (aV (top 17)) (aL (top 17)) (ao (top 17)) .none Qv Qw Qx Qs IY Qy),Qt⟩)
  (Mk:PySem.W.codeIn K IY "_law_spots" =true)(Ml:PySem.W.keepIn K (.ref HS)=true)
  (Mm:PySem.W.nsIn K mainGlobals "_law_sorted" =some (some (.ref HU)))
  (Mn:K.lookup HU=some ⟨QD,Qz,.func (PySem.W.fnOf "_law_sorted" "_law_sorted" (aV (top 19)) (aL (top 19)) (ao (top 19)) .none QF QH QJ QB IZ QK),QC⟩)
  (Mo:PySem.W.codeIn K IZ "_law_sorted" =true)(Mp:PySem.W.keepIn K (.ref HU)=true)
  (Mq:PySem.W.nsIn K mainGlobals "_law_many" =some (some (.ref HV)))
  (Mr:K.lookup HV=some ⟨QP,QL,.func (PySem.W.fnOf "_law_many" "_law_many" (aV (top 20)) (aL (top 20)) (ao (top 20)) .none QQ QR QU QM (.ref AE) QV),QN⟩)
  (Ms:PySem.W.codeIn K (.ref AE) "_law_many" =true)(Mt:PySem.W.keepIn K (.ref HV)=true)
  (Mu:PySem.W.nsIn K mainGlobals "law" =some (some (.ref HW)))
  (Mv:K.lookup HW=some ⟨Q0,QX,.func (PySem.W.fnOf "law" "law" (aV (top 21)) (aL (top 21)) (ao (top 21)) .none Q1 Q2 Q3 QY (.ref AF) Q4),QZ⟩)
  (Mw:PySem.W.codeIn K (.ref AF) "law" =true)(Mx:PySem.W.keepIn K (.ref HW)=true)
  (dD:PySem.W.nsIn K mainGlobals "abs" =some none)
  (sV:PySem.W.nsIn K mainGlobals "all" =some none)
  (lZ:PySem.W.nsIn K mainGlobals "bool" =some none)
  (fN:PySem.W.nsIn K mainGlobals "enumerate" =some none)
  (iM:PySem.W.nsIn K mainGlobals "int" =some none)
  (cy:PySem.W.nsIn K mainGlobals "isinstance" =some none)
  (dJ:PySem.W.nsIn K mainGlobals "len" =some none)
  (kd:PySem.W.nsIn K mainGlobals "list" =some none)
  (nj:PySem.W.nsIn K mainGlobals "max" =some none)
  (ed:PySem.W.nsIn K mainGlobals "range" =some none)
  (iy:PySem.W.nsIn K mainGlobals "sorted" =some none)
  (lE:PySem.W.nsIn K mainGlobals "tuple" =some none)
  (wI:K.lookup oC=none)(BW:PySem.W.codeHdIn K AF oC=true)
  (zH:K.lookup oD=none)(BX:PySem.W.codeHdIn K AE oD=true)
  :∃t,Txt K mg t∧(∀(s:Shared) (v:Value),BindsTo s t.sR ⟨[v],[]⟩ [("_law_script",v)])∧t.oC=oC∧t.oD=oD:=by
 have F0:=c_ (st:=top 1) l0 c0 k0
 have b0:=F0.binds (ps:=["n","m"]) fun _ _ _ _ _ _ us hl=>match us,hl with|[_,_],_=>rfl
 have F1:=CU (st:=top 3) l1 c1 k1
 have b1:Binds K (PySem.W.fnOf "spot" "spot" (aV (top 3)) (aL (top 3)) (ao (top 3)) (.ref HK) LU LV LW LS HJ LX) ["x","y","w"] []:=fun s us tm hl=>by
  obtain⟨_,_,_,rfl⟩:=JN hl
  exact BindsTo.of_defaults rfl (tm _ _ HX) rfl rfl rfl
 have e1:Binds K (PySem.W.fnOf "spot" "spot" (aV (top 3)) (aL (top 3)) (ao (top 3)) (.ref HK) LU LV LW LS HJ LX) ["x","y","w"] [Value.int 1 LY]:=fun s us tm hl=>by
  obtain⟨_,_,rfl⟩:=Nf hl
  exact BindsTo.of_defaults rfl (tm _ _ HX) rfl rfl rfl
 have F2:=c_ (st:=top 4) l2 c2 k2
 have b2:=F2.binds (ps:=["p","q"]) fun _ _ _ _ _ _ us hl=>match us,hl with|[_,_],_=>rfl
 have F3:=c_ (st:=top 5) l3 c3 k3
 have b3:=F3.binds (ps:=["p","q"]) fun _ _ _ _ _ _ us hl=>match us,hl with|[_,_],_=>rfl
 have F4:=c_ (st:=top 18) l4 c4 k4
 have b4:=F4.binds (ps:=["_law_p","_law_q"]) fun _ _ _ _ _ _ us hl=>match us,hl with|[_,_],_=>rfl
 have F5:=c_ (st:=top 6) l5 c5 k5
 have b5:=F5.binds (ps:=["left","right","first"]) fun _ _ _ _ _ _ us hl=>match us,hl with|[_,_,_],_=>rfl
 have F6:=c_ (st:=top 7) l6 c6 k6
 have b6:=F6.binds (ps:=["runs","first"]) fun _ _ _ _ _ _ us hl=>match us,hl with|[_,_],_=>rfl
 have F7:=c_ (st:=top 8) l7 c7 k7
 have b7:=F7.binds (ps:=["some","first"]) fun _ _ _ _ _ _ us hl=>match us,hl with|[_,_],_=>rfl
 have F8:=c_ (st:=top 10) l8 c8 k8
 have b8:=F8.binds (ps:=["_law_script","_law_k"]) fun _ _ _ _ _ _ us hl=>match us,hl with|[_,_],_=>rfl
 have F9:=c_ (st:=top 11) l9 c9 k9
 have b9:=F9.binds (ps:=["_law_pool_here","_law_many_here"]) fun _ _ _ _ _ _ us hl=>match us,hl with|[_,_],_=>rfl
 have Q5:=c_ (st:=top 12) L4 vJ L5
 have US:=Q5.binds (ps:=["_law_found"]) fun _ _ _ _ _ _ us hl=>match us,hl with|[_],_=>rfl
 have Q6:=c_ (st:=top 13) L7 EA L8
 have UT:=Q6.binds (ps:=["_law_pool_here"]) fun _ _ _ _ _ _ us hl=>match us,hl with|[_],_=>rfl
 have Q7:=c_ (st:=top 14) L_ iQ Ma
 have UU:=Q7.binds (ps:=["_law_pool_here"]) fun _ _ _ _ _ _ us hl=>match us,hl with|[_],_=>rfl
 have Q8:=c_ (st:=top 15) Mc EB Md
 have UW:=Q8.binds (ps:=["_law_a","_law_b"]) fun _ _ _ _ _ _ us hl=>match us,hl with|[_,_],_=>rfl
 have Q9:=c_ (st:=top 16) Mf Mg Mh
 have UX:=Q9.binds (ps:=["_law_x","_law_y","_law_w"]) fun _ _ _ _ _ _ us hl=>match us,hl with|[_,_,_],_=>rfl
 have Q_:=c_ (st:=top 17) Mj Mk Ml
 have UY:=Q_.binds (ps:=["_law_script"]) fun _ _ _ _ _ _ us hl=>match us,hl with|[_],_=>rfl
 have Ra:=c_ (st:=top 19) Mn Mo Mp
 have UZ:=Ra.binds (ps:=["_law_some","_law_found","_law_first"]) fun _ _ _ _ _ _ us hl=>match us,hl with|[_,_,_],_=>rfl
 have Rb:=w5 (st:=top 20) Mr Ms Mt
 have U0:=Rb.toFun.binds (ps:=["_law_pool_here"]) fun _ _ _ _ _ _ us hl=>match us,hl with|[_],_=>rfl
 have Rc:=w5 (st:=top 21) Mv Mw Mx
 have U1:=Rc.toFun.binds (ps:=["_law_script"]) fun _ _ _ _ _ _ us hl=>match us,hl with|[_],_=>rfl
 exact⟨⟨AF,oC,AE,oD,f0,_,f1,_,LY,f2,_,f3,_,f4,_,f5,_,f6,_,f7,_,f8,_,f9,_,HM,_,HN,_,HP,_,HQ,_,HR,_,HS,_,HU,_,HV,_,HW,_⟩,⟨wI,BW,zH,BX,F0,PySem.W.mg_of X G a0,b0,F1,PySem.W.mg_of X G a1,b1,e1,F2,PySem.W.mg_of X G a2,b2,F3,PySem.W.mg_of X G a3,b3,F4,PySem.W.mg_of X G a4,b4,F5,PySem.W.mg_of X G a5,b5,F6,PySem.W.mg_of X G a6,b6,F7,PySem.W.mg_of X G a7,b7,F8,PySem.W.mg_of X G a8,b8,F9,PySem.W.mg_of X G a9,b9,Q5,PySem.W.mg_of X G LZ,US,Q6,PySem.W.mg_of X G L6,UT,Q7,PySem.W.mg_of X G L9,UU,Q8,PySem.W.mg_of X G Mb,UW,Q9,PySem.W.mg_of X G Me,UX,Q_,PySem.W.mg_of X G Mi,UY,Ra,PySem.W.mg_of X G Mm,UZ,Rb,PySem.W.mg_of X G Mq,U0,Rc,PySem.W.mg_of X G Mu,U1,PySem.W.mg_none_of X G dD,PySem.W.mg_none_of X G sV,PySem.W.mg_none_of X G lZ,PySem.W.mg_none_of X G fN,PySem.W.mg_none_of X G iM,PySem.W.mg_none_of X G cy,PySem.W.mg_none_of X G dJ,PySem.W.mg_none_of X G kd,PySem.W.mg_none_of X G nj,PySem.W.mg_none_of X G ed,PySem.W.mg_none_of X G iy,PySem.W.mg_none_of X G lE⟩,fun s v=>.of_eq rfl,rfl,rfl⟩
theorem EO(c d:Nat):fT c≠fU d:=fun e=>absurd (congrArg Qm.aS.free e) (show([]:List Str)≠(["_law_at"]:List Str)by decide)
theorem ER(c d:Nat):fT c≠fV d:=fun e=>absurd (congrArg Qm.aS.qual e) (show("law":Str)++".<locals>."++"<lambda>"≠("_law_many":Str)++".<locals>."++"<lambda>" by decide +kernel)
theorem ES(c d:Nat):fU c≠fV d:=fun e=>absurd (congrArg Qm.aS.qual e) (show("law":Str)++".<locals>."++"<lambda>"≠("_law_many":Str)++".<locals>."++"<lambda>" by decide +kernel)
theorem walk{l:PySem.W.OpenLaw}{q:Program}{loose:List Str}{XP:(Str→Option Value)→Heap→Prop}{YP:World→Heap→Prop}{d:DefRec}{K:Params→PySem.W.Frag}{P0 P1:Addr}(hn:l.most=some 63)(yr:d.params.defaults=[])
  (hY:∀(w:World) (h:Heap),YP w h→(K w.params).In h∧∀P∈[P1,P0],h.get? P=some (PySem.W.tabObj #[]))(jB:P0≠P1)
  (F:∀(w:World) (mg:Str→Option Value) (fa:Addr) (h:Heap),(K w.params).In h→h.Ns mainGlobals mg→mg d.name=some (.ref fa)→
   (∀P∈[P1,P0],(K w.params).lookup P=none∧∃c,PySem.W.codeHdIn (K w.params) c P=true)∧∃fd:FuncData,(∀(s:Shared) (u:Value),BindsTo s fd ⟨[u],[]⟩ [("_law_script",u)])∧∀base:Heap,(K w.params).In base→base.Ns mainGlobals mg→bY l.prog w (K w.params) mg base cF 7 fa fd ["_law_script"] (GP P0 P1 (K w.params) kS)):
  PySem.W.WalkO q loose XP YP l.row.toRowW d [] (fun f vs=>PySem.call f vs):=
 L2.Br (n:=63) (k:=7) (x:="_law_script") (sp:=fun K=>GP P0 P1 K kS) hn (by decide) yr ⟨rfl,by decide,by decide⟩ hY F (fun K H a ns hl hO hS=>DR hO (by simp) (by simp) jB hS fun τ a b c h1 h2 h3 h4 h5=>BV a b c τ h1 h2 h3 h4 h5 ns hl)
theorem fin{P:Program}{w:World}{K:PySem.W.Frag}{mg:Str→Option Value}{fa oC oD:Addr}(yt:mg "law" =some (.ref fa))(TT:∃t,Txt K mg t∧(∀(s:Shared) (v:Value),BindsTo s t.sR ⟨[v],[]⟩ [("_law_script",v)])∧t.oC=oC∧t.oD=oD):
  (∀P∈[oD,oC],K.lookup P=none∧∃c,PySem.W.codeHdIn K c P=true)∧∃fd:FuncData,(∀(s:Shared) (u:Value),BindsTo s fd ⟨[u],[]⟩ [("_law_script",u)])∧∀base:Heap,K.In base→base.Ns mainGlobals mg→bY P w K mg base cF 7 fa fd ["_law_script"] (GP oC oD K kS):=by
 obtain⟨t,T,hb,rfl,rfl⟩:=TT
 have e0:=yt.symm.trans T.LR
 cases e0
 refine⟨fun P hP=>?_,_,hb,fun base _ _=>(HG T).imp fun _ _ _ _ q=>q t.cG (fT t.eJ) (fU t.eJ) (fV t.jK) ⟨T.BW,T.BX,rfl,rfl,EO _ _,ER _ _,ES _ _⟩⟩
 have:P=t.oD∨P=t.oC:=by simpa using hP
 rcases this with rfl|rfl
 ·exact⟨T.zH,t.jK,T.BX⟩
 ·exact⟨T.wI,t.eJ,T.BW⟩
end xA
open PySem PySem.W PyProof.Rows
local macro_rules (kind:=Lean.Parser.Term.structInst)|stx=>do
 if (stx.find? fun x=>x.isIdent&&x.getId.eraseMacroScopes==`globals).isSome then Lean.Macro.throwError "as a whole" else Lean.Macro.throwUnsupported
set_option maxRecDepth 100000 in
set_option maxHeartbeats 0 in
theorem PySem.Challenge.cw_sheetlay_k13_spots_holds : PySem.Challenge.rw_sheetlay_k13_spots.Holds := by
 w_on;o_law;k_head;(case hw=>w_witness2)
 k_fill
 refine xA.walk (l:=PySem.Challenge.rw_sheetlay_k13_spots) rfl rfl (fun w h Y=>⟨PySem.W.km_in_of Y,PySem.W.km_tabs_of Y⟩) (by decide) ?F
 case F=>
  intro w mg fa h KX G yt
  refine xA.fin (K:=L2.Nb KX) yt ?_
  dsimp only[L2.Nb]
  refine' xA.HH KX G ?a0 ?l0 ?c0 ?k0 ?a1 ?l1 ?c1 ?k1 ?HX ?a2 ?l2 ?c2 ?k2 ?a3 ?l3 ?c3 ?k3 ?a4 ?l4 ?c4 ?k4 ?a5 ?l5 ?c5 ?k5 ?a6 ?l6 ?c6 ?k6 ?a7 ?l7 ?c7 ?k7 ?a8 ?l8 ?c8 ?k8 ?a9 ?l9 ?c9 ?k9 ?LZ ?L4 ?vJ ?L5 ?L6 ?L7 ?EA ?L8 ?L9 ?L_ ?iQ ?Ma ?Mb ?Mc ?EB ?Md ?Me ?Mf ?Mg ?Mh ?Mi ?Mj ?Mk ?Ml ?Mm ?Mn ?Mo ?Mp ?Mq ?Mr ?Ms ?Mt ?Mu ?Mv ?Mw ?Mx ?dD ?sV ?lZ ?fN ?iM ?cy ?dJ ?kd ?nj ?ed ?iy ?lE ?wI ?BW ?zH ?BX
  (case a0=>k_is)
  (case l0=>k_is)
  (case c0=>k_is)
  (case k0=>k_is)
  (case a1=>k_is)
  (case l1=>k_is)
  (case c1=>k_is)
  (case k1=>k_is)
  (case HX=>k_is)
  (case a2=>k_is)
  (case l2=>k_is)
  (case c2=>k_is)
  (case k2=>k_is)
  (case a3=>k_is)
  (case l3=>k_is)
  (case c3=>k_is)
  (case k3=>k_is)
  (case a4=>k_is)
  (case l4=>k_is)
  (case c4=>k_is)
  (case k4=>k_is)
  (case a5=>k_is)
  (case l5=>k_is)
  (case c5=>k_is)
  (case k5=>k_is)
  (case a6=>k_is)
  (case l6=>k_is)
  (case c6=>k_is)
  (case k6=>k_is)
  (case a7=>k_is)
  (case l7=>k_is)
  (case c7=>k_is)
  (case k7=>k_is)
  (case a8=>k_is)
  (case l8=>k_is)
  (case c8=>k_is)
  (case k8=>k_is)
  (case a9=>k_is)
  (case l9=>k_is)
  (case c9=>k_is)
  (case k9=>k_is)
  (case LZ=>k_is)
  (case L4=>k_is)
  (case vJ=>k_is)
  (case L5=>k_is)
  (case L6=>k_is)
  (case L7=>k_is)
  (case EA=>k_is)
  (case L8=>k_is)
  (case L9=>k_is)
  (case L_=>k_is)
  (case iQ=>k_is)
  (case Ma=>k_is)
  (case Mb=>k_is)
  (case Mc=>k_is)
  (case EB=>k_is)
  (case Md=>k_is)
  (case Me=>k_is)
  (case Mf=>k_is)
  (case Mg=>k_is)
  (case Mh=>k_is)
  (case Mi=>k_is)
  (case Mj=>k_is)
  (case Mk=>k_is)
  (case Ml=>k_is)
  (case Mm=>k_is)
  (case Mn=>k_is)
  (case Mo=>k_is)
  (case Mp=>k_is)
  (case Mq=>k_is)
  (case Mr=>k_is)
  (case Ms=>k_is)
  (case Mt=>k_is)
  (case Mu=>k_is)
  (case Mv=>k_is)
  (case Mw=>k_is)
  (case Mx=>k_is)
  (case dD=>k_is)
  (case sV=>k_is)
  (case lZ=>k_is)
  (case fN=>k_is)
  (case iM=>k_is)
  (case cy=>k_is)
  (case dJ=>k_is)
  (case kd=>k_is)
  (case nj=>k_is)
  (case ed=>k_is)
  (case iy=>k_is)
  (case lE=>k_is)
  (case wI=>kernel_rfl)
  (case BW=>kernel_rfl)
  (case zH=>kernel_rfl)
  (case BX=>kernel_rfl)
