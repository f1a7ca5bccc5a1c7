import PyProof.Rows.All
import Wide.All
import OpenK.AllK
import Wide.FinOn
import Lean
import PyProof.EqAt
import PyProof.EqKinds
import PyProof.TupleCall
import PyProof.ExcInit
import KE.KLam
import KE.KNestM
import KE.KSortTup
import PyProof.Rows.SortBase
import PyProof.Rows.SortWalk
import PyProof.Rows.SortShellK
import PyProof.SetScanFacts
import PyProof.TupleKey
import PyProof.WalksMore
import PySem.Challenge.RW_sheetlay_k18_simple_or_not
set_option Elab.async false
set_option linter.all false
set_option maxRecDepth 100000
set_option compiler.extract_closed false
namespace PySem
open Sem (wp)
section
variable{prog:Program}{w:World}{K:Type}[DecidableEq K](knd:KeyKind prog w K)
inductive iD(h:Heap):List (List K)→List Value→Prop
 |nil:iD h [] []
 |cons {ks:List K}{a:Addr}{f_:List (List K)}{vs:List Value}:IsTupleKey knd h ks a→iD h f_ vs→iD h (ks::f_) (.ref a::vs)
def dZ(h:Heap)(f_:List (List K))(a:Addr):Prop:=∃ob its m,h.get? a=some ob∧ob.cls= .type "tuple"∧ob.data= .seq its m∧iD knd h f_ its.toList
variable{knd}
theorem iD.inj{h:Heap}{x y:List (List K)}{vs:List Value}(p:iD knd h x vs):iD knd h y vs→x=y:=by
 induction p generalizing y with
 |nil=>intro q;cases q;rfl
 |cons h1 _ ih=>
  intro q
  cases q with
  |cons h2 t2=>rw[h1.inj h2,ih t2]
theorem dZ.typeIs{s:Shared}{f_:List (List K)}{a:Addr}(x:dZ knd s.heap f_ a):s.TypeIs (.ref a) "tuple":=by
 obtain⟨ob,_,_,ho,hc,_⟩:=x
 exact⟨ob,ho,hc⟩
theorem dZ.inj{h:Heap}{a:Addr}{x y:List (List K)}(p:dZ knd h x a)(q:dZ knd h y a):x=y:=by
 obtain⟨o1,i1,n1,a1,_,b1,c1⟩:=p
 obtain⟨o2,i2,n2,a2,_,b2,c2⟩:=q
 rw[a1]at a2
 cases a2
 rw[b1]at b2
 injection b2 with b2 _
 subst b2
 exact c1.inj c2
theorem iD.keeps{h h':Heap}{f_:List (List K)}{vs:List Value}{d:Addr}{ob:Obj}{es ep}(x:iD knd h f_ vs)(ho:h.get? d=some ob)(hd:ob.data= .dict es ep)(hs:Heap.SameBut d h h'):iD knd h' f_ vs:=by
 induction x with
 |nil=>exact .nil
 |cons h1 _ ih=>exact .cons (h1.keeps ho hd hs) ih
theorem dZ.keeps{h h':Heap}{f_:List (List K)}{a d:Addr}{ob:Obj}{es ep}(x:dZ knd h f_ a)(ho:h.get? d=some ob)(hd:ob.data= .dict es ep)(hs:Heap.SameBut d h h'):dZ knd h' f_ a:=by
 obtain⟨o1,i1,n1,a1,c1,b1,r1⟩:=x
 have ne:a≠d:=by
  intro e
  rw[e,ho]at a1
  cases a1
  rw[hd]at b1
  cases b1
 exact⟨o1,i1,n1,(hs.2 a ne).trans a1,c1,b1,r1.keeps ho hd hs⟩
def AD(knd:KeyKind prog w K)(f_:List (List K)):Int:=reduceHash (Builtin.Tuple.tupleHashOf (f_.map (tupleKeyHash knd)))
def jE:List (List K)→Nat
 |[]=>0
 |ks::r=>(ks.length+1)+jE r
theorem vF:∀(x y:List (List K)),jE (x++y)=jE x+jE y
 |[],y=>by simp[jE]
 |a::x,y=>by simp only[List.cons_append,jE,vF x y];omega
variable{A:Around}{E:Value→Shared→Prop}{s:Shared}
theorem EL{f_:List (List K)}{a:Addr}{Q:Int→Shared→Prop}(hu:A.units+4<cLine)(hk:dZ knd s.heap f_ a)(q:Q (AD knd f_) { s with toks:=s.toks+(jE f_+1) }):
  wpAny (model prog w) A (pyHash (.ref a)) Q E s:=by
 have ty:=hk.typeIs
 obtain⟨ob,its,m,ho,_,hd,hi⟩:=hk
 unfold pyHash
 first|unfold pyHashByItsType|skip
 first|refine wpAny_bind (wpAny_cRoomFor_or (.inr (by omega)) ?_)|skip
 refine wpAny_bind (wpAny_specialOf ty F.slot_tuple_hash.lookup ?_)
 show wpAny _ _ (if (some (Value.builtin "tuple.__hash__")==some Value.none)=true then _ else _) Q E s
 rw[if_neg (by rw[beq_builtin_none];exact Bool.false_ne_true)]
 refine wpAny_bind (wpAny_specialOf ty F.slot_tuple_hash.lookup ?_)
 show wpAny _ _ (callSpecialIfBoundUnlessNone? (.ref a) "__hash__" _ >>= _) Q E s
 refine wpAny_bind (wpAny_callSpecialIfBoundUnlessNone?_slot ty F.slot_tuple_hash (wpAny_call_entry F.slot_tuple_hash ty F.entry_tuple_hash ?_ (F.args_tuple_hash_1 _)))
 show wpAny _ _ (Builtin.Tuple.tupleItemsOf (.ref a) >>= _) _ _ s
 refine wpAny_bind (wpAny_tupleItemsOf ho hd (wpAny_bind ?_))
 rw[←Array.forIn_toList]
 refine wpAny_forIn_list _ (fun rest (b:Array Int) s'=>∃done left,f_=done++left∧iD knd s.heap left rest∧b.toList=done.map (tupleKeyHash knd)∧s'= { s with toks:=s.toks+jE done }) _ ?_ ?_ _ _ ⟨[],f_,rfl,hi,rfl,rfl⟩
 ·rintro x rest b s' ⟨done,left,rfl,hl,hb,rfl⟩
  cases hl with
  |@cons ks c yh _ h1 vf=>
   refine wpAny_bind (wpAny_pyHash_tuple (s:={ s with toks:=s.toks+jE done }) (by show A.units+1<cLine;omega) h1 ?_)
   have fin:∃dn lf,done++ks::yh=dn++lf∧iD knd s.heap lf rest∧(b.push (tupleKeyHash knd ks)).toList=dn.map (tupleKeyHash knd)∧({ s with toks:=s.toks+jE done+(ks.length+1) }:Shared)= { s with toks:=s.toks+jE dn }:=
    ⟨done++[ks],yh,by simp,vf,by simp[hb],by rw[vF];simp[jE,Nat.add_assoc]⟩
   first
    |exact wpAny_pure fin
    |exact wpAny_bind (wpAny_pure (wpAny_pure fin))
 ·rintro b s' ⟨done,left,rfl,hl,hb,rfl⟩
  cases hl
  rw[List.append_nil]at q
  show wpAny _ _ (retInt (Builtin.Tuple.tupleHashOf b.toList)) _ _ _
  rw[hb]
  refine wpAny_ret_mkInt ?_
  show wpAny _ _ (if (decide (-(2:Int) ^ 63≤Builtin.Tuple.tupleHashOf (done.map (tupleKeyHash knd)))&&decide (Builtin.Tuple.tupleHashOf (done.map (tupleKeyHash knd))<2 ^ 63))=true then _ else _) Q E _
  unfold AD reduceHash at q
  by_cases hr:(decide (-(2:Int) ^ 63≤Builtin.Tuple.tupleHashOf (done.map (tupleKeyHash knd)))&&decide (Builtin.Tuple.tupleHashOf (done.map (tupleKeyHash knd))<2 ^ 63))=true
  ·rw[if_pos hr]at q ⊢
   exact wpAny_pure (by simpa[Nat.add_assoc]using q)
  ·rw[if_neg hr]at q ⊢
   exact wpAny_bind (wpAny_rule (wpAny_pure (by simpa[Nat.add_assoc]using q)))
theorem EM{x y:List (List K)}{a b:Addr}{P:Fin→Shared→Prop}(hu:A.units+2<cLine)(hx:dZ knd s.heap x a)(hy:dZ knd s.heap y b)(q:P (.done (.ret (.bool (decide (x=y))))) s):
  wpAny (model prog w) A (Builtin.«tuple.__eq__» ⟨[.ref a,.ref b],[]⟩) P E s:=by
 have ty:=hy.typeIs
 obtain⟨o1,xs,n1,L_,_,Sq,Sr⟩:=hx
 obtain⟨o2,ys,n2,wL,_,hd2,Ss⟩:=hy
 show wpAny _ _ (isInstance (.ref b) (.type "tuple") >>= _) _ _ s
 refine wpAny_bind (wpAny_isInstance ty isSubtype_tuple_tuple ?_)
 simp only[Bool.not_true,Bool.false_eq_true,if_false]
 refine wpAny_bind (wpAny_tupleItemsOf L_ Sq (wpAny_bind (wpAny_tupleItemsOf wL hd2 (wpAny_bind ?_))))
 refine wpAny_forIn_list _ (fun rest r s'=>r.1=none∧s'=s∧∃x' y' kE kF,rest=List.zip kE kF∧iD knd s.heap x' kE∧iD knd s.heap y' kF∧decide (x'=y')=decide (x=y)∧(kE.length==kF.length)=(xs.size==ys.size)) _ ?_ ?_ _ _ ⟨rfl,rfl,x,y,xs.toList,ys.toList,rfl,Sr,Ss,rfl,by simp⟩
 ·rintro⟨u,v⟩ rest r s' ⟨hr,rfl,x',y',kE,kF,hz,iY,kG,i4,hlen⟩
  cases iY with
  |nil=>simp at hz
  |@cons k1 c1 x2 Su h1 EN=>
   cases kG with
   |nil=>simp at hz
   |@cons k2 c2 y2 Sv h2 EO=>
    simp only[List.zip_cons_cons,List.cons.injEq,Prod.mk.injEq]at hz
    obtain⟨⟨rfl,rfl⟩,rfl⟩:=hz
    refine wpAny_bind (wpAny_eqBool_tuple (x:=k1) (y:=k2) (by omega) h1 h2 ?_)
    by_cases hk:k1=k2
    ·subst hk
     rw[decide_eq_true rfl]
     simp only[Bool.not_true,Bool.false_eq_true,if_false]
     refine wpAny_pure ⟨rfl,rfl,x2,y2,Su,Sv,rfl,EN,EO,?_,by simpa using hlen⟩
     rw[←i4]
     by_cases Pj:x2=y2
     ·simp[Pj]
     ·simp[Pj]
    ·rw[decide_eq_false hk]
     simp only[Bool.not_false,if_true]
     have hf:decide (x=y)=false:=by rw[←i4];simp[hk]
     rw[hf]at q
     exact wpAny_bind (wpAny_pure (wpAny_pure (wpAny_pure q)))
 ·rintro⟨r1,r2⟩ s' ⟨hr,rfl,x',y',kE,kF,hz,iY,kG,i4,hlen⟩
  simp only at hr
  subst hr
  refine wpAny_pure ?_
  have fin:(xs.size==ys.size)=decide (x=y):=by
   rw[←i4,←hlen]
   cases iY with
   |nil=>
    cases kG with
    |nil=>simp
    |cons _ _=>simp
   |cons _ _=>
    cases kG with
    |nil=>simp
    |cons _ _=>simp at hz
  show P (.done (.ret (.bool (xs.size==ys.size)))) s'
  rw[fin]
  exact q
theorem ER{x y:List (List K)}{a b:Addr}{Q:Bool→Shared→Prop}(hu:A.units+4<cLine)(hx:dZ knd s.heap x a)(hy:dZ knd s.heap y b)(q:Q (decide (x=y)) s):
  wpAny (model prog w) A (eqBool (.ref a) (.ref b)) Q E s:=by
 unfold eqBool
 try with_reducible refine wpAny_holding ?_
 show wpAny _ _ (if (Value.ref a==Value.ref b)=true then _ else _) Q E s
 by_cases nI:(Value.ref a==Value.ref b)=true
 ·rw[if_pos nI]
  have e:a=b:=by have:=eq_of_beq nI;injection this
  subst e
  obtain rfl:=hx.inj hy
  exact wpAny_bind (wpAny_rule (wpAny_pure (by simpa using q)))
 ·rw[if_neg nI]
  exact wpAny_bind (wpAny_richCompare_same_room (op:=.Eq) hx.typeIs hy.typeIs F.slot_tuple_eq
   (wpAny_call_entry F.slot_tuple_eq hx.typeIs F.entry_tuple_eq (EM (by show A.units+1+2<cLine;omega) hx hy ⟨_,rfl,(fun e=>nomatch e),wpAny_truthy_bool q⟩) (F.args_tuple_eq_2 _ _)) (by omega))
theorem Ir{ks:List K}{n:Nat}{a:Addr}{Q:Bool→Shared→Prop}(hk:IsTupleKey knd s.heap ks a)(q:Q true s):wpAny (model prog w) A (eqIsQuiet (n+1) (.ref a)) Q E s:=by
 have ty:=hk.typeIs
 obtain⟨ob,its,m,ho,_,hd,hi⟩:=hk
 unfold eqIsQuiet
 refine wpAny_bind (wpAny_specialOf ty F.slot_tuple_eq.lookup ?_)
 show wpAny _ _ (isInstance (.ref a) (.type "tuple") >>= _) _ _ s
 refine wpAny_bind (wpAny_isInstance ty isSubtype_tuple_tuple ?_)
 simp only[Bool.not_true,Bool.false_eq_true,if_false]
 refine wpAny_bind (wpAny_seqItems ho hd (wpAny_bind ?_))
 show wpAny _ _ (forIn its _ _) _ _ s
 rw[←Array.forIn_toList]
 refine wpAny_forIn_list _ (fun rest r s'=>r.1=none∧s'=s∧∀v∈rest,carriedByValue v=true) _ ?_ ?_ _ _ ⟨rfl,rfl,hi.byValue⟩
 ·rintro v rest r s' ⟨hr,rfl,ig⟩
  rw[eqIsQuiet_byValue _ (ig v List.mem_cons_self)]
  refine wpAny_bind (wpAny_pure ?_)
  simp only[Bool.not_true,Bool.false_eq_true,if_false]
  exact wpAny_pure ⟨rfl,rfl,fun u wM=>ig u (List.mem_cons_of_mem _ wM)⟩
 ·rintro⟨r1,r2⟩ s' ⟨hr,rfl,_⟩
  simp only at hr
  subst hr
  exact wpAny_pure q
theorem Iu{f_:List (List K)}{a:Addr}{Q:Bool→Shared→Prop}(hk:dZ knd s.heap f_ a)(q:Q true s):wpAny (model prog w) A (eqIsQuiet 8 (.ref a)) Q E s:=by
 have ty:=hk.typeIs
 obtain⟨ob,its,m,ho,_,hd,hi⟩:=hk
 unfold eqIsQuiet
 refine wpAny_bind (wpAny_specialOf ty F.slot_tuple_eq.lookup ?_)
 show wpAny _ _ (isInstance (.ref a) (.type "tuple") >>= _) _ _ s
 refine wpAny_bind (wpAny_isInstance ty isSubtype_tuple_tuple ?_)
 simp only[Bool.not_true,Bool.false_eq_true,if_false]
 refine wpAny_bind (wpAny_seqItems ho hd (wpAny_bind ?_))
 show wpAny _ _ (forIn its _ _) _ _ s
 rw[←Array.forIn_toList]
 refine wpAny_forIn_list _ (fun rest r s'=>r.1=none∧s'=s∧∃yh,iD knd s.heap yh rest) _ ?_ ?_ _ _ ⟨rfl,rfl,f_,hi⟩
 ·rintro v rest r s' ⟨hr,rfl,yh,hl⟩
  cases hl with
  |@cons ks c Pk _ h1 vf=>
   refine wpAny_bind (Ir (n:=6) h1 ?_)
   simp only[Bool.not_true,Bool.false_eq_true,if_false]
   exact wpAny_pure ⟨rfl,rfl,Pk,vf⟩
 ·rintro⟨r1,r2⟩ s' ⟨hr,rfl,_⟩
  simp only at hr
  subst hr
  exact wpAny_pure q
end
def Ma{prog:Program}{w:World}{K:Type}[DecidableEq K](knd:KeyKind prog w K):HeapKind prog w (List (List K)) where
 is:=dZ knd
 hash:=AD knd
 draws:=fun f_=>jE f_+1
 room:=fun A=>A.units+4<cLine
 inj:=fun hx hy=>hx.inj hy
 keeps:=fun x ho hd hs=>x.keeps ho hd hs
 pyHash:=fun hu hk h=>EL hu hk h
 eqBool:=fun hu hx hy h=>ER hu hx hy h
 quiet:=fun hk h=>Iu hk h
end PySem
namespace PySem
open Sem (wp)
def sN(h:Heap)(d:Addr)(es:Array DictEntry)(ep:Nat):Prop:=∃ob,h.get? d=some ob∧ob.ExactDict∧ob.data= .dict es ep
section
variable{prog:Program}{w:World}{A:Around}{E:Value→Shared→Prop}{s:Shared}
theorem sN.at{h h':Heap}{d:Addr}{es:Array DictEntry}{ep:Nat}(x:sN h d es ep)(k:∀o,h.get? d=some o→h'.get? d=some o):sN h' d es ep:=by
 obtain⟨ob,h1,h2⟩:=x
 exact⟨ob,k _ h1,h2⟩
theorem sN.lt{h:Heap}{d:Addr}{es:Array DictEntry}{ep:Nat}(x:sN h d es ep):d<h.objs.size:=by
 obtain⟨ob,h1,_⟩:=x
 exact Heap.lt_size h1
end
end PySem
namespace L2
open PySem PySem.Spec PyProof.Rows
abbrev Key:=Sum Int Str
def ES:Key→Value→Bool
 |.inl k,v=>Value.isInt k v
 |.inr x,v=>Value.isStrOf x v
def Pl(w:World):Key→Int
 |.inl k=>hashInt k
 |.inr x=>hashStr w x
theorem cX:∀{k:Key}{v:Value},ES k v=true→(∃i t,k=Sum.inl i∧v=Value.int i t)∨(∃x t,k=Sum.inr x∧v=Value.str x t)
 |.inl i,v,h=>by
  obtain⟨t,e⟩:=Value.isInt_shape (k:=i) (v:=v) h
  exact .inl ⟨i,t,rfl,e⟩
 |.inr x,v,h=>by
  obtain⟨t,e⟩:=Value.isStrOf_shape (x:=x) (v:=v) h
  exact .inr ⟨x,t,rfl,e⟩
theorem Iv(a b:Int):decide ((Sum.inl a:Key)=Sum.inl b)=(a==b):=by
 by_cases e:a=b
 ·subst e;simp
 ·have h:¬(Sum.inl a:Key)=Sum.inl b:=fun q=>e (Sum.inl.inj q)
  rw[decide_eq_false h]
  exact(beq_eq_false_iff_ne.mpr e).symm
theorem Iw(a b:Str):decide ((Sum.inr a:Key)=Sum.inr b)=decide (a=b):=by
 by_cases e:a=b
 ·subst e;simp
 ·have h:¬(Sum.inr a:Key)=Sum.inr b:=fun q=>e (Sum.inr.inj q)
  rw[decide_eq_false h,decide_eq_false e]
theorem Iy(a:Int)(b:Str):decide ((Sum.inl a:Key)=Sum.inr b)=false:=decide_eq_false (fun q=>nomatch q)
theorem Iz(a:Str)(b:Int):decide ((Sum.inr a:Key)=Sum.inl b)=false:=decide_eq_false (fun q=>nomatch q)
def sO(prog:Program)(w:World):PySem.KeyKind prog w Key where
 is:=ES
 hash:=Pl w
 inj:=fun v a b ha hb=>by
  rcases cX ha with⟨i,t,rfl,rfl⟩|⟨x,t,rfl,rfl⟩
  ·rcases cX hb with⟨j,u,rfl,e⟩|⟨y,u,rfl,e⟩
   ·injection e with e1 _;rw[e1]
   ·exact nomatch e
  ·rcases cX hb with⟨j,u,rfl,e⟩|⟨y,u,rfl,e⟩
   ·exact nomatch e
   ·injection e with e1 _;rw[e1]
 byValue:=fun k v h=>by
  rcases cX h with⟨i,t,rfl,rfl⟩|⟨x,t,rfl,rfl⟩<;>rfl
 pyHash:=fun hv h=>by
  rcases cX hv with⟨i,t,rfl,rfl⟩|⟨x,t,rfl,rfl⟩
  ·exact wpAny_pyHash_int h
  ·exact wpAny_pyHash_str h
 eqBool:=fun hu hv h=>by
  rcases cX hu with⟨i,t,rfl,rfl⟩|⟨x,t,rfl,rfl⟩
  ·rcases cX hv with⟨j,u,rfl,rfl⟩|⟨y,u,rfl,rfl⟩
   ·rw[Iv]at h;exact wpAny_eqBool_int h
   ·rw[Iy]at h;exact SeqAt.EqAt.int_str i t y u _ _ _ _ h
  ·rcases cX hv with⟨j,u,rfl,rfl⟩|⟨y,u,rfl,rfl⟩
   ·rw[Iz]at h;exact SeqAt.EqAt.str_int x t j u _ _ _ _ h
   ·rw[Iw]at h;exact wpAny_eqBool_str h
 «strs»:=fun k x t v h=>by
  rcases cX h with⟨i,u,rfl,e⟩|⟨y,u,rfl,e⟩
  ·exact nomatch e
  ·injection e with e1 _
   subst e1
   cases v<;>rfl
end L2
namespace L2
open PySem PySem.Spec PyProof.Rows
inductive V where
 |bC|bl(b:Bool)|int(i:Int)|str(x:Str)|sT(b:Array UInt8)|C3(b:UInt64)|ref(a:Addr)|ty(n:String)
 deriving DecidableEq
def RelV:V→Value→Prop
 |.bC,u=>u=Value.none
 |.bl b,u=>u=Value.bool b
 |.int i,u=>∃t,u=Value.int i t
 |.str x,u=>∃t,u=Value.str x t
 |.sT b,u=>∃t,u=Value.bytes b t
 |.C3 b,u=>∃t,u=Value.float b t
 |.ref a,u=>u=Value.ref a
 |.ty n,u=>u=Value.type n
abbrev Vals:List V→List Value→Prop:=Paired RelV
theorem Vals.length{xs:List V}{us:List Value}(r:Vals xs us):xs.length=us.length:=Paired.length r
theorem Vals.get:∀{xs:List V}{us:List Value}{i:Nat}{x:V},Vals xs us→xs[i]? =some x→∃u,us[i]? =some u∧RelV x u
 |_,_,_,_,.nil,e=>by simp at e
 |_,_,0,_,.cons r _,e=>by simp at e;subst e;exact⟨_,rfl,r⟩
 |_,_,i+1,x,.cons _ t,e=>by
  obtain⟨u,h1,h2⟩:=Vals.get (i:=i) (x:=x) t (by simpa using e)
  exact⟨u,by simpa using h1,h2⟩
theorem Vals.set{x:V}{u:Value}(r:RelV x u):∀{xs:List V}{us:List Value} (i:Nat),Vals xs us→Vals (xs.set i x) (us.set i u)
 |_,_,_,.nil=>.nil
 |_,_,0,.cons _ t=>.cons r t
 |_,_,i+1,.cons q t=>.cons q (Vals.set r i t)
theorem Vals.append:∀{xs ys:List V}{us ws:List Value},Vals xs us→Vals ys ws→Vals (xs++ys) (us++ws)
 |_,_,_,_,.nil,s=>s
 |_,_,_,_,.cons r t,s=>.cons r (Vals.append t s)
theorem Vals.take:∀{xs:List V}{us:List Value} (n:Nat),Vals xs us→Vals (xs.take n) (us.take n)
 |_,_,0,_=>.nil
 |_,_,_+1,.nil=>.nil
 |_,_,n+1,.cons r t=>.cons r (Vals.take n t)
theorem Vals.drop:∀{xs:List V}{us:List Value} (n:Nat),Vals xs us→Vals (xs.drop n) (us.drop n)
 |_,_,0,r=>r
 |_,_,_+1,.nil=>.nil
 |_,_,n+1,.cons _ t=>Vals.drop n t
def ET:Option V→Option Value→Prop
 |some v,some u=>RelV v u
 |none,none=>True
 |_,_=>False
def KV{κ:Type}:List (κ×V)→List (κ×Value)→Prop:=Paired fun(p:κ×V) (q:κ×Value)=>p.1=q.1∧RelV p.2 q.2
def kV:Key→V
 |.inl i=>.int i
 |.inr x=>.str x
inductive HO where
 |lst(xs:List V)
 |tup(xs:List V)
 |dK(bq:List (Key×V))|dT(bq:List (List Key×V))|dU(bq:List (List (List Key)×V))
 |set(S:Int→Bool)(n:Nat)
 |ins(C dx:Addr)(fs:List (Str×V))
 |own(x:Addr)
 |xd(fs:List (Str×V))
 |met(f x:Addr)
 |cM(lo hi:Int)
 |fS(o:Obj)(u:HO)
 |wO(ps:Array Value)
 |ext(φ:Heap→Prop)
abbrev Hp:=Addr→Option HO
def upd(H:Hp)(a:Addr)(o:HO):Hp:=fun b=>if b=a then some o else H b
theorem du{H:Hp}{a:Addr}{o:HO}:upd H a o a=some o:=by unfold upd;rw[if_pos rfl]
theorem bG{H:Hp}{a b:Addr}{o:HO}(h:b≠a):upd H a o b=H b:=by unfold upd;rw[if_neg h]
theorem dR{H:Hp}{a b:Addr}{o:HO}(h:H a=some o)(h':H b=none):a≠b:=by
 intro e;subst e;rw[h]at h';cases h'
def yi(H:Hp)(f_:List (List Key))(b:Addr):Prop:=∃as:List Addr,H b=some (.tup (as.map V.ref))∧Paired (fun(ks:List Key) (a:Addr)=>H a=some (.tup (ks.map kV))) f_ as
section
variable(P:Program)(w:World)
def dq(H:Hp)(h:Heap)(a:Addr):HO→Prop
 |.lst xs=>xs.length≤sizeLine∧∃(its:List Value) (n:Nat),Vals xs its∧h.get? a=some { cls:=.type "list",data:=.seq its.toArray n }
 |.tup xs=>xs.length≤sizeLine∧∃its:List Value,Vals xs its∧IsTup h a its.toArray
 |.dK bq=>bq.length≤sizeLine∧(a==sysModules)=false∧∃vs,KV bq vs∧h.DictOf (sO P w) a vs
 |.dT bq=>bq.length≤sizeLine∧(a==sysModules)=false∧∃xs:List (List Key×Addr×Value),
   Paired (fun(p:List Key×V) (q:List Key×Addr×Value)=>p.1=q.1∧H q.2.1=some (.tup (p.1.map kV))∧RelV p.2 q.2.2) bq xs∧
   ∃o es ep,h.get? a=some o∧o.ExactDict∧o.data= .dict es ep∧es.toList=xs.map (entryOfKey (tupleKind (sO P w)))∧(xs.map (·.1)).Nodup
 |.dU bq=>bq.length≤sizeLine∧(a==sysModules)=false∧∃xs:List (List (List Key)×Addr×Value),
   Paired (fun(p:List (List Key)×V) (q:List (List Key)×Addr×Value)=>p.1=q.1∧yi H p.1 q.2.1∧RelV p.2 q.2.2) bq xs∧
   ∃o es ep,h.get? a=some o∧o.ExactDict∧o.data= .dict es ep∧es.toList=xs.map (entryOfKey (Ma (sO P w)))∧(xs.map (·.1)).Nodup
 |.set S n=>h.SetOf (intKind P w) a S n
 |.ins C dx fs=>H dx=some (.own a)∧fs.length≤1000∧dx≠a∧h.get? a=some (PySem.W.instObj C dx)∧
   ∃mA,h.Ns1 dx mA∧(∀f,ET (fs.lookup f) (mA f))∧PySem.Within mA (fs.map (·.1))
 |.own _=>∃o,h.get? a=some o
 |.xd fs=>∃mA,h.Ns1 a mA∧∀f,ET (fs.lookup f) (mA f)
 |.cM lo hi=>∃t u v,h.get? a=some { cls:=.type "range",data:=.fields #[.int lo t,.int hi u,.int 1 v] }
 |.fS o u=>h.get? a=some o∧dq H h a u
 |.wO ps=>h.get? a=some { cls:=.none,data:=.fields ps }
 |.met f x=>h.get? a=some (PySem.W.methodObj (.ref f) (.ref x))
 |.ext φ=>φ h∧(∃o,h.get? a=some o)∧∀h1 h2:Heap,φ h1→(∀o,h1.get? a=some o→h2.get? a=some o)→φ h2
def il(H:Hp)(h:Heap):Prop:=∀a o,H a=some o→dq P w H h a o
end
section
variable{P:Program}{w:World}{H H':Hp}{h h':Heap}{a:Addr}{o:HO}
theorem dq.lt(x:dq P w H h a o):a<h.objs.size:=by
 cases o with
 |lst xs=>obtain⟨_,_,_,_,e⟩:=x;exact Heap.lt_size e
 |tup xs=>obtain⟨_,_,_,p⟩:=x;exact p.lt
 |dK bq=>obtain⟨_,_,_,_,o,_,_,e,_⟩:=x;exact Heap.lt_size e
 |dT bq=>obtain⟨_,_,_,_,o,_,_,e,_⟩:=x;exact Heap.lt_size e
 |dU bq=>obtain⟨_,_,_,_,o,_,_,e,_⟩:=x;exact Heap.lt_size e
 |set S n=>obtain⟨o,_,_,_,e,_⟩:=x;exact Heap.lt_size e
 |ins C dx fs=>obtain⟨_,_,_,e,_⟩:=x;exact Heap.lt_size e
 |own y=>obtain⟨_,e⟩:=x;exact Heap.lt_size e
 |xd fs=>obtain⟨_,⟨_,_,_,e,_⟩,_⟩:=x;exact Heap.lt_size e
 |cM lo hi=>obtain⟨_,_,_,e⟩:=x;exact Heap.lt_size e
 |fS ob u=>obtain⟨e,_⟩:=x;exact Heap.lt_size e
 |wO ps=>exact Heap.lt_size (show h.get? a=some _ from x)
 |met f y=>exact Heap.lt_size (show h.get? a=some _ from x)
 |ext φ=>obtain⟨_,⟨_,e⟩,_⟩:=x;exact Heap.lt_size e
theorem Paired.BW{α β:Type}{F G:α→β→Prop}:∀{l₁:List α}{l₂:List β},Paired F l₁ l₂→(∀a b,F a b→G a b)→Paired G l₁ l₂
 |_,_,.nil,_=>.nil
 |_,_,.cons r t,f=>.cons (f _ _ r) (Paired.BW t f)
theorem yi.more{H H':Hp}{f_:List (List Key)}{b:Addr}(x:yi H f_ b)(ht:∀b xs,H b=some (.tup xs)→H' b=some (.tup xs)):yi H' f_ b:=by
 obtain⟨as,h1,h2⟩:=x
 exact⟨as,ht _ _ h1,Paired.BW h2 fun _ _ z=>ht _ _ z⟩
theorem dq.sU(x:dq P w H h a o)(k:∀b u,(b=a∨H b=some (.own a))→h.get? b=some u→h'.get? b=some u)
  (ho:∀b,H b=some (.own a)→H' b=some (.own a))(ht:∀b xs,H b=some (.tup xs)→H' b=some (.tup xs)):dq P w H' h' a o:=by
 induction o with
 |lst xs=>obtain⟨z,its,n,r,e⟩:=x;exact⟨z,its,n,r,k _ _ (.inl rfl) e⟩
 |tup xs=>obtain⟨z,its,r,ob,e,c⟩:=x;exact⟨z,its,r,ob,k _ _ (.inl rfl) e,c⟩
 |dK bq=>obtain⟨z,y,vs,r,ob,es,ep,e,c⟩:=x;exact⟨z,y,vs,r,ob,es,ep,k _ _ (.inl rfl) e,c⟩
 |dT bq=>
  obtain⟨z,y,xs,r,ob,es,ep,e,c⟩:=x
  exact⟨z,y,xs,Paired.BW r fun p q z=>⟨z.1,ht _ _ z.2.1,z.2.2⟩,ob,es,ep,k _ _ (.inl rfl) e,c⟩
 |dU bq=>
  obtain⟨z,y,xs,r,ob,es,ep,e,c⟩:=x
  exact⟨z,y,xs,Paired.BW r fun p q z=>⟨z.1,z.2.1.more ht,z.2.2⟩,ob,es,ep,k _ _ (.inl rfl) e,c⟩
 |set S n=>obtain⟨ob,es,ep,t,e,c⟩:=x;exact⟨ob,es,ep,t,k _ _ (.inl rfl) e,c⟩
 |ins C dx fs=>
  obtain⟨d,z,ne,e,mA,⟨od,es,ep,e2,c⟩,r⟩:=x
  exact⟨ho _ d,z,ne,k _ _ (.inl rfl) e,mA,⟨od,es,ep,k _ _ (.inr d) e2,c⟩,r⟩
 |own y=>obtain⟨ob,e⟩:=x;exact⟨ob,k _ _ (.inl rfl) e⟩
 |xd fs=>obtain⟨mA,⟨od,es,ep,e,c⟩,r⟩:=x;exact⟨mA,⟨od,es,ep,k _ _ (.inl rfl) e,c⟩,r⟩
 |cM lo hi=>obtain⟨t,u,v,e⟩:=x;exact⟨t,u,v,k _ _ (.inl rfl) e⟩
 |fS ob u ih=>obtain⟨e,q⟩:=x;exact⟨k _ _ (.inl rfl) e,ih q⟩
 |wO ps=>
  have e:h.get? a=some { cls:=.none,data:=.fields ps }:=x
  show h'.get? a=some { cls:=.none,data:=.fields ps }
  exact k a _ (.inl rfl) e
 |met f y=>
  have e:h.get? a=some (PySem.W.methodObj (.ref f) (.ref y)):=x
  show h'.get? a=some (PySem.W.methodObj (.ref f) (.ref y))
  exact k a _ (.inl rfl) e
 |ext φ=>obtain⟨p,⟨o,e⟩,st⟩:=x;exact⟨st _ _ p fun o q=>k _ _ (.inl rfl) q,⟨o,k _ _ (.inl rfl) e⟩,st⟩
theorem il.lt(x:il P w H h)(e:H a=some o):a<h.objs.size:=(x a o e).lt
theorem il.fresh(x:il P w H h)(e:h.objs.size≤a):H a=none:=by
 cases q:H a with
 |none=>rfl
 |some u=>exact absurd (Nat.lt_of_lt_of_le (x.lt q) e) (Nat.lt_irrefl _)
theorem il.kept(x:il P w H h)(k:∀b u,h.get? b=some u→h'.get? b=some u):il P w H h':=fun a o e=>
 (x a o e).sU (fun b u _ q=>k b u q) (fun _ q=>q) fun _ _ q=>q
theorem il.laid(x:il P w H h)(k:∀b u,h.get? b=some u→h'.get? b=some u)(hp:h.objs.size≤a)(new:dq P w (upd H a o) h' a o):il P w (upd H a o) h':=fun b u e=>by
 have hn:=x.fresh hp
 by_cases hb:b=a
 ·subst hb;rw[du]at e;cases e;exact new
 ·rw[bG hb]at e
  exact(x b u e).sU (fun c v _ q=>k c v q) (fun c q=>by rw[bG (dR q hn)];exact q) fun c xs q=>by rw[bG (dR q hn)];exact q
end
def Rd(H:Hp)(a:Addr)(u:HO):Prop:=H a=some u∨∃o,H a=some (.fS o u)
theorem Rd.ok{P:Program}{w:World}{H:Hp}{h:Heap}{a:Addr}{u:HO}(r:Rd H a u)(x:il P w H h):dq P w H h a u:=by
 rcases r with r|⟨o,r⟩
 ·exact x a u r
 ·obtain⟨_,q⟩:=x a _ r
  exact q
def IA:Option HO→Prop
 |some (.lst _)=>True
 |some (.dK _)=>True
 |some (.dT _)=>True
 |some (.dU _)=>True
 |some (.set _ _)=>True
 |some (.ins _ _ _)=>True
 |some (.ext _)=>True
 |_=>False
section
variable{P:Program}{w:World}{H:Hp}{h h':Heap}{x e:Addr}{o':HO}
theorem il.write(ok:il P w H h)(mu:IA (H x))(he:e=x∨H e=some (.own x))(k:∀b u,b≠e→h.get? b=some u→h'.get? b=some u)(C4:∃u,h'.get? e=some u)
  (new:dq P w (upd H x o') h' x o'):il P w (upd H x o') h':=fun b u q=>by
 have Lr:∀c y,H c=some (.own y)→c≠x:=fun c y r z=>by subst z;rw[r]at mu;exact mu
 have Pm:∀c xs,H c=some (.tup xs)→c≠x:=fun c xs r z=>by subst z;rw[r]at mu;exact mu
 by_cases hb:b=x
 ·subst hb;rw[du]at q;cases q;exact new
 ·rw[bG hb]at q
  by_cases AE:b=e
  ·have q':H b=some (.own x):=by
    rcases he with z|z
    ·exact absurd (AE.trans z) hb
    ·rw[AE];exact z
   rw[q]at q';cases q'
   obtain⟨v,hv⟩:=C4
   exact⟨v,by rw[AE];exact hv⟩
  ·refine(ok b u q).sU (fun c v hc r=>k c v ?_ r) (fun c r=>by rw[bG (Lr c b r)];exact r) fun c xs r=>by rw[bG (Pm c xs r)];exact r
   rcases hc with rfl|hc
   ·exact AE
   ·rintro rfl
    rcases he with z|z
    ·exact Lr c b hc z
    ·rw[hc]at z;cases z;exact hb rfl
end
structure Un(fs ex:List Addr)(H H':Hp)(h h':Heap):Prop where
 keep:∀b o,h.get? b=some o→H b=none→b∉fs→b∉ex→h'.get? b=some o
 slot:∀b o,h.get? b=some o→H b=none→b∈fs→b∉ex→∃sl,h'.get? b=some { o with slots:=sl }
 free:∀b o,h.get? b=some o→H b=none→b∉ex→H' b=none
 there:∀b o,h.get? b=some o→b∉ex→∃o',h'.get? b=some o'
 qK:∀b xs,H b=some (.tup xs)→H' b=some (.tup xs)
 kH:∀b o u,H b=some (.fS o u)→H' b=some (.fS o u)
 qL:∀b ps,H b=some (.wO ps)→∃more,H' b=some (.wO (ps++more))
section
variable{fs Sw ex Pn:List Addr}{H H1 H2:Hp}{h h1 h2 h':Heap}{a x e:Addr}{o:HO}
theorem Un.any(u:Un fs ex H H1 h h1){b:Addr}{ob:Obj}(q:h.get? b=some ob)(n:H b=none)(hx:b∉ex):∃sl,h1.get? b=some { ob with slots:=sl }:=by
 by_cases hb:b∈fs
 ·exact u.slot b ob q n hb hx
 ·exact⟨ob.slots,u.keep b ob q n hb hx⟩
theorem Un.kept(k:∀b u,h.get? b=some u→h'.get? b=some u):Un fs ex H H h h':=
 ⟨fun b ob q _ _ _=>k b ob q,fun b ob q _ _ _=>⟨ob.slots,k b ob q⟩,fun _ _ _ n _=>n,fun b ob q _=>⟨ob,k b ob q⟩,fun _ _ q=>q,fun _ _ _ q=>q,fun _ ps q=>⟨#[],by rw[q];simp⟩⟩
theorem Un.refl:Un fs ex H H h h:=Un.kept fun _ _ q=>q
theorem Un.laid(k:∀b u,h.get? b=some u→h'.get? b=some u)(hp:h.objs.size≤a)(hn:H a=none):Un fs ex H (upd H a o) h h' where
 keep:=fun b u q _ _ _=>k b u q
 slot:=fun b u q _ _ _=>⟨u.slots,k b u q⟩
 free:=fun b u q n _=>by rw[bG (Nat.ne_of_lt (Nat.lt_of_lt_of_le (Heap.lt_size q) hp))];exact n
 there:=fun b u q _=>⟨u,k b u q⟩
 qK:=fun b xs q=>by rw[bG (dR q hn)];exact q
 kH:=fun b u xs q=>by rw[bG (dR q hn)];exact q
 qL:=fun b ps q=>⟨#[],by rw[bG (dR q hn),q];simp⟩
theorem Un.write(mu:IA (H x))(he:e=x∨H e=some (.own x))(k:∀b u,b≠e→h.get? b=some u→h'.get? b=some u)(C4:∃u,h'.get? e=some u):Un fs ex H (upd H x o) h h':=by
 have hx:∀b,H b=none→b≠x:=fun b n z=>by subst z;rw[n]at mu;exact mu
 have hb:∀b,H b=none→b≠e:=fun b n z=>by
  subst z
  rcases he with r|r
  ·exact hx b n r
  ·rw[n]at r;cases r
 have hm:∀b u,H b=some u→¬IA (some u)→b≠x:=fun b u q nm z=>by subst z;rw[q]at mu;exact nm mu
 refine⟨fun b u q n _ _=>k b u (hb b n) q,fun b u q n _ _=>⟨u.slots,k b u (hb b n) q⟩,fun b u q n _=>by rw[bG (hx b n)];exact n,fun b u q _=>?_,
  fun b xs q=>by rw[bG (hm b _ q fun z=>z)];exact q,fun b u xs q=>by rw[bG (hm b _ q fun z=>z)];exact q,fun b ps q=>⟨#[],by rw[bG (hm b _ q fun z=>z),q];simp⟩⟩
 by_cases AE:b=e
 ·subst AE;exact C4
 ·exact⟨u,k b u AE q⟩
end
def IB(h:Heap)(H:Hp):List Addr:=(List.range h.objs.size).filter fun a=>(H a).isSome
def om(h:Heap)(H:Hp):Heap:=PySem.W.hideAll h (IB h H)
theorem AF(h:Heap)(H:Hp):(om h H).objs.size=h.objs.size:=PySem.W.hideAll_size _ _
theorem C5{h:Heap}{H:Hp}{b:Addr}{o:Obj}(e:h.get? b=some o)(n:H b=none):(om h H).get? b=some o:=
 PySem.W.hideAll_get _ e fun hm=>by
  have q:(H b).isSome=true:=(List.mem_filter.mp hm).2
  rw[n]at q;simp at q
theorem EU{h:Heap}{H:Hp}{b:Addr}{o:Obj}(e:(om h H).get? b=some o):h.get? b=some o∧H b=none:=by
 have e':h.get? b=some o:=PySem.W.of_hideAll (IB h H) e
 refine⟨e',?_⟩
 cases q:H b with
 |none=>rfl
 |some x=>
  have hm:b∈IB h H:=List.mem_filter.mpr ⟨List.mem_range.mpr (Heap.lt_size e'),by simp[q]⟩
  have z:(om h H).get? b=none:=PySem.W.hideAll_none (IB h H) hm
  rw[z]at e;cases e
def jF(g h:Heap)(L:Addr):List (Addr×Obj):=(List.range h.objs.size).filterMap fun a=>if a=L∨(g.get? a).isSome=true then none else(h.get? a).map fun o=>(a,o)
theorem oo{g h:Heap}{L a:Addr}{o:Obj}(h1:a≠L)(h2:g.get? a=none)(h3:h.get? a=some o):(a,o)∈jF g h L:=
 List.mem_filterMap.mpr ⟨a,List.mem_range.mpr (Heap.lt_size h3),by simp[h1,h2,h3]⟩
theorem rR{g h:Heap}{L:Addr}{p:Addr×Obj}(hp:p∈jF g h L):p.1≠L∧g.get? p.1=none∧h.get? p.1=some p.2:=by
 obtain⟨b,_,e⟩:=List.mem_filterMap.mp hp
 split at e
 ·cases e
 ·rename_i hn
  cases q:h.get? b with
  |none=>rw[q]at e;simp at e
  |some u=>
   rw[q]at e
   simp only[Option.map_some,Option.some.injEq]at e
   subst e
   refine⟨fun z=>hn (.inl z),?_,q⟩
   show g.get? b=none
   cases r:g.get? b with
   |none=>rfl
   |some v=>exact(hn (.inr (by simp[r]))).elim
def rest(g h:Heap)(L d:Addr):List (Addr×Obj):=(jF g h L).filter fun p=>decide (p.1≠d)
theorem C6{g h:Heap}{L:Addr}:News g L h (jF g h L):=fun p hp=>let ⟨a,b,c⟩:=rR hp;⟨c,a,b⟩
end L2
namespace L2
open PySem PySem.Spec PyProof.Rows
structure Mod(K:PySem.W.Frag)(mg:Str→Option Value)(base:Heap):Prop where
 EV:K.In base
 glob:base.Ns mainGlobals mg
 blt:∃mb,base.Ns builtinsNs mb∧∀x:Str,x≠"__name__"→mb x=bootBuiltins x
 nolimit:base.NoLimit
 bmain:∃bm ob,mg "__builtins__" =some (.ref bm)∧bm≠builtinsNs∧base.get? bm=some ob∧ob.cls= .type "module"∧ob.dict=some builtinsNs∧ob.data= .plain
structure Cx where
 prog:Program
 w:World
 K:PySem.W.Frag
 mg:Str→Option Value
 base:Heap
 A:Around
 N:List Str
 bp:Shared
 cJ:Hp
 env:Env
 outer:List Env
 stack:List Env
 ex:List Addr
 fn:Str→Bool
 calm:Bool
 pn:List (Addr×Obj)
 xe:Value→Shared→Prop
def sV(l:List Env):List Addr:=l.filterMap (·.frame)
abbrev Cx.fs(X:Cx):List Addr:=sV X.outer
def AG(sc:Scope)(x:Str):Prop:=sc.names.lookup x=some .local∨sc.names.lookup x=some .cell∨sc.names.lookup x=some .free
def Loc(sc:Scope)(x:Str):Prop:=sc.names.lookup x=some .local∨sc.names.lookup x=some .cell
def Look(env:Env)(h:Heap)(m:Str→Option Value)(x:Str)(u:Value):Prop:=
 (env.kindOf x=some .local∧m x=some u)∨((env.kindOf x=some .cell∨env.kindOf x=some .free)∧∃c,env.cells.lookup x=some c∧h.IsCell c (some u))
structure Cx.Ok(X:Cx):Prop where
 mod:Mod X.K X.mg X.base
 kind:X.env.scope.kind= .function
 glob:X.env.globals=mainGlobals
 blt:X.env.builtins=builtinsNs
 above:X.bp.heap.objs.size≤X.env.locals
 inj:∀x y c,X.env.cells.lookup x=some c→X.env.cells.lookup y=some c→x=y
 has:∀x,(X.env.kindOf x=some .cell∨X.env.kindOf x=some .free)→∃c,X.env.cells.lookup x=some c
 EW:∀x c,X.fn x=true→X.env.cells.lookup x=some c→X.bp.heap.objs.size≤c
 hd:X.calm=true→X.A.handled=none
 frames:X.A.frames=some X.stack
 IC:X.stack=X.outer∨(X.stack=X.env::X.outer∧X.env.frame=some X.env.locals)
 ID:∀b∈X.ex,b≠X.env.locals∧∀x c,X.env.cells.lookup x=some c→c≠b
 bs:∀b o,X.base.get? b=some o→X.bp.heap.get? b=some o∧X.cJ b=none
 wQ:X.base.objs.size≤X.bp.heap.objs.size
 yj:∀b o,X.base.get? b=some o→b∉X.ex
 yk:∀b∈X.ex,b∉X.fs
 kI:X.bp.heap.FunFrames X.base X.outer
 C7:∀b∈X.fs,X.cJ b=none
structure Inv(X:Cx)(pins:List (Addr×Obj))(σ:List (Option V))(H:Hp)(s:Shared):Prop where
 ok:X.Ok
 os:s.os=X.bp.os
 bare:AllBare s.gens
 base:Un X.fs X.ex X.cJ H X.bp.heap s.heap
 loc:∃m,s.heap.Ns X.env.locals m∧∀(i:Nat) (x:Str) (v:V),X.N[i]? =some x→σ[i]? =some (some v)→AG X.env.scope x→∃u,RelV v u∧Look X.env s.heap m x u
 cell:∀x c,X.env.cells.lookup x=some c→∃v,s.heap.IsCell c v
 free:H X.env.locals=none
 jZ:∀x c,X.env.cells.lookup x=some c→H c=none∨(X.fn x=false∧∃o u,H c=some (.fS o u))
 pin:∀p∈X.pn++pins,s.heap.get? p.1=some p.2∧H p.1=none∧p.1≠X.env.locals∧p.1∉X.fs∧∀v,p.2.data≠.cell v
 bV:il X.prog X.w H s.heap
 len:σ.length=X.N.length
section
variable{X:Cx}{pins:List (Addr×Obj)}{σ:List (Option V)}{H H':Hp}{s:Shared}{h':Heap}
theorem Cx.Ok.Po(ok:X.Ok){b:Addr}{o:Obj}(e:X.base.get? b=some o):b∉X.fs:=fun hb=>by
 have:=(ok.kI.mem hb).1
 rw[e]at this;cases this
theorem Inv.bs(I:Inv X pins σ H s):∀b o,X.base.get? b=some o→s.heap.get? b=some o∧H b=none:=fun b o e=>
 ⟨I.base.keep b o (I.ok.bs b o e).1 (I.ok.bs b o e).2 (I.ok.Po e) (I.ok.yj b o e),I.base.free b o (I.ok.bs b o e).1 (I.ok.bs b o e).2 (I.ok.yj b o e)⟩
theorem Inv.bk(I:Inv X pins σ H s):∀b o,X.base.get? b=some o→s.heap.get? b=some o:=fun b o e=>(I.bs b o e).1
theorem Inv.mod(I:Inv X pins σ H s):Mod X.K X.mg X.base:=I.ok.mod
theorem Inv.kJ(I:Inv X pins σ H s):X.K.In s.heap:=I.ok.mod.EV.keeps I.bk
theorem Inv.fr(I:Inv X pins σ H s):∃m,Fr X.base X.env.locals s.heap m:=
 let ⟨m,hn,_⟩:=I.loc
 ⟨m,hn,I.bk,Nat.le_trans I.ok.wQ I.ok.above⟩
theorem Inv.lt(I:Inv X pins σ H s):X.env.locals<s.heap.objs.size:=let ⟨_,hn,_⟩:=I.loc;hn.lt
theorem Inv.sz(I:Inv X pins σ H s):X.bp.heap.objs.size≤s.heap.objs.size:=Nat.le_trans I.ok.above (Nat.le_of_lt I.lt)
theorem Inv.Ls(I:Inv X pins σ H s){a:Addr}(h:s.heap.objs.size≤a):a∉X.fs:=fun hb=>by
 obtain⟨_,o,ho,_⟩:=I.ok.kI.mem hb
 exact absurd (Nat.lt_of_lt_of_le (Heap.lt_size ho) (Nat.le_trans I.sz h)) (Nat.lt_irrefl _)
theorem Inv.AH(I:Inv X pins σ H s):∀x c,X.env.cells.lookup x=some c→c≠X.env.locals:=fun x c e z=>by
 obtain⟨v,o,ho,hd⟩:=I.cell x c e
 obtain⟨m,⟨o',es,ep,mE,Sx,_⟩,_⟩:=I.loc
 rw[z,mE]at ho;cases ho;rw[Sx]at hd;cases hd
theorem Inv.kI(I:Inv X pins σ H s):s.heap.FunFrames X.base X.outer:=by
 have all:∀(l:List Env),(∀b∈sV l,b∈X.fs)→X.bp.heap.FunFrames X.base l→s.heap.FunFrames X.base l:=by
  intro l
  induction l with
  |nil=>intro _ _;trivial
  |cons env r ih=>
   intro hs hl
   obtain⟨hk,⟨L,o,hf,hn,ho,hd⟩,hr⟩:=hl
   have hL:L∈X.fs:=hs L (by unfold sV;rw[List.filterMap_cons,hf];exact List.mem_cons_self)
   obtain⟨sl,e⟩:=I.base.slot L o ho (I.ok.C7 L hL) hL fun z=>I.ok.yk L z hL
   exact⟨hk,⟨L,_,hf,hn,e,hd⟩,ih (fun b hb=>hs b (by unfold sV;rw[List.filterMap_cons,hf];exact List.mem_cons_of_mem _ hb)) hr⟩
 exact all X.outer (fun _ hb=>hb) I.ok.kI
theorem Inv.stack(I:Inv X pins σ H s):s.heap.FunFrames X.base X.stack:=by
 rcases I.ok.IC with e|⟨e,hf⟩
 ·rw[e];exact I.kI
 ·rw[e]
  obtain⟨m,hn,_⟩:=I.loc
  refine .cons (by rw[I.ok.kind];decide) hf hn ?_ I.kI
  exact Heap.get?_none_of_le (Nat.le_trans I.ok.wQ I.ok.above)
theorem Inv.wR(I:Inv X pins σ H s):∀b∈sV X.stack,b∈X.env.locals::X.fs:=fun b hb=>by
 rcases I.ok.IC with e|⟨e,hf⟩
 ·rw[e]at hb;exact List.mem_cons_of_mem _ hb
 ·rw[e]at hb
  unfold sV at hb
  rw[List.filterMap_cons,hf]at hb
  exact hb
theorem Inv.ym(I:Inv X pins σ H s):∀b∈sV X.stack,H b=none:=fun b hb=>by
 rcases List.mem_cons.mp (I.wR b hb)with e|hb
 ·rw[e];exact I.free
 ·obtain⟨_,o,ho,_⟩:=I.ok.kI.mem hb
  exact I.base.free b o ho (I.ok.C7 b hb) fun z=>I.ok.yk b z hb
theorem Inv.step{g':Array GenState}{t':Nat}{d':Drawn}{ch:List Addr}(I:Inv X pins σ H s)
  (vg:∀b∈ch,(b∈X.ex∨X.bp.heap.objs.size≤b)∧b≠X.env.locals∧(∀x c,X.env.cells.lookup x=some c→c≠b)∧∀p∈X.pn++pins,p.1≠b)
  (keep:∀b o,b≠X.env.locals→b∉X.fs→b∉ch→s.heap.get? b=some o→H b=none→h'.get? b=some o)
  (slot:∀b o,b≠X.env.locals→b∈X.fs→b∉ch→s.heap.get? b=some o→H b=none→∃sl,h'.get? b=some { o with slots:=sl })(free:∀b o,b∉ch→s.heap.get? b=some o→H b=none→H' b=none)
  (there:∀b o,b∉ch→s.heap.get? b=some o→∃o',h'.get? b=some o')
  (qK:∀b xs,H b=some (.tup xs)→H' b=some (.tup xs))(kH:∀b o u,H b=some (.fS o u)→H' b=some (.fS o u))(qL:∀b ps,H b=some (.wO ps)→∃more,H' b=some (.wO (ps++more)))
  (ns:∀m,s.heap.Ns X.env.locals m→h'.Ns X.env.locals m)(bV:il X.prog X.w H' h')(hg:AllBare g'):
  Inv X pins σ H' { s with heap:=h',gens:=g',drawn:=d',toks:=t' }:=by
 have Pp:∀b o,X.bp.heap.get? b=some o→b≠X.env.locals:=fun b o e=>Nat.ne_of_lt (Nat.lt_of_lt_of_le (Heap.lt_size e) I.ok.above)
 have IE:∀b o,X.bp.heap.get? b=some o→b∉X.ex→b∉ch:=fun b o e hx hb=>by
  rcases(vg b hb).1 with z|z
  ·exact hx z
  ·exact absurd (Nat.lt_of_lt_of_le (Heap.lt_size e) z) (Nat.lt_irrefl _)
 have cellK:∀x c,X.env.cells.lookup x=some c→∀v,s.heap.IsCell c v→h'.IsCell c v:=by
  rintro x c e v ⟨o,ho,hd⟩
  have EX:c∉ch:=fun z=>(vg c z).2.2.1 x c e rfl
  rcases I.jZ x c e with nn|⟨_,o',u,nn⟩
  ·by_cases hc:c∈X.fs
   ·obtain⟨sl,q⟩:=slot c o (I.AH x c e) hc EX ho nn
    exact⟨_,q,hd⟩
   ·exact⟨o,keep c o (I.AH x c e) hc EX ho nn,hd⟩
  ·have e1:s.heap.get? c=some o':=(I.bV c _ nn).1
   have e2:h'.get? c=some o':=(bV c _ (kH c o' u nn)).1
   rw[ho]at e1;cases e1
   exact⟨o,e2,hd⟩
 refine⟨I.ok,I.os,hg,⟨fun b o e n hb hx=>?_,fun b o e n hb hx=>?_,fun b o e n hx=>?_,fun b o e hx=>?_,fun b xs e=>qK b xs (I.base.qK b xs e),fun b o xs e=>kH b o xs (I.base.kH b o xs e),fun b ps e=>?_⟩,?_,fun x c e=>?_,?_,fun x c e=>?_,fun p hp=>?_,bV,I.len⟩
 ·exact keep b o (Pp b o e) hb (IE b o e hx) (I.base.keep b o e n hb hx) (I.base.free b o e n hx)
 ·obtain⟨sl,e1⟩:=I.base.slot b o e n hb hx
  obtain⟨Sy,e2⟩:=slot b _ (Pp b o e) hb (IE b o e hx) e1 (I.base.free b o e n hx)
  exact⟨Sy,e2⟩
 ·obtain⟨o',e1⟩:=I.base.there b o e hx
  exact free b o' (IE b o e hx) e1 (I.base.free b o e n hx)
 ·obtain⟨o',e1⟩:=I.base.there b o e hx
  exact there b o' (IE b o e hx) e1
 ·obtain⟨m1,e1⟩:=I.base.qL b ps e
  obtain⟨m2,e2⟩:=qL b _ e1
  exact⟨m1++m2,by rw[e2,Array.append_assoc]⟩
 ·obtain⟨m,hn,hl⟩:=I.loc
  refine⟨m,ns m hn,fun i x v e1 e2 e3=>?_⟩
  obtain⟨u,r,l⟩:=hl i x v e1 e2 e3
  refine⟨u,r,?_⟩
  rcases l with l|⟨k,c,e,z⟩
  ·exact .inl l
  ·exact .inr ⟨k,c,e,cellK x c e _ z⟩
 ·obtain⟨v,z⟩:=I.cell x c e
  exact⟨v,cellK x c e v z⟩
 ·obtain⟨m,⟨o,_,_,ho,_⟩,_⟩:=I.loc
  exact free _ o (fun z=>(vg _ z).2.1 rfl) ho I.free
 ·obtain⟨v,o,ho,hd⟩:=I.cell x c e
  rcases I.jZ x c e with nn|⟨hf,o',u,nn⟩
  ·exact .inl (free c o (fun z=>(vg c z).2.2.1 x c e rfl) ho nn)
  ·exact .inr ⟨hf,o',u,kH c o' u nn⟩
 ·obtain⟨e,n,ne,nf,d⟩:=I.pin p hp
  have EX:p.1∉ch:=fun z=>(vg p.1 z).2.2.2 p hp rfl
  exact⟨keep p.1 p.2 ne nf EX e n,free p.1 p.2 EX e n,ne,nf,d⟩
theorem Inv.un{t':Nat}(I:Inv X pins σ H s)(u:Un X.fs [] H H' s.heap h')(bV:il X.prog X.w H' h'):Inv X pins σ H' { s with heap:=h',toks:=t' }:=by
 obtain⟨m,⟨o,es,ep,ho,r⟩,_⟩:=id I.loc
 obtain⟨sl,hL⟩:=u.any ho I.free (by simp)
 exact I.step (g':=s.gens) (d':=s.drawn) (ch:=[]) (fun _ z=>nomatch z) (fun b o _ hb _ e n=>u.keep b o e n hb (by simp)) (fun b o _ hb _ e n=>u.slot b o e n hb (by simp)) (fun b o _ e n=>u.free b o e n (by simp)) (fun b o _ e=>u.there b o e (by simp)) u.qK u.kH u.qL (fun m' hm=>by
  obtain⟨o',Mb,Mc,mE,r'⟩:=hm
  rw[ho]at mE;cases mE
  exact⟨_,Mb,Mc,hL,r'⟩) bV I.bare
theorem Inv.call{g':Array GenState}{t':Nat}{d':Drawn}{ch:List Addr}(I:Inv X pins σ H s)(u:Un (sV X.stack) ch H H' s.heap h')(bV:il X.prog X.w H' h')(hg:AllBare g')
  (vg:∀b∈ch,(b∈X.ex∨X.bp.heap.objs.size≤b)∧b≠X.env.locals∧(∀x c,X.env.cells.lookup x=some c→c≠b)∧∀p∈X.pn++pins,p.1≠b):
  Inv X pins σ H' { s with heap:=h',gens:=g',drawn:=d',toks:=t' }:=by
 obtain⟨m,⟨o,es,ep,ho,r⟩,_⟩:=id I.loc
 obtain⟨sl,hL⟩:=u.any ho I.free fun z=>(vg _ z).2.1 rfl
 exact I.step (ch:=ch) vg (fun b o hL hb hc e n=>u.keep b o e n (fun z=>(List.mem_cons.mp (I.wR b z)).elim hL hb) hc) (fun b o _ _ hc e n=>u.any e n hc) (fun b o hc e n=>u.free b o e n hc) (fun b o hc e=>u.there b o e hc) u.qK u.kH u.qL (fun m' hm=>by
  obtain⟨o',Mb,Mc,mE,r'⟩:=hm
  rw[ho]at mE;cases mE
  exact⟨_,Mb,Mc,hL,r'⟩) bV hg
theorem Inv.turned{t':Nat}{it:Addr}(I:Inv X pins σ H s)(k:∀b o,b≠it→s.heap.get? b=some o→h'.get? b=some o)(hn:H it=none)(hL:it≠X.env.locals)
  (h1:it∈X.ex∨X.bp.heap.objs.size≤it)(h2:∀x c,X.env.cells.lookup x=some c→c≠it)(h3:∀p∈X.pn++pins,p.1≠it):Inv X pins σ H { s with heap:=h',toks:=t' }:=by
 have Pq:∀b u,H b=some u→b≠it:=fun b u e z=>by rw[z,hn]at e;cases e
 refine I.step (g':=s.gens) (d':=s.drawn) (ch:=[it]) (fun b hb=>?_) (fun b o _ _ hc e _=>k b o (fun z=>hc (by simp[z])) e) (fun b o _ _ hc e _=>⟨o.slots,k b o (fun z=>hc (by simp[z])) e⟩) (fun _ _ _ _ n=>n)
  (fun b o hc e=>⟨o,k b o (fun z=>hc (by simp[z])) e⟩) (fun _ _ e=>e) (fun _ _ _ e=>e) (fun b ps e=>⟨#[],by rw[e];simp⟩) (fun m hm=>?_) (fun b u e=>?_) I.bare
 ·have e:b=it:=by simpa using hb
  subst e
  exact⟨h1,hL,h2,h3⟩
 ·obtain⟨o,es,ep,ho,r⟩:=hm
  exact⟨o,es,ep,k _ o (Ne.symm hL) ho,r⟩
 ·refine(I.bV b u e).sU (fun c v hc q=>k c v ?_ q) (fun _ q=>q) fun _ _ q=>q
  rcases hc with z|z
  ·rw[z];exact Pq b u e
  ·exact Pq c _ z
theorem Inv.tok(I:Inv X pins σ H s)(t:Nat):Inv X pins σ H { s with toks:=t }:=I.un (h':=s.heap) (t':=t) Un.refl I.bV
theorem Inv.kept{t':Nat}(I:Inv X pins σ H s)(k:∀b u,s.heap.get? b=some u→h'.get? b=some u):Inv X pins σ H { s with heap:=h',toks:=t' }:=I.un (Un.kept k) (I.bV.kept k)
theorem Inv.laid{a:Addr}{o:HO}{t':Nat}(I:Inv X pins σ H s)(k:∀b u,s.heap.get? b=some u→h'.get? b=some u)(hp:s.heap.objs.size≤a)(new:dq X.prog X.w (upd H a o) h' a o):
  Inv X pins σ (upd H a o) { s with heap:=h',toks:=t' }:=I.un (Un.laid k hp (I.bV.fresh hp)) (I.bV.laid k hp new)
theorem Inv.write{x e:Addr}{o:HO}{t':Nat}(I:Inv X pins σ H s)(mu:IA (H x))(he:e=x∨H e=some (.own x))(k:∀b u,b≠e→s.heap.get? b=some u→h'.get? b=some u)(C4:∃u,h'.get? e=some u)
  (new:dq X.prog X.w (upd H x o) h' x o):Inv X pins σ (upd H x o) { s with heap:=h',toks:=t' }:=I.un (Un.write mu he k C4) (I.bV.write mu he k C4 new)
theorem Inv.sW{EY:List (Addr×Obj)}(I:Inv X pins σ H s)(h:∀p∈EY,s.heap.get? p.1=some p.2∧H p.1=none∧p.1≠X.env.locals∧p.1∉X.fs∧∀v,p.2.data≠.cell v):Inv X EY σ H s:=
 ⟨I.ok,I.os,I.bare,I.base,I.loc,I.cell,I.free,I.jZ,fun p hp=>(List.mem_append.mp hp).elim (fun z=>I.pin p (List.mem_append_left _ z)) (h p),I.bV,I.len⟩
theorem vG{N:List Str}(hN:N.Nodup){i j:Nat}{x:Str}(a:N[i]? =some x)(b:N[j]? =some x):i=j:=by
 obtain⟨h1,e1⟩:=List.getElem?_eq_some_iff.mp a
 obtain⟨h2,e2⟩:=List.getElem?_eq_some_iff.mp b
 exact(List.getElem_inj hN).mp (e1.trans e2.symm)
theorem AI{M:Model}{A:Around}{E:Value→Shared→Prop}{i:Nat}{x:Str}{v:V}{u:Value}{Q:Unit→Shared→Prop}(I:Inv X pins σ H s)(hN:X.N.Nodup)(hi:X.N[i]? =some x)(hx:Loc X.env.scope x)(r:RelV v u)
  (h:∀s',Inv X pins (σ.set i (some v)) H s'→(∃a,Heap.SameBut a s.heap s'.heap∧(a=X.env.locals∨X.env.cells.lookup x=some a))→Q () s')(hf:X.fn x=true∨X.env.scope.names.lookup x=some .local:=by first|exact .inl rfl|exact .inr rfl|assumption):wpAny M A (storeName X.env x u) Q E s:=by
 obtain⟨m,hn,hl⟩:=id I.loc
 have Pr:(X.env.scope.kind==.class||(X.env.scope.kind==.module&&X.env.locals != X.env.globals))=false:=by rw[I.ok.kind];rfl
 have Lu:i<σ.length:=by rw[I.len];exact(List.getElem?_eq_some_iff.mp hi).1
 have AH:=I.AH
 have tracked:∀{a:Addr}{h':Heap},(∃o,s.heap.get? a=some o∧H a=none)→Heap.SameBut a s.heap h'→il X.prog X.w H h':=fun {a h'} ha hs b ob e=>by
  obtain⟨_,_,qb⟩:=ha
  refine(I.bV b ob e).sU (fun c w' hc q=>(hs.2 c ?_).trans q) (fun _ q=>q) fun _ _ q=>q
  rintro rfl
  rcases hc with rfl|hc
  ·rw[qb]at e;cases e
  ·rw[qb]at hc;cases hc
 rcases hx with hk|hk
 ·refine wpAny_storeName_local hk hn (fun h' Md hs=>?_) Pr
  obtain⟨oL,_,_,Sz,_⟩:=id hn
  refine h _ ⟨I.ok,I.os,I.bare,⟨fun b o e n hb hx=>?_,fun b o e n hb hx=>?_,I.base.free,fun b o e hx=>?_,I.base.qK,I.base.kH,I.base.qL⟩,⟨_,Md,fun j y v' e1 e2 e3=>?_⟩,fun y c e=>?_,I.free,I.jZ,fun p hp=>?_,tracked ⟨oL,Sz,I.free⟩ hs,by simpa using I.len⟩ ⟨_,hs,.inl rfl⟩
  ·exact(hs.2 b (Nat.ne_of_lt (Nat.lt_of_lt_of_le (Heap.lt_size e) I.ok.above))).trans (I.base.keep b o e n hb hx)
  ·obtain⟨sl,e1⟩:=I.base.slot b o e n hb hx
   exact⟨sl,(hs.2 b (Nat.ne_of_lt (Nat.lt_of_lt_of_le (Heap.lt_size e) I.ok.above))).trans e1⟩
  ·obtain⟨o',e1⟩:=I.base.there b o e hx
   exact⟨o',(hs.2 b (Nat.ne_of_lt (Nat.lt_of_lt_of_le (Heap.lt_size e) I.ok.above))).trans e1⟩
  ·by_cases hj:j=i
   ·subst hj
    rw[hi]at e1;cases e1
    rw[List.getElem?_set_self Lu]at e2
    cases e2
    exact⟨u,r,.inl ⟨hk,by simp⟩⟩
   ·rw[List.getElem?_set_ne (Ne.symm hj)]at e2
    obtain⟨u',r',q⟩:=hl j y v' e1 e2 e3
    refine⟨u',r',?_⟩
    rcases q with⟨k,e⟩|⟨k,c,e,z⟩
    ·refine .inl ⟨k,?_⟩
     have:y≠x:=fun e=>hj (vG hN e1 (e ▸ hi))
     simp[this,e]
    ·exact .inr ⟨k,c,e,z.sameBut hs (AH y c e)⟩
  ·obtain⟨w',z⟩:=I.cell y c e
   exact⟨w',z.sameBut hs (AH y c e)⟩
  ·obtain⟨e,n,ne,nf,d⟩:=I.pin p hp
   exact⟨(hs.2 p.1 ne).trans e,n,ne,nf,d⟩
 ·have IF:X.fn x=true:=by
   rcases hf with z|z
   ·exact z
   ·rw[z]at hk;cases hk
  obtain⟨c,hc⟩:=I.ok.has x (.inl hk)
  obtain⟨w',z⟩:=I.cell x c hc
  refine wpAny_storeName_cell I.ok.kind hk hc z (fun h' fD hs=>?_)
  obtain⟨oc,C8,Pt⟩:=id z
  refine h { s with heap:=h' } ⟨I.ok,I.os,I.bare,⟨fun b o e n hb hx=>?_,fun b o e n hb hx=>?_,I.base.free,fun b o e hx=>?_,I.base.qK,I.base.kH,I.base.qL⟩,⟨m,hn.sameBut hs (Ne.symm (AH x c hc)),fun j y v' e1 e2 e3=>?_⟩,fun y c' e=>?_,I.free,I.jZ,fun p hp=>?_,tracked ⟨oc,C8,(I.jZ x c hc).resolve_right fun z=>by rw[IF]at z;cases z.1⟩ hs,by simpa using I.len⟩ ⟨c,hs,.inr hc⟩
  ·exact(hs.2 b (Nat.ne_of_lt (Nat.lt_of_lt_of_le (Heap.lt_size e) (I.ok.EW x c IF hc)))).trans (I.base.keep b o e n hb hx)
  ·obtain⟨sl,e1⟩:=I.base.slot b o e n hb hx
   exact⟨sl,(hs.2 b (Nat.ne_of_lt (Nat.lt_of_lt_of_le (Heap.lt_size e) (I.ok.EW x c IF hc)))).trans e1⟩
  ·obtain⟨o',e1⟩:=I.base.there b o e hx
   exact⟨o',(hs.2 b (Nat.ne_of_lt (Nat.lt_of_lt_of_le (Heap.lt_size e) (I.ok.EW x c IF hc)))).trans e1⟩
  ·by_cases hj:j=i
   ·subst hj
    rw[hi]at e1;cases e1
    rw[List.getElem?_set_self Lu]at e2
    cases e2
    exact⟨u,r,.inr ⟨.inl hk,c,hc,fD⟩⟩
   ·rw[List.getElem?_set_ne (Ne.symm hj)]at e2
    obtain⟨u',r',q⟩:=hl j y v' e1 e2 e3
    refine⟨u',r',?_⟩
    rcases q with q|⟨k,c',e,z'⟩
    ·exact .inl q
    ·refine .inr ⟨k,c',e,z'.sameBut hs ?_⟩
     rintro rfl
     exact hj (vG hN e1 (I.ok.inj _ _ _ e hc ▸ hi))
  ·by_cases Pu:c'=c
   ·subst Pu;exact⟨_,fD⟩
   ·obtain⟨w2,z2⟩:=I.cell y c' e
    exact⟨w2,z2.sameBut hs Pu⟩
  ·obtain⟨e,n,ne,nf,d⟩:=I.pin p hp
   refine⟨(hs.2 p.1 ?_).trans e,n,ne,nf,d⟩
   intro q
   rw[q,C8]at e
   have q':oc=p.2:=Option.some.inj e
   exact d w' (by rw[←q'];exact Pt)
theorem gF{M:Model}{A:Around}{E:Value→Shared→Prop}{i:Nat}{x:Str}{v:V}{u:Value}{Q:Unit→Shared→Prop}(I:Inv X pins σ H s)(hN:X.N.Nodup)(hi:X.N[i]? =some x)(hx:Loc X.env.scope x)(r:RelV v u)
  (h:∀s',Inv X pins (σ.set i (some v)) H s'→Q () s')(hf:X.fn x=true∨X.env.scope.names.lookup x=some .local:=by first|exact .inl rfl|exact .inr rfl|assumption):wpAny M A (storeName X.env x u) Q E s:=
 AI I hN hi hx r (fun s' I' _=>h s' I') hf
theorem Inv.Me{s':Shared}{ch:List Addr}(I:Inv X pins σ H s)(ho:s'.os=s.os)(u:Un (sV X.stack) ch H H' s.heap s'.heap)(bV:il X.prog X.w H' s'.heap)(hg:AllBare s'.gens)
  (vg:∀b∈ch,(b∈X.ex∨X.bp.heap.objs.size≤b)∧b≠X.env.locals∧(∀x c,X.env.cells.lookup x=some c→c≠b)∧∀p∈X.pn++pins,p.1≠b):Inv X pins σ H' s':=by
 obtain⟨h',g',d',t',o'⟩:=s'
 have e:o'=s.os:=ho
 subst e
 exact I.call (g':=g') (t':=t') (d':=d') u bV hg vg
end
abbrev XK:=Value→Option Addr→Hp→Prop
abbrev St:=List (Option V)
abbrev VK:=V→Hp→Prop
abbrev TE:=St→Hp→VK→Prop
abbrev TT:=St→Hp→(Bool→Hp→Prop)→Prop
abbrev TA:=St→Hp→(List V→Hp→Prop)→Prop
structure Ends where
 nx:St→Hp→Prop
 rt:VK
 bk:St→Hp→Prop:=fun _ _=>False
 ct:St→Hp→Prop:=fun _ _=>False
abbrev TS:=Ends→St→Hp→Prop
def EP(X:Cx)(pins:List (Addr×Obj))(σ:St)(Q:VK)(u:Value)(s':Shared):Prop:=∃v H',Inv X pins σ H' s'∧RelV v u∧Q v H'
def TP(X:Cx)(pins:List (Addr×Obj))(σ:St)(Q:Bool→Hp→Prop)(b:Bool)(s':Shared):Prop:=∃H',Inv X pins σ H' s'∧Q b H'
def AP(X:Cx)(pins:List (Addr×Obj))(σ:St)(Q:List V→Hp→Prop)(us:List Value)(s':Shared):Prop:=∃vs H',Inv X pins σ H' s'∧Vals vs us∧Q vs H'
def SP(X:Cx)(pins:List (Addr×Obj))(D:Ends)(f:Flow)(s':Shared):Prop:=
 match f with
 |.next=>∃σ' H',Inv X pins σ' H' s'∧D.nx σ' H'
 |.brk=>∃σ' H',Inv X pins σ' H' s'∧D.bk σ' H'
 |.cont=>∃σ' H',Inv X pins σ' H' s'∧D.ct σ' H'
 |.ret u=>∃v σ' H',Inv X pins σ' H' s'∧RelV v u∧D.rt v H'
namespace Zu
set_option allowUnsafeReducibility true in
@[scoped irreducible] def _root_.L2.PE(X:Cx)(e:Expr)(t:TE):Prop:=
 ∀(pins:List (Addr×Obj)) (s:Shared) (σ:St) (H:Hp) (Q:VK),Inv X pins σ H s→t σ H Q→wpAny (model X.prog X.w) X.A (eval e X.env) (EP X pins σ Q) X.xe s
end Zu
namespace Zu
set_option allowUnsafeReducibility true in
@[scoped irreducible] def _root_.L2.PT(X:Cx)(e:Expr)(t:TT):Prop:=
 ∀(pins:List (Addr×Obj)) (s:Shared) (σ:St) (H:Hp) (Q:Bool→Hp→Prop),Inv X pins σ H s→t σ H Q→wpAny (model X.prog X.w) X.A (isTrue e X.env (eval e X.env)) (TP X pins σ Q) X.xe s
end Zu
namespace Zu
set_option allowUnsafeReducibility true in
@[scoped irreducible] def _root_.L2.PW(X:Cx)(e:Expr)(t:TT):Prop:=
 ∀(whole:Sem Value) (pins:List (Addr×Obj)) (s:Shared) (σ:St) (H:Hp) (Q:Bool→Hp→Prop),Inv X pins σ H s→t σ H Q→wpAny (model X.prog X.w) X.A (isTrue e X.env whole) (TP X pins σ Q) X.xe s
end Zu
theorem PW.pt{X:Cx}{e:Expr}{t:TT}(h:PW X e t):PT X e t:=h _
namespace Zu
set_option allowUnsafeReducibility true in
@[scoped irreducible] def _root_.L2.PA(X:Cx)(es:List Expr)(t:TA):Prop:=
 ∀(pos:Pos) (pins:List (Addr×Obj)) (s:Shared) (σ:St) (H:Hp) (Q:List V→Hp→Prop),Inv X pins σ H s→t σ H Q→wpAny (model X.prog X.w) X.A (spliced (backTo pos (starEach es X.env))) (AP X pins σ Q) X.xe s
end Zu
namespace Zu
set_option allowUnsafeReducibility true in
@[scoped irreducible] def _root_.L2.PS(X:Cx)(st:Stmt)(t:TS):Prop:=
 ∀(pins:List (Addr×Obj)) (s:Shared) (σ:St) (H:Hp) (D:Ends),Inv X pins σ H s→t D σ H→wpAny (model X.prog X.w) X.A (exec st X.env) (SP X pins D) X.xe s
end Zu
namespace Zu
set_option allowUnsafeReducibility true in
@[scoped irreducible] def _root_.L2.kr(X:Cx)(st:List Stmt)(t:TS):Prop:=
 ∀(pins:List (Addr×Obj)) (s:Shared) (σ:St) (H:Hp) (D:Ends),Inv X pins σ H s→t D σ H→wpAny (model X.prog X.w) X.A (execs st X.env) (SP X pins D) X.xe s
end Zu
theorem bK{α:Type}{t:Sem α}{Q Q':α→Shared→Prop}{M:Model}{A:Around}{E:Value→Shared→Prop}{s:Shared}(h:wpAny M A t Q E s)(hQ:∀a s,Q a s→Q' a s):wpAny M A t Q' E s:=wpAny_mono h hQ fun _ _ x=>x
end L2
namespace L2
open PySem PySem.Spec PyProof.Rows
section
variable{X:Cx}
theorem bin{a b:Expr}{ta tb:TE}(ha:PE X a ta)(hb:PE X b tb){pins:List (Addr×Obj)}{s:Shared}{σ:St}{H:Hp}{R:V→V→Hp→Prop}(I:Inv X pins σ H s)(h:ta σ H fun x H1=>tb σ H1 fun y H2=>R x y H2)
  {α:Type}{Q:α→Shared→Prop}{f:Value→Value→Sem α}
  (hf:∀v u s2 x y H2,Inv X pins σ H2 s2→RelV x v→RelV y u→R x y H2→wpAny (model X.prog X.w) X.A (f v u) Q X.xe s2):
  wpAny (model X.prog X.w) X.A (eval a X.env) (fun v bB=>wpAny (model X.prog X.w) X.A (eval b X.env) (fun u i5=>wpAny (model X.prog X.w) X.A (f v u) Q X.xe i5) X.xe bB) X.xe s:=by
 refine bK (ha pins s σ H _ I h) fun v s1 bh=>?_
 obtain⟨x,H1,I1,r1,q1⟩:=bh
 refine bK (hb pins s1 σ H1 _ I1 q1) fun u s2 bh=>?_
 obtain⟨y,H2,I2,r2,q2⟩:=bh
 exact hf v u s2 x y H2 I2 r1 r2 q2
def EZ(i:Nat):TE:=fun σ H Q=>∃v,σ[i]? =some (some v)∧Q v H
def tC(v:V):TE:=fun _ H Q=>Q v H
theorem IG{i:Nat}{x:Str}{pos:Pos}(hN:X.N[i]? =some x)(hv:AG X.env.scope x)(hd:(x==("__debug__":Str))=false:=by decide)(jt:(x==("__classdict__":Str))=false:=by decide):PE X (.Name x pos) (EZ i):=by
 intro pins s σ H Q I h
 obtain⟨v,e,h⟩:=h
 obtain⟨m,hn,hl⟩:=I.loc
 obtain⟨u,r,l⟩:=hl i x v hN e hv
 have fin:EP X pins σ Q u s:=⟨v,H,I,r,h⟩
 rcases l with⟨hk,hm⟩|⟨hk,c,hc,wU⟩
 ·exact wpAny_Name (wpAny_loadName_local I.ok.kind hk hn hm fin) hd
 ·rcases hk with hk|hk
  ·exact wpAny_Name (wpAny_loadName_cell I.ok.kind hk hc wU fin) hd
  ·exact wpAny_Name (wpAny_loadName_free I.ok.kind hk hc wU fin jt) hd
theorem BX{i j pos}:PE X (.Constant (.int i) j pos) (tC (.int i)):=fun _ _ _ H _ I h=>wpAny_Constant_int ⟨.int i,H,I.tok _,⟨_,rfl⟩,h⟩
theorem Mf{b j pos}:PE X (.Constant (.bool b) j pos) (tC (.bl b)):=fun _ _ _ H _ I h=>Constant_bool ⟨.bl b,H,I,rfl,h⟩
theorem IH{j pos}:PE X (.Constant .none j pos) (tC .bC):=fun _ _ _ H _ I h=>Constant_none ⟨.bC,H,I,rfl,h⟩
theorem II{x j pos}:PE X (.Constant (.str x) j pos) (tC (.str x)):=fun _ _ _ H _ I h=>Calls.Constant_str ⟨.str x,H,I.tok _,⟨_,rfl⟩,h⟩
def Gl(X:Cx)(x:Str):Prop:=X.env.kindOf x=some .globalImplicit
theorem E3{E:Value→Shared→Prop}{pins:List (Addr×Obj)}{s:Shared}{σ:St}{H:Hp}{x:Str}{u:Value}{pos:Pos}{Q:Value→Shared→Prop}(I:Inv X pins σ H s)(hg:Gl X x)(hm:X.mg x=some u)(h:Q u s)
  (hd:(x==("__debug__":Str))=false:=by decide):wpAny (model X.prog X.w) X.A (eval (.Name x pos) X.env) Q E s:=
 Calls.Name_function_global I.ok.kind hg (Calls.loadGlobal_global (by rw[I.ok.glob];exact I.mod.glob.keeps I.bk) hm h) hd
theorem gc{E:Value→Shared→Prop}{pins:List (Addr×Obj)}{s:Shared}{σ:St}{H:Hp}{x:Str}{u:Value}{pos:Pos}{Q:Value→Shared→Prop}(I:Inv X pins σ H s)(hg:Gl X x)(hm:X.mg x=none)(hv:bootBuiltins x=some u)(h:Q u s)
  (hn:x≠"__name__":=by decide)(hd:(x==("__debug__":Str))=false:=by decide):wpAny (model X.prog X.w) X.A (eval (.Name x pos) X.env) Q E s:=by
 obtain⟨mb,h1,h2⟩:=I.mod.blt
 exact Calls.Name_function_global I.ok.kind hg (Calls.loadGlobal_builtin (by rw[I.ok.glob];exact I.mod.glob.keeps I.bk) hm (by rw[I.ok.blt];exact h1.keeps I.bk) ((h2 x hn).trans hv) h) hd
theorem E4{x:Str}{v:V}{u:Value}{pos:Pos}(hg:Gl X x)(hm:X.mg x=none)(hv:bootBuiltins x=some u)(r:RelV v u)(hn:x≠"__name__":=by decide)(hd:(x==("__debug__":Str))=false:=by decide):PE X (.Name x pos) (tC v):=
 fun _ _ _ H _ I h=>gc I hg hm hv ⟨v,H,I,r,h⟩ hn hd
variable{a b:Expr}{ta tb:TE}{pos:Pos}
def PC(X:Cx)(op:CmpOp)(a b:Expr)(t:TE):Prop:=
 ∀(pins:List (Addr×Obj)) (s:Shared) (σ:St) (H:Hp) (Q:VK),Inv X pins σ H s→t σ H Q→
  wpAny (model X.prog X.w) X.A (eval a X.env) (fun v bB=>wpAny (model X.prog X.w) X.A (eval b X.env) (fun u i5=>wpAny (model X.prog X.w) X.A (compareOp op v u) (EP X pins σ Q) X.xe i5) X.xe bB) X.xe s
theorem C9(b:Expr){op:CmpOp}(h:op≠.In)(h2:op≠.NotIn):behindInMarks op b=false:=by
 have e1:(op==CmpOp.In)=false:=by cases op<;>first|rfl|exact absurd rfl h
 have e2:(op==CmpOp.NotIn)=false:=by cases op<;>first|rfl|exact absurd rfl h2
 cases b<;>simp[behindInMarks,e1,e2]
def tB(t:TE):TT:=fun σ H Q=>t σ H fun x H1=>∃c,x= .bl c∧Q c H1
theorem So{op:CmpOp}{t:TE}(h:PC X op a b t)(h1:behindInMarks op b=false:=by first|exact C9 _ (by decide) (by decide)|rfl):PT X (.Compare a [op] [b] pos) (tB t):=by
 intro pins s σ H Q I hw
 refine wpAny_isTrue_Compare1 (bK (h pins s σ H _ I hw) fun v s1 h1=>bK h1 fun u s2 h2=>bK h2 fun c s3 bh=>?_) h1
 obtain⟨x,H1,I1,r1,q1⟩:=bh
 obtain⟨d,rfl,q⟩:=q1
 cases r1
 exact wpAny_truthy_bool ⟨H1,I1,q⟩
theorem IJ{e:Expr}{t:TE}(h:PE X e t)(he:∀whole,isTrue e X.env whole=(do let v ←whole;standAt e.pos;holding [v] (truthy v)):=by intro _;rfl):PT X e (tB t):=by
 intro pins s σ H Q I hw
 refine isTrue_plain (bK (h pins s σ H _ I hw) fun v s1 bh=>?_) (he _)
 obtain⟨x,H1,I1,r1,q1⟩:=bh
 obtain⟨d,rfl,q⟩:=q1
 cases r1
 exact wpAny_truthy_bool ⟨H1,I1,q⟩
variable{tA IK:TT}{rest:List Expr}
def ot(t u:TT):TT:=fun σ H Q=>t σ H fun c H1=>if c=true then u σ H1 Q else Q false H1
def ku(t u:TT):TT:=fun σ H Q=>t σ H fun c H1=>if c=true then Q true H1 else u σ H1 Q
def km(t:TT):TT:=fun σ H Q=>t σ H fun c H1=>Q (!c) H1
theorem E5(ha:PT X a tA):PW X (.BoolOp .And [a] pos) tA:=by
 intro wh pins s σ H Q I h
 refine isTrue_and (bK (ha pins s σ H Q I h) fun c s1 e=>?_)
 cases c with
 |true=>exact isTrue_and_nil e
 |false=>exact e
theorem IL(ha:PT X a tA):PW X (.BoolOp .Or [a] pos) tA:=by
 intro wh pins s σ H Q I h
 refine isTrue_or (bK (ha pins s σ H Q I h) fun c s1 e=>?_)
 cases c with
 |false=>exact isTrue_or_nil e
 |true=>exact e
theorem IM(ha:PT X a tA)(hb:PW X (.BoolOp .And (b::rest) pos) IK):PW X (.BoolOp .And (a::b::rest) pos) (ot tA IK):=by
 intro wh pins s σ H Q I h
 refine isTrue_and (bK (ha pins s σ H _ I h) fun c s1 bh=>?_)
 obtain⟨H1,I1,q1⟩:=bh
 cases c with
 |true=>exact hb wh pins s1 σ H1 Q I1 q1
 |false=>exact⟨H1,I1,q1⟩
theorem Mg(ha:PT X a tA)(hb:PW X (.BoolOp .Or (b::rest) pos) IK):PW X (.BoolOp .Or (a::b::rest) pos) (ku tA IK):=by
 intro wh pins s σ H Q I h
 refine isTrue_or (bK (ha pins s σ H _ I h) fun c s1 bh=>?_)
 obtain⟨H1,I1,q1⟩:=bh
 cases c with
 |true=>exact⟨H1,I1,q1⟩
 |false=>exact hb wh pins s1 σ H1 Q I1 q1
theorem IP(ha:PT X a tA):PT X (.UnaryOp .Not a pos) (km tA):=by
 intro pins s σ H Q I h
 exact isTrue_not (ha pins s σ H (fun c H1=>Q (!c) H1) I h)
def Mh(ta tb:TE):TE:=fun σ H Q=>ta σ H fun x H1=>∃c,x= .bl c∧if c=true then tb σ H1 Q else Q (.bl false) H1
theorem IS{op}{t:TE}(h:PE X a t):PE X (.BoolOp op [a] pos) t:=fun pins s σ H Q I hw=>BoolOp_one (h pins s σ H Q I hw)
theorem IT(ha:PE X a ta)(hb:PE X (.BoolOp .And (b::rest) pos) tb):PE X (.BoolOp .And (a::b::rest) pos) (Mh ta tb):=by
 intro pins s σ H Q I h
 refine BoolOp_and (bK (ha pins s σ H _ I h) fun v s1 bh=>?_)
 obtain⟨x,H1,I1,r1,q1⟩:=bh
 obtain⟨c,rfl,q1⟩:=q1
 cases r1
 refine wpAny_truthy_bool ?_
 cases c with
 |true=>exact hb pins s1 σ H1 Q I1 q1
 |false=>exact⟨.bl false,H1,I1,rfl,q1⟩
def SA(t:TT)(ta tb:TE):TE:=fun σ H Q=>t σ H fun c H1=>if c=true then ta σ H1 Q else tb σ H1 Q
theorem C_{c:Expr}(hc:PT X c tA)(ha:PE X a ta)(hb:PE X b tb):PE X (.IfExp c a b pos) (SA tA ta tb):=by
 intro pins s σ H Q I h
 refine wpAny_IfExp (bK (hc pins s σ H _ I h) fun d s1 bh=>?_)
 obtain⟨H1,I1,q1⟩:=bh
 cases d with
 |true=>exact ha pins s1 σ H1 Q I1 q1
 |false=>exact hb pins s1 σ H1 Q I1 q1
end
end L2
namespace L2
open PySem PySem.Spec PyProof.Rows
def dI(K:PySem.W.Frag)(H:Hp)(a:Addr)(xs:List V):Prop:=
 Rd H a (.lst xs)∨
  ∃(o:Obj) (its:Array Value) (n:Nat),K.lookup a=some o∧o.cls= .type "list"∧o.dict=none∧o.data= .seq its n∧its.size≤sizeLine∧Vals xs its.toList
def bJ(K:PySem.W.Frag)(H:Hp)(a:Addr)(xs:List V):Prop:=
 Rd H a (.tup xs)∨
  ∃(o:Obj) (its:Array Value) (n:Nat),K.lookup a=some o∧o.cls= .type "tuple"∧o.data= .seq its n∧its.size≤sizeLine∧Vals xs its.toList
def Pw:Value→Option V
 |.none=>some .bC
 |.bool b=>some (.bl b)
 |.int i _=>some (.int i)
 |.str x _=>some (.str x)
 |.bytes b _=>some (.sT b)
 |.float b _=>some (.C3 b)
 |.ref a=>some (.ref a)
 |.type n=>some (.ty n)
 |_=>none
theorem RelV.abs{x:V}{u:Value}(r:RelV x u):Pw u=some x:=by
 cases x with
 |bC=>cases r;rfl
 |bl _=>cases r;rfl
 |int _=>obtain⟨t,rfl⟩:=r;rfl
 |str _=>obtain⟨t,rfl⟩:=r;rfl
 |sT _=>obtain⟨t,rfl⟩:=r;rfl
 |C3 _=>obtain⟨t,rfl⟩:=r;rfl
 |ref _=>cases r;rfl
 |ty _=>cases r;rfl
theorem RelV.inj{x y:V}{u:Value}(r:RelV x u)(q:RelV y u):x=y:=Option.some.inj (r.abs.symm.trans q.abs)
theorem Vals.inj:∀{xs ys:List V}{us:List Value},Vals xs us→Vals ys us→xs=ys
 |_,_,_,.nil,.nil=>rfl
 |_,_,_,.cons r t,.cons r' t'=>by rw[r.inj r',Vals.inj t t']
section
variable{X:Cx}{pins:List (Addr×Obj)}{σ:St}{H:Hp}{s:Shared}{a:Addr}{xs ys:List V}
theorem dI.of{K:PySem.W.Frag}(h:H a=some (.lst xs)):dI K H a xs:=.inl (.inl h)
theorem bJ.of{K:PySem.W.Frag}(h:H a=some (.tup xs)):bJ K H a xs:=.inl (.inl h)
theorem Inv.list(I:Inv X pins σ H s)(h:dI X.K H a xs):∃its:List Value,Vals xs its∧PlainL s.heap a its.toArray∧xs.length≤sizeLine:=by
 rcases h with h|⟨o,its,n,hk,hc,hd,hs,hz,r⟩
 ·obtain⟨z,its,n,r,e⟩:=h.ok I.bV
  exact⟨its,r,⟨_,n,e,rfl,rfl,rfl⟩,z⟩
 ·refine⟨its.toList,r,⟨o,n,I.kJ a o hk,hc,hd,by simpa using hs⟩,?_⟩
  have e:=r.length
  simp only[Array.length_toList]at e
  omega
theorem Inv.tuple(I:Inv X pins σ H s)(h:bJ X.K H a xs):∃its:List Value,Vals xs its∧IsTup s.heap a its.toArray∧xs.length≤sizeLine:=by
 rcases h with h|⟨o,its,n,hk,hc,hs,hz,r⟩
 ·obtain⟨z,its,r,p⟩:=h.ok I.bV
  exact⟨its,r,p,z⟩
 ·refine⟨its.toList,r,⟨o,I.kJ a o hk,hc,n,by simpa using hs⟩,?_⟩
  have e:=r.length
  simp only[Array.length_toList]at e
  omega
theorem Inv.Dc(I:Inv X pins σ H s)(h:dI X.K H a xs)(h':dI X.K H a ys):xs=ys:=by
 obtain⟨its,r,⟨o,n,e,_,_,d⟩,_⟩:=I.list h
 obtain⟨its',r',⟨o',n',e',_,_,d'⟩,_⟩:=I.list h'
 rw[e]at e';cases e'
 rw[d]at d'
 injection d' with d1 _
 have:its=its':=by simpa using congrArg Array.toList d1
 subst this
 exact r.inj r'
theorem Inv.AJ(I:Inv X pins σ H s)(h:bJ X.K H a xs)(h':bJ X.K H a ys):xs=ys:=by
 obtain⟨its,r,⟨o,e,_,n,d⟩,_⟩:=I.tuple h
 obtain⟨its',r',⟨o',e',_,n',d'⟩,_⟩:=I.tuple h'
 rw[e]at e';cases e'
 rw[d]at d'
 injection d' with d1 _
 have:its=its':=by simpa using congrArg Array.toList d1
 subst this
 exact r.inj r'
end
abbrev Cx.mM(X:Cx)(E:Value→Shared→Prop):Cx:={ X with xe:=E }
abbrev Cx.yn(X:Cx):Cx:=X.mM fun _ _=>False
theorem Cx.Ok.mM{X:Cx}(ok:X.Ok)(E:Value→Shared→Prop):(X.mM E).Ok:=
 ⟨ok.mod,ok.kind,ok.glob,ok.blt,ok.above,ok.inj,ok.has,ok.EW,ok.hd,ok.frames,ok.IC,ok.ID,ok.bs,ok.wQ,ok.yj,ok.yk,ok.kI,ok.C7⟩
theorem Cx.Ok.i6{X:Cx}{E:Value→Shared→Prop}(ok:(X.mM E).Ok):X.Ok:=
 ⟨ok.mod,ok.kind,ok.glob,ok.blt,ok.above,ok.inj,ok.has,ok.EW,ok.hd,ok.frames,ok.IC,ok.ID,ok.bs,ok.wQ,ok.yj,ok.yk,ok.kI,ok.C7⟩
section
variable{X:Cx}{pins:List (Addr×Obj)}{σ:St}{H:Hp}{s:Shared}{E:Value→Shared→Prop}
theorem Inv.mM(I:Inv X pins σ H s)(E:Value→Shared→Prop):Inv (X.mM E) pins σ H s:=⟨I.ok.mM E,I.os,I.bare,I.base,I.loc,I.cell,I.free,I.jZ,I.pin,I.bV,I.len⟩
theorem Inv.i6(I:Inv (X.mM E) pins σ H s):Inv X pins σ H s:=⟨I.ok.i6,I.os,I.bare,I.base,I.loc,I.cell,I.free,I.jZ,I.pin,I.bV,I.len⟩
theorem SP.i6{D:Ends}{f:Flow}{s':Shared}(h:SP (X.mM E) pins D f s'):SP X pins D f s':=by
 cases f with
 |next=>obtain⟨σ',H',I,q⟩:=h;exact⟨σ',H',I.i6,q⟩
 |brk=>obtain⟨σ',H',I,q⟩:=h;exact⟨σ',H',I.i6,q⟩
 |cont=>obtain⟨σ',H',I,q⟩:=h;exact⟨σ',H',I.i6,q⟩
 |ret u=>obtain⟨v,σ',H',I,r,q⟩:=h;exact⟨v,σ',H',I.i6,r,q⟩
theorem kr.yn{st:List Stmt}{t:TS}(h:kr X.yn st t):kr X st t:=fun pins s σ H D I hw=>
 wpAny_mono (h pins s σ H D (I.mM _) hw) (fun _ _ q=>q.i6) fun _ _ z=>False.elim z
end
section
variable{X:Cx}{st:Stmt}{rest:List Stmt}{t u:TS}{e:Expr}{te:TE}{pos:Pos}
def Mj:TS:=fun D σ H=>D.nx σ H
def Px(t u:TS):TS:=fun D σ H=>t { D with nx:=u D } σ H
theorem E6:kr X [] Mj:=fun _ _ σ H _ I h=>wpAny_execs_nil ⟨σ,H,I,h⟩
theorem Dd(h1:PS X st t)(h2:kr X rest u):kr X (st::rest) (Px t u):=by
 intro pins s σ H D I h
 refine wpAny_execs_cons (bK (h1 pins s σ H { D with nx:=u D } I h) fun f s1 q=>?_)
 cases f with
 |next=>
  obtain⟨σ',H',I',q⟩:=q
  exact h2 pins s1 σ' H' D I' q
 |ret v=>exact q
 |brk=>exact q
 |cont=>exact q
theorem E7(h1:PS X st t):kr X [st] t:=by
 intro pins s σ H D I h
 refine wpAny_execs_cons (bK (h1 pins s σ H D I h) fun f s1 q=>?_)
 cases f with
 |next=>exact wpAny_execs_nil q
 |ret v=>exact q
 |brk=>exact q
 |cont=>exact q
theorem Inv.quiet{pins:List (Addr×Obj)}{σ:St}{H:Hp}{s:Shared}(I:Inv X pins σ H s):interactive X.env=false:=by simp[interactive,I.ok.kind]
def Mk(te:TE):TS:=fun D σ H=>te σ H fun _ H1=>D.nx σ H1
theorem E8(he:PE X e te)(hs:swapsWith e none pos.line X.env=pure false:=by rfl):PS X (.Expr e pos) (Mk te):=by
 intro pins s σ H D I h
 exact wpAny_Expr_any (bK (he pins s σ H _ I h) fun v s1 ⟨x,H1,I1,r1,q1⟩=>⟨σ,H1,I1,q1⟩) I.quiet hs
def Py(te:TE):TS:=fun D σ H=>te σ H D.rt
theorem IU(he:PE X e te):PS X (.Return (some e) pos) (Py te):=by
 intro pins s σ H D I h
 exact wpAny_Return_some (bK (he pins s σ H _ I h) fun v s1 ⟨x,H1,I1,r1,q1⟩=>⟨x,σ,H1,I1,r1,q1⟩)
def Pz(c:TT)(t u:TS):TS:=fun D σ H=>c σ H fun b H1=>if b=true then t D σ H1 else u D σ H1
theorem Ml{c:Expr}{a b:List Stmt}{tc:TT}(hc:PT X c tc)(ha:kr X a t)(hb:kr X b u):PS X (.If c a b pos) (Pz tc t u):=by
 intro pins s σ H D I h
 refine wpAny_If (bK (hc pins s σ H _ I h) fun d s1 bh=>?_)
 obtain⟨H1,I1,q1⟩:=bh
 cases d with
 |true=>exact ha pins s1 σ H1 D I1 q1
 |false=>exact hb pins s1 σ H1 D I1 q1
end
abbrev TG:=V→St→Hp→(St→Hp→Prop)→Prop
abbrev sX:=List V→St→Hp→(St→Hp→Prop)→Prop
namespace Zu
set_option allowUnsafeReducibility true in
@[scoped irreducible] def _root_.L2.PG(X:Cx)(target:Expr)(t:TG):Prop:=
 ∀(pins:List (Addr×Obj)) (s:Shared) (σ:St) (H:Hp) (v:V) (u:Value) (Q:St→Hp→Prop),Inv X pins σ H s→RelV v u→t v σ H Q→
  wpAny (model X.prog X.w) X.A (assign target X.env u) (fun _ s'=>∃σ' H',Inv X pins σ' H' s'∧Q σ' H') X.xe s
end Zu
namespace Zu
set_option allowUnsafeReducibility true in
@[scoped irreducible] def _root_.L2.wV(X:Cx)(ts:List Expr)(t:sX):Prop:=
 ∀(pins:List (Addr×Obj)) (s:Shared) (σ:St) (H:Hp) (vs:List V) (us:List Value) (Q:St→Hp→Prop),Inv X pins σ H s→Vals vs us→t vs σ H Q→
  wpAny (model X.prog X.w) X.A (assignInOrder ((assignEach ts X.env).map (·.2)) us) (fun _ s'=>∃σ' H',Inv X pins σ' H' s'∧Q σ' H') X.xe s
end Zu
abbrev E9:=V→V→V→Hp→(Hp→Prop)→Prop
def Lv(X:Cx)(t:E9):Prop:=
 ∀(pins:List (Addr×Obj)) (s:Shared) (σ:St) (H:Hp) (o i v:V) (ov iv u:Value) (Q:Hp→Prop),Inv X pins σ H s→RelV o ov→RelV i iv→RelV v u→t o i v H Q→
  wpAny (model X.prog X.w) X.A (setItem ov iv u) (fun _ s'=>∃H',Inv X pins σ H' s'∧Q H') X.xe s
section
variable{X:Cx}{pos:Pos}
def aD(i:Nat):TG:=fun v σ H Q=>Q (σ.set i (some v)) H
theorem yo{i:Nat}{x:Str}(hN:X.N.Nodup)(hi:X.N[i]? =some x)(hx:Loc X.env.scope x)(hf:X.fn x=true∨X.env.scope.names.lookup x=some .local:=by first|exact .inl rfl|exact .inr rfl|assumption):PG X (.Name x pos) (aD i):=by
 intro pins s σ H v u Q I r h
 exact wpAny_assign_Name (gF I hN hi hx r (fun s' I'=>⟨_,H,I',h⟩) hf)
def ou:sX:=fun vs σ H Q=>vs=[]∧Q σ H
def eS(t:TG)(u:sX):sX:=fun vs σ H Q=>∃v r,vs=v::r∧t v σ H fun σ' H'=>u r σ' H' Q
theorem E_:wV X [] ou:=by
 intro pins s σ H vs us Q I r h
 obtain⟨e,h⟩:=h
 subst e
 cases r
 exact assignInOrder_nil ⟨σ,H,I,h⟩
theorem De{e:Expr}{es:List Expr}{t:TG}{u:sX}(h1:PG X e t)(h2:wV X es u)
  (hs:(assignEach (e::es) X.env).map (·.2)=assign e X.env::(assignEach es X.env).map (·.2):=by rfl):wV X (e::es) (eS t u):=by
 intro pins s σ H vs us Q I r h
 obtain⟨v,vr,e1,h⟩:=h
 subst e1
 cases r with
 |cons r rr=>
  rw[hs]
  refine assignInOrder_cons (bK (h1 pins s σ H _ _ _ I r h) fun _ s1 bh=>?_)
  obtain⟨σ1,H1,I1,q1⟩:=bh
  exact h2 pins s1 σ1 H1 _ _ Q I1 rr q1
def sY(K:PySem.W.Frag)(n:Nat)(t:sX):TG:=fun v σ H Q=>∃a xs,v= .ref a∧bJ K H a xs∧xs.length=n∧t xs σ H Q
theorem IV{es:List Expr}{k:Nat}{t:sX}{n:Nat}(hc:X.calm=true)(h:wV X es t)
  (hn:(assignEach es X.env).length=n:=by rfl)(gd:(assignEach es X.env).findIdx? (·.1)=none:=by rfl):PG X (.Tuple es k pos) (sY X.K n t):=by
 intro pins s σ H v u Q I r hw
 obtain⟨a,xs,e1,hq,hl,hw⟩:=hw
 subst e1
 cases r
 obtain⟨its,rv,ht,hz⟩:=I.tuple hq
 refine assign_Tuple_tuple (I.ok.hd hc) ht (by simp[hn,←hl,rv.length]) gd fun h' hx=>?_
 have I1:Inv X pins σ H { s with heap:=h' }:=I.kept (t':=s.toks) fun b o e=>hx b o (Nat.ne_of_lt (Heap.lt_size e)) e
 exact h pins _ σ H xs _ Q I1 (by simpa using rv) hw
def a_(to ti:TE)(t:E9):TG:=fun v σ H Q=>to σ H fun o H1=>ti σ H1 fun i H2=>t o i v H2 fun H3=>Q σ H3
theorem IW{o i:Expr}{to ti:TE}{t:E9}(ho:PE X o to)(hi:PE X i ti)(hs:Lv X t)
  (ha:∀v,assign (.Subscript o i pos) X.env v=(do
   let ov ←holding [v] (eval o X.env)
   let iv ←holding [v,ov] (eval i X.env)
   standAt pos
   holding [v,ov,iv] (setItem ov iv v)
   release [v,ov,iv] []):=by intro _;rfl):PG X (.Subscript o i pos) (a_ to ti t):=by
 intro pins s σ H v u Q I r h
 rw[ha]
 refine wpAny_bind (wpAny_holding (bK (ho pins s σ H _ I h) fun ov s1 bh=>?_))
 obtain⟨x,H1,I1,r1,q1⟩:=bh
 refine wpAny_bind (wpAny_holding (bK (hi pins s1 σ H1 _ I1 q1) fun iv s2 bh=>?_))
 obtain⟨y,H2,I2,r2,q2⟩:=bh
 refine wpAny_bind (wpAny_standAt (wpAny_bind (wpAny_holding (bK (hs pins s2 σ H2 x y v ov iv u _ I2 r1 r2 r q2) fun _ s3 bh=>?_))))
 obtain⟨H3,I3,q3⟩:=bh
 exact wpAny_release ⟨σ,H3,I3,q3⟩
def Fb(te:TE)(g:TG):TS:=fun D σ H=>te σ H fun x H1=>g x σ H1 D.nx
theorem IX{tg e:Expr}{te:TE}{g:TG}(he:PE X e te)(hg:PG X tg g)(hs:swapsWithSole [tg] e pos.line X.env=pure false:=by rfl)(hw:swappedStores [tg] e X.env=pure none:=by rfl)
  (h1:(assignEach [tg] X.env).map (·.2)=[assign tg X.env]:=by rfl):PS X (.Assign [tg] e pos) (Fb te g):=by
 intro pins s σ H D I h
 refine wpAny_Assign_stores (bK (he pins s σ H _ I h) fun v s1 bh=>?_) hs hw
 obtain⟨x,H1,I1,r1,q1⟩:=bh
 rw[h1]
 exact bK (hg pins s1 σ H1 x v _ I1 r1 q1) fun _ s2 q=>q
theorem IY{i:Nat}{x:Str}{e:Expr}{te:TE}{pos':Pos}(hN:X.N.Nodup)(hi:X.N[i]? =some x)(hx:Loc X.env.scope x)(he:PE X e te)(hs:swapsWith e (some (.Name x pos')) pos.line X.env=pure false:=by rfl)(hf:X.fn x=true∨X.env.scope.names.lookup x=some .local:=by first|exact .inl rfl|exact .inr rfl|assumption):
  PS X (.Assign [.Name x pos'] e pos) (Fb te (aD i)):=by
 intro pins s σ H D I h
 refine wpAny_Assign_Name (bK (he pins s σ H _ I h) fun v s1 bh=>?_) hs
 obtain⟨y,H1,I1,r1,q1⟩:=bh
 exact gF I1 hN hi hx r1 (fun s2 I2=>⟨_,H1,I2,q1⟩) hf
def PB(i j:Nat)(ta:TA):TS:=fun D σ H=>ta σ H fun vs H1=>∃v w,vs=[v,w]∧D.nx ((σ.set i (some v)).set j (some w)) H1
theorem IZ{i j:Nat}{x y:Str}{a b:Expr}{ta:TA}{px py pt:Pos}{kt k2 nJ}(hc:X.calm=true)(hN:X.N.Nodup)(hi:X.N[i]? =some x)(hj:X.N[j]? =some y)(nK:i≠j)
  (hx:X.env.scope.names.lookup x=some .local)(hy:X.env.scope.names.lookup y=some .local)(ha:PA X [a,b] ta)
  (hw:swappedStores [.Tuple [.Name x px,.Name y py] kt pt] (.Tuple [a,b] k2 nJ) X.env=pure (some [x,y]))
  (hs:swapsWithSole [.Tuple [.Name x px,.Name y py] kt pt] (.Tuple [a,b] k2 nJ) pos.line X.env=pure false:=by rfl):
  PS X (.Assign [.Tuple [.Name x px,.Name y py] kt pt] (.Tuple [a,b] k2 nJ) pos) (PB i j ta):=by
 intro pins s σ H D I h
 rw[exec_Assign_arm]
 refine wpAny_bind (wpAny_standAt ?_)
 rw[hs]
 refine wpAny_bind (wpAny_pure ?_)
 rw[if_neg (by decide)]
 refine wpAny_bind (Tuple_ (bK (ha _ pins s σ H _ I h) fun us s1 bh=>?_))
 obtain⟨vs,H1,I1,r1,q1⟩:=bh
 obtain⟨v,w,e1,q1⟩:=q1
 subst e1
 obtain⟨u1,u2,rfl,rv,yp⟩:∃u1 u2,us=[u1,u2]∧RelV v u1∧RelV w u2:=by
  cases r1 with
  |cons p q=>
   cases q with
   |cons p' q'=>
    cases q'
    exact⟨_,_,rfl,p,p'⟩
 refine wpAny_newObj_type ?_ (by show 2≤sizeLine;decide)
 have I2:Inv X pins σ H1 { s1 with heap:=s1.heap.push { cls:=.type "tuple",data:=.seq [u1,u2].toArray } }:=I1.kept (t':=s1.toks) fun b o e=>Heap.get?_push_of_some _ e
 rw[hw]
 refine wpAny_bind (wpAny_pure ?_)
 show wpAny (model X.prog X.w) X.A (do rule "assign.swapped-stores";let items ←unpackItems (.ref s1.heap.objs.size) 2 none;assignInOrder [fun v=>bindName X.env y v,fun v=>bindName X.env x v] items.reverse;pure Flow.next) _ _ _
 refine wpAny_bind (wpAny_rule (wpAny_bind (unpackItems_tuple (items:=#[u1,u2]) (I.ok.hd hc) (IsTup.new s1.heap _) fun h' iY=>?_)))
 have I3:=I2.kept (h':=h') (t':=s1.toks) fun b o e=>iY b o (Nat.ne_of_lt (Heap.lt_size e)) e
 show wpAny _ _ (assignInOrder [fun v=>bindName X.env y v,fun v=>bindName X.env x v] [u2,u1] >>= fun _=>pure Flow.next) _ _ _
 refine wpAny_bind (assignInOrder_cons (wpAny_bindName (gF I3 hN hj (.inl hy) yp (fun s2 I4=>?_) (.inr hy))))
 refine assignInOrder_cons (wpAny_bindName (gF I4 hN hi (.inl hx) rv (fun s3 I5=>assignInOrder_nil (wpAny_pure ?_)) (.inr hx)))
 rw[List.set_comm _ _ (Ne.symm nK)]at I5
 exact⟨_,H1,I5,q1⟩
end
section
variable{X:Cx}{pos:Pos}
def I0(c:TT)(tb:TS):TS:=fun D σ H=>∃W:Nat→St→Hp→Prop,(∃m,W m σ H)∧∀m σ H,W m σ H→
 c σ H fun b H1=>if b=true then ∃N:St→Hp→Prop,(∀σ' H',N σ' H'→∃m',m'<m∧W m' σ' H')∧tb { D with nx:=N,ct:=N,bk:=D.nx } σ H1 else D.nx σ H1
theorem Df{c:Expr}{body:List Stmt}{tc:TT}{tb:TS}(hp:PassesOwn (model X.prog X.w) X.A X.env X.xe)(hc:PT X c tc)(hb:kr X body tb):PS X (.While c body [] pos) (I0 tc tb):=by
 intro pins s σ H D I h
 obtain⟨W,⟨m0,w0⟩,turn⟩:=h
 refine wpAny_While (codeAny_whileLoop (fun n s'=>∃σ' H',Inv X pins σ' H' s'∧W n σ' H') ?_ m0 ⟨σ,H,I,w0⟩)
 rintro n s1 ⟨σ1,H1,I1,w1⟩
 refine wpAny_passesOwn hp (bK (hc pins s1 σ1 H1 _ I1 (turn n σ1 H1 w1)) fun b s2 bh=>?_)
 obtain⟨H2,I2,q2⟩:=bh
 cases b with
 |true=>
  obtain⟨N,hN,q2⟩:=q2
  rw[if_pos rfl]
  refine wpAny_passesOwn hp (bK (hb pins s2 σ1 H2 _ I2 q2) fun f s3 q3=>?_)
  cases f with
  |next=>
   obtain⟨qc,H3,I3,n3⟩:=q3
   obtain⟨m',hm,w3⟩:=hN qc H3 n3
   exact⟨m',hm,qc,H3,I3,w3⟩
  |cont=>
   obtain⟨qc,H3,I3,n3⟩:=q3
   obtain⟨m',hm,w3⟩:=hN qc H3 n3
   exact⟨m',hm,qc,H3,I3,w3⟩
  |brk=>exact q3
  |ret v=>exact q3
 |false=>
  rw[if_neg Bool.false_ne_true]
  exact wpAny_execs_nil ⟨σ1,H2,I2,q2⟩
end
structure It where
 go:Nat→Hp→Prop
 Fc:Nat→Hp→V→Hp→Prop
 stop:Nat→Hp→Prop
def kK(X:Cx)(pins:List (Addr×Obj))(H:Hp)(b:Addr):Prop:=
 H b=none∧b≠X.env.locals∧b∉X.fs∧(b∈X.ex∨X.bp.heap.objs.size≤b)∧(∀x c,X.env.cells.lookup x=some c→c≠b)∧∀p∈X.pn++pins,p.1≠b
theorem Inv.Fd{X:Cx}{pins:List (Addr×Obj)}{σ:St}{H H':Hp}{s:Shared}{b:Addr}(I:Inv X pins σ H s)(hb:s.heap.objs.size≤b)(hn:H' b=none):kK X pins H' b:=by
 refine⟨hn,Nat.ne_of_gt (Nat.lt_of_lt_of_le I.lt hb),I.Ls hb,.inr (Nat.le_trans I.sz hb),fun x c e z=>?_,fun p hp z=>?_⟩
 ·obtain⟨v,q⟩:=I.cell x c e
  exact absurd (Nat.lt_of_lt_of_le q.lt (by rw[z];exact hb)) (Nat.lt_irrefl _)
 ·exact absurd (Nat.lt_of_lt_of_le (Heap.lt_size (I.pin p hp).1) (by rw[z];exact hb)) (Nat.lt_irrefl _)
structure Turn(P:Program)(w:World)(K:PySem.W.Frag)(tg:Expr)(J:It)(fp:List Addr)(it:Addr)(tn:Nat→Heap→Prop):Prop where
 mem:it∈fp
 obj:∀i h,tn i h→∀b∈fp,∃o,h.get? b=some o∧∀v,o.data≠.cell v
 keep:∀i h h',tn i h→(∀b∈fp,∀o,h.get? b=some o→h'.get? b=some o)→tn i h'
 item:∀(X:Cx),X.prog=P→X.w=w→X.K=K→X.calm=true→∀(i:Nat) (pins:List (Addr×Obj)) (s:Shared) (σ:St) (H:Hp) (E:Value→Shared→Prop),Inv X pins σ H s→(∀b∈fp,kK X pins H b)→tn i s.heap→J.go i H→
  wpAny (model P w) X.A (pyNext (.ref it)) (fun r s1=>∃u,r=some u∧
   wpAny (model P w) X.A (letOwnedTupleGo tg (.ref it) u) (fun _ s2=>∃x H',Inv X pins σ H' s2∧RelV x u∧J.Fc i H x H'∧tn (i+1) s2.heap∧∀b∈fp,H' b=none) E s1) E s
 done:∀(X:Cx),X.prog=P→X.w=w→X.K=K→X.calm=true→∀(i:Nat) (pins:List (Addr×Obj)) (s:Shared) (σ:St) (H:Hp) (E:Value→Shared→Prop),Inv X pins σ H s→(∀b∈fp,kK X pins H b)→tn i s.heap→J.stop i H→
  wpAny (model P w) X.A (pyNext (.ref it)) (fun r s1=>r=none∧Inv X pins σ H s1) E s
 self:∀(A:Around) (i:Nat) (s:Shared) (Q:Value→Shared→Prop) (E:Value→Shared→Prop),tn i s.heap→Q (.ref it) s→wpAny (model P w) A (pyIter (.ref it)) Q E s
abbrev TI:=St→Hp→(It→Hp→Prop)→Prop
def PF(X:Cx)(pins:List (Addr×Obj))(σ:St)(tg:Expr)(R:It→Hp→Prop)(I8:Value)(s2:Shared):Prop:=
 ∃(it:Addr) (fp:List Addr) (tn:Nat→Heap→Prop) (J:It) (H':Hp),I8= .ref it∧Inv X pins σ H' s2∧Turn X.prog X.w X.K tg J fp it tn∧tn 0 s2.heap∧(∀b∈fp,kK X pins H' b)∧R J H'
namespace Zu
set_option allowUnsafeReducibility true in
@[scoped irreducible] def _root_.L2.PI(X:Cx)(tg iter:Expr)(wi:TI):Prop:=
 ∀(pins:List (Addr×Obj)) (s:Shared) (σ:St) (H:Hp) (R:It→Hp→Prop),Inv X pins σ H s→wi σ H R→
  wpAny (model X.prog X.w) X.A (eval iter X.env) (fun v s1=>wpAny (model X.prog X.w) X.A (pyIter v) (PF X pins σ tg R) X.xe s1) X.xe s
end Zu
theorem AK{M:Model}{A:Around}{E:Value→Shared→Prop}{s:Shared}{tg:Expr}{it:Addr}{u:Value}{o:Obj}{n:String}{vs:Array Value}{Q:Unit→Shared→Prop}(ho:s.heap.get? it=some o)(hc:o.cls= .type n)(hd:o.data= .fields vs)
  (hn: ["enumerate","zip","dict_itemiterator","dict_reverseitemiterator","odict_iterator","itertools.zip_longest","itertools.pairwise"].contains n=false)(hQ:Q () s):wpAny M A (letOwnedTupleGo tg (.ref it) u) Q E s:=by
 unfold letOwnedTupleGo
 cases tg<;>first
  |exact wpAny_pure hQ
  |(cases u<;>first
    |exact wpAny_pure hQ
    |(refine wpAny_bind (wpAny_load ho ?_)
      rw[hc,hd]
      show wpAny M A (if (["enumerate","zip","dict_itemiterator","dict_reverseitemiterator","odict_iterator","itertools.zip_longest","itertools.pairwise"].contains n&&vs[0]?==some (rawInt _))=true then _ else _) Q E s
      rw[if_neg (by intro h;rw[hn,Bool.false_and]at h;cases h)]
      exact wpAny_pure hQ))
def PH(K:PySem.W.Frag)(a:Addr):It:=
 ⟨fun i H=>∃xs x,dI K H a xs∧xs[i]? =some x,fun i H x H'=>H'=H∧∀xs,dI K H a xs→xs[i]? =some x,fun i H=>∃xs,dI K H a xs∧xs.length≤i⟩
def PJ(K:PySem.W.Frag)(a:Addr):It:=
 ⟨fun i H=>∃xs x,bJ K H a xs∧xs[i]? =some x,fun i H x H'=>H'=H∧∀xs,bJ K H a xs→xs[i]? =some x,fun i H=>∃xs,bJ K H a xs∧xs.length≤i⟩
def Fe(lo:Int)(n:Nat):It:=⟨fun i _=>i<n,fun i H x H'=>H'=H∧x= .int (lo+i),fun i _=>n≤i⟩
theorem AL{P:Program}{w:World}{K:PySem.W.Frag}{tg:Expr}(a it:Addr):Turn P w K tg (PH K a) [it] it (fun i h=>h.IsListIter it a i) where
 mem:=by simp
 obj:=fun i h st b hb=>by
  have e:b=it:=by simpa using hb
  subst e
  obtain⟨o,e,c,d⟩:=st
  exact⟨o,e,fun v z=>by rw[d]at z;cases z⟩
 keep:=fun i h h' st k=>st.at fun o e=>k it (by simp) o e
 item:=by
  intro X hP hw hK hc i pins s σ H E I hf st hg
  subst hP hw hK
  obtain⟨xs,x,hq,hx⟩:=hg
  obtain⟨its,rv,p,hz⟩:=I.list hq
  obtain⟨u,hu,ru⟩:=rv.get hx
  obtain⟨f0,f1,f2,f3,f4,f5⟩:=hf it (by simp)
  refine wpAny_pyNext_list_item st p.isList (x:=u) (by simpa using hu) fun h' yq sb=>?_
  have I1:Inv X pins σ H { s with heap:=h' }:=I.turned (t':=s.toks) (fun b o hb e=>(sb.2 b hb).trans e) f0 f1 f3 f4 f5
  obtain⟨o,e,c,d⟩:=id yq
  exact⟨u,rfl,AK (s:={ s with heap:=h' }) e c d (by decide) ⟨x,H,I1,ru,⟨rfl,fun ys hy=>by rw[I.Dc hy hq];exact hx⟩,yq,fun b hb=>(hf b hb).1⟩⟩
 done:=by
  intro X hP hw hK hc i pins s σ H E I hf st hg
  subst hP hw hK
  obtain⟨xs,hq,hx⟩:=hg
  obtain⟨its,rv,p,hz⟩:=I.list hq
  obtain⟨f0,f1,f2,f3,f4,f5⟩:=hf it (by simp)
  have hl:=rv.length
  exact wpAny_pyNext_list_end (I.ok.hd hc) st p.isList (by simp;omega) fun h' eb=>⟨rfl,I.turned (t':=s.toks) (fun b o hb e=>eb b o hb e) f0 f1 f3 f4 f5⟩
 self:=fun _ _ _ _ _ st h=>wpAny_pyIter_listiter st h
theorem yr{P:Program}{w:World}{K:PySem.W.Frag}{tg:Expr}(a it:Addr):Turn P w K tg (PJ K a) [it] it (fun i h=>h.IsTupleIter it a i) where
 mem:=by simp
 obj:=fun i h st b hb=>by
  have e:b=it:=by simpa using hb
  subst e
  obtain⟨o,e,c,d⟩:=st
  exact⟨o,e,fun v z=>by rw[d]at z;cases z⟩
 keep:=fun i h h' st k=>st.at fun o e=>k it (by simp) o e
 item:=by
  intro X hP hw hK hc i pins s σ H E I hf st hg
  subst hP hw hK
  obtain⟨xs,x,hq,hx⟩:=hg
  obtain⟨its,rv,p,hz⟩:=I.tuple hq
  obtain⟨u,hu,ru⟩:=rv.get hx
  obtain⟨f0,f1,f2,f3,f4,f5⟩:=hf it (by simp)
  refine wpAny_pyNext_tuple_item st (show s.heap.IsTuple a its.toArray from p) (x:=u) (by simpa using hu) fun h' yq sb=>?_
  have I1:Inv X pins σ H { s with heap:=h' }:=I.turned (t':=s.toks) (fun b o hb e=>(sb.2 b hb).trans e) f0 f1 f3 f4 f5
  obtain⟨o,e,c,d⟩:=id yq
  exact⟨u,rfl,AK (s:={ s with heap:=h' }) e c d (by decide) ⟨x,H,I1,ru,⟨rfl,fun ys hy=>by rw[I.AJ hy hq];exact hx⟩,yq,fun b hb=>(hf b hb).1⟩⟩
 done:=by
  intro X hP hw hK hc i pins s σ H E I hf st hg
  subst hP hw hK
  obtain⟨xs,hq,hx⟩:=hg
  obtain⟨its,rv,p,hz⟩:=I.tuple hq
  obtain⟨f0,f1,f2,f3,f4,f5⟩:=hf it (by simp)
  have hl:=rv.length
  exact wpAny_pyNext_tuple_end (I.ok.hd hc) st (show s.heap.IsTuple a its.toArray from p) (by simp;omega) fun h' eb=>⟨rfl,I.turned (t':=s.toks) (fun b o hb e=>eb b o hb e) f0 f1 f3 f4 f5⟩
 self:=fun _ _ _ _ _ st h=>wpAny_pyIter_tupleiter st h
theorem yt{P:Program}{w:World}{K:PySem.W.Frag}{tg:Expr}(it:Addr)(lo:Int)(n:Nat):Turn P w K tg (Fe lo n) [it] it (fun i h=>IsRangeIter h it (lo+(i:Nat)*1) ((n:Int) - (i:Nat)) 1) where
 mem:=by simp
 obj:=fun i h st b hb=>by
  have e:b=it:=by simpa using hb
  subst e
  exact⟨_,st,fun v z=>by
   have z':Data.fields _=Data.cell v:=z
   cases z'⟩
 keep:=fun i h h' st k=>k it (by simp) _ st
 item:=by
  intro X hP hw hK hc i pins s σ H E I hf st hg
  subst hP hw hK
  obtain⟨f0,f1,f2,f3,f4,f5⟩:=hf it (by simp)
  have W:=Walks.range (prog:=X.prog) (w:=X.w) (I.ok.hd hc) it lo 1 n
  refine W.item i s _ _ hg st fun v h' tk hv yq kk=>?_
  obtain⟨t,rfl⟩:=hv
  have I1:Inv X pins σ H { s with heap:=h',toks:=tk }:=I.turned (fun b o hb e=>kk b o (by simpa using hb) e) f0 f1 f3 f4 f5
  refine⟨_,rfl,AK (s:={ s with heap:=h',toks:=tk }) (n:="range_iterator") yq rfl rfl (by decide) ⟨.int (lo+i),H,I1,⟨t,?_⟩,⟨rfl,rfl⟩,yq,fun b hb=>(hf b hb).1⟩⟩
  rw[Int.mul_one]
 done:=by
  intro X hP hw hK hc i pins s σ H E I hf st hg
  subst hP hw hK
  obtain⟨f0,f1,f2,f3,f4,f5⟩:=hf it (by simp)
  exact wpAny_pyNext_range_end (I.ok.hd hc) st (by have:n≤i:=hg;omega) fun h' eb=>⟨rfl,I.turned (t':=s.toks) (fun b o hb e=>eb b o hb e) f0 f1 f3 f4 f5⟩
 self:=fun _ _ _ _ _ st h=>wpAny_pyIter_rangeiter st h
end L2
namespace L2
open PySem PySem.Spec PyProof.Rows
section
variable{X:Cx}{tg:Expr}
def Mm(K:PySem.W.Frag)(tl:TE):TI:=fun σ H R=>tl σ H fun x H1=>∃a,x= .ref a∧(∃xs,dI K H1 a xs)∧R (PH K a) H1
def mN(K:PySem.W.Frag)(tl:TE):TI:=fun σ H R=>tl σ H fun x H1=>∃a,x= .ref a∧(∃xs,bJ K H1 a xs)∧R (PJ K a) H1
theorem Ff{l:Expr}{tl:TE}(hl:PE X l tl):PI X tg l (Mm X.K tl):=by
 intro pins s σ H R I h
 refine bK (hl pins s σ H _ I h) fun v s1 bh=>?_
 obtain⟨x,H1,I1,r1,q1⟩:=bh
 obtain⟨a,e,⟨xs,hq⟩,q⟩:=q1
 subst e
 cases r1
 obtain⟨its,rv,p,hz⟩:=I1.list hq
 refine wpAny_pyIter_list p.isList ?_
 refine⟨s1.heap.objs.size,[s1.heap.objs.size],_,_,H1,rfl,I1.kept (t':=s1.toks) fun b o e=>Heap.get?_push_of_some _ e,AL a _,⟨_,Heap.get?_push_size _ rfl,rfl,rfl⟩,fun b hb=>?_,q⟩
 have e:b=s1.heap.objs.size:=by simpa using hb
 subst e
 exact I1.Fd (Nat.le_refl _) (I1.bV.fresh (Nat.le_refl _))
theorem I9{l:Expr}{tl:TE}(hl:PE X l tl):PI X tg l (mN X.K tl):=by
 intro pins s σ H R I h
 refine bK (hl pins s σ H _ I h) fun v s1 bh=>?_
 obtain⟨x,H1,I1,r1,q1⟩:=bh
 obtain⟨a,e,⟨xs,hq⟩,q⟩:=q1
 subst e
 cases r1
 obtain⟨its,rv,p,hz⟩:=I1.tuple hq
 refine wpAny_pyIter_tuple (show s1.heap.IsTuple a its.toArray from p) ?_
 refine⟨s1.heap.objs.size,[s1.heap.objs.size],_,_,H1,rfl,I1.kept (t':=s1.toks) fun b o e=>Heap.get?_push_of_some _ e,yr a _,⟨_,Heap.get?_push_size _ rfl,rfl,rfl⟩,fun b hb=>?_,q⟩
 have e:b=s1.heap.objs.size:=by simpa using hb
 subst e
 exact I1.Fd (Nat.le_refl _) (I1.bV.fresh (Nat.le_refl _))
theorem vH{pins:List (Addr×Obj)}{σ:St}{H:Hp}{s:Shared}{R:It→Hp→Prop}{E:Value→Shared→Prop}{lo hi:Int}{t u v:Tok}{tk:Nat}(I:Inv X pins σ H s)(h1: -(2 ^ 62)≤lo)(h2:lo<2 ^ 62)(h3: -(2 ^ 62)≤hi)(h4:hi<2 ^ 62)
  (q:R (Fe lo (hi - lo).toNat) H):wpAny (model X.prog X.w) X.A (pyIter (.ref s.heap.objs.size)) (PF X pins σ tg R) E { s with heap:=s.heap.push { cls:=.type "range",data:=.fields #[.int lo t,.int hi u,.int 1 v] },toks:=tk }:=by
 refine wpAny_pyIter_range (IsRange.new ..) (small_one h1 h2 h3 h4) ?_
 have I1:Inv X pins σ H { s with heap:=s.heap.push { cls:=.type "range",data:=.fields #[.int lo t,.int hi u,.int 1 v] },toks:=tk }:=I.kept fun b o e=>Heap.get?_push_of_some _ e
 refine⟨(s.heap.push { cls:=.type "range",data:=.fields #[.int lo t,.int hi u,.int 1 v] }).objs.size,[(s.heap.push { cls:=.type "range",data:=.fields #[.int lo t,.int hi u,.int 1 v] }).objs.size],_,_,H,rfl,
  I1.kept (t':=tk) fun b o e=>Heap.get?_push_of_some _ e,yt _ lo (hi - lo).toNat,?_,fun b hb=>?_,q⟩
 ·have e1:lo+((0:Nat):Int)*1=lo:=by simp
  have e2:(((hi - lo).toNat:Nat):Int) - ((0:Nat):Int)=Builtin.Range.rangeSize lo hi 1:=by rw[rangeSize_one];split<;>omega
  show IsRangeIter _ _ (lo+((0:Nat):Int)*1) ((((hi - lo).toNat:Nat):Int) - ((0:Nat):Int)) 1
  rw[e1,e2]
  exact Heap.get?_push_size _ rfl
 ·have e:b=(s.heap.push { cls:=.type "range",data:=.fields #[.int lo t,.int hi u,.int 1 v] }).objs.size:=by simpa using hb
  subst e
  exact I1.Fd (Nat.le_refl _) (I1.bV.fresh (Nat.le_refl _))
def b_(ta:TA):TI:=fun σ H R=>ta σ H fun vs H1=>∃j:Int,vs=[.int j]∧-(2 ^ 62)≤j∧j<2 ^ 62∧R (Fe 0 j.toNat) H1
def hZ(ta:TA):TI:=fun σ H R=>ta σ H fun vs H1=>∃i j:Int,vs=[.int i,.int j]∧(-(2 ^ 62)≤i∧i<2 ^ 62∧-(2 ^ 62)≤j∧j<2 ^ 62)∧R (Fe i (j - i).toNat) H1
theorem AM{a:Expr}{ta:TA}{p pos:Pos}(hg:Gl X "range")(hm:X.mg "range" =none)(ha:PA X [a] ta)(hs:starEach [a] X.env=[(false,eval a X.env)]:=by rfl):PI X tg (.Call (.Name "range" p) [a] [] pos) (b_ ta):=by
 intro pins s σ H R I h
 refine Call_ (gc I hg hm boot_range (PyProof.Rows.callWith_type1 (bK (ha pos pins s σ H _ I h) fun us s1 bh=>?_) hs rfl))
 obtain⟨vs,H1,I1,r1,q1⟩:=bh
 obtain⟨j,e,q1,q2,q⟩:=q1
 subst e
 cases r1 with
 |cons r rr=>
  cases rr
  obtain⟨t,rfl⟩:=r
  exact call_range_1 (vH I1 (by omega) (by omega) q1 q2 (by simpa using q))
theorem AN{a b:Expr}{ta:TA}{p pos:Pos}(hg:Gl X "range")(hm:X.mg "range" =none)(ha:PA X [a,b] ta)(hs:starEach [a,b] X.env=[(false,eval a X.env),(false,eval b X.env)]:=by rfl)(mF:starEach [b] X.env=[(false,eval b X.env)]:=by rfl):
  PI X tg (.Call (.Name "range" p) [a,b] [] pos) (hZ ta):=by
 intro pins s σ H R I h
 refine Call_ (gc I hg hm boot_range (PyProof.Rows.callWith_type1 (bK (ha pos pins s σ H _ I h) fun us s1 bh=>?_) (by rw[hs,mF]) (by rw[mF];rfl)))
 obtain⟨vs,H1,I1,r1,q1⟩:=bh
 obtain⟨i,j,e,⟨q1,q2,q3,q4⟩,q⟩:=q1
 subst e
 cases r1 with
 |cons r rr=>
  cases rr with
  |cons r' rr=>
   cases rr
   obtain⟨t,rfl⟩:=r
   obtain⟨t',rfl⟩:=r'
   exact call_range_2 (vH I1 q1 q2 q3 q4 q)
def PK(wi:TI)(g:TG)(tb:TS):TS:=fun D σ H=>wi σ H fun J H1=>∃W:Nat→Nat→St→Hp→Prop,(∃m,W 0 m σ H1)∧∀i m σ H,W i m σ H→
 (J.stop i H∧D.nx σ H)∨(J.go i H∧∃N:St→Hp→Prop,(∀σ' H',N σ' H'→∃m',m'<m∧W (i+1) m' σ' H')∧∀x H',J.Fc i H x H'→g x σ H' fun qd H2=>tb { D with nx:=N,ct:=N,bk:=D.nx } qd H2)
def ox(fp:List Addr)(h:Heap):List (Addr×Obj):=fp.filterMap fun b=>(h.get? b).map fun o=>(b,o)
theorem i7{fp:List Addr}{h:Heap}{b:Addr}{o:Obj}(hb:b∈fp)(e:h.get? b=some o):(b,o)∈ox fp h:=List.mem_filterMap.mpr ⟨b,hb,by rw[e];rfl⟩
theorem AO{fp:List Addr}{h:Heap}{p:Addr×Obj}(hp:p∈ox fp h):p.1∈fp∧h.get? p.1=some p.2:=by
 obtain⟨b,hb,e⟩:=List.mem_filterMap.mp hp
 cases q:h.get? b with
 |none=>rw[q]at e;cases e
 |some o=>
  rw[q]at e
  have e':(b,o)=p:=Option.some.inj e
  subst e'
  exact⟨hb,q⟩
theorem Inv.pinned{pins:List (Addr×Obj)}{σ:St}{H:Hp}{s:Shared}{fp:List Addr}(I:Inv X pins σ H s)(hf:∀b∈fp,kK X pins H b)(ho:∀b∈fp,∃o,s.heap.get? b=some o∧∀v,o.data≠.cell v):Inv X (pins++ox fp s.heap) σ H s:=
 I.sW fun p hp=>(List.mem_append.mp hp).elim (fun z=>I.pin p (List.mem_append_right _ z)) fun z=>by
  obtain⟨hb,e⟩:=AO z
  obtain⟨f0,f1,f2,_⟩:=hf p.1 hb
  obtain⟨o,e',d⟩:=ho p.1 hb
  rw[e]at e';cases e'
  exact⟨e,f0,f1,f2,d⟩
theorem Inv.jG{pins pl:List (Addr×Obj)}{σ:St}{H:Hp}{s:Shared}(I:Inv X (pins++pl) σ H s):Inv X pins σ H s:=I.sW fun p hp=>I.pin p (List.mem_append_right _ (List.mem_append_left _ hp))
theorem I_{iter:Expr}{body:List Stmt}{wi:TI}{g:TG}{tb:TS}{pos:Pos}(hp:PassesOwn (model X.prog X.w) X.A X.env X.xe)(hc:X.calm=true)(hi:PI X tg iter wi)(hg:PG X tg g)(hb:kr X body tb)
  (hs:∀x,foldedSetIterable iter X.env x=pure x:=by intro _;rfl):PS X (.For tg iter body [] pos) (PK wi g tb):=by
 intro pins s σ H D I h
 refine wpAny_For (bK (hi pins s σ H _ I h) fun v s1 h1=>bK h1 fun I8 s2 h2=>?_) hs
 obtain⟨it,fp,tn,J,H2,e,I2,T,qe,f2,W,⟨m0,w0⟩,turn⟩:=h2
 subst e
 -- VR stays true of nM Lw objects through nM loop
 have Fg:∀{H':Hp},(∀b∈fp,H' b=none)→∀b∈fp,kK X pins H' b:=fun hn b hb=>⟨hn b hb,(f2 b hb).2⟩
 refine codeAny_forLoop_any (fun n s'=>∃i σ' H',Inv X pins σ' H' s'∧tn i s'.heap∧(∀b∈fp,H' b=none)∧W i n σ' H') ?_ m0 ⟨0,σ,H2,I2,qe,fun b hb=>(f2 b hb).1,w0⟩
 rintro n s3 ⟨i,qc,H3,I3,PL,PM,w3⟩
 rcases turn i n qc H3 w3 with⟨stop,qn⟩|⟨go,N,hN,step⟩
 ·refine wpAny_passesOwn hp (bK (T.done X rfl rfl rfl hc i pins s3 qc H3 X.xe I3 (Fg PM) PL stop) fun r s4 bh=>?_)
  obtain⟨hr,I4⟩:=bh
  subst hr
  exact wpAny_execs_nil ⟨qc,H3,I4,qn⟩
 ·refine wpAny_passesOwn hp (bK (T.item X rfl rfl rfl hc i pins s3 qc H3 X.xe I3 (Fg PM) PL go) fun r s4 bh=>?_)
  obtain⟨u,hr,h4⟩:=bh
  subst hr
  refine wpAny_passesOwn hp (bK h4 fun _ s5 bh=>?_)
  obtain⟨x,H5,I5,r5,y5,Mn,SD⟩:=bh
  have Mo:=I5.pinned (Fg SD) (T.obj _ _ Mn)
  refine wpAny_passesOwn hp (bK (hg _ s5 qc H5 x u _ Mo r5 (step x H5 y5)) fun _ s6 bh=>?_)
  obtain⟨Mp,H6,I6,q6⟩:=bh
  refine wpAny_passesOwn hp (bK (hb _ s6 Mp H6 _ I6 q6) fun f s7 q7=>?_)
  have again:∀{sZ:St}{H7:Hp},Inv X (pins++ox fp s5.heap) sZ H7 s7→N sZ H7→∃m,m<n∧∃i σ' H',Inv X pins σ' H' s7∧tn i s7.heap∧(∀b∈fp,H' b=none)∧W i m σ' H':=fun {sZ H7} I7 n7=>by
   obtain⟨m',hm,w7⟩:=hN sZ H7 n7
   refine⟨m',hm,i+1,sZ,H7,I7.jG,T.keep _ _ _ Mn fun b hb o e=>(I7.pin (b,o) (List.mem_append_right _ (List.mem_append_right _ (i7 hb e)))).1,fun b hb=>?_,w7⟩
   obtain⟨o,e,d⟩:=T.obj _ _ Mn b hb
   exact(I7.pin (b,o) (List.mem_append_right _ (List.mem_append_right _ (i7 hb e)))).2.1
  cases f with
  |next=>obtain⟨sZ,H7,I7,n7⟩:=q7;exact again I7 n7
  |cont=>obtain⟨sZ,H7,I7,n7⟩:=q7;exact again I7 n7
  |brk=>obtain⟨sZ,H7,I7,q7⟩:=q7;exact⟨sZ,H7,I7.jG,q7⟩
  |ret v=>obtain⟨x7,sZ,H7,I7,r7,q7⟩:=q7;exact⟨x7,sZ,H7,I7.jG,r7,q7⟩
end
end L2
namespace L2
open PySem PySem.Spec PyProof.Rows
abbrev R2:=V→V→Hp→VK→Prop
def dB(X:Cx)(f:Value→Value→Sem Value)(r:R2):Prop:=
 ∀(pins:List (Addr×Obj)) (s:Shared) (σ:St) (H:Hp) (x y:V) (v u:Value) (Q:VK),Inv X pins σ H s→RelV x v→RelV y u→r x y H Q→
  wpAny (model X.prog X.w) X.A (f v u) (EP X pins σ Q) X.xe s
def Mq(X:Cx)(f:Value→Sem Value)(r:V→Hp→VK→Prop):Prop:=
 ∀(pins:List (Addr×Obj)) (s:Shared) (σ:St) (H:Hp) (x:V) (v:Value) (Q:VK),Inv X pins σ H s→RelV x v→r x H Q→
  wpAny (model X.prog X.w) X.A (f v) (EP X pins σ Q) X.xe s
def gf(X:Cx)(f:Value)(r:List V→Hp→VK→Prop):Prop:=
 ∀(pins:List (Addr×Obj)) (s:Shared) (σ:St) (H:Hp) (xs:List V) (us:List Value) (Q:VK),Inv X pins σ H s→Vals xs us→r xs H Q→
  wpAny (model X.prog X.w) X.A (call f us) (EP X pins σ Q) X.xe s
def Fh(r:R2)(ta tb:TE):TE:=fun σ H Q=>ta σ H fun x H1=>tb σ H1 fun y H2=>r x y H2 Q
def SE(r:V→Hp→VK→Prop)(ta:TE):TE:=fun σ H Q=>ta σ H fun x H1=>r x H1 Q
def rI(C:Int→Int→Prop)(g:Int→Int→V):R2:=fun x y H Q=>∃i j,x= .int i∧y= .int j∧C i j∧Q (g i j) H
def oy(g:Int→Int→V):R2:=fun x y H Q=>∃i j,x= .int i∧y= .int j∧Q (g i j) H
def rU(g:Int→V):V→Hp→VK→Prop:=fun x H Q=>∃i,x= .int i∧Q (g i) H
section
variable{X:Cx}{a b c:Expr}{ta tb tc:TE}{pos:Pos}
theorem Fi(ha:PE X a ta)(hb:PE X b tb){pins:List (Addr×Obj)}{s:Shared}{σ:St}{H:Hp}{R:V→V→Hp→Prop}(I:Inv X pins σ H s)
  (h:ta σ H fun x H1=>tb σ H1 fun y H2=>R x y H2){Q:Value→Shared→Prop}{f:Value→Value→Sem Value}
  (hf:∀v u s2 x y H2,Inv X pins σ H2 s2→RelV x v→RelV y u→R x y H2→wpAny (model X.prog X.w) X.A (f v u) Q X.xe s2):
  wpAny (model X.prog X.w) X.A (eval a X.env) (fun v bB=>wpAny (model X.prog X.w) X.A (eval b X.env) (fun u i5=>wpAny (model X.prog X.w) X.A (f v u) Q X.xe i5) X.xe bB) X.xe s:=by
 refine bK (ha pins s σ H _ I h) fun v s1 bh=>?_
 obtain⟨x,H1,I1,r1,q1⟩:=bh
 refine bK (hb pins s1 σ H1 _ I1 q1) fun u s2 bh=>?_
 obtain⟨y,H2,I2,r2,q2⟩:=bh
 exact hf v u s2 x y H2 I2 r1 r2 q2
theorem Mr{op:Operator}{r:R2}(ho:dB X (binaryOp op) r)(ha:PE X a ta)(hb:PE X b tb):PE X (.BinOp a op b pos) (Fh r ta tb):=by
 intro pins s σ H Q I h
 exact wpAny_BinOp (Fi ha hb I h fun v u s2 x y H2 I2 rx ry q=>ho pins s2 σ H2 x y v u Q I2 rx ry q)
theorem Ms{op:UnaryOp}{r:V→Hp→VK→Prop}(ho:Mq X (unaryOp op) r)(ha:PE X a ta):PE X (.UnaryOp op a pos) (SE r ta):=by
 intro pins s σ H Q I h
 exact UnaryOp_ (bK (ha pins s σ H _ I h) fun v s1 ⟨x,H1,I1,r1,q1⟩=>ho pins s1 σ H1 x v Q I1 r1 q1)
theorem Ja{f:Value→Value→Sem Value}{C:Int→Int→Prop}{g:Int→Int→Int}
  (rule:∀(i j:Int) (t u:Tok) (s:Shared) (Q:Value→Shared→Prop) (E:Value→Shared→Prop),C i j→Q (.int (g i j) s.toks) { s with toks:=s.toks+1 }→wpAny (model X.prog X.w) X.A (f (.int i t) (.int j u)) Q E s):
  dB X f (rI C fun i j=>.int (g i j)):=by
 intro pins s σ H x y v u Q I rx ry h
 obtain⟨i,j,rfl,rfl,hc,q⟩:=h
 obtain⟨t,rfl⟩:=rx
 obtain⟨t',rfl⟩:=ry
 exact rule i j t t' s _ _ hc ⟨.int (g i j),H,I.tok _,⟨_,rfl⟩,q⟩
theorem Lx{f:Value→Value→Sem Value}{g:Int→Int→Int}
  (rule:∀(i j:Int) (t u:Tok) (s:Shared) (Q:Value→Shared→Prop) (E:Value→Shared→Prop),Q (.int (g i j) s.toks) { s with toks:=s.toks+1 }→wpAny (model X.prog X.w) X.A (f (.int i t) (.int j u)) Q E s):
  dB X f (oy fun i j=>.int (g i j)):=by
 intro pins s σ H x y v u Q I rx ry h
 obtain⟨i,j,rfl,rfl,q⟩:=h
 obtain⟨t,rfl⟩:=rx
 obtain⟨t',rfl⟩:=ry
 exact rule i j t t' s _ _ ⟨.int (g i j),H,I.tok _,⟨_,rfl⟩,q⟩
theorem Fj{f:Value→Value→Sem Value}{g:Int→Int→Bool}
  (rule:∀(i j:Int) (t u:Tok) (s:Shared) (Q:Value→Shared→Prop) (E:Value→Shared→Prop),Q (.bool (g i j)) s→wpAny (model X.prog X.w) X.A (f (.int i t) (.int j u)) Q E s):
  dB X f (oy fun i j=>.bl (g i j)):=by
 intro pins s σ H x y v u Q I rx ry h
 obtain⟨i,j,rfl,rfl,q⟩:=h
 obtain⟨t,rfl⟩:=rx
 obtain⟨t',rfl⟩:=ry
 exact rule i j t t' s _ _ ⟨.bl (g i j),H,I,rfl,q⟩
def Ly(i j:Int):Prop:=0≤j∧j≤1000000∧i.natAbs<2 ^ 64
theorem Jb:dB X (binaryOp .Add) (oy fun i j=>.int (i+j)):=Lx fun _ _ _ _ _ _ _ q=>add_int q
theorem bt:dB X (binaryOp .Sub) (oy fun i j=>.int (i - j)):=Lx fun _ _ _ _ _ _ _ q=>sub_int q
theorem fF:dB X (binaryOp .Mod) (rI (fun _ j=>j≠0) fun i j=>.int (i.fmod j)):=Ja fun _ _ _ _ _ _ _ hc q=>mod_int' hc q
theorem wW:dB X (binaryOp .Pow) (rI Ly fun i j=>.int (i ^ j.toNat)):=Ja fun _ _ _ _ _ _ _ hc q=>pow_int_small hc.1 hc.2.1 hc.2.2 q
theorem SF{f:Value→Sem Value}{g:Int→Int}
  (rule:∀(i:Int) (t:Tok) (s:Shared) (Q:Value→Shared→Prop) (E:Value→Shared→Prop),Q (.int (g i) s.toks) { s with toks:=s.toks+1 }→wpAny (model X.prog X.w) X.A (f (.int i t)) Q E s):
  Mq X f (rU fun i=>.int (g i)):=by
 intro pins s σ H x v Q I rx h
 obtain⟨i,rfl,q⟩:=h
 obtain⟨t,rfl⟩:=rx
 exact rule i t s _ _ ⟨.int (g i),H,I.tok _,⟨_,rfl⟩,q⟩
theorem Jc:Mq X (unaryOp .USub) (rU fun i=>.int (-i)):=SF fun _ _ _ _ _ q=>neg_int q
end
def Lz:V→V→Bool
 |.bC,.bC=>true|.bC,.int _=>true|.int _,.bC=>true|.bC,.bl _=>true|.bl _,.bC=>true|.bC,.str _=>true|.str _,.bC=>true
 |.int _,.int _=>true|.bl _,.bl _=>true|.str _,.str _=>true|.sT _,.sT _=>true
 |.int _,.str _=>true|.str _,.int _=>true|.bl _,.str _=>true|.str _,.bl _=>true
 |_,_=>false
def Mt:R2:=fun x y H Q=>Lz x y=true∧Q (.bl (decide (x=y))) H
def Mu:R2:=fun x y H Q=>Lz x y=true∧Q (.bl (!decide (x=y))) H
theorem yu{i j:Int}:decide (V.int i=V.int j)=(i==j):=by
 rw[Bool.eq_iff_iff]
 simp
theorem sh{i j:Bool}:decide (V.bl i=V.bl j)=(i==j):=by
 rw[Bool.eq_iff_iff]
 simp
theorem yw{i j:Str}:decide (V.str i=V.str j)=(i==j):=by
 rw[Bool.eq_iff_iff]
 simp
theorem yx{i j:Array UInt8}:decide (V.sT i=V.sT j)=(i.toList==j.toList):=by
 rw[Bool.eq_iff_iff]
 cases i
 cases j
 simp
section
variable{X:Cx}{a b c:Expr}{ta tb tc:TE}{pos:Pos}
theorem bH{pins:List (Addr×Obj)}{σ:St}{H:Hp}{s:Shared}{Q:VK}{k k':Bool}(I:Inv X pins σ H s)(q:Q (.bl k) H)(e:k=k'):EP X pins σ Q (.bool k') s:=by
 subst e
 exact⟨.bl k,H,I,rfl,q⟩
theorem Mv:dB X (compareOp .Eq) Mt:=by
 intro pins s σ H x y v u Q I rx ry h
 obtain⟨hs,q⟩:=h
 cases x with
 |bC=>
  cases rx
  cases y with
  |bC=>cases ry;exact PySem.EqNone.eq_none_none (bH I q (by simp))
  |bl j=>cases ry;exact PySem.EqNone.eq_none_bool (bH I q (by simp))
  |int j=>obtain⟨t',rfl⟩:=ry;exact PySem.EqNone.eq_none_int (bH I q (by simp))
  |str j=>obtain⟨t',rfl⟩:=ry;exact PySem.EqNone.eq_none_str (bH I q (by simp))
  |_=>exact absurd (show false=true from hs) Bool.false_ne_true
 |bl i=>
  cases rx
  cases y with
  |bC=>cases ry;exact PySem.EqNone.eq_bool_none (bH I q (by simp))
  |bl j=>cases ry;exact eq_bool (bH I q sh)
  |str j=>obtain⟨t',rfl⟩:=ry;exact PySem.EqMixed.eq_bool_str (bH I q (by simp))
  |_=>exact absurd (show false=true from hs) Bool.false_ne_true
 |int i=>
  obtain⟨t,rfl⟩:=rx
  cases y with
  |bC=>cases ry;exact PySem.EqNone.eq_int_none (bH I q (by simp))
  |int j=>obtain⟨t',rfl⟩:=ry;exact eq_int (bH I q yu)
  |str j=>obtain⟨t',rfl⟩:=ry;exact PySem.EqMixed.eq_int_str (bH I q (by simp))
  |_=>exact absurd (show false=true from hs) Bool.false_ne_true
 |str i=>
  obtain⟨t,rfl⟩:=rx
  cases y with
  |bC=>cases ry;exact PySem.EqNone.eq_str_none (bH I q (by simp))
  |bl j=>cases ry;exact PySem.EqMixed.eq_str_bool (bH I q (by simp))
  |int j=>obtain⟨t',rfl⟩:=ry;exact PySem.EqMixed.eq_str_int (bH I q (by simp))
  |str j=>obtain⟨t',rfl⟩:=ry;exact eq_str (bH I q yw)
  |_=>exact absurd (show false=true from hs) Bool.false_ne_true
 |sT i=>
  obtain⟨t,rfl⟩:=rx
  cases y with
  |sT j=>obtain⟨t',rfl⟩:=ry;exact PySem.W.eq_bytes (bH I q yx)
  |_=>exact absurd (show false=true from hs) Bool.false_ne_true
 |_=>cases y<;>exact absurd (show false=true from hs) Bool.false_ne_true
theorem Mw:dB X (compareOp .NotEq) Mu:=by
 intro pins s σ H x y v u Q I rx ry h
 obtain⟨hs,q⟩:=h
 cases x with
 |bC=>
  cases rx
  cases y with
  |bC=>cases ry;exact PySem.EqNone.ne_none_none (bH I q (by simp))
  |bl j=>cases ry;exact PySem.EqNone.ne_none_bool (bH I q (by simp))
  |int j=>obtain⟨t',rfl⟩:=ry;exact PySem.EqNone.ne_none_int (bH I q (by simp))
  |str j=>obtain⟨t',rfl⟩:=ry;exact PySem.EqNone.ne_none_str (bH I q (by simp))
  |_=>exact absurd (show false=true from hs) Bool.false_ne_true
 |bl i=>
  cases rx
  cases y with
  |bC=>cases ry;exact PySem.EqNone.ne_bool_none (bH I q (by simp))
  |bl j=>cases ry;exact ne_bool (bH I q (congrArg not sh))
  |str j=>obtain⟨t',rfl⟩:=ry;exact PySem.EqMixed.ne_bool_str (bH I q (by simp))
  |_=>exact absurd (show false=true from hs) Bool.false_ne_true
 |int i=>
  obtain⟨t,rfl⟩:=rx
  cases y with
  |bC=>cases ry;exact PySem.EqNone.ne_int_none (bH I q (by simp))
  |int j=>obtain⟨t',rfl⟩:=ry;exact ne_int (bH I q (congrArg not yu))
  |str j=>obtain⟨t',rfl⟩:=ry;exact PySem.EqMixed.ne_int_str (bH I q (by simp))
  |_=>exact absurd (show false=true from hs) Bool.false_ne_true
 |str i=>
  obtain⟨t,rfl⟩:=rx
  cases y with
  |bC=>cases ry;exact PySem.EqNone.ne_str_none (bH I q (by simp))
  |bl j=>cases ry;exact PySem.EqMixed.ne_str_bool (bH I q (by simp))
  |int j=>obtain⟨t',rfl⟩:=ry;exact PySem.EqMixed.ne_str_int (bH I q (by simp))
  |str j=>obtain⟨t',rfl⟩:=ry;exact ne_str (bH I q (congrArg not yw))
  |_=>exact absurd (show false=true from hs) Bool.false_ne_true
 |sT i=>
  obtain⟨t,rfl⟩:=rx
  cases y with
  |sT j=>obtain⟨t',rfl⟩:=ry;exact PySem.W.ne_bytes (bH I q (congrArg not yx))
  |_=>exact absurd (show false=true from hs) Bool.false_ne_true
 |_=>cases y<;>exact absurd (show false=true from hs) Bool.false_ne_true
theorem ju:dB X (compareOp .Lt) (oy fun i j=>.bl (decide (i<j))):=Fj fun _ _ _ _ _ _ _ q=>lt_int q
theorem wX:dB X (compareOp .LtE) (oy fun i j=>.bl (decide (i≤j))):=Fj fun _ _ _ _ _ _ _ q=>le_int q
theorem qf:dB X (compareOp .Gt) (oy fun i j=>.bl (decide (j<i))):=Fj fun _ _ _ _ _ _ _ q=>gt_int q
theorem Jd:dB X (compareOp .Is) (fun x y H Q=>y= .bC∧Q (.bl (decide (x= .bC))) H):=by
 intro pins s σ H x y v u Q I rx ry h
 obtain⟨rfl,q⟩:=h
 cases ry
 refine is_none_gen (bH I q ?_)
 cases x<;>first
  |(cases rx;rfl)
  |(obtain⟨t,rfl⟩:=rx;rfl)
theorem dB.or{f:Value→Value→Sem Value}{r r':R2}(h:dB X f r)(h':dB X f r'):dB X f (fun x y H Q=>r x y H Q∨r' x y H Q):=by
 intro pins s σ H x y v u Q I rx ry q
 rcases q with q|q
 ·exact h pins s σ H x y v u Q I rx ry q
 ·exact h' pins s σ H x y v u Q I rx ry q
theorem i8(b:Expr){op:CmpOp}(h:op≠.In:=by decide)(h2:op≠.NotIn:=by decide):behindInMarks op b=false:=by
 have e1:(op==CmpOp.In)=false:=by cases op<;>first|rfl|exact absurd rfl h
 have e2:(op==CmpOp.NotIn)=false:=by cases op<;>first|rfl|exact absurd rfl h2
 cases b<;>simp[behindInMarks,e1,e2]
theorem Fm{op:CmpOp}{r:R2}(ho:dB X (compareOp op) r)(ha:PE X a ta)(hb:PE X b tb)(hm:behindInMarks op b=false):PE X (.Compare a [op] [b] pos) (Fh r ta tb):=by
 intro pins s σ H Q I h
 exact wpAny_Compare1 (Fi ha hb I h fun v u s2 x y H2 I2 rx ry q=>ho pins s2 σ H2 x y v u Q I2 rx ry q) hm
def Fn(t:TE):TT:=fun σ H Q=>t σ H fun x H'=>∃k,x= .bl k∧Q k H'
theorem Fo{op:CmpOp}{r:R2}(ho:dB X (compareOp op) r)(ha:PE X a ta)(hb:PE X b tb)(hm:behindInMarks op b=false):PT X (.Compare a [op] [b] pos) (Fn (Fh r ta tb)):=by
 intro pins s σ H Q I h
 refine wpAny_isTrue_Compare1 (bK (ha pins s σ H _ I h) fun v s1 ⟨x,H1,I1,r1,q1⟩=>bK (hb pins s1 σ H1 _ I1 q1) fun u s2 ⟨y,H2,I2,r2,q2⟩=>
  bK (ho pins s2 σ H2 x y v u _ I2 r1 r2 q2) fun c s3 ⟨z,H3,I3,r3,k,e,q3⟩=>?_) hm
 subst e
 cases r3
 exact wpAny_truthy_bool ⟨H3,I3,q3⟩
def BY(r r':R2)(ta tb tc:TE):TE:=fun σ H Q=>ta σ H fun x H1=>tb σ H1 fun y H2=>r x y H2 fun z H3=>∃k,z= .bl k∧
 (if k=true then tc σ H3 fun w' H4=>r' y w' H4 Q else Q (.bl false) H3)
theorem Dg{op AR:CmpOp}{r r':R2}(ho:dB X (compareOp op) r)(mE:dB X (compareOp AR) r')(ha:PE X a ta)(hb:PE X b tb)(hc:PE X c tc)
  (hm:lastMarks [op,AR] [b,c]=false:=by with_unfolding_all rfl):PT X (.Compare a [op,AR] [b,c] pos) (Fn (BY r r' ta tb tc)):=by
 intro pins s σ H Q I h
 refine isTrue_chain (bK (ha pins s σ H _ I h) fun v s1 ⟨x,H1,I1,r1,q1⟩=>test_link (bK (hb pins s1 σ H1 _ I1 q1) fun u s2 ⟨y,H2,I2,r2,q2⟩=>
  bK (ho pins s2 σ H2 x y v u _ I2 r1 r2 q2) fun d s3 ⟨z,H3,I3,r3,k,e,q3⟩=>?_)) hm
 subst e
 cases r3
 refine wpAny_truthy_bool ?_
 cases k with
 |false=>
  obtain⟨k',e',q'⟩:=q3
  cases e'
  exact ite_ff ⟨H3,I3,q'⟩
 |true=>
  refine ite_tt (test_last (bK (hc pins s3 σ H3 _ I3 q3) fun w' s4 ⟨z',H4,I4,r4,q4⟩=>bK (mE pins s4 σ H4 y z' u w' _ I4 r2 r4 q4) fun d' s5 bh=>?_))
  obtain⟨z2,H5,I5,r5,k2,e2,q5⟩:=bh
  subst e2
  cases r5
  exact wpAny_truthy_bool ⟨H5,I5,q5⟩
theorem oz:(sizeLine:Nat)<2 ^ 63:=by rw[sizeLine_eq];decide
theorem vals1{x:V}{us:List Value}(r:Vals [x] us):∃u,us=[u]∧RelV x u:=by
 cases r with
 |cons r1 r2=>cases r2;exact⟨_,rfl,r1⟩
theorem vals2{x y:V}{us:List Value}(r:Vals [x,y] us):∃u w',us=[u,w']∧RelV x u∧RelV y w':=by
 cases r with
 |cons r1 r2=>
  cases r2 with
  |cons r3 r4=>cases r4;exact⟨_,_,rfl,r1,r3⟩
theorem jH:gf X (.builtin "abs") (fun xs H Q=>∃i,xs=[.int i]∧Q (.int (if i<0 then -i else i)) H):=by
 intro pins s σ H xs us Q I r h
 obtain⟨i,rfl,q⟩:=h
 obtain⟨u,rfl,t,rfl⟩:=vals1 r
 exact call_abs_int fun u tk=>⟨.int (if i<0 then -i else i),H,I.tok _,⟨_,rfl⟩,q⟩
theorem AS(hc:X.calm=true):gf X (.builtin "max") (fun xs H Q=>∃i j,xs=[.int i,.int j]∧Q (.int (if j > i then j else i)) H):=by
 intro pins s σ H xs us Q I r h
 obtain⟨i,j,rfl,q⟩:=h
 obtain⟨u,w',rfl,⟨t,rfl⟩,⟨t',rfl⟩⟩:=vals2 r
 refine max_two_ints (I.ok.hd hc) fun h' tk k=>⟨_,H,I.kept k,?_,q⟩
 by_cases hj:j > i
 ·rw[if_pos hj,if_pos hj];exact⟨_,rfl⟩
 ·rw[if_neg hj,if_neg hj];exact⟨_,rfl⟩
theorem nN:gf X (.type "int") (fun xs H Q=>(∃i,xs=[.int i]∧Q (.int i) H)∨∃k,xs=[.bl k]∧Q (.int (if k then 1 else 0)) H):=by
 intro pins s σ H xs us Q I r h
 rcases h with⟨i,rfl,q⟩|⟨k,rfl,q⟩
 ·obtain⟨u,rfl,t,rfl⟩:=vals1 r
  exact call_int_int ⟨.int i,H,I,⟨_,rfl⟩,q⟩
 ·obtain⟨u,rfl,r1⟩:=vals1 r
  cases r1
  exact call_int_bool ⟨.int (if k then 1 else 0),H,I.tok _,⟨_,rfl⟩,q⟩
end
end L2
namespace L2
open PySem PySem.Spec PyProof.Rows
structure Fp(h:Heap)(x dx C:Addr)(mA:Str→Option Value):Prop where
 obj:h.get? x=some (PySem.W.instObj C dx)
 ns:h.Ns1 dx mA
 ne:dx≠x
theorem AU{h:Heap}{dx:Addr}{mA:Str→Option Value}(n:h.Ns1 dx mA):∃od,h.get? dx=some od∧∀name,PySem.W.lookIn name od=some (mA name):=by
 obtain⟨o,es,ep,ho,hd,hk,_,hm⟩:=n
 refine⟨o,ho,fun name=>?_⟩
 have e:=hm name
 unfold nsFind findBy at e
 rw[←Array.find?_toList]at e
 unfold PySem.W.lookIn
 rw[hd]
 dsimp only
 split
 ·rename_i y q
  rw[q]at e
  exact congrArg some e
 ·rename_i q
  rw[q]at e
  have a:es.toList.any (·.refKey)=false:=by
   rw[List.any_eq_false]
   intro y hy
   obtain⟨z,t,PN⟩:=hk y (Array.mem_toList_iff.mp hy)
   simp[DictEntry.refKey,PN]
  have a':¬es.toList.any (·.refKey)=true:=by rw[a];exact Bool.false_ne_true
  rw[if_neg a']
  exact congrArg some e
theorem Fp.look{h:Heap}{x dx C:Addr}{mA:Str→Option Value}(I:Fp h x dx C mA):∃od,PySem.W.InstAt h x (PySem.W.instObj C dx) C (some od)∧∀name,PySem.W.lookIn name od=some (mA name):=
 let ⟨od,ho,hl⟩:=AU I.ns
 ⟨od,⟨I.obj,rfl,rfl,ho⟩,hl⟩
section
variable{prog:Program}{w:World}{A:Around}{E:Value→Shared→Prop}{s:Shared}{K:PySem.W.Frag}{x dx C f:Addr}{mA:Str→Option Value}{name:Str}{v:Value}
end
section
variable{P:Program}{w:World}{H H':Hp}{h h':Heap}{a C dx:Addr}{fs Sw:List (Str×V)}
theorem Fq(bV:il P w H h)(e:H a=some (.ins C dx fs)):∃mA,Fp h a dx C mA∧(∀f,ET (fs.lookup f) (mA f))∧PySem.Within mA (fs.map (·.1))∧fs.length≤1000∧H dx=some (.own a):=by
 obtain⟨d,z,ne,ob,mA,n,r,q⟩:=(show dq P w H h a (.ins C dx fs)from bV a _ e)
 exact⟨mA,⟨ob,n,ne⟩,r,q,z,d⟩
end
structure Mx(K:PySem.W.Frag)(C:Addr):Prop where
 pg:PySem.W.plainGet K C Str.empty=true
 hd:PySem.W.hasDictIn K C=true
 po:PySem.W.plainOver K C=true
 sa:PySem.W.findIn K (.ref C) "__setattr__" =some (some (.builtin "object.__setattr__"))
theorem Mx.get{K:PySem.W.Frag}{C:Addr}(c:Mx K C)(f:Str):PySem.W.plainGet K C f=true:=c.pg
section
variable{X:Cx}{pins:List (Addr×Obj)}{σ:St}{H:Hp}{s:Shared}{a C dx:Addr}{fs:List (Str×V)}{f:Str}{v:V}{A:Around}{E:Value→Shared→Prop}
end
section
variable{X:Cx}{o e value:Expr}{f:Str}{pos pos' PQ:Pos}{ta tv:TE}
end
section
variable{X:Cx}{pins:List (Addr×Obj)}{σ:St}{H:Hp}{s:Shared}{A:Around}{E:Value→Shared→Prop}{Q:Value→Shared→Prop}{c:Value}{b:Bool}
inductive i9(K:PySem.W.Frag)(H:Hp):V→Value→Prop where
 |bC:i9 K H .bC (.type "NoneType")
 |bl (x:Bool):i9 K H (.bl x) (.type "bool")
 |int (i:Int):i9 K H (.int i) (.type "int")
 |str (x:Str):i9 K H (.str x) (.type "str")
 |C3 (x:UInt64):i9 K H (.C3 x) (.type "float")
 |lst {a:Addr}{xs:List V} (e:H a=some (.lst xs)):i9 K H (.ref a) (.type "list")
 |fS {a:Addr}{o:Obj}{xs:List V} (e:H a=some (.fS o (.lst xs))):i9 K H (.ref a) (.type "list")
 |tup {a:Addr}{xs:List V} (e:H a=some (.tup xs)):i9 K H (.ref a) (.type "tuple")
 |dK {a:Addr}{bq:List (Key×V)} (e:H a=some (.dK bq)):i9 K H (.ref a) (.type "dict")
 |dT {a:Addr}{bq:List (List Key×V)} (e:H a=some (.dT bq)):i9 K H (.ref a) (.type "dict")
 |ins {a C dx:Addr}{fs:List (Str×V)} (e:H a=some (.ins C dx fs)) (cl:Mx K C) (ha:PySem.W.findIn K (.ref C) "__class__" =some (some (.builtin "object.__class__")))
   (hn:PySem.W.specialIn K (.builtin "object.__class__") "__get__" =some (some (.builtin "getset_descriptor.__get__"))) (Je:PySem.W.takesIn K (.builtin "object.__class__")=some true)
   (hm:PySem.W.mroIn K C (.type "object")=some true):i9 K H (.ref a) (.ref C)
theorem AV{x:V}{u t:Value}(I:Inv X pins σ H s)(rx:RelV x u)(ty:i9 X.K H x t)(e:PySem.W.kitOne X.K t c=some b)(h:∀tk,Q (.bool b) { s with toks:=tk }):
  wpAny (model X.prog X.w) A (call (.builtin "isinstance") [u,c]) Q E s:=by
 cases ty with
 |bC=>cases (show u=Value.none from rx);exact PySem.W.kia_one PySem.W.kitx_none I.kJ True.intro e (fun z=>nomatch z) h
 |bl y=>cases (show u=Value.bool y from rx);exact PySem.W.kia_one PySem.W.kitx_bool I.kJ True.intro e (fun z=>nomatch z) h
 |int i=>obtain⟨t,q⟩:=(show ∃t,u=Value.int i t from rx);cases q;exact PySem.W.kia_one PySem.W.kitx_int I.kJ True.intro e (fun z=>nomatch z) h
 |str y=>obtain⟨t,q⟩:=(show ∃t,u=Value.str y t from rx);cases q;exact PySem.W.kia_one PySem.W.kitx_str I.kJ True.intro e (fun z=>nomatch z) h
 |C3 y=>obtain⟨t,q⟩:=(show ∃t,u=Value.float y t from rx);cases q;exact PySem.W.kia_one PySem.W.kitx_float I.kJ True.intro e (fun z=>nomatch z) h
 |@lst a xs ea=>
  cases (show u=Value.ref a from rx)
  obtain⟨_,_,n,_,h1⟩:=(show dq X.prog X.w H s.heap a (.lst xs)from I.bV a _ ea)
  exact PySem.W.kia_one PySem.W.kitx_list I.kJ ⟨_,h1,rfl⟩ e (fun z=>nomatch z) h
 |@fS a ob xs ea=>
  cases (show u=Value.ref a from rx)
  obtain⟨_,_,_,n,_,h1⟩:=(show dq X.prog X.w H s.heap a (.fS ob (.lst xs))from I.bV a _ ea)
  exact PySem.W.kia_one PySem.W.kitx_list I.kJ ⟨_,h1,rfl⟩ e (fun z=>nomatch z) h
 |@tup a xs ea=>
  cases (show u=Value.ref a from rx)
  obtain⟨_,_,_,p⟩:=(show dq X.prog X.w H s.heap a (.tup xs)from I.bV a _ ea)
  obtain⟨o,h1,h2,_⟩:=p
  exact PySem.W.kia_one PySem.W.kitx_tuple I.kJ ⟨o,h1,h2⟩ e (fun z=>nomatch z) h
 |@dK a bq ea=>
  cases (show u=Value.ref a from rx)
  obtain⟨_,_,vs,_,p⟩:=(show dq X.prog X.w H s.heap a (.dK bq)from I.bV a _ ea)
  obtain⟨o,es,ep,h1,h2,_⟩:=p
  exact PySem.W.kia_one PySem.W.kitx_dict I.kJ ⟨o,h1,h2.1⟩ e (fun z=>nomatch z) h
 |@dT a bq ea=>
  cases (show u=Value.ref a from rx)
  obtain⟨_,_,xs,_,o,es,ep,h1,h2,_⟩:=(show dq X.prog X.w H s.heap a (.dT bq)from I.bV a _ ea)
  exact PySem.W.kia_one PySem.W.kitx_dict I.kJ ⟨o,h1,h2.1⟩ e (fun z=>nomatch z) h
 |@ins a C dx fs ea cl ha hn Je hm=>
  cases (show u=Value.ref a from rx)
  obtain⟨mA,O,_⟩:=Fq I.bV ea
  obtain⟨od,J,_⟩:=O.look
  exact PySem.W.kia_one (PySem.W.kitx_own (cl.get _) cl.hd ha hn Je hm) I.kJ J e (fun z=>nomatch z) h
end
end L2
namespace L2
open PySem PySem.Spec PyProof.Rows
structure eT(k:Nat)(A:Around):Prop where
 hd:A.handled=none
 dp:A.depth+3*k+5<recursionLimit
 un:A.units+16*k+200<cLine
theorem eT.mono{j k:Nat}{A:Around}(r:eT k A)(h:j≤k):eT j A:=⟨r.hd,by have:=r.dp;omega,by have:=r.un;omega⟩
theorem eT.deeper{k:Nat}{A:Around}(r:eT (k+1) A)(env:Env):eT k (A.deeper env):=
 ⟨r.hd,by have:=r.dp;show A.depth+1+3*k+5<_;omega,by have:=r.un;show A.units+3+16*k+200<_;omega⟩
theorem eT.depth{k:Nat}{A:Around}(r:eT k A):A.depth<recursionLimit:=by have:=r.dp;omega
theorem eT.units{k:Nat}{A:Around}(r:eT k A):A.units+64<cLine:=by have:=r.un;omega
def PR:TA:=fun _ H Q=>Q [] H
def Mz(ta:TE)(tr:TA):TA:=fun σ H Q=>ta σ H fun x H1=>tr σ H1 fun xs H2=>Q (x::xs) H2
section
variable{X:Cx}{e:Expr}{es:List Expr}{te:TE}{t:TA}{pos:Pos}
theorem Jf:PA X [] PR:=fun _ _ _ _ H Q I h=>Calls.spliced_nil ⟨[],H,I,.nil,h⟩
theorem Fs(ha:PE X e te)(hr:PA X es t)(hs:starEach (e::es) X.env=(false,eval e X.env)::starEach es X.env:=by rfl):PA X (e::es) (Mz te t):=by
 intro pos pins s σ H Q I h
 rw[hs]
 show wpAny _ _ (spliced ((false,eval e X.env)::backTo pos (starEach es X.env))) _ _ s
 refine Calls.spliced_cons (bK (ha pins s σ H _ I h) fun u s1 bh=>?_)
 obtain⟨x,H1,I1,r1,q1⟩:=bh
 exact bK (hr pos pins s1 σ H1 _ I1 q1) fun us s2 ⟨xs,H2,I2,r2,q2⟩=>⟨x::xs,H2,I2,.cons r1 r2,q2⟩
def PU(t:TA):TE:=fun σ H Q=>t σ H fun xs H1=>xs.length≤sizeLine∧∀p,H1 p=none→Q (.ref p) (upd H1 p (.tup xs))
def PV(t:TA):TE:=fun σ H Q=>t σ H fun xs H1=>xs.length≤sizeLine∧∀p,H1 p=none→Q (.ref p) (upd H1 p (.lst xs))
theorem Jg{x1}(h:PA X es t):PE X (.Tuple es x1 pos) (PU t):=by
 intro pins s σ H Q I hq
 refine wpAny_Tuple_spliced (bK (h pos pins s σ H _ I hq) fun us s1 ⟨xs,H1,I1,r,z,q⟩=>⟨by rw[←r.length];exact z,?_⟩)
 have hf:H1 s1.heap.objs.size=none:=I1.bV.fresh (Nat.le_refl _)
 refine⟨.ref s1.heap.objs.size,upd H1 s1.heap.objs.size (.tup xs),I1.laid (t':=s1.toks) (fun b u e=>Heap.get?_push_of_some _ e) (Nat.le_refl _) ?_,rfl,q _ hf⟩
 exact⟨z,us,r,⟨_,Heap.get?_push_size _ rfl,rfl,_,rfl⟩⟩
theorem Jh(h:PA X es t):PE X (.List es pos) (PV t):=by
 intro pins s σ H Q I hq
 refine wpAny_List_spliced (bK (h pos pins s σ H _ I hq) fun us s1 ⟨xs,H1,I1,r,z,q⟩=>⟨by rw[←r.length];exact z,?_⟩)
 have hf:H1 s1.heap.objs.size=none:=I1.bV.fresh (Nat.le_refl _)
 refine⟨.ref s1.heap.objs.size,upd H1 s1.heap.objs.size (.lst xs),I1.laid (t':=s1.toks) (fun b u e=>Heap.get?_push_of_some _ e) (Nat.le_refl _) ?_,rfl,q _ hf⟩
 exact⟨z,us,0,r,Heap.get?_push_size _ rfl⟩
end
abbrev Sp:=List V→Hp→VK→XK→Prop
abbrev s_:=List Env→Hp→Shared→XK→Value→Shared→Prop
structure BZ(P:Program)(w:World)(K:PySem.W.Frag)(mg:Str→Option Value)(base:Heap)(A:Around)(outer:List Env)(s:Shared)(H:Hp):Prop where
 frames:A.frames=some outer
 mod:Mod K mg base
 bs:∀b o,base.get? b=some o→s.heap.get? b=some o∧H b=none
 wQ:base.objs.size≤s.heap.objs.size
 kI:s.heap.FunFrames base outer
 C7:∀b∈sV outer,H b=none
 bV:il P w H s.heap
 bare:AllBare s.gens
def CE(outer:List Env)(P:Program)(w:World)(H:Hp)(s:Shared)(Q:VK)(u:Value)(s':Shared):Prop:=
 ∃v H',s'.os=s.os∧AllBare s'.gens∧Un (sV outer) [] H H' s.heap s'.heap∧il P w H' s'.heap∧RelV v u∧Q v H'
def CR(CX:s_)(outer:List Env)(P:Program)(w:World)(H:Hp)(s:Shared)(Q:VK)(E:XK)(r:Result)(s':Shared):Prop:=
 match r with
 |.ok (.ret u)=>CE outer P w H s Q u s'
 |.ok _=>False
 |.error e=>CX outer H s E e s'
structure bM(P:Program)(w:World)(K:PySem.W.Frag)(mg:Str→Option Value)(base:Heap)(CX:s_)(k:Nat)(f:Addr)(fd:FuncData)(ps:List Str)(sp:Sp):Prop where
 len:∀vs H Q E,sp vs H Q E→vs.length=ps.length
 run:∀(A:Around) (outer:List Env) (s:Shared) (H:Hp) (args:Args) (us:List Value) (vs:List V) (Q:VK) (E:XK),eT k A→BZ P w K mg base A outer s H→BindsTo s fd args (ps.zip us)→Vals vs us→sp vs H Q E→
  codeAny (model P w) A (.call (.ref f) args) (CR CX outer P w H s Q E) s
section
variable{X:Cx}{pins:List (Addr×Obj)}{σ:St}{H:Hp}{s s':Shared}
theorem Inv.PX(I:Inv X pins σ H s):BZ X.prog X.w X.K X.mg X.base X.A X.stack s H:=
 ⟨I.ok.frames,I.ok.mod,I.bs,Nat.le_trans I.ok.wQ I.sz,I.stack,I.ym,I.bV,I.bare⟩
theorem Inv.after{Q:VK}{u:Value}(I:Inv X pins σ H s)(h:CE X.stack X.prog X.w H s Q u s'):EP X pins σ Q u s':=by
 obtain⟨v,H',os,bare,un,bV,r,q⟩:=h
 obtain⟨hh,g,d,t,SG⟩:=s'
 obtain rfl:SG=s.os:=os
 exact⟨v,H',I.call (h':=hh) (g':=g) (d':=d) (t':=t) (ch:=[]) un bV bare (fun b z=>absurd z (by simp)),r,q⟩
end
def Ft(sp:Sp)(oA:List V)(E:XK)(t:TA):TE:=fun σ H Q=>t σ H fun vs H1=>sp (vs++oA) H1 Q E
def Binds(K:PySem.W.Frag)(fd:FuncData)(ps:List Str)(ds:List Value):Prop:=
 ∀(s:Shared) (us:List Value),K.In s.heap→(us++ds).length=ps.length→BindsTo s fd ⟨us,[]⟩ (ps.zip (us++ds))
theorem Binds.all{K:PySem.W.Frag}{fd:FuncData}{ps:List Str}(h:∀us:List Value,us.length=ps.length→bindArgs fd ⟨us,[]⟩=pure (ps.zip us)):Binds K fd ps []:=fun s us _ hl=>by
 rw[List.append_nil]at hl ⊢
 exact .of_eq (h us hl)
def Passes(CX:s_)(X:Cx)(E:XK):Prop:=∀(pins:List (Addr×Obj)) (σ:St) (H:Hp) (s:Shared) (e:Value) (s':Shared),Inv X pins σ H s→CX X.stack H s E e s'→X.xe e s'
section
variable{X:Cx}{CX:s_}{k:Nat}{f C:Addr}{fd:FuncData}{ps:List Str}{sp:Sp}{oA:List V}{ds:List Value}{E:XK}{x m:Str}{p pos apos:Pos}{e o:Expr}{es:List Expr}{ta:TE}{t:TA}
theorem Ji{pins:List (Addr×Obj)}{σ:St}{H:Hp}{s:Shared}{Q:VK}{us:List Value}{vs:List V}(F:bM X.prog X.w X.K X.mg X.base CX k f fd ps sp)(hr:eT k X.A)(hb:Binds X.K fd ps ds)(hd:Vals oA ds)(hx:Passes CX X E)
  (I:Inv X pins σ H s)(r:Vals vs us)(h:sp (vs++oA) H Q E):wpAny (model X.prog X.w) X.A (call (.ref f) us) (EP X pins σ Q) X.xe s:=by
 have r2:Vals (vs++oA) (us++ds):=r.append hd
 have hl:(us++ds).length=ps.length:=by rw[←r2.length];exact F.len _ _ _ _ h
 refine wpAny_call (codeAny_mono (F.run X.A X.stack s H ⟨us,[]⟩ (us++ds) (vs++oA) Q E hr I.PX (hb s us I.kJ hl) r2 h) fun r s' hq=>?_)
 cases r with
 |error e=>exact hx pins σ H s e s' I hq
 |ok fl=>
  cases fl with
  |ret u=>exact I.after hq
  |next=>exact False.elim hq
  |brk=>exact False.elim hq
  |cont=>exact False.elim hq
theorem Fu(F:bM X.prog X.w X.K X.mg X.base CX k f fd ps sp)(hr:eT k X.A)(hg:Gl X x)(hm:X.mg x=some (.ref f))(hk:PySem.W.keepIn X.K (.ref f)=true)(hb:Binds X.K fd ps ds)(hd:Vals oA ds)(hx:Passes CX X E)
  (ha:PA X (e::es) t)(nO:(x==("__debug__":Str))=false:=by decide)(he:starEach (e::es) X.env=(false,eval e X.env)::starEach es X.env:=by rfl)(ip:(backTo pos (starEach es X.env)).any (·.1)=false:=by rfl):
  PE X (.Call (.Name x p) (e::es) [] pos) (Ft sp oA E t):=by
 intro pins s σ H Q I h
 refine wpAny_Call_Name_kw (E3 I hg hm ?_ nO)
 refine PySem.W.callWith_K (h₀:=X.base) I.ok.mod.EV hk (bK (ha pos pins s σ H _ I h) fun us s1 ⟨vs,H1,I1,r,q⟩=>⟨I1.kJ,?_⟩) he ip
 exact Ji F hr hb hd hx I1 r q
end
section
variable{X:Cx}{CX:s_}{k:Nat}{f C:Addr}{fd:FuncData}{ps ks:List Str}{sp:Sp}{E:XK}{x m:Str}{p pos apos VS:Pos}{e o:Expr}{es:List Expr}{VZ:List Keyword}{te ta:TE}{t tk:TA}{nm:Option Str}
variable{g:List Value→List Value→List Value}{gV:List V→List V→List V}
end
structure aP(N P:List Str)(sc:Scope):Prop where
 kind:sc.kind= .function
 co:sc.isCoroutine=false
 gen:sc.isGenerator=false
 nd:N.Nodup
 pre:N.take P.length=P
 par:∀x∈P,sc.names.lookup x=some .local∨sc.names.lookup x=some .cell
 Jj:∀y∈sc.names,y.2≠.free
theorem tf{kindOf:Str→Option NameKind}{x:Str}:∀{binds:List (Str×Value)}{m:Str→Option Value},(∀v,(x,v)∉binds)→bindL kindOf binds m x=m x
 |[],_,_=>rfl
 |(n,v)::r,m,h=>by
  unfold bindL
  rw[tf fun w hw=>h w (List.mem_cons_of_mem _ hw)]
  split
  ·have:x≠n:=by rintro rfl;exact h v List.mem_cons_self
   simp[this]
  ·rfl
theorem tj{kindOf:Str→Option NameKind}{x:Str}:∀{binds:List (Str×Value)}{m:Str→Option Value},(∀v,(x,v)∉binds)→bindC kindOf binds m x=m x
 |[],_,_=>rfl
 |(n,v)::r,m,h=>by
  unfold bindC
  rw[tj fun w hw=>h w (List.mem_cons_of_mem _ hw)]
  split
  ·rfl
  ·have:x≠n:=by rintro rfl;exact h v List.mem_cons_self
   simp[this]
theorem tm{kindOf:Str→Option NameKind}{x:Str}{v:Value}:∀{P:List Str}{vs:List Value}{i:Nat}{m:Str→Option Value},P.Nodup→P[i]? =some x→vs[i]? =some v→kindOf x=some .local→
  bindL kindOf (P.zip vs) m x=some v
 |[],_,_,_,_,h,_,_=>by simp at h
 |_::_,[],_,_,_,_,h,_=>by simp at h
 |p::P,w::vs,0,m,nd,h1,h2,hk=>by
  simp at h1 h2;subst h1;subst h2
  show bindL kindOf ((p,w)::P.zip vs) m p=_
  unfold bindL
  rw[tf fun v hv=>(List.nodup_cons.mp nd).1 (List.of_mem_zip hv).1,if_pos hk]
  simp
 |p::P,w::vs,i+1,m,nd,h1,h2,hk=>by
  show bindL kindOf ((p,w)::P.zip vs) m x=_
  unfold bindL
  exact tm (i:=i) (List.nodup_cons.mp nd).2 (by simpa using h1) (by simpa using h2) hk
theorem tp{kindOf:Str→Option NameKind}{x:Str}{v:Value}:∀{P:List Str}{vs:List Value}{i:Nat}{m:Str→Option Value},P.Nodup→P[i]? =some x→vs[i]? =some v→kindOf x≠some .local→
  bindC kindOf (P.zip vs) m x=some v
 |[],_,_,_,_,h,_,_=>by simp at h
 |_::_,[],_,_,_,_,h,_=>by simp at h
 |p::P,w::vs,0,m,nd,h1,h2,hk=>by
  simp at h1 h2;subst h1;subst h2
  show bindC kindOf ((p,w)::P.zip vs) m p=_
  unfold bindC
  rw[tj fun v hv=>(List.nodup_cons.mp nd).1 (List.of_mem_zip hv).1,if_neg hk]
  simp
 |p::P,w::vs,i+1,m,nd,h1,h2,hk=>by
  show bindC kindOf ((p,w)::P.zip vs) m x=_
  unfold bindC
  exact tp (i:=i) (List.nodup_cons.mp nd).2 (by simpa using h1) (by simpa using h2) hk
def start(N:List Str)(vs:List V):St:=vs.map some++List.replicate (N.length - vs.length) none
def oB(CX:s_)(P:Program)(w:World)(K:PySem.W.Frag)(mg:Str→Option Value)(base:Heap)(N:List Str)(qual:Str)(scope:Scope)(f:Addr)(cd:Value)(A:Around)(outer:List Env)(s:Shared)(H:Hp)(E:XK):Cx where
 prog:=P
 w:=w
 K:=K
 mg:=mg
 base:=base
 A:=A.deeper (envOfC qual scope s.heap.objs.size f cd)
 N:=N
 bp:=s
 cJ:=H
 env:=envOfC qual scope s.heap.objs.size f cd
 outer:=outer
 stack:=envOfC qual scope s.heap.objs.size f cd::outer
 ex:=[]
 calm:=true
 fn:=fun _=>true
 pn:=[]
 xe:=fun e s'=>wpAny (model P w) (A.deeper (envOfC qual scope s.heap.objs.size f cd)) (leaving (envOfC qual scope s.heap.objs.size f cd) e) (fun _ Fv=>CX outer H s E e Fv) (fun e' Fv=>CX outer H s E e' Fv) s'
theorem vI{sc:Scope}{n:Nat}{x:Str}(h:sc.names.lookup x=some .cell):∃c,(cellsFrom n sc.names []).lookup x=some c:=by
 have q:=PySem.W.cellsFrom_some sc.names n [] (.inl h)
 exact Option.isSome_iff_exists.mp q
theorem AW{CX:s_}{P:Program}{w:World}{K:PySem.W.Frag}{mg:Str→Option Value}{base:Heap}{N ps:List Str}{qual:Str}{scope:Scope}{f:Addr}{cd:Value}{A:Around}{outer:List Env}{s s1:Shared}{H:Hp}{E:XK}{us:List Value}{vs:List V}
  (S:aP N ps scope)(hd:A.handled=none)(e0:BZ P w K mg base A outer s H)(hl:vs.length=ps.length)(r:Vals vs us)
  (x:InCallC s s.heap.objs.size (bindL (envOfC qual scope s.heap.objs.size f cd).kindOf (ps.zip us) fun _=>none) (cellsFrom (s.heap.objs.size+1) scope.names []) (bindC (envOfC qual scope s.heap.objs.size f cd).kindOf (ps.zip us) fun _=>none) s1):
  Inv (oB CX P w K mg base N qual scope f cd A outer s H E) [] (start N vs) H s1:=by
 have ip:ps.length≤N.length:=by have:=congrArg List.length S.pre;rw[List.length_take]at this;omega
 obtain⟨h1,tk,rfl,hk⟩:=x.done
 have Fw:∀b:Addr,b∉(oB CX P w K mg base N qual scope f cd A outer s H E).ex:=fun b z=>absurd (show b∈([]:List Addr)from z) (by simp)
 refine⟨⟨e0.mod,S.kind,rfl,rfl,Nat.le_refl _,fun y z c h1 h2=>?_,fun y hy=>?_,fun y c _ h=>?_,fun _=>hd,Around.frames_deeper e0.frames,.inr ⟨rfl,rfl⟩,fun b z=>absurd z (Fw b),e0.bs,e0.wQ,fun b _ _=>Fw b,fun b z=>absurd z (Fw b),e0.kI,e0.C7⟩,
  rfl,e0.bare,Un.kept hk,⟨_,x.toInCall.ns,fun i y v h1 h2 h3=>?_⟩,fun y c h=>⟨_,x.cell y c h⟩,e0.bV.fresh (Nat.le_refl _),fun y c h=>?_,fun p hp=>absurd (show p∈([]:List (Addr×Obj))from hp) (by simp),e0.bV.kept hk,?_⟩
 ·exact name_of_addr x.apart (PySem.mem_of_lookup h1) (PySem.mem_of_lookup h2)
 ·have hy:scope.names.lookup y=some .cell∨scope.names.lookup y=some .free:=hy
  rcases hy with hy|hy
  ·exact vI hy
  ·exact absurd rfl (S.Jj _ (PySem.mem_of_lookup hy))
 ·exact Nat.le_of_lt (x.above y c (PySem.mem_of_lookup h))
 ·have hi:i<vs.length:=by
   unfold start at h2
   by_cases hi:i<vs.length
   ·exact hi
   ·rw[List.getElem?_append_right (by simpa using hi)]at h2
    rw[List.getElem?_replicate]at h2
    split at h2<;>cases h2
  have ha:vs[i]? =some v:=by
   unfold start at h2
   rw[List.getElem?_append_left (by simpa using hi),List.getElem?_map]at h2
   cases e:vs[i]? with
   |none=>rw[e]at h2;cases h2
   |some a=>rw[e]at h2;cases h2;rfl
  obtain⟨u,hu,rv⟩:=r.get ha
  have hp:ps[i]? =some y:=by
   rw[←S.pre,List.getElem?_take_of_lt (by omega)];exact h1
  have PY:ps.Nodup:=by rw[←S.pre];exact S.nd.sublist (List.take_sublist _ _)
  refine⟨u,rv,?_⟩
  rcases S.par y (List.mem_of_getElem? hp)with k|k
  ·exact .inl ⟨k,tm PY hp hu k⟩
  ·obtain⟨c,e⟩:=vI (n:=s.heap.objs.size+1) k
   refine .inr ⟨.inl k,c,e,?_⟩
   have q:=x.cell y c e
   rw[tp PY hp hu (by show scope.names.lookup y≠_;rw[k];decide)]at q
   exact q
 ·exact .inl (e0.bV.fresh (Nat.le_of_lt (x.above y c (PySem.mem_of_lookup h))))
 ·unfold start
  show _=N.length
  rw[List.length_append,List.length_map,List.length_replicate]
  omega
theorem Fx{CX:s_}{P:Program}{w:World}{K:PySem.W.Frag}{mg:Str→Option Value}{base:Heap}{k:Nat}{f:Addr}{name qual:Str}{params:Arguments}{body:List Stmt}{scope:Scope}{dV kV doc pm bo ct oc:Value}{an od:Option Addr}
  {ky:Array (Option Value)}{N ps:List Str}{sp:Sp}(lk:K.lookup f=some ⟨oc,od,.func (PySem.W.fnOf name qual params body scope dV kV doc pm an bo ct),ky⟩)(jt:PySem.W.codeIn K bo qual=true)(S:aP N ps scope)
  (len:∀vs H Q E,sp vs H Q E→vs.length=ps.length)
  (j3:∀(A:Around) (outer:List Env) (s:Shared) (H:Hp) (vs:List V) (Q:VK) (E:XK),eT k (A.deeper (envOfC qual scope s.heap.objs.size f bo))→sp vs H Q E→
   ∃t,kr (oB CX P w K mg base N qual scope f bo A outer s H E) body t∧t { nx:=fun _ H'=>Q .bC H',rt:=Q } (start N vs) H):
  bM P w K mg base CX (k+1) f (PySem.W.fnOf name qual params body scope dV kV doc pm an bo ct) ps sp:=by
 refine⟨len,fun A outer s H args us vs Q E hr e0 hb r vh=>?_⟩
 have hl:=len _ _ _ _ vh
 have KX:K.In s.heap:=e0.mod.EV.keeps fun b o e=>(e0.bs b o e).1
 have lim:s.heap.NoLimit:=e0.mod.nolimit.keeps fun b o e=>(e0.bs b o e).1
 have MA:∀y∈ps.zip us,scope.names.lookup y.1=some .local∨(scope.names.lookup y.1=some .cell∧((cellsFrom (s.heap.objs.size+1) scope.names []).lookup y.1).isSome=true):=by
  rintro⟨n,v⟩ hy
  rcases S.par n (List.of_mem_zip hy).1 with q|q
  ·exact .inl q
  ·exact .inr ⟨q,PySem.W.cellsFrom_some _ _ _ (.inl q)⟩
 refine codeAny_call_function hr.depth (KX _ _ lk) rfl S.co S.gen rfl (PySem.W.codeRec_of KX jt) (hb _ _ _ _ ?_)
 refine wpAny_newFunctionEnv_cells S.kind MA fun env he s1 x=>?_
 subst he
 refine⟨lim.keeps x.toInCall.keep,codeAny_func ?_⟩
 obtain⟨t,ht,hq⟩:=j3 A outer s H vs Q E (hr.deeper _) vh
 have I:Inv (oB CX P w K mg base N qual scope f bo A outer s H E) [] (start N vs) H s1:=AW S hr.hd e0 hl r x
 refine wpAny_mono (ht [] s1 (start N vs) H _ I hq) (fun fl s' hs=>?_) fun e s' hs=>hs
 have fin:∀{σ':St}{H':Hp}{v:V}{u:Value},Inv (oB CX P w K mg base N qual scope f bo A outer s H E) [] σ' H' s'→RelV v u→Q v H'→CE outer P w H s Q u s':=
  fun {σ' H' v u} J rv q=>⟨v,H',J.os,J.bare,J.base,J.bV,rv,q⟩
 cases fl with
 |ret u=>
  obtain⟨v,σ',H',J,rv,q⟩:=hs
  exact fin J rv q
 |next=>
  obtain⟨σ',H',J,q⟩:=hs
  exact fin (v:=V.bC) (u:=Value.none) J rfl q
 |brk=>
  obtain⟨_,_,_,q⟩:=hs
  exact False.elim q
 |cont=>
  obtain⟨_,_,_,q⟩:=hs
  exact False.elim q
end L2
namespace L2
open PySem PySem.Spec PyProof.Rows
section
variable{X:Cx}{x:Str}{p pos:Pos}{e:Expr}{es:List Expr}{t:TA}{id T:String}{r:List V→Hp→VK→Prop}
def MB(r:List V→Hp→VK→Prop)(t:TA):TE:=fun σ H Q=>t σ H fun vs H1=>r vs H1 Q
theorem Dh(hc:gf X (.builtin id) r)(hg:Gl X x)(hm:X.mg x=none)(hv:bootBuiltins x=some (.builtin id))(ha:PA X (e::es) t)(hn:x≠"__name__":=by decide)(nO:(x==("__debug__":Str))=false:=by decide)
  (he:starEach (e::es) X.env=(false,eval e X.env)::starEach es X.env:=by rfl)(ip:(backTo pos (starEach es X.env)).any (·.1)=false:=by rfl):PE X (.Call (.Name x p) (e::es) [] pos) (MB r t):=by
 intro pins s σ H Q I h
 refine wpAny_Call_Name_kw (gc I hg hm hv ?_ hn nO)
 exact PyProof.Rows.callWith_builtin1 (bK (ha pos pins s σ H _ I h) fun us s1 ⟨vs,H1,I1,r1,q1⟩=>hc pins s1 σ H1 vs us Q I1 r1 q1) he ip
theorem AX(hc:gf X (.type T) r)(hg:Gl X x)(hm:X.mg x=none)(hv:bootBuiltins x=some (.type T))(ha:PA X (e::es) t)(hn:x≠"__name__":=by decide)(nO:(x==("__debug__":Str))=false:=by decide)
  (he:starEach (e::es) X.env=(false,eval e X.env)::starEach es X.env:=by rfl)(ip:(backTo pos (starEach es X.env)).any (·.1)=false:=by rfl):PE X (.Call (.Name x p) (e::es) [] pos) (MB r t):=by
 intro pins s σ H Q I h
 refine wpAny_Call_Name_kw (gc I hg hm hv ?_ hn nO)
 exact PyProof.Rows.callWith_type1 (bK (ha pos pins s σ H _ I h) fun us s1 ⟨vs,H1,I1,r1,q1⟩=>hc pins s1 σ H1 vs us Q I1 r1 q1) he ip
end
end L2
namespace HT
open PySem PyProof.Rows
section
open PySem.SeqAt
open PySem.AutoSeq1 (wpAny_loadPart')
open PySem.MeetsSeq PySem.MeetsSeq2 PySem.MeetsSeq3
end
section
variable{prog:Program}{w:World}{A:Around}{E:Value→Shared→Prop}{s:Shared}
theorem Fy{t b:Addr}{vs ws:List Value}{Q:Value→Shared→Prop}(ht:IsTup s.heap t vs.toArray)(hb:IsTup s.heap b ws.toArray)(hv:vs≠[])
  (h1:ws=[]→Q (.ref t) s)(h2:ws≠[]→Q (.ref s.heap.objs.size) { s with heap:=s.heap.push { cls:=.type "tuple",data:=.seq (vs++ws).toArray } })
  (nP:vs.length+ws.length≤sizeLine):wpAny (model prog w) A (binaryOp .Add (.ref t) (.ref b)) Q E s:=by
 obtain⟨⟨cls,dd,data,sl⟩,ho,hc,n,hd⟩:=id ht
 obtain⟨⟨PZ,Jk,data2,Jl⟩,wL,kL,n2,hd2⟩:=id hb
 simp only at hc hd kL hd2
 subst hc hd kL hd2
 have e:vs.toArray++ws.toArray=(vs++ws).toArray:=by simp
 by_cases hw:ws=[]
 ·exact concat_meets ⟨_,ho,rfl⟩ ⟨_,wL,rfl⟩ noFill_tuple_add seq_tuple_add PySem.F.slot_tuple_add PySem.F.entry_tuple_add (PySem.F.args_tuple_add_2 _ _)
   (tuple_addW1 t b vs.toArray ws.toArray n n2 dd Jk sl Jl (by simpa using hv) (by simp[hw])) ⟨ho,wL,h1 hw⟩
 ·refine concat_meets ⟨_,ho,rfl⟩ ⟨_,wL,rfl⟩ noFill_tuple_add seq_tuple_add PySem.F.slot_tuple_add PySem.F.entry_tuple_add (PySem.F.args_tuple_add_2 _ _)
   (tuple_addW2 t b vs.toArray ws.toArray n n2 dd Jk sl Jl (by simpa using hv) (by simpa using hw) (by rw[List.size_toArray,List.size_toArray];exact nP)) ⟨ho,wL,?_⟩
  rw[e]
  exact h2 hw
def cn(n d:Nat):Option Int→Nat
 |none=>d
 |some v=>if v<0 then(v+(n:Int)).toNat else min v.toNat n
theorem Jm(n d:Nat)(hd:d≤n)(o:Option Int):cn n d o≤n:=by
 cases o with
 |none=>exact hd
 |some v=>
  show(if v<0 then(v+(n:Int)).toNat else min v.toNat n)≤n
  by_cases hv:v<0
  ·rw[if_pos hv];omega
  ·rw[if_neg hv];exact Nat.min_le_right _ _
theorem yy(v:Int)(n d:Nat):(if v<0 then max (v+(n:Int)) 0 else min v (n:Int))=((cn n d (some v):Nat):Int):=by
 show(if v<0 then max (v+(n:Int)) 0 else min v (n:Int))=(((if v<0 then(v+(n:Int)).toNat else min v.toNat n):Nat):Int)
 by_cases hv:v<0
 ·simp only[if_pos hv];omega
 ·simp only[if_neg hv];omega
theorem yz(lo hi:Option Int)(n:Nat):Builtin.Slice.sliceAdjust lo hi 1 (n:Int)=(((cn n 0 lo:Nat):Int),((cn n n hi:Nat):Int)):=by
 have h1:¬((1:Int)<0):=by omega
 unfold Builtin.Slice.sliceAdjust
 simp only[h1,if_false]
 refine Prod.ext ?_ ?_
 ·cases lo with
  |none=>rfl
  |some v=>exact yy v n 0
 ·cases hi with
  |none=>rfl
  |some v=>exact yy v n n
theorem yA(i j:Nat):Builtin.Slice.slicePlaces (i:Int) (j:Int) 1=j - i:=by
 unfold Builtin.Slice.slicePlaces
 have h1:(1:Int) > 0:=by omega
 simp only[h1,if_true,Int.ediv_one]
 split<;>omega
theorem qM{v:Value}{o:Option Int}{Q:Option Int→Shared→Prop}(p:IsPart v o)(h:Q o s):wpAny (model prog w) A (Builtin.Slice.slicePartIndex v) Q E s:=by
 cases p with
 |none=>exact slicePart_none h
 |int i t=>exact slicePart_int h
theorem i_{sl:Addr}{vl vu:Value}{lo hi:Option Int}{n:Nat}{Q:Int×Int×Nat→Shared→Prop}(hs:s.heap.IsSliceOf sl vl vu .none)(pl:IsPart vl lo)(pu:IsPart vu hi)
  (h:Q (((cn n 0 lo:Nat):Int),1,cn n n hi - cn n 0 lo) s):wpAny (model prog w) A (Builtin.Slice.sliceApplied (.ref sl) (pure (n:Int))) Q E s:=by
 obtain⟨os,AY,Jn,Fz⟩:=id hs
 unfold Builtin.Slice.sliceApplied Builtin.Slice.sliceFields
 refine wpAny_bind (wpAny_bind (wpAny_field AY Fz (x:=vl) rfl (wpAny_bind (wpAny_field AY Fz (x:=vu) rfl (wpAny_bind (wpAny_field AY Fz (x:=.none) rfl (wpAny_pure ?_)))))))
 refine wpAny_bind (slicePart_none ?_)
 show wpAny _ _ (if ((1:Int)==0)=true then _ else _) _ _ s
 rw[if_neg (by decide)]
 refine wpAny_bind (qM pl (wpAny_bind (qM pu (wpAny_bind (wpAny_pure ?_)))))
 show wpAny _ _ (match Builtin.Slice.sliceAdjust lo hi 1 (n:Int)with|(lo,hi)=>pure (lo,(1:Int),Builtin.Slice.slicePlaces lo hi 1)) _ _ s
 rw[yz lo hi n]
 show wpAny _ _ (pure (((cn n 0 lo:Nat):Int),(1:Int),Builtin.Slice.slicePlaces ((cn n 0 lo:Nat):Int) ((cn n n hi:Nat):Int) 1)) _ _ s
 rw[yA]
 exact wpAny_pure h
theorem Di(xs:Array Value)(i k:Nat):((List.range k).filterMap fun(m:Nat)=>xs[((i:Int)+(m:Int)*1).toNat]?).toArray=((xs.toList.drop i).take k).toArray:=by
 have e:(fun(m:Nat)=>xs[((i:Int)+(m:Int)*1).toNat]?)=fun m=>xs[i+m]? :=by
  funext m
  have:((i:Int)+(m:Int)*1).toNat=i+m:=by omega
  rw[this]
 rw[e]
 have:=pick_run xs i k
 rw[List.filterMap_map]at this
 have e2:((fun x=>xs[x]?) ∘ fun x=>i+x)=fun m=>xs[i+m]? :=rfl
 rw[e2]at this
 rw[this]
theorem nQ{t sl:Addr}{items:Array Value}{vl vu:Value}{lo hi:Option Int}{Q:Value→Shared→Prop}(ht:IsTup s.heap t items)(hs:s.heap.IsSliceOf sl vl vu .none)(pl:IsPart vl lo)(pu:IsPart vu hi)
  (hw:¬(cn items.size 0 lo=0∧cn items.size items.size hi=items.size))
  (h:Q (.ref s.heap.objs.size) { s with heap:=s.heap.push { cls:=.type "tuple",data:=.seq ((items.toList.drop (cn items.size 0 lo)).take (cn items.size items.size hi - cn items.size 0 lo)).toArray } })
  (nP:items.size≤sizeLine):wpAny (model prog w) A (getItem (.ref t) (.ref sl)) Q E s:=by
 have wY:sizeOk (.seq ((items.toList.drop (cn items.size 0 lo)).take (cn items.size items.size hi - cn items.size 0 lo)).toArray):=by
  show((items.toList.drop (cn items.size 0 lo)).take (cn items.size items.size hi - cn items.size 0 lo)).toArray.size≤sizeLine
  rw[List.size_toArray,List.length_take,List.length_drop,Array.length_toList]
  omega
 have hj:cn items.size items.size hi≤items.size:=Jm _ _ (Nat.le_refl _) hi
 obtain⟨os,AY,Jn,Fz⟩:=id hs
 have MC:s.TypeIs (.ref sl) "slice":=⟨os,AY,Jn⟩
 unfold getItem
 try with_reducible refine wpAny_holding ?_
 first|refine wpAny_bind (wpAny_pure ?_)|skip
 refine wpAny_bind (wpAny_sequenceKey ht.typeIs (by decide) ?_)
 refine wpAny_bind (wpAny_callSpecial?_slot (name:=Str.ofString "__getitem__") ht.typeIs PyProof.Rows.slot_tuple_getitem
  (wpAny_call_entry PyProof.Rows.slot_tuple_getitem ht.typeIs entry_tuple_getitem ?_ (args_tuple_getitem _ _)))
 show wpAny _ _ (Builtin.Tuple.tupleItemsOf (.ref t) >>= _) _ _ s
 refine wpAny_bind (tupleItemsOf_ ht ?_)
 refine wpAny_bind (wpAny_typeOf MC ?_)
 rw[if_pos (by decide)]
 refine wpAny_bind (i_ hs pl pu ?_)
 have Dj:¬((((cn items.size 0 lo:Nat):Int)==0&&(1:Int)==1&&(cn items.size items.size hi - cn items.size 0 lo)==items.size)=true):=by
  intro q
  rw[Bool.and_eq_true,Bool.and_eq_true]at q
  have q1:((cn items.size 0 lo:Nat):Int)=0:=eq_of_beq q.1.1
  have q2:cn items.size items.size hi - cn items.size 0 lo=items.size:=eq_of_beq q.2
  exact hw ⟨by omega,by omega⟩
 show wpAny _ _ (if (((cn items.size 0 lo:Nat):Int)==0&&(1:Int)==1&&(cn items.size items.size hi - cn items.size 0 lo)==items.size)=true then _ else _) _ _ s
 rw[if_neg Dj,Di]
 first
  |exact wpAny_bind (m:=Builtin.Tuple.tupleExact _) (wpAny_newObj_type (wpAny_pure ⟨_,rfl,wpAny_pure h⟩) wY)
  |exact wpAny_bind (m:=Builtin.Tuple.tupleExact _) (wpAny_newObj_type (wpAny_bind (wpAny_pure (wpAny_pure ⟨_,rfl,wpAny_pure h⟩))) wY)
  |exact wpAny_bind (wpAny_bind (m:=Builtin.Tuple.tupleExact _) (wpAny_newObj_type (wpAny_pure (wpAny_pure ⟨_,rfl,wpAny_pure h⟩)) wY))
  |exact wpAny_bind (wpAny_bind (m:=Builtin.Tuple.tupleExact _) (wpAny_newObj_type (wpAny_pure ⟨_,rfl,wpAny_pure h⟩) wY))
end
end HT
namespace L2
open PySem PySem.Spec PyProof.Rows
abbrev TO:=St→Hp→(Option Int→Hp→Prop)→Prop
namespace Zu
set_option allowUnsafeReducibility true in
@[scoped irreducible] def _root_.L2.PO(X:Cx)(e:Option Expr)(t:TO):Prop:=
 ∀(pins:List (Addr×Obj)) (s:Shared) (σ:St) (H:Hp) (Q:Option Int→Hp→Prop),Inv X pins σ H s→t σ H Q→
  wpAny (model X.prog X.w) X.A (evalPart e X.env) (fun u s'=>∃o H',Inv X pins σ H' s'∧IsPart u o∧Q o H') X.xe s
end Zu
def FA:TO:=fun _ H Q=>Q none H
def MD(t:TE):TO:=fun σ H Q=>t σ H fun x H1=>∃i,x= .int i∧Q (some i) H1
section
variable{X:Cx}{e:Expr}{te:TE}{lo hi:Option Expr}{tl th:TO}{pos p2:Pos}
theorem FC:PO X none FA:=by
 intro pins s σ H Q I h
 rw[evalPart_none]
 exact wpAny_pure ⟨none,H,I,.none,h⟩
theorem FG(h:PE X e te):PO X (some e) (MD te):=by
 intro pins s σ H Q I hw
 rw[evalPart_some]
 refine bK (h pins s σ H _ I hw) fun u s1 bh=>?_
 obtain⟨x,H1,I1,r1,q1⟩:=bh
 obtain⟨i,rfl,q⟩:=q1
 obtain⟨t,rfl⟩:=r1
 exact⟨some i,H1,I1,.int i t,q⟩
def wZ(X:Cx)(r:V→Option Int→Option Int→Hp→VK→Prop):Prop:=
 ∀(pins:List (Addr×Obj)) (s:Shared) (σ:St) (H:Hp) (x:V) (v vl vu:Value) (lo hi:Option Int) (sl:Addr) (Q:VK),Inv X pins σ H s→RelV x v→s.heap.IsSliceOf sl vl vu .none→IsPart vl lo→IsPart vu hi→r x lo hi H Q→
  ∃T id,typeLookup (.type T) "__getitem__" =pure (some (.builtin id))∧s.TypeIs v T∧wpAny (model X.prog X.w) X.A (getItem v (.ref sl)) (EP X pins σ Q) X.xe s
theorem wZ.or{r r':V→Option Int→Option Int→Hp→VK→Prop}(h:wZ X r)(h':wZ X r'):wZ X (fun x lo hi H Q=>r x lo hi H Q∨r' x lo hi H Q):=by
 intro pins s σ H x v vl vu lo hi sl Q I rx hs pl pu q
 rcases q with q|q
 ·exact h pins s σ H x v vl vu lo hi sl Q I rx hs pl pu q
 ·exact h' pins s σ H x v vl vu lo hi sl Q I rx hs pl pu q
def SH(r:V→Option Int→Option Int→Hp→VK→Prop)(te:TE)(tl th:TO):TE:=fun σ H Q=>te σ H fun x H1=>tl σ H1 fun l H2=>th σ H2 fun u H3=>r x l u H3 Q
theorem Dk{r:V→Option Int→Option Int→Hp→VK→Prop}(hr:wZ X r)(he:PE X e te)(hl:PO X lo tl)(hu:PO X hi th):PE X (.Subscript e (.Slice lo hi none p2) pos) (SH r te tl th):=by
 intro pins s σ H Q I h
 refine Subscript_ (bK (he pins s σ H _ I h) fun v s1 bh=>?_)
 obtain⟨x,H1,I1,r1,q1⟩:=bh
 refine wpAny_Slice (bK (hl pins s1 σ H1 _ I1 q1) fun vl s2 ⟨l,H2,I2,pl,q2⟩=>bK (hu pins s2 σ H2 _ I2 q2) fun vu s3 bh=>?_)
 obtain⟨u,H3,I3,pu,q3⟩:=bh
 rw[evalPart_none]
 refine wpAny_pure ?_
 have I4:Inv X pins σ H3 { s3 with heap:=s3.heap.push { cls:=.type "slice",data:=.fields #[vl,vu,.none] } }:=I3.kept (t':=s3.toks) fun b ob q=>Heap.get?_push_of_some _ q
 obtain⟨T,id,hT,ht,hg⟩:=hr pins { s3 with heap:=s3.heap.push { cls:=.type "slice",data:=.fields #[vl,vu,.none] } } σ H3 x v vl vu l u s3.heap.objs.size Q I4 r1 (Heap.IsSliceOf.new ..) pl pu q3
 show wpAny (model X.prog X.w) X.A (subscriptTail e (.Slice lo hi none p2) v (.ref s3.heap.objs.size)) (EP X pins σ Q) X.xe { s3 with heap:=s3.heap.push { cls:=.type "slice",data:=.fields #[vl,vu,.none] } }
 exact tail_any (ops:=[.ref s3.heap.objs.size,v]) ht hT hg (by with_unfolding_all rfl)
def kM(xs:List V)(lo hi:Option Int):List V:=(xs.drop (HT.cn xs.length 0 lo)).take (HT.cn xs.length xs.length hi - HT.cn xs.length 0 lo)
theorem oC(xs:List V)(lo hi:Option Int):(kM xs lo hi).length≤xs.length:=by
 unfold kM
 rw[List.length_take,List.length_drop]
 omega
def LA(K:PySem.W.Frag):V→Option Int→Option Int→Hp→VK→Prop:=fun x lo hi H Q=>∃a xs,x= .ref a∧bJ K H a xs∧
 ¬(HT.cn xs.length 0 lo=0∧HT.cn xs.length xs.length hi=xs.length)∧∀p,H p=none→Q (.ref p) (upd H p (.tup (kM xs lo hi)))
theorem Jo:wZ X (LA X.K):=by
 intro pins s σ H x v vl vu lo hi sl Q I rx hs pl pu h
 obtain⟨a,xs,rfl,hx,hw,q⟩:=h
 cases rx
 obtain⟨its,r,ht,hz⟩:=I.tuple hx
 have hlen:its.toArray.size=xs.length:=by rw[List.size_toArray];exact r.length.symm
 refine⟨"tuple",_,PyProof.Rows.slot_tuple_getitem.lookup,ht.typeIs,?_⟩
 refine HT.nQ ht hs pl pu (by rw[hlen];exact hw) ?_ (by rw[hlen];exact hz)
 rw[hlen]
 refine⟨.ref s.heap.objs.size,_,I.laid (t':=s.toks) (o:=.tup (kM xs lo hi)) (fun b ob q=>Heap.get?_push_of_some _ q) (Nat.le_refl _) ?_,rfl,q _ (I.bV.fresh (Nat.le_refl _))⟩
 exact⟨Nat.le_trans (oC xs lo hi) hz,_,(r.drop (HT.cn xs.length 0 lo)).take (HT.cn xs.length xs.length hi - HT.cn xs.length 0 lo),IsTup.new _ _⟩
def tq(K:PySem.W.Frag):R2:=fun x y H Q=>∃a b xs ys,x= .ref a∧y= .ref b∧bJ K H a xs∧bJ K H b ys∧xs≠[]∧xs.length+ys.length≤sizeLine∧
 (ys=[]→Q (.ref a) H)∧(ys≠[]→∀p,H p=none→Q (.ref p) (upd H p (.tup (xs++ys))))
theorem Vals.tu{xs:List V}{us:List Value}(r:Vals xs us):us=[]↔xs=[]:=by
 cases r with
 |nil=>simp
 |cons _ _=>simp
theorem yB:dB X (binaryOp .Add) (tq X.K):=by
 intro pins s σ H x y v u Q I rx ry h
 obtain⟨a,b,xs,ys,rfl,rfl,ha,hb,hx,hz,q1,q2⟩:=h
 cases rx
 cases ry
 obtain⟨its,r1,p1,_⟩:=I.tuple ha
 obtain⟨jI,r2,p2,_⟩:=I.tuple hb
 refine HT.Fy p1 p2 (fun z=>hx (r1.tu.mp z)) (fun z=>⟨.ref a,H,I,rfl,q1 (r2.tu.mp z)⟩) (fun z=>?_) (by rw[←r1.length,←r2.length];exact hz)
 refine⟨.ref s.heap.objs.size,_,I.laid (t':=s.toks) (o:=.tup (xs++ys)) (fun b ob q=>Heap.get?_push_of_some _ q) (Nat.le_refl _) ?_,rfl,q2 (fun w=>z (r2.tu.mpr w)) _ (I.bV.fresh (Nat.le_refl _))⟩
 exact⟨by rw[List.length_append];exact hz,_,r1.append r2,IsTup.new _ _⟩
end
end L2
namespace L2
open PySem PySem.Spec PyProof.Rows
def AZ(n:Nat)(i:Int):Option Nat:=if 0≤i then(if i<n then some i.toNat else none)else if -(n:Int)≤i then some (i+n).toNat else none
def Dl{α:Type}(xs:List α)(i:Int):Option α:=(AZ xs.length i).bind fun j=>xs[j]?
theorem yC{n:Nat}{i:Int}{j:Nat}(h:AZ n i=some j):seqIndex? i n=some j∧j<n∧-(n:Int)≤i∧i<n:=by
 unfold AZ at h
 by_cases h0: 0≤i
 ·rw[if_pos h0]at h
  by_cases h1:i<n
  ·rw[if_pos h1]at h
   have e:i.toNat=j:=Option.some.inj h
   exact⟨by rw[seqIndex_of h0 h1,e],by omega,by omega,h1⟩
  ·rw[if_neg h1]at h;cases h
 ·rw[if_neg h0]at h
  by_cases h1: -(n:Int)≤i
  ·rw[if_pos h1]at h
   have e:(i+n).toNat=j:=Option.some.inj h
   exact⟨by rw[seqIndex_neg (by omega) h1,e],by omega,h1,by omega⟩
  ·rw[if_neg h1]at h;cases h
theorem tw{α:Type}{xs:List α}{i:Int}{v:α}(h:Dl xs i=some v):∃j,seqIndex? i xs.length=some j∧xs[j]? =some v∧j<xs.length∧-(xs.length:Int)≤i∧i<xs.length:=by
 unfold Dl at h
 cases e:AZ xs.length i with
 |none=>rw[e]at h;cases h
 |some j=>
  rw[e]at h
  obtain⟨h1,h2,h3,h4⟩:=yC e
  exact⟨j,h1,h,h2,h3,h4⟩
def oD(b:Expr):Prop:=∀o i,subscripted b false o i=operate [o,i] (getItem o i)
def vi(X:Cx)(r:R2):Prop:=
 ∀(value slice:Expr) (pins:List (Addr×Obj)) (s:Shared) (σ:St) (H:Hp) (x y:V) (v u:Value) (Q:VK),Inv X pins σ H s→RelV x v→RelV y u→r x y H Q→
  subscripted slice false v u=operate [v,u] (getItem v u)→wpAny (model X.prog X.w) X.A (subscriptTail value slice v u) (EP X pins σ Q) X.xe s
def SI(X:Cx)(id:String)(r:V→List V→Hp→VK→Prop):Prop:=
 ∀(pins:List (Addr×Obj)) (s:Shared) (σ:St) (H:Hp) (x:V) (xs:List V) (v:Value) (us:List Value) (Q:VK),Inv X pins σ H s→RelV x v→Vals xs us→r x xs H Q→
  wpAny (model X.prog X.w) X.A (call (.builtin id) (v::us)) (EP X pins σ Q) X.xe s
section
variable{X:Cx}{a b:Expr}{ta tb:TE}{pos:Pos}
theorem vi.or{r r':R2}(h:vi X r)(h':vi X r'):vi X (fun x y H Q=>r x y H Q∨r' x y H Q):=by
 intro value slice pins s σ H x y v u Q I rx ry q hs
 rcases q with q|q
 ·exact h value slice pins s σ H x y v u Q I rx ry q hs
 ·exact h' value slice pins s σ H x y v u Q I rx ry q hs
theorem ME{r:R2}(hr:vi X r)(ha:PE X a ta)(hb:PE X b tb)(hs:oD b):PE X (.Subscript a b pos) (Fh r ta tb):=by
 intro pins s σ H Q I h
 exact Subscript_ (Fi ha hb I h fun v u s2 x y H2 I2 rx ry q=>hr a b pins s2 σ H2 x y v u Q I2 rx ry q (hs _ _))
def LB(K:PySem.W.Frag):R2:=fun x y H Q=>∃p xs i v,x= .ref p∧y= .int i∧dI K H p xs∧Dl xs i=some v∧Q v H
def LC(K:PySem.W.Frag):R2:=fun x y H Q=>∃p xs i v,x= .ref p∧y= .int i∧bJ K H p xs∧Dl xs i=some v∧Q v H
def LD:R2:=fun x y H Q=>∃z i c,x= .str z∧y= .int i∧z.length≤sizeLine∧Dl z.cps.toList i=some c∧Q (.str ⟨#[c]⟩) H
theorem FH:vi X (LB X.K):=by
 intro value slice pins s σ H x y v u Q I rx ry h hs
 obtain⟨p,xs,i,z,rfl,rfl,hq,he,q⟩:=h
 cases rx
 obtain⟨t,rfl⟩:=ry
 obtain⟨its,r,pl,hz⟩:=I.list hq
 obtain⟨j,h1,h2,h3,h4,h5⟩:=tw he
 obtain⟨w,ew,yp⟩:=r.get h2
 have hl:=r.length
 have hn:=oz
 have fin:EP X pins σ Q w s:=⟨z,H,I,yp,q⟩
 by_cases h0: 0≤i
 ·have hj:i.toNat=j:=by
   rw[seqIndex_of h0 h5]at h1
   exact Option.some.inj h1
  exact item_listR pl.isList h0 (by omega) (by rw[hj];simpa using ew) fin hs
 ·have hj:(i+(its.toArray.size:Int)).toNat=j:=by
   rw[seqIndex_neg (by omega) h4]at h1
   rw[List.size_toArray,←hl]
   exact Option.some.inj h1
  exact subscriptTail_builtinR (x:=w) pl.isList.typeIs slot_list_getitem.lookup
   (wpAny_getItem_list_neg (Q:=fun r s'=>r=w∧EP X pins σ Q r s') pl.isList (by omega) (by rw[List.size_toArray]<;>omega) (by omega) (by rw[hj];simpa using ew) ⟨rfl,fin⟩) hs
theorem Jp:vi X (LC X.K):=by
 intro value slice pins s σ H x y v u Q I rx ry h hs
 obtain⟨p,xs,i,z,rfl,rfl,hq,he,q⟩:=h
 cases rx
 obtain⟨t,rfl⟩:=ry
 obtain⟨its,r,pl,hz⟩:=I.tuple hq
 obtain⟨j,h1,h2,h3,h4,h5⟩:=tw he
 obtain⟨w,ew,yp⟩:=r.get h2
 have hl:=r.length
 have hn:=oz
 have fin:EP X pins σ Q w s:=⟨z,H,I,yp,q⟩
 exact subscriptTail_builtinR (x:=w) pl.typeIs slot_tuple_getitem.lookup
  (getItem_tuple (j:=j) (Q:=fun r s'=>r=w∧EP X pins σ Q r s') pl (by omega) (by omega) (by rw[List.size_toArray,←hl];exact h1) (by simpa using ew) ⟨rfl,fin⟩) hs
theorem Jq:vi X LD:=by
 intro value slice pins s σ H x y v u Q I rx ry h hs
 obtain⟨z,i,c,rfl,rfl,hz,he,q⟩:=h
 obtain⟨t,rfl⟩:=rx
 obtain⟨t',rfl⟩:=ry
 obtain⟨j,h1,h2,h3,h4,h5⟩:=tw he
 have hl:z.cps.toList.length=z.length:=by simp[Str.length]
 rw[hl]at h1 h4 h5
 have hn:=oz
 exact tail_any (typeIs_str s z t) slot_str_getitem.lookup (getItem_str (c:=c) (by
  have e1:decide (i< -(2 ^ 63:Int))=false:=decide_eq_false (by omega)
  have e2:decide (i≥2 ^ 63)=false:=decide_eq_false (by omega)
  rw[e1,e2,Bool.or_false]) (by rw[h1];simpa using h2) ⟨.str ⟨#[c]⟩,H,I.tok _,⟨_,rfl⟩,q⟩) hs
def P0(K:PySem.W.Frag):R2:=fun x y H Q=>LB K x y H Q∨LC K x y H Q∨LD x y H Q
theorem Jr:vi X (P0 X.K):=FH.or (Jp.or Jq)
theorem yD(its:List Value)(n j:Nat)(u:Value):Obj.mapSeq (·.setIfInBounds j u) { cls:=.type "list",data:=.seq its.toArray n } = { cls:=.type "list",data:=.seq (its.set j u).toArray n }:=by
 simp[Obj.mapSeq]
theorem Inv.lst{pins:List (Addr×Obj)}{σ:St}{H:Hp}{s:Shared}{p:Addr}{xs:List V}(I:Inv X pins σ H s)(h:H p=some (.lst xs)):
  ∃(its:List Value) (n:Nat),Vals xs its∧s.heap.get? p=some { cls:=.type "list",data:=.seq its.toArray n }∧xs.length≤sizeLine:=by
 obtain⟨z,its,n,r,e⟩:=I.bV p _ h
 exact⟨its,n,r,e,z⟩
theorem Inv.Js{pins:List (Addr×Obj)}{σ:St}{H:Hp}{s:Shared}{p:Addr}{xs ys:List V}{its its':List Value}{n n':Nat}{f:Obj→Obj}(I:Inv X pins σ H s)(h:H p=some (.lst xs))
  (ho:s.heap.get? p=some { cls:=.type "list",data:=.seq its.toArray n })(hf:f { cls:=.type "list",data:=.seq its.toArray n } = { cls:=.type "list",data:=.seq its'.toArray n' })(r:Vals ys its')(hz:ys.length≤sizeLine)(t:Nat):
  Inv X pins σ (upd H p (.lst ys)) { s with heap:=s.heap.update p f,toks:=t }:=by
 have e:(s.heap.update p f).get? p=some { cls:=.type "list",data:=.seq its'.toArray n' }:=by
  rw[Heap.get?_update_self f ho (by rw[hf]<;>rfl),hf]
 refine I.write (x:=p) (e:=p) (by rw[h];trivial) (.inl rfl) (fun b u hb q=>(Heap.get?_update_other _ _ (Ne.symm hb)).trans q) ⟨_,e⟩ ?_
 exact⟨hz,its',n',r,e⟩
def MF:V→V→V→Hp→(Hp→Prop)→Prop:=fun o i v H Q=>∃p xs k j,o= .ref p∧i= .int k∧H p=some (.lst xs)∧AZ xs.length k=some j∧Q (upd H p (.lst (xs.set j v)))
theorem set_list:Lv X MF:=by
 intro pins s σ H o i v ov iv u Q I ro ri rv h
 obtain⟨p,xs,k,j,rfl,rfl,hp,hj,q⟩:=h
 cases ro
 obtain⟨t,rfl⟩:=ri
 obtain⟨its,n,r,ho,hz⟩:=I.lst hp
 obtain⟨h1,h2,h3,h4⟩:=yC hj
 have hl:=r.length
 have hn:=oz
 have I':Inv X pins σ (upd H p (.lst (xs.set j v))) { s with heap:=s.heap.update p (Obj.mapSeq (·.setIfInBounds j u)) }:=
  I.Js hp ho (yD its n j u) (r.set rv j) (by rw[List.length_set];exact hz) s.toks
 by_cases h0: 0≤k
 ·have hk:k.toNat=j:=by
   rw[seqIndex_of h0 h4]at h1
   exact Option.some.inj h1
  exact PySem.W.ki_setAt ho h0 (by omega) (by rw[List.size_toArray,←hl];exact h4) (by rw[hk];exact⟨_,I',q⟩)
 ·have hk:(k+(its.toArray.size:Int)).toNat=j:=by
   rw[seqIndex_neg (by omega) h3]at h1
   rw[List.size_toArray,←hl]
   exact Option.some.inj h1
  exact PySem.W.ki_setBack ho (by omega) (by rw[List.size_toArray,←hl];exact h3) (by omega) (by rw[hk];exact⟨_,I',q⟩)
theorem vj(lo hi:Option Int)(n:Nat):(sliceBounds lo hi none n).1=((HT.cn n 0 lo:Nat):Int)∧(sliceBounds lo hi none n).2.1=((HT.cn n n hi:Nat):Int)∧(sliceBounds lo hi none n).2.2=1:=by
 refine⟨?_,?_,rfl⟩
 ·cases lo with
  |none=>simp[sliceBounds,HT.cn]
  |some i=>
   simp only[sliceBounds,HT.cn,Option.getD_none,show(1:Int) > 0 by decide,if_true]
   by_cases h:i<0
   ·simp only[h,if_true]<;>omega
   ·simp only[h,if_false]<;>omega
 ·cases hi with
  |none=>simp[sliceBounds,HT.cn]
  |some i=>
   simp only[sliceBounds,HT.cn,Option.getD_none,show(1:Int) > 0 by decide,if_true]
   by_cases h:i<0
   ·simp only[h,if_true]<;>omega
   ·simp only[h,if_false]<;>omega
theorem tD(its:List Value)(lo hi:Option Int):slicePick its.toArray lo hi none=((its.drop (HT.cn its.length 0 lo)).take (HT.cn its.length its.length hi - HT.cn its.length 0 lo)).toArray:=by
 obtain⟨h1,h2,h3⟩:=vj lo hi its.toArray.size
 unfold slicePick
 rw[h1,h2,h3]
 simp only[sliceRange_one,pick_run,List.size_toArray]<;>rfl
def LF(K:PySem.W.Frag):V→Option Int→Option Int→Hp→VK→Prop:=fun x lo hi H Q=>∃a xs,x= .ref a∧dI K H a xs∧∀p,H p=none→Q (.ref p) (upd H p (.lst (kM xs lo hi)))
theorem FI:wZ X (LF X.K):=by
 intro pins s σ H x v vl vu lo hi sl Q I rx hs pl pu h
 obtain⟨a,xs,rfl,hx,q⟩:=h
 cases rx
 obtain⟨its,r,ht,hz⟩:=I.list hx
 have hlen:=r.length
 refine⟨"list",_,slot_list_getitem.lookup,ht.isList.typeIs,?_⟩
 refine wpAny_getItem_list_slice ht.isList hs pl pu .none (by simp) ?_ (by rw[List.size_toArray]<;>omega)
 rw[tD,←hlen]
 refine⟨.ref s.heap.objs.size,_,I.laid (t':=s.toks) (o:=.lst (kM xs lo hi)) (fun b ob q=>Heap.get?_push_of_some _ q) (Nat.le_refl _) ?_,rfl,q _ (I.bV.fresh (Nat.le_refl _))⟩
 exact⟨Nat.le_trans (oC xs lo hi) hz,_,0,(r.drop (HT.cn xs.length 0 lo)).take (HT.cn xs.length xs.length hi - HT.cn xs.length 0 lo),Heap.get?_push_size _ rfl⟩
theorem vk:gf X (.builtin "len") (fun xs H Q=>∃p ys,xs=[.ref p]∧(dI X.K H p ys∨bJ X.K H p ys)∧Q (.int ys.length) H):=by
 intro pins s σ H xs us Q I r h
 obtain⟨p,ys,rfl,hq,q⟩:=h
 obtain⟨u,rfl,rx⟩:=vals1 r
 cases rx
 have hn:=oz
 rcases hq with hq|hq
 ·obtain⟨its,r',pl,hz⟩:=I.list hq
  have hlen:=r'.length
  exact Calls.call_len_list pl.isList (by simp only[List.size_toArray]<;>omega) ⟨.int ys.length,H,I.tok _,⟨s.toks+1,by rw[List.size_toArray,hlen]⟩,q⟩
 ·obtain⟨its,r',pl,hz⟩:=I.tuple hq
  have hlen:=r'.length
  exact len_tuple pl (by simp only[List.size_toArray]<;>omega) ⟨.int ys.length,H,I.tok _,⟨s.toks+1,by rw[List.size_toArray,hlen]⟩,q⟩
theorem kN:gf X (.type "tuple") (fun xs H Q=>∃p ys,xs=[.ref p]∧((dI X.K H p ys∧∀l,H l=none→Q (.ref l) (upd H l (.tup ys)))∨(bJ X.K H p ys∧Q (.ref p) H))):=by
 intro pins s σ H xs us Q I r h
 obtain⟨p,ys,rfl,h⟩:=h
 obtain⟨u,rfl,rx⟩:=vals1 r
 cases rx
 rcases h with⟨hq,q⟩|⟨hq,q⟩
 ·obtain⟨its,r',pl,hz⟩:=I.list hq
  have hlen:=r'.length
  refine call_tuple_list pl.isList (fun h' kp=>?_) (by simp only[List.size_toArray]<;>omega)
  have I1:Inv X pins σ H { s with heap:=h' }:=I.kept (t':=s.toks) kp
  have I2:Inv X pins σ (upd H h'.objs.size (.tup ys)) { s with heap:=h'.push { cls:=.type "tuple",data:=.seq its.toArray } }:=
   I1.laid (t':=s.toks) (fun b o e=>Heap.get?_push_of_some _ e) (Nat.le_refl _) (show dq X.prog X.w _ _ _ (.tup ys)from⟨hz,its,r',IsTup.new _ _⟩)
  exact⟨.ref h'.objs.size,_,I2,rfl,q _ (I1.bV.fresh (Nat.le_refl _))⟩
 ·obtain⟨its,r',pl,hz⟩:=I.tuple hq
  exact call_tuple_same pl ⟨.ref p,H,I,rfl,q⟩
def MG(K:PySem.W.Frag)(T:String)(x:V)(H:Hp):Prop:=match x with
 |.str _=>T= "str"
 |.int _=>T= "int"
 |.ref p=>(T= "list"∧∃xs,dI K H p xs)∨(T= "tuple"∧∃o,K.lookup p=some o∧o.cls= .type "tuple"∧o.dict=none)∨
   (T= "dict"∧((∃bq,H p=some (.dK bq))∨∃bq,H p=some (.dT bq)))∨(T= "set"∧∃S n,H p=some (.set S n))
 |_=>False
theorem Jt{pins:List (Addr×Obj)}{σ:St}{H:Hp}{s:Shared}{T:String}{x:V}{v:Value}(I:Inv X pins σ H s)(r:RelV x v)(ty:MG X.K T x H):
  s.TypeIs v T∧∀a,v= .ref a→∃ob,s.heap.get? a=some ob∧ob.dict=none:=by
 cases x with
 |str z=>
  obtain⟨t,rfl⟩:=r
  cases (show T= "str" from ty)
  exact⟨typeIs_str s z t,fun _ e=>nomatch e⟩
 |int i=>
  obtain⟨t,rfl⟩:=r
  cases (show T= "int" from ty)
  exact⟨typeIs_int s i t,fun _ e=>nomatch e⟩
 |ref p=>
  cases r
  rcases ty with⟨rfl,xs,hq⟩|⟨rfl,o,hk,hc,hd⟩|⟨rfl,hk⟩|⟨rfl,S,n,hk⟩
  ·obtain⟨its,_,pl,_⟩:=I.list hq
   refine⟨pl.isList.typeIs,fun a e=>?_⟩
   cases e
   obtain⟨o,n,e,c,hd,_⟩:=pl
   exact⟨o,e,hd⟩
  ·refine⟨⟨o,I.kJ p o hk,hc⟩,fun a e=>?_⟩
   cases e
   exact⟨o,I.kJ _ o hk,hd⟩
  ·have z:∃o,s.heap.get? p=some o∧o.ExactDict:=by
    rcases hk with⟨bq,hk⟩|⟨bq,hk⟩
    ·obtain⟨_,_,_,_,o,_,_,e,ex,_⟩:=I.bV p _ hk
     exact⟨o,e,ex⟩
    ·obtain⟨_,_,_,_,o,_,_,e,ex,_⟩:=I.bV p _ hk
     exact⟨o,e,ex⟩
   obtain⟨o,e,ex⟩:=z
   refine⟨⟨o,e,ex.1⟩,fun a e2=>?_⟩
   cases e2
   exact⟨o,e,ex.2.1⟩
  ·obtain⟨o,_,_,_,e,ex,_⟩:=I.bV p _ hk
   refine⟨⟨o,e,ex.1⟩,fun a e2=>?_⟩
   cases e2
   exact⟨o,e,ex.2.1⟩
 |_=>exact False.elim ty
def SJ(K:PySem.W.Frag)(T:String)(r:V→List V→Hp→VK→Prop)(to:TE)(t:TA):TE:=fun σ H Q=>to σ H fun x H1=>MG K T x H1∧t σ H1 fun xs H2=>r x xs H2 Q
variable{o e:Expr}{es:List Expr}{to:TE}{t:TA}{name:Str}{apos gD:Pos}{T id:String}{r:V→List V→Hp→VK→Prop}
theorem MH(pa:PlainAttrs T)(slot:Slot T name id)(MI:typeOf (.builtin id)=pure (.type "method_descriptor"))(hm:SI X id r)(ho:PE X o to)(ha:PA X (e::es) t)
  (A0:attributeBase o name X.env (eval o X.env)=eval o X.env:=by rfl)
  (B0:((backTo gD (starEach (e::es) X.env)).all (fun x=>!x.1)&&(backToKw gD (keywordEach [] X.env)).all (fun x=>x.1.isSome)
   &&decide ((e::es).length+([]:List Keyword).length+(if ([]:List Keyword).isEmpty then 0 else 1)<30))=true:=by rfl)
  (A3:(apos.endLine==gD.line)=true:=by rfl)(hs:starEach (e::es) X.env=(false,eval e X.env)::starEach es X.env:=by rfl)(w6:(backTo gD (starEach es X.env)).any (·.1)=false:=by rfl):
  PE X (.Call (.Attribute o name apos) (e::es) [] gD) (SJ X.K T r to t):=by
 intro pins s σ H Q I h
 refine wpAny_Call_method_late A0 B0 A3 rfl (bK (ho pins s σ H _ I h) fun v s1 bh=>?_)
 obtain⟨x,H1,I1,r1,ty,q1⟩:=bh
 obtain⟨h1,h2⟩:=Jt I1 r1 ty
 refine⟨T,id,pa,slot,MI,h1,h2,?_⟩
 have hA:=ha gD pins s1 σ H1 _ I1 q1
 rw[hs]at hA ⊢
 refine Calls.callWith_builtin (by show(false||(backTo gD (starEach es X.env)).any (·.1))=false;rw[w6]<;>rfl) (Calls.evalArgs_plain ?_)
 exact bK hA fun us s2 ⟨vs,H2,I2,r2,q2⟩=>hm pins s2 σ H2 x vs v us Q I2 r1 r2 q2
end
end L2
namespace L2
open PySem PySem.Spec PyProof.Rows
def MJ(X:Cx)(id:String)(r:V→List V→Hp→VK→Prop):Prop:=
 ∀(pins:List (Addr×Obj)) (s:Shared) (σ:St) (H:Hp) (x:V) (xs:List V) (v:Value) (us:List Value) (Q:VK),Inv X pins σ H s→RelV x v→Vals xs us→r x xs H Q→
  wpAny (model X.prog X.w) X.A (call (.builtin id) (v::us)) (EP X pins σ Q) X.xe s
theorem Vals.one:∀{x:V}{us:List Value},Vals [x] us→∃u,us=[u]∧RelV x u
 |_,_,.cons r .nil=>⟨_,rfl,r⟩
theorem Vals.two:∀{x y:V}{us:List Value},Vals [x,y] us→∃u v,us=[u,v]∧RelV x u∧RelV y v
 |_,_,_,.cons r (.cons q .nil)=>⟨_,_,rfl,r,q⟩
theorem Vals.reverse{xs:List V}{us:List Value}(h:Vals xs us):Vals xs.reverse us.reverse:=by
 induction h with
 |nil=>exact .nil
 |cons r t ih=>rw[List.reverse_cons,List.reverse_cons];exact Vals.append ih (.cons r .nil)
section
variable{X:Cx}{pins:List (Addr×Obj)}{σ:St}{H:Hp}{s:Shared}{l b:Addr}{xs ys zs:List V}
theorem Inv.LG{its its':List Value}{n:Nat}{f:Array Value→Array Value}{t':Nat}(I:Inv X pins σ H s)(hH:H l=some (.lst xs))
  (e:s.heap.get? l=some { cls:=.type "list",data:=.seq its.toArray n })(hf:f its.toArray=its'.toArray)(hv:Vals ys its')(hz:ys.length≤sizeLine):
  Inv X pins σ (upd H l (.lst ys)) { s with heap:=s.heap.update l (Obj.mapSeq f),toks:=t' }:=by
 have q:=PySem.IsL.update e f
 rw[hf]at q
 refine I.write (x:=l) (e:=l) (by rw[hH];exact trivial) (.inl rfl) (fun b' u hb hu=>(Heap.get?_update_other s.heap (Obj.mapSeq f) (Ne.symm hb)).trans hu) ⟨_,q⟩ ?_
 exact⟨hz,its',_,hv,q⟩
theorem Inv.LH{its:List Value}{t':Nat}(I:Inv X pins σ H s)(hv:Vals ys its)(hz:ys.length≤sizeLine):
  Inv X pins σ (upd H s.heap.objs.size (.lst ys)) { s with heap:=s.heap.push { cls:=.type "list",data:=.seq its.toArray },toks:=t' }:=
 I.laid (fun _ _ q=>Heap.get?_push_of_some _ q) (Nat.le_refl _) ⟨hz,its,0,hv,Heap.get?_push_size _ rfl⟩
theorem Inv.fresh(I:Inv X pins σ H s):H s.heap.objs.size=none:=I.bV.fresh (Nat.le_refl _)
theorem Inv.yE(I:Inv X pins σ H s)(hH:H l=some (.lst xs)):xs.length≤sizeLine∧∃(its:List Value) (n:Nat),Vals xs its∧xs.length=its.length∧s.heap.get? l=some { cls:=.type "list",data:=.seq its.toArray n }:=by
 obtain⟨z,its,n,r,e⟩:=I.bV l _ hH
 exact⟨z,its,n,r,r.length,e⟩
theorem Dm{n:Nat}(h:n≤sizeLine):Builtin.List.listTooLong n=false:=by
 unfold Builtin.List.listTooLong
 exact decide_eq_false (by omega)
end
section
variable{X:Cx}
def yF:V→List V→Hp→VK→Prop:=fun x vs H Q=>∃l xs y,x= .ref l∧vs=[y]∧H l=some (.lst xs)∧xs.length<sizeLine∧Q .bC (upd H l (.lst (xs++[y])))
theorem nR:MJ X "list.append" yF:=by
 intro pins s σ H x vs v us Q I rx rv h
 obtain⟨l,xs,y,rfl,rfl,hH,hz,q⟩:=h
 cases rx
 obtain⟨u,rfl,ru⟩:=rv.one
 obtain⟨z,its,n,r,hl,e⟩:=I.yE hH
 refine call_meets F.slot_list_append ⟨_,e,rfl⟩ F.entry_list_append (F.args_list_append_2 _ _) (PySem.list_append l its.toArray n u (by rw[List.size_toArray];omega)) ⟨e,?_⟩
 refine⟨.bC,_,I.LG (its':=its++[u]) hH e (by simp) (r.append (.cons ru .nil)) ?_,rfl,q⟩
 rw[List.length_append,List.length_singleton]
 omega
def FJ:V→List V→Hp→VK→Prop:=fun x vs H Q=>∃l b xs zs,x= .ref l∧vs=[.ref b]∧H l=some (.lst xs)∧H b=some (.lst zs)∧xs.length+zs.length≤sizeLine∧Q .bC (upd H l (.lst (xs++zs)))
theorem MK:MJ X "list.extend" FJ:=by
 intro pins s σ H x vs v us Q I rx rv h
 obtain⟨l,b,xs,zs,rfl,rfl,hH,hB,hz,q⟩:=h
 cases rx
 obtain⟨u,rfl,ru⟩:=rv.one
 cases ru
 obtain⟨z,its,n,r,hl,e⟩:=I.yE hH
 obtain⟨z2,jI,n2,r2,ML,e2⟩:=I.yE hB
 have nP:its.toArray.size+jI.toArray.size≤sizeLine:=by rw[List.size_toArray,List.size_toArray];omega
 have MM:¬(!its.toArray.isEmpty&&Builtin.List.listTooLong (its.toArray.size+jI.toArray.size))=true:=by
  rw[Dm nP,Bool.and_false]
  exact Bool.false_ne_true
 refine call_meets F.slot_list_extend ⟨_,e,rfl⟩ F.entry_list_extend (F.args_list_extend_2 _ _)
  (AutoSeq1.list_extend_list_list_0 l its.toArray n b jI.toArray n2 MM (by rw[List.size_toArray];omega) (by omega)) ⟨e,e2,?_⟩
 refine⟨.bC,_,I.LG (its':=its++jI) hH e (by simp) (r.append r2) ?_,rfl,q⟩
 rw[List.length_append]
 omega
def FK:R2:=fun x y H Q=>∃l b xs zs,x= .ref l∧y= .ref b∧H l=some (.lst xs)∧H b=some (.lst zs)∧xs.length+zs.length≤sizeLine∧∀p,H p=none→Q (.ref p) (upd H p (.lst (xs++zs)))
theorem Ju:dB X (binaryOp .Add) FK:=by
 intro pins s σ H x y v u Q I rx ry h
 obtain⟨l,b,xs,zs,rfl,rfl,hH,hB,hz,q⟩:=h
 cases rx
 cases ry
 obtain⟨z,its,n,r,hl,e⟩:=I.yE hH
 obtain⟨z2,jI,n2,r2,ML,e2⟩:=I.yE hB
 refine PySem.P.add_list e e2 ?_ (by rw[List.size_toArray,List.size_toArray];omega)
 have ea:its.toArray++jI.toArray=(its++jI).toArray:=by simp
 rw[ea]
 exact⟨.ref _,_,I.LH (t':=s.toks) (r.append r2) (by rw[List.length_append];omega),rfl,q _ I.fresh⟩
end
section
variable{prog:Program}{w:World}{A:Around}{E:Value→Shared→Prop}{s:Shared}
end
section
variable{X:Cx}
end
end L2
namespace P4
open PySem PySem.W PySem.Calls PyProof.Rows
theorem qg{P:Params}{h:Heap}:∀(ns:List Int) (vs:List Value),WellAll P h vs (ns.map WData.int)→IntsAre vs ns:=by
 intro ns
 induction ns with
 |nil=>
  intro vs w
  rw[List.map_nil]at w
  cases w
  exact .nil
 |cons n ns ih=>
  intro vs w
  rw[List.map_cons]at w
  cases w with
  |cons a b=>
   cases a
   exact .cons _ _ (ih _ b)
theorem A4{l:OpenLaw}{n:Nat}(hn:l.most=some n){P:Params}{h:Heap}{args:List WData}{vals:List Value}
  (B3:l.row.toRowW.claim.pre args=true)(MN:WellAll P h vals args):
  ∃a vs ns,vals=[Value.ref a]∧args=[WData.list (ns.map WData.int)]∧h.get? a=some { cls:=.type "list",data:=.seq vs.toArray }∧IntsAre vs ns∧ns.length≤n:=by
 have SK:WShape.hasAll [] args [.list .int]=true:=(pre_splitW B3).1
 have hc:l.pre.holds [] { args:=args } =true:=(pre_splitW B3).2
 obtain⟨d,r,rfl,h1,h2⟩:=hasAllW_cons SK
 obtain rfl:=hasAllW_nil h2
 obtain⟨xs,rfl,h3⟩:=hasW_list h1
 obtain⟨ns,rfl⟩:=items_int h3
 have hlen:ns.length≤n:=by
  unfold OpenLaw.pre at hc
  have h4:(WTm.not (.lt (.lit (.int (n:Int))) (.len (.arg 0)))).holds [] { args:=[.list (ns.map .int)] } =true:=by
   have h4:=(holds_andW hc).1
   rw[hn]at h4
   exact h4
  have h5:=condW_of h4 (w_not (w_lt w_lit (w_len_list (w_arg rfl))))
  rw[List.length_map]at h5
  refine Nat.le_of_not_lt fun q=>?_
  have q':(n:Int)<((ns.length:Nat):Int):=by omega
  first
   |(rw[decide_eq_true q']at h5;exact absurd h5 (by decide))
   |(simp at h5;omega)
 cases MN with
 |cons w1 w2=>
  cases w2
  cases w1 with
  |list ho ig=>exact⟨_,_,ns,rfl,rfl,ho,qg ns _ ig,hlen⟩
theorem A5(l:OpenLaw)(args:List WData):l.row.toRowW.claim.post args (.bool true) args=true:=
 postW_of (r:=l.row.toRowW) (X:=(true==true))
  (show WShape.has [] (.bool true) .bool=true by first|rfl|decide|simp[WShape.has,WShape.arms,WShape.armsAll])
  (show(WTm.eq .res (.lit (.bool true))).value [] { args:=args,res:=some (.bool true),after:=args } =some (.bool (true==true))from w_eq_bool (w_res rfl) w_lit) rfl
theorem w9{l:OpenLaw}{n:Nat}{q:Program}{loose:List Str}{XP:(Str→Option Value)→Heap→Prop}{YP:World→Heap→Prop}{d:DefRec}
  (hn:l.most=some n)(FL:d.params.defaults=[])
  (call:∀(w:World) (bp bB:Shared) (mg mb:Str→Option Value) (fa:Addr) (o:Obj) (pm cd doc:Value) (a:Addr) (vs:List Value) (ns:List Int),
   Ground q loose [] XP w bp mg mb bB.heap→YP w bB.heap→
   bB.heap.get? fa=some o→o.data= .func (docDef d.name d.params d.body d.scope pm cd doc)→bB.heap.CodeRec cd d.name→mg d.name=some (.ref fa)→
   bB.heap.get? a=some { cls:=.type "list",data:=.seq vs.toArray }→IntsAre vs ns→ns.length≤n→bB.gens= #[]→
   codeAny (model l.prog w) callerA (.call (.ref fa) ⟨[.ref a],[]⟩) (fun r s'=>r= .ok (.ret (.bool true))∧OldK bB.heap s'.heap∧s'.os=bB.os∧AllBare s'.gens) bB):
  WalkO q loose XP YP l.row.toRowW d [] (fun f vs=>PySem.call f vs):=by
 intro w bp bB mg mb G Y fa o pm cd doc dV kV ho hd jt hD FO hg args vals as B3 VT V0 MN V1
 obtain rfl:dV= .none:=Dflts.none hD FL
 obtain rfl:kV= .none:=Dflts.noKw hD
 obtain⟨a,vs,ns,rfl,rfl,FP,hints,hlen⟩:=A4 hn B3 MN
 refine enter_call (codeAny_mono (call w bp bB mg mb fa o pm cd doc a vs ns G Y ho (fd_plain hd) jt FO FP hints hlen hg) fun r s' hq=>?_)
 obtain⟨rfl,h2,h3,h4⟩:=hq
 exact⟨.inl ⟨.bool true,.bool true,[],rfl,fun _=>rfl,.bool true,A5 l _,fun _=>⟨List.Pairwise.nil,fun _ hm=>(nomatch hm)⟩⟩,h2,h3,h4⟩
section
variable{prog:Program}{w:World}{A:Around}{E:Value→Shared→Prop}{s:Shared}{K:Frag}
end
end P4
namespace L2
open PySem PySem.Spec PyProof.Rows
theorem tE:∀{vs:List Value}{ns:List Int},IntsAre vs ns→Vals (ns.map V.int) vs
 |_,_,.nil=>.nil
 |_,_,.cons n t h=>.cons ⟨t,rfl⟩ (tE h)
def yG(H:Hp):Prop:=∀b,H b=none∨∃o xs,H b=some (.fS o (.lst xs))
theorem Dn{P:Program}{w:World}{K:PySem.W.Frag}{mg mb:Str→Option Value}{CX:s_}{k:Nat}{fa a:Addr}{fd:FuncData}{x:Str}{sp:Sp}{bB:Shared}{vs:List Value}{ns:List Int}
  (KX:K.In bB.heap)(Jv:bB.heap.Ns mainGlobals mg)(hb:bB.heap.Ns builtinsNs mb)(SM:∀x:Str,x≠"__name__"→mb x=bootBuiltins x)(P5:bB.heap.NoLimit)(SN:∃bm ob,mg "__builtins__" =some (.ref bm)∧bm≠builtinsNs∧bB.heap.get? bm=some ob∧ob.cls= .type "module"∧ob.dict=some builtinsNs∧ob.data= .plain)(hg:bB.gens= #[])
  (ha:bB.heap.get? a=some { cls:=.type "list",data:=.seq vs.toArray })(hi:IntsAre vs ns)(hl:ns.length≤sizeLine)(hr:eT k callerA)
  (F:∀base:Heap,K.In base→base.Ns mainGlobals mg→bM P w K mg base CX k fa fd [x] sp)(MO:∀(s:Shared) (u:Value),BindsTo s fd ⟨[u],[]⟩ [(x,u)])
  (vh:∀H:Hp,yG H→dI K H a (ns.map V.int)→sp [.ref a] H (fun v _=>v= .bl true) fun _ _ _=>False)
  (MP:∀H e s',CX [] H bB (fun _ _ _=>False) e s'→False):
  codeAny (model P w) callerA (.call (.ref fa) ⟨[.ref a],[]⟩) (fun r s'=>r= .ok (.ret (.bool true))∧OldK bB.heap s'.heap∧s'.os=bB.os∧AllBare s'.gens) bB:=by
 have rv:=tE hi
 have P6:=hi.length
 -- from an abstract heap in SO nothing but nM Jw may be tracked
 have core:∀H:Hp,yG H→dI K H a (ns.map V.int)→il P w H bB.heap→(∀b,H b≠none→b=a)→(H a≠none→K.lookup a=none)→
   codeAny (model P w) callerA (.call (.ref fa) ⟨[.ref a],[]⟩) (fun r s'=>r= .ok (.ret (.bool true))∧OldK bB.heap s'.heap∧s'.os=bB.os∧AllBare s'.gens) bB:=by
  intro H hO hS bV hA hK
  have tF:∀{b:Addr}{o:Obj},bB.heap.get? b=some o→H b=none→(om bB.heap H).get? b=some o:=fun e n=>C5 e n
  have Fw:∀{b:Addr}{o:Obj}{es:Array DictEntry}{ep:Nat},bB.heap.get? b=some o→o.data= .dict es ep→H b=none:=fun {b o es ep} e d=>by
   cases q:H b with
   |none=>rfl
   |some u=>
    have e':b=a:=hA b (by rw[q];simp)
    subst e'
    rw[ha]at e;cases e
    have d':Data.seq vs.toArray _=Data.dict es ep:=d
    cases d'
  have Jx:∀{b:Addr}{m:Str→Option Value},bB.heap.Ns b m→(om bB.heap H).Ns b m:=fun {b m} ⟨o,es,ep,e,d,r⟩=>⟨o,es,ep,tF e (Fw e d),d,r⟩
  have P7:K.In (om bB.heap H):=fun b o e=>tF (KX b o e) (by
   cases q:H b with
   |none=>rfl
   |some u=>
    have e':b=a:=hA b (by rw[q];simp)
    subst e'
    rw[hK (by rw[q];simp)]at e;cases e)
  have hM:Mod K mg (om bB.heap H):=⟨P7,Jx Jv,⟨mb,Jx hb,SM⟩,let ⟨mc,h1,h2⟩:=P5;⟨mc,Jx h1,h2⟩,let ⟨bm,ob,b1,b2,b3,b4,b5,b6⟩:=SN;⟨bm,ob,b1,b2,tF b3 (by
   cases q:H bm with
   |none=>rfl
   |some u=>
    have e':bm=a:=hA bm (by rw[q];simp)
    rw[e',ha]at b3;cases b3
    cases b6),b4,b5,b6⟩⟩
  have e0:BZ P w K mg (om bB.heap H) callerA [] bB H:=⟨rfl,hM,fun b o e=>EU e,Nat.le_of_eq (AF _ _),trivial,fun b hb=>absurd (show b∈([]:List Addr)from hb) (by simp),bV,.of_eq hg⟩
  refine codeAny_mono ((F _ P7 (Jx Jv)).run callerA [] bB H ⟨[.ref a],[]⟩ [.ref a] [.ref a] _ _ hr e0 (MO bB (.ref a)) (.cons rfl .nil) (vh H hO hS)) fun r s' h=>?_
  cases r with
  |error e=>exact(MP H e s' h).elim
  |ok fl=>
   cases fl with
   |next=>exact False.elim h
   |brk=>exact False.elim h
   |cont=>exact False.elim h
   |ret u=>
    obtain⟨v,H',os,bare,un,P9,r',q⟩:=h
    have q':v= .bl true:=q
    subst q'
    obtain rfl:u=Value.bool true:=r'
    refine⟨rfl,OldK.of_keep fun b o e=>?_,os,bare⟩
    cases q:H b with
    |none=>exact un.keep b o e q (by intro z;exact absurd (show b∈([]:List Addr)from z) (by simp)) (by simp)
    |some u=>
     rcases hO b with z|⟨ob,xs,z⟩
     ·rw[q]at z;cases z
     ·have z2:=un.kH b ob _ z
      obtain⟨e1,_⟩:=bV b _ z
      obtain⟨e2,_⟩:=P9 b _ z2
      rw[e]at e1;cases e1
      exact e2
 cases hk:K.lookup a with
 |some o=>
  -- nM Jw is one of nM Pg own objects
  have e:=KX a o hk
  rw[ha]at e
  cases e
  refine core (fun _=>none) (fun _=>.inl rfl) (.inr ⟨_,vs.toArray,_,hk,rfl,rfl,rfl,by rw[List.size_toArray,P6];exact hl,by simpa using rv⟩) (fun b u z=>by have z':(none:Option HO)=some u:=z;cases z') (fun b z=>absurd rfl z) fun z=>absurd rfl z
 |none=>
  refine core (fun b=>if b=a then some (.fS { cls:=.type "list",data:=.seq vs.toArray } (.lst (ns.map V.int)))else none) (fun b=>?_) (.inl (.inr ⟨{ cls:=.type "list",data:=.seq vs.toArray },if_pos rfl⟩)) (fun b u z=>?_) (fun b z=>?_) fun _=>hk
  ·by_cases hb:b=a
   ·exact .inr ⟨_,_,if_pos hb⟩
   ·exact .inl (if_neg hb)
  ·by_cases hb:b=a
   ·have z':=(if_pos hb).symm.trans z
    cases z'
    subst hb
    exact⟨ha,by rw[List.length_map];exact hl,vs,_,rv,ha⟩
   ·have z':=(if_neg hb).symm.trans z
    cases z'
  ·by_cases hb:b=a
   ·exact hb
   ·exact absurd (if_neg hb) z
end L2
namespace L2
open PySem PySem.Spec PyProof.Rows
abbrev P_{K:PySem.W.Frag}{h:Heap}(_:K.In h):PySem.W.Frag:=K
theorem FQ{l:PySem.W.OpenLaw}{n k:Nat}{q:Program}{loose:List Str}{XP:(Str→Option Value)→Heap→Prop}{YP:World→Heap→Prop}{d:DefRec}{K:Params→PySem.W.Frag}{CX:World→s_}{sp:World→Sp}{x:Str}
  (hn:l.most=some n)(MQ:n≤sizeLine)(FL:d.params.defaults=[])(hr:eT k callerA)
  (hY:∀(w:World) (h:Heap),YP w h→(K w.params).In h)
  (F:∀(w:World) (mg:Str→Option Value) (fa:Addr) (h:Heap),(K w.params).In h→h.Ns mainGlobals mg→mg d.name=some (.ref fa)→
   ∃fd:FuncData,(∀(s:Shared) (u:Value),BindsTo s fd ⟨[u],[]⟩ [(x,u)])∧
    ∀base:Heap,(K w.params).In base→base.Ns mainGlobals mg→bM l.prog w (K w.params) mg base (CX w) k fa fd [x] (sp w))
  (vh:∀(w:World) (H:Hp) (a:Addr) (ns:List Int),ns.length≤n→yG H→dI (K w.params) H a (ns.map V.int)→sp w [.ref a] H (fun v _=>v= .bl true) fun _ _ _=>False)
  (MP:∀(w:World) (H:Hp) (s:Shared) (e:Value) (s':Shared),CX w [] H s (fun _ _ _=>False) e s'→False):
  PySem.W.WalkO q loose XP YP l.row.toRowW d [] (fun f vs=>PySem.call f vs):=by
 refine P4.w9 hn FL fun w bp bB mg mb fa o pm cd doc a vs ns G Y ho hd jt FO FP hints hlen hg=>?_
 have KX:=hY w _ Y
 obtain⟨fd,hb,hF⟩:=F w mg fa _ KX G.T.g FO
 exact Dn KX G.T.g G.T.b G.T.builtins G.T.nolimit G.T.bmain hg FP hints (Nat.le_trans hlen MQ) hr hF hb (fun H hO hS=>vh w H a ns hlen hO hS) fun H e s'=>MP w H bB e s'
end L2
namespace L2
open PySem PySem.Spec PyProof.Rows
def eE(s:Stmt):Arguments:=match s with
 |.FunctionDef _ a _ _ _ _ _ _ _ _=>a
 |_=>{ posonlyargs:=[],args:=[],vararg:=none,kwonlyargs:=[],kw_defaults:=[],kwarg:=none,defaults:=[] }
def cW(s:Stmt):List Stmt:=match s with
 |.FunctionDef _ _ b _ _ _ _ _ _ _=>b
 |_=>[]
def ay(s:Stmt):Scope:=match s with
 |.FunctionDef _ _ _ _ _ _ sc _ _ _=>sc
 |_=>{ kind:=.function,names:=[],isGenerator:=false,isCoroutine:=false }
abbrev de:s_:=fun _ _ _ _ _ _=>False
abbrev E0:XK:=fun _ _ _=>False
theorem MR{X:Cx}:Passes de X E0:=fun _ _ _ _ _ _ _ h=>h.elim
structure yH(K:PySem.W.Frag)(x qual:Str)(st:Stmt)(f:Addr)(fd:FuncData):Prop where
 ex:∃(oc:Value) (od:Option Addr) (kV doc pm:Value) (an:Option Addr) (bo ct:Value) (ky:Array (Option Value)),
  fd=PySem.W.fnOf x qual (eE st) (cW st) (ay st) .none kV doc pm an bo ct∧K.lookup f=some ⟨oc,od,.func fd,ky⟩∧PySem.W.codeIn K bo qual=true
 kp:PySem.W.keepIn K (.ref f)=true
section
variable{P:Program}{w:World}{K:PySem.W.Frag}{mg:Str→Option Value}{base:Heap}
theorem yH.ok{x qual:Str}{st:Stmt}{f:Addr}{fd:FuncData}{N ps:List Str}{k:Nat}{sp:Sp}(F:yH K x qual st f fd)(S:aP N ps (ay st))(len:∀vs H Q E,sp vs H Q E→vs.length=ps.length)
  (j3:∀(bo:Value) (A:Around) (outer:List Env) (s:Shared) (H:Hp) (vs:List V) (Q:VK) (E:XK),eT k (A.deeper (envOfC qual (ay st) s.heap.objs.size f bo))→sp vs H Q E→
   ∃t,kr (oB de P w K mg base N qual (ay st) f bo A outer s H E).yn (cW st) t∧t { nx:=fun _ H'=>Q .bC H',rt:=Q } (start N vs) H):bM P w K mg base de (k+1) f fd ps sp:=by
 obtain⟨oc,od,kV,doc,pm,an,bo,ct,ky,rfl,lk,jt⟩:=F.ex
 refine Fx lk jt S len fun A outer s H vs Q E hr vh=>?_
 obtain⟨t,h,q⟩:=j3 bo A outer s H vs Q E hr vh
 exact⟨t,h.yn,q⟩
theorem yH.binds{x qual:Str}{st:Stmt}{f:Addr}{fd:FuncData}{ps:List Str}(F:yH K x qual st f fd)
  (h:∀(kV doc pm:Value) (an:Option Addr) (bo ct:Value) (us:List Value),us.length=ps.length→bindArgs (PySem.W.fnOf x qual (eE st) (cW st) (ay st) .none kV doc pm an bo ct) ⟨us,[]⟩=pure (ps.zip us)):Binds K fd ps []:=by
 obtain⟨oc,od,kV,doc,pm,an,bo,ct,ky,rfl,lk,jt⟩:=F.ex
 exact .all (h kV doc pm an bo ct)
theorem B4{x qual:Str}{st:Stmt}{f:Addr}{oc:Value}{od an:Option Addr}{ky:Array (Option Value)}{kV doc pm bo ct:Value}(l:K.lookup f=some ⟨oc,od,.func (PySem.W.fnOf x qual (eE st) (cW st) (ay st) .none kV doc pm an bo ct),ky⟩)
  (c:PySem.W.codeIn K bo qual=true)(k:PySem.W.keepIn K (.ref f)=true):yH K x qual st f (PySem.W.fnOf x qual (eE st) (cW st) (ay st) .none kV doc pm an bo ct):=⟨⟨oc,od,kV,doc,pm,an,bo,ct,ky,rfl,l,c⟩,k⟩
end
section
variable{X:Cx}
theorem pv(i:Nat){x:Str}{pos:Pos}(hN:X.N[i]? =some x:=by rfl)(hv:AG X.env.scope x:=by first|exact Or.inl rfl|exact Or.inr (Or.inl rfl)|exact Or.inr (Or.inr rfl))(hd:(x==("__debug__":Str))=false:=by decide)
  (jt:(x==("__classdict__":Str))=false:=by decide):PE X (.Name x pos) (EZ i):=IG hN hv hd jt
end
def qN(H H':Hp):Prop:=∀b o,H b=some o→H' b=some o
theorem qN.seq{K:PySem.W.Frag}{H H':Hp}{a:Addr}{xs:List V}(e:qN H H')(h:dI K H a xs):dI K H' a xs:=by
 rcases h with(h|⟨o,h⟩)|h
 ·exact .inl (.inl (e _ _ h))
 ·exact .inl (.inr ⟨o,e _ _ h⟩)
 ·exact .inr h
end L2
namespace L2
open PySem PySem.Spec PyProof.Rows
section
variable{κ:Type}[DecidableEq κ]
def B5(bq:List (κ×V))(k:κ):Option V:=(bq.find? fun kv=>decide (kv.1=k)).map (·.2)
def putK(bq:List (κ×V))(k:κ)(v:V):List (κ×V):=
 if (bq.any fun kv=>decide (kv.1=k))=true then bq.map (fun kv=>if kv.1=k then(kv.1,v)else kv)else bq++[(k,v)]
theorem KV.any{bq:List (κ×V)}{vs:List (κ×Value)}(r:KV bq vs)(k:κ):(bq.any fun kv=>decide (kv.1=k))=vs.any fun kv=>decide (kv.1=k):=by
 unfold KV at r
 induction r with
 |nil=>rfl
 |cons h t ih=>rw[List.any_cons,List.any_cons,ih,h.1]
theorem KV.length{bq:List (κ×V)}{vs:List (κ×Value)}(r:KV bq vs):bq.length=vs.length:=Paired.length r
end
abbrev KT(H:Hp):List (List Key×V)→List (List Key×Addr×Value)→Prop:=Paired fun p q=>p.1=q.1∧H q.2.1=some (.tup (p.1.map kV))∧RelV p.2 q.2.2
section
variable{P:Program}{w:World}{H:Hp}{h:Heap}{a:Addr}
end
def B6(H:Hp)(a:Addr)(y:V)(r:Option V):Prop:=
 (∃bq k,Rd H a (.dK bq)∧y=kV k∧r=B5 bq k)∨∃bq k b,Rd H a (.dT bq)∧y= .ref b∧H b=some (.tup (k.map kV))∧r=B5 bq k
def B7(H:Hp)(a:Addr)(y v:V)(H':Hp):Prop:=
 (∃bq k,H a=some (.dK bq)∧y=kV k∧bq.length<sizeLine∧H'=upd H a (.dK (putK bq k v)))∨
 ∃bq k b,H a=some (.dT bq)∧y= .ref b∧H b=some (.tup (k.map kV))∧bq.length<sizeLine∧H'=upd H a (.dT (putK bq k v))
theorem B6.k{H:Hp}{a:Addr}{bq:List (Key×V)}{k:Key}(e:H a=some (.dK bq)):B6 H a (kV k) (B5 bq k):=.inl ⟨bq,k,.inl e,rfl,rfl⟩
theorem B6.t{H:Hp}{a b:Addr}{bq:List (List Key×V)}{k:List Key}(e:H a=some (.dT bq))(eb:H b=some (.tup (k.map kV))):B6 H a (.ref b) (B5 bq k):=.inr ⟨bq,k,b,.inl e,rfl,eb,rfl⟩
theorem B7.k{H:Hp}{a:Addr}{bq:List (Key×V)}{k:Key}{v:V}(e:H a=some (.dK bq))(hl:bq.length<sizeLine):B7 H a (kV k) v (upd H a (.dK (putK bq k v))):=.inl ⟨bq,k,e,rfl,hl,rfl⟩
theorem B7.t{H:Hp}{a b:Addr}{bq:List (List Key×V)}{k:List Key}{v:V}(e:H a=some (.dT bq))(eb:H b=some (.tup (k.map kV)))(hl:bq.length<sizeLine):
  B7 H a (.ref b) v (upd H a (.dT (putK bq k v))):=.inr ⟨bq,k,b,e,rfl,eb,hl,rfl⟩
section
variable{X:Cx}{pins:List (Addr×Obj)}{σ:St}{H:Hp}{s:Shared}{a:Addr}{y v:V}{u r:Value}{o:Option V}{A:Around}{E:Value→Shared→Prop}
end
section
variable{X:Cx}{pins:List (Addr×Obj)}{σ:St}{H:Hp}{s:Shared}{a:Addr}{bq:List (Key×V)}{k:Key}{u:Value}{A:Around}{E:Value→Shared→Prop}
end
section
variable{X:Cx}{o i e value:Expr}{pos pos' PQ:Pos}{td ty tv:TE}
end
section
variable{X:Cx}{pos:Pos}
end
section
variable{X:Cx}{pins:List (Addr×Obj)}{σ:St}{H:Hp}{s:Shared}{a:Addr}{y d:V}{u r:Value}{o:Option V}{A:Around}{E:Value→Shared→Prop}
end
section
variable{X:Cx}{o e f:Expr}{apos gD:Pos}{td ty tx:TE}
end
section
variable{X:Cx}{pins:List (Addr×Obj)}{σ:St}{H:Hp}{s:Shared}{a:Addr}{bq:List (Key×V)}{A:Around}{E:Value→Shared→Prop}
end
section
variable{X:Cx}{pins:List (Addr×Obj)}{σ:St}{H:Hp}{s:Shared}{a:Addr}{y:V}{u:Value}{A:Around}{E:Value→Shared→Prop}
end
end L2
namespace My
structure Bd(k:Nat)(x:Int):Prop where
 lt:x.natAbs<2 ^ k
theorem Bd.mono{j k:Nat}{x:Int}(h:Bd j x)(e:j≤k):Bd k x:=⟨Nat.lt_of_lt_of_le h.lt (Nat.pow_le_pow_right (by decide) e)⟩
theorem Bd.mul{j k:Nat}{x y:Int}(h:Bd j x)(g:Bd k y):Bd (j+k) (x*y):=by
 refine⟨?_⟩
 rw[Int.natAbs_mul,Nat.pow_add]
 exact Nat.mul_lt_mul_of_lt_of_lt h.lt g.lt
theorem Bd.add{j k:Nat}{x y:Int}(h:Bd j x)(g:Bd k y):Bd (max j k+1) (x+y):=by
 have h':=(h.mono (Nat.le_max_left j k)).lt
 have g':=(g.mono (Nat.le_max_right j k)).lt
 refine⟨?_⟩
 rw[Nat.pow_succ]
 omega
theorem Bd.neg{k:Nat}{x:Int}(h:Bd k x):Bd k (-x):=⟨by have:=h.lt;omega⟩
theorem Bd.sub{j k:Nat}{x y:Int}(h:Bd j x)(g:Bd k y):Bd (max j k+1) (x - y):=by
 rw[Int.sub_eq_add_neg];exact h.add g.neg
theorem Bd.of_le{k:Nat}{x y:Int}(h:Bd k y)(e:x.natAbs≤y.natAbs):Bd k x:=⟨Nat.lt_of_le_of_lt e h.lt⟩
theorem Bd.log2{k:Nat}{x:Int}(h:Bd k x)(hk: 0<k):x.natAbs.log2<k:=by
 have h:=h.lt
 by_cases z:x.natAbs=0
 ·rw[z];simpa using hk
 ·exact(Nat.log2_lt z).mpr h
theorem rS(n:Int){m:Int}(h:m≠0):(n.fmod m).natAbs<m.natAbs:=by
 rcases Int.lt_or_gt_of_ne h with hm|hm
 ·have e:n.fmod m= -((-n).fmod (-m)):=by
   rw[Int.fmod_def,Int.fmod_def,Int.neg_fdiv_neg]
   grind
  have h1: 0≤(-n).fmod (-m):=Int.fmod_nonneg_of_pos _ (by omega)
  have h2:(-n).fmod (-m)< -m:=Int.fmod_lt_of_pos _ (by omega)
  rw[e];omega
 ·have h1: 0≤n.fmod m:=Int.fmod_nonneg_of_pos _ hm
  have h2:n.fmod m<m:=Int.fmod_lt_of_pos _ hm
  omega
theorem Dp(n m:Int):Int.gcd m (n.fmod m)=Int.gcd n m:=by
 rw[Int.fmod_def,Int.mul_comm,Int.gcd_sub_mul_right_right,Int.gcd_comm]
theorem Dq(n m:Int):Int.gcd m (n % m)=Int.gcd n m:=by
 rw[Int.emod_def,Int.mul_comm,Int.gcd_sub_mul_right_right,Int.gcd_comm]
theorem gcd_zero(n:Int):((Int.gcd n 0:Nat):Int)=if n<0 then -n else n:=by
 rw[Int.gcd_zero_right];split<;>omega
theorem FR(n m:Int):Int.gcd (if n<0 then -n else n) (if m<0 then -m else m)=Int.gcd n m:=by
 split<;>split<;>simp[Int.gcd_neg,Int.neg_gcd]
def sg(n d:Int):Int:=if d<0 then -(Int.gcd n d:Int)else(Int.gcd n d:Int)
def nm(n d:Int):Int:=n.fdiv (sg n d)
def dn(n d:Int):Int:=d.fdiv (sg n d)
theorem tG{n d:Int}(h:d≠0):(0:Int)<(Int.gcd n d:Int):=by
 have:=Int.gcd_pos_of_ne_zero_right n h
 omega
theorem SR{n d:Int}(h:d≠0):sg n d≠0:=by
 have:=tG (n:=n) h
 unfold sg;split<;>omega
theorem Dr(n d:Int):sg n d ∣ n:=by
 unfold sg;split
 ·exact Int.neg_dvd.mpr (Int.gcd_dvd_left n d)
 ·exact Int.gcd_dvd_left n d
theorem Ds(n d:Int):sg n d ∣ d:=by
 unfold sg;split
 ·exact Int.neg_dvd.mpr (Int.gcd_dvd_right n d)
 ·exact Int.gcd_dvd_right n d
theorem Jy(n d:Int):sg n d*nm n d=n:=Int.mul_fdiv_cancel' (Dr n d)
theorem Jz(n d:Int):sg n d*dn n d=d:=Int.mul_fdiv_cancel' (Ds n d)
theorem SU{n d:Int}:nm n d*d=n*dn n d:=by
 have e1:=Jy n d
 have e2:=Jz n d
 generalize sg n d=s at*
 generalize nm n d=a at*
 generalize dn n d=b at*
 subst e1 e2
 grind
theorem tH(n d:Int):(sg n d).natAbs=Int.gcd n d:=by
 unfold sg;split<;>omega
theorem MS{n d:Int}(h:d≠0):(sg n d).natAbs≤d.natAbs:=by
 rw[tH]
 exact Nat.le_of_dvd (by omega) (Int.natAbs_dvd_natAbs.mpr (Int.gcd_dvd_right n d) |> fun z=>by simpa using z)
theorem B8{a b:Int}(ha:a≠0)(hb:b≠0):a*b≠0:=Int.mul_ne_zero ha hb
end My
namespace My
def det(a0 a1 a2 b0 b1 b2 c0 c1 c2:Int):Int:=(a1*b2 - a2*b1)*c0+(a2*b0 - a0*b2)*c1+(a0*b1 - a1*b0)*c2
def sgn(n:Int):Int:=if 0<n then 1 else if n<0 then -1 else 0
theorem yI(n:Int):sgn (-n)=0 - sgn n:=by
 unfold sgn
 rcases Int.lt_trichotomy n 0 with hn|hn|hn
 ·rw[if_pos (by omega),if_neg (by omega),if_pos hn];rfl
 ·subst hn;rfl
 ·rw[if_neg (by omega),if_pos (by omega),if_pos hn];rfl
theorem Dt(a0 a1 a2 b0 b1 b2 c0 c1 c2:Int):det b0 b1 b2 a0 a1 a2 c0 c1 c2= -det a0 a1 a2 b0 b1 b2 c0 c1 c2:=by unfold det;grind
structure Alike(x y w x' y' w':Int):Prop where
 pos: 0<w
 pos': 0<w'
 ex:x'*w=x*w'
 ey:y'*w=y*w'
def h9(x y w:Int):Int:=if w<0 then -(Int.gcd (Int.gcd x w:Int) y:Int)else(Int.gcd (Int.gcd x w:Int) y:Int)
def sx(x y w:Int):Int:=x.fdiv (h9 x y w)
def sy(x y w:Int):Int:=y.fdiv (h9 x y w)
def sw(x y w:Int):Int:=w.fdiv (h9 x y w)
theorem si{x y w:Int}(h:w≠0):(0:Int)<(Int.gcd (Int.gcd x w:Int) y:Int):=by
 have h1:=tG (n:=x) h
 have h2: 0<Int.gcd (Int.gcd x w:Int) y:=Int.gcd_pos_of_ne_zero_left _ (by omega)
 omega
theorem Qa(x y w:Int):(Int.gcd (Int.gcd x w:Int) y:Int) ∣ x:=Int.dvd_trans (Int.gcd_dvd_left _ _) (Int.gcd_dvd_left _ _)
theorem LI(x y w:Int):(Int.gcd (Int.gcd x w:Int) y:Int) ∣ w:=Int.dvd_trans (Int.gcd_dvd_left _ _) (Int.gcd_dvd_right _ _)
theorem Qb(x y w:Int):(Int.gcd (Int.gcd x w:Int) y:Int) ∣ y:=Int.gcd_dvd_right _ _
theorem yJ(x y w:Int):(h9 x y w).natAbs=Int.gcd (Int.gcd x w:Int) y:=by unfold h9;split<;>omega
theorem oE{x y w:Int}(h:w≠0):h9 x y w≠0:=by
 have:=si (x:=x) (y:=y) h
 unfold h9;split<;>omega
theorem tI{x y w z:Int}(h:(Int.gcd (Int.gcd x w:Int) y:Int) ∣ z):h9 x y w ∣ z:=by
 unfold h9;split
 ·exact Int.neg_dvd.mpr h
 ·exact h
theorem sj(x y w:Int):h9 x y w*sx x y w=x:=Int.mul_fdiv_cancel' (tI (Qa x y w))
theorem sk(x y w:Int):h9 x y w*sy x y w=y:=Int.mul_fdiv_cancel' (tI (Qb x y w))
theorem l6(x y w:Int):h9 x y w*sw x y w=w:=Int.mul_fdiv_cancel' (tI (LI x y w))
theorem sw_pos{x y w:Int}(h:w≠0): 0<sw x y w:=by
 have e:=l6 x y w
 have g:=si (x:=x) (y:=y) h
 unfold h9 at e
 split at e
 ·refine Int.not_le.mp fun hle=>?_
  have: 0≤-(Int.gcd (Int.gcd x w:Int) y:Int)*sw x y w:=Int.mul_nonneg_of_nonpos_of_nonpos (by omega) hle
  omega
 ·refine Int.not_le.mp fun hle=>?_
  have:(Int.gcd (Int.gcd x w:Int) y:Int)*sw x y w≤0:=Int.mul_nonpos_of_nonneg_of_nonpos (by omega) hle
  omega
theorem nS{s a b:Int}(h:s≠0)(e:s*a=b):a.natAbs≤b.natAbs:=by
 have e:=congrArg Int.natAbs e
 rw[Int.natAbs_mul]at e
 rw[←e]
 exact Nat.le_mul_of_pos_left _ (by omega)
theorem MT{x y w:Int}(h:w≠0):(sx x y w).natAbs≤x.natAbs:=nS (oE h) (sj x y w)
theorem MU{x y w:Int}(h:w≠0):(sy x y w).natAbs≤y.natAbs:=nS (oE h) (sk x y w)
theorem MV{x y w:Int}(h:w≠0):(sw x y w).natAbs≤w.natAbs:=nS (oE h) (l6 x y w)
theorem JA{x y w:Int}(h:w≠0):(h9 x y w).natAbs≤w.natAbs:=by
 rw[yJ]
 exact Nat.le_of_dvd (by omega) (Int.natAbs_dvd_natAbs.mpr (LI x y w) |> fun z=>by simpa using z)
theorem oF{x y w:Int}(h:w≠0):sx x y w*w=x*sw x y w:=by
 have e1:=sj x y w;have e2:=l6 x y w
 generalize h9 x y w=s at *;generalize sx x y w=a at *;generalize sw x y w=b at*
 subst e1 e2;grind
theorem oG{x y w:Int}(h:w≠0):sy x y w*w=y*sw x y w:=by
 have e1:=sk x y w;have e2:=l6 x y w
 generalize h9 x y w=s at *;generalize sy x y w=a at *;generalize sw x y w=b at*
 subst e1 e2;grind
theorem MW{x y w:Int}(h: 0<w):Alike x y w (sx x y w) (sy x y w) (sw x y w):=⟨h,sw_pos (by omega),oF (by omega),oG (by omega)⟩
end My
namespace My
structure yK(x y w:Int):Prop where
 pos: 0<w
 low:Int.gcd (Int.gcd x w:Int) y=1
theorem yL{x y w z:Int}(h:Int.gcd (Int.gcd x w:Int) y=1){k:Int}(h1:k ∣ x*z)(h2:k ∣ w*z)(h3:k ∣ y*z):k ∣ z:=by
 have e1:k.natAbs ∣ Int.gcd (x*z) (w*z):=Int.dvd_gcd (Int.natAbs_dvd.mpr h1) (Int.natAbs_dvd.mpr h2)
 rw[Int.gcd_mul_right]at e1
 have e2:k ∣ (Int.gcd x w:Int)*z:=by
  have:(k.natAbs:Int) ∣ ((Int.gcd x w*z.natAbs:Nat):Int):=Int.natCast_dvd_natCast.mpr e1
  have h4:k ∣ ((Int.gcd x w*z.natAbs:Nat):Int):=Int.natAbs_dvd.mp this
  rw[Int.natCast_mul]at h4
  rcases Int.natAbs_eq z with hz|hz
  ·rw[hz];exact h4
  ·rw[hz,Int.mul_neg];exact Int.dvd_neg.mpr h4
 have e3:k.natAbs ∣ Int.gcd ((Int.gcd x w:Int)*z) (y*z):=Int.dvd_gcd (Int.natAbs_dvd.mpr e2) (Int.natAbs_dvd.mpr h3)
 rw[Int.gcd_mul_right,h,Nat.one_mul]at e3
 exact Int.natAbs_dvd_natAbs.mp e3
theorem gX{x y w x' y' w':Int}(h:yK x y w)(h':yK x' y' w')(ex:x*w'=x'*w)(ey:y*w'=y'*w):x=x'∧y=y'∧w=w':=by
 have d1:w ∣ w':=yL h.low (k:=w) (z:=w') (by rw[ex];exact Int.dvd_mul_left _ _) (Int.dvd_mul_right _ _) (by rw[ey];exact Int.dvd_mul_left _ _)
 have d2:w' ∣ w:=yL h'.low (k:=w') (z:=w) (by rw[←ex];exact Int.dvd_mul_left _ _) (Int.dvd_mul_right _ _) (by rw[←ey];exact Int.dvd_mul_left _ _)
 have p:=h.pos;have p':=h'.pos
 have e:w=w':=Int.dvd_antisymm (by omega) (by omega) d1 d2
 subst e
 exact⟨Int.eq_of_mul_eq_mul_right (by omega) ex,Int.eq_of_mul_eq_mul_right (by omega) ey,rfl⟩
theorem jJ{x y w:Int}(h:w≠0):yK (sx x y w) (sy x y w) (sw x y w):=by
 refine⟨sw_pos h,?_⟩
 have e1:=sj x y w;have e2:=sk x y w;have e3:=l6 x y w
 have g:=si (x:=x) (y:=y) h
 have ga:=yJ x y w
 generalize h9 x y w=s at*
 generalize sx x y w=a at*
 generalize sy x y w=b at*
 generalize sw x y w=c at*
 have q:Int.gcd (Int.gcd x w:Int) y=s.natAbs*Int.gcd (Int.gcd a c:Int) b:=by
  rw[←e1,←e2,←e3,Int.gcd_mul_left]
  have:((s.natAbs*Int.gcd a c:Nat):Int)=(s.natAbs:Int)*(Int.gcd a c:Int):=Int.natCast_mul _ _
  rw[this]
  have e4:Int.gcd ((s.natAbs:Int)*(Int.gcd a c:Int)) (s*b)=Int.gcd ((s.natAbs:Int)*(Int.gcd a c:Int)) ((s.natAbs:Int)*b):=by
   rcases Int.natAbs_eq s with hs|hs
   ·rw[←hs]
   ·have:s*b= -((s.natAbs:Int)*b):=by rw[←Int.neg_mul,←hs]
    rw[this,Int.gcd_neg]
  rw[e4,Int.gcd_mul_left]
  simp
 rw[←ga]at q
 have:s.natAbs*1=s.natAbs*Int.gcd (Int.gcd a c:Int) b:=by rw[Nat.mul_one];exact q
 exact(Nat.eq_of_mul_eq_mul_left (by omega) this).symm
theorem kO{x y w x' y' w':Int}(h:w≠0)(h':w'≠0)(ex:x*w'=x'*w)(ey:y*w'=y'*w):sx x y w=sx x' y' w'∧sy x y w=sy x' y' w'∧sw x y w=sw x' y' w':=by
 refine gX (jJ h) (jJ h') ?_ ?_
 ·have a:=oF (x:=x) (y:=y) h;have b:=oF (x:=x') (y:=y') h'
  refine Int.eq_of_mul_eq_mul_left (B8 h h') ?_
  generalize sx x y w=p at *;generalize sw x y w=q at *;generalize sx x' y' w'=p' at *;generalize sw x' y' w'=q' at*
  grind
 ·have a:=oG (x:=x) (y:=y) h;have b:=oG (x:=x') (y:=y') h'
  refine Int.eq_of_mul_eq_mul_left (B8 h h') ?_
  generalize sy x y w=p at *;generalize sw x y w=q at *;generalize sy x' y' w'=p' at *;generalize sw x' y' w'=q' at*
  grind
theorem yM{x y w:Int}(h:yK x y w):sx x y w=x∧sy x y w=y∧sw x y w=w:=by
 have hp:=h.pos
 exact gX (jJ (by omega)) h (oF (by omega)) (oG (by omega))
theorem tJ(x y w:Int):Int.gcd (Int.gcd x y:Int) w=Int.gcd (Int.gcd x w:Int) y:=by
 have a:∀p q r:Int,Int.gcd (Int.gcd p q:Int) r=Int.gcd p (Int.gcd q r:Int):=fun p q r=>Int.gcd_assoc p q r
 rw[a,a,Int.gcd_comm y w]
theorem kP{x y w:Int}(h: 0<w):x / (Int.gcd (Int.gcd x y:Int) w:Int)=sx x y w∧y / (Int.gcd (Int.gcd x y:Int) w:Int)=sy x y w∧w / (Int.gcd (Int.gcd x y:Int) w:Int)=sw x y w:=by
 have g:=si (x:=x) (y:=y) (w:=w) (by omega)
 have e:h9 x y w=(Int.gcd (Int.gcd x y:Int) w:Int):=by unfold h9;rw[if_neg (by omega),tJ]
 have g':(0:Int)≤(Int.gcd (Int.gcd x y:Int) w:Int):=by rw[tJ];omega
 unfold sx sy sw
 rw[e]
 exact⟨(Int.fdiv_eq_ediv_of_nonneg _ g').symm,(Int.fdiv_eq_ediv_of_nonneg _ g').symm,(Int.fdiv_eq_ediv_of_nonneg _ g').symm⟩
theorem yN{x y w:Int}(h:w<0):(0 - x) / (Int.gcd (Int.gcd (0 - x) (0 - y):Int) (0 - w):Int)=sx x y w∧(0 - y) / (Int.gcd (Int.gcd (0 - x) (0 - y):Int) (0 - w):Int)=sy x y w∧(0 - w) / (Int.gcd (Int.gcd (0 - x) (0 - y):Int) (0 - w):Int)=sw x y w:=by
 obtain⟨a,b,c⟩:=kP (x:=0 - x) (y:=0 - y) (w:=0 - w) (by omega)
 rw[a,b,c]
 exact kO (by omega) (by omega) (by grind) (by grind)
end My
namespace My
def j4(p0 p1 p2 q0 q1 q2:Int):Bool:=if p0*q2=q0*p2 then decide (p1*q2<q1*p2)else decide (p0*q2<q0*p2)
def A6(c0 c1 c2 a0 a1 a2 b0 b1 b2:Int):Bool:=if det a0 a1 a2 b0 b1 b2 c0 c1 c2=0 then(if j4 a0 a1 a2 b0 b1 b2=true then !j4 c0 c1 c2 a0 a1 a2&&!j4 b0 b1 b2 c0 c1 c2 else !j4 c0 c1 c2 b0 b1 b2&&!j4 a0 a1 a2 c0 c1 c2)else false
theorem qh{n:Int}(h:sgn n=0):n=0:=by
 unfold sgn at h
 split at h
 ·cases h
 ·split at h
  ·cases h
  ·omega
def m0(a0 a1 a2 b0 b1 b2 c0 c1 c2 d0 d1 d2:Int):Int:=(a2*b0 - a0*b2)*(c0*d1 - c1*d0) - (a0*b1 - a1*b0)*(c2*d0 - c0*d2)
def m1(a0 a1 a2 b0 b1 b2 c0 c1 c2 d0 d1 d2:Int):Int:=(a0*b1 - a1*b0)*(c1*d2 - c2*d1) - (a1*b2 - a2*b1)*(c0*d1 - c1*d0)
def m2(a0 a1 a2 b0 b1 b2 c0 c1 c2 d0 d1 d2:Int):Int:=(a1*b2 - a2*b1)*(c2*d0 - c0*d2) - (a2*b0 - a0*b2)*(c1*d2 - c2*d1)
section
variable(a0 a1 a2 b0 b1 b2 c0 c1 c2 d0 d1 d2:Int)
def u0:Int:=b0*(a2*c2*d2) - a0*(b2*c2*d2)
def u1:Int:=b1*(a2*c2*d2) - a1*(b2*c2*d2)
def v0:Int:=d0*(a2*b2*c2) - c0*(a2*b2*d2)
def v1:Int:=d1*(a2*b2*c2) - c1*(a2*b2*d2)
def z0:Int:=c0*(a2*b2*d2) - a0*(b2*c2*d2)
def z1:Int:=c1*(a2*b2*d2) - a1*(b2*c2*d2)
end
section
variable{a0 a1 a2 b0 b1 b2 c0 c1 c2 d0 d1 d2:Int}
theorem Du:(b0*(a2*c2*d2) - a0*(b2*c2*d2))*(d1*(a2*b2*c2) - c1*(a2*b2*d2)) - (b1*(a2*c2*d2) - a1*(b2*c2*d2))*(d0*(a2*b2*c2) - c0*(a2*b2*d2))=(a2*b2*c2*d2)*m2 a0 a1 a2 b0 b1 b2 c0 c1 c2 d0 d1 d2:=by
 unfold m2;grind
theorem MX: -((c0*(a2*b2*d2) - a0*(b2*c2*d2))*(b1*(a2*c2*d2) - a1*(b2*c2*d2)) - (c1*(a2*b2*d2) - a1*(b2*c2*d2))*(b0*(a2*c2*d2) - a0*(b2*c2*d2)))=(a2*b2*c2*d2*d2)*det a0 a1 a2 b0 b1 b2 c0 c1 c2:=by
 unfold det;grind
theorem MY:(c0*(a2*b2*d2) - a0*(b2*c2*d2))*(d1*(a2*b2*c2) - c1*(a2*b2*d2)) - (c1*(a2*b2*d2) - a1*(b2*c2*d2))*(d0*(a2*b2*c2) - c0*(a2*b2*d2))=(a2*b2*c2*d2*b2)*det c0 c1 c2 d0 d1 d2 a0 a1 a2:=by
 unfold det;grind
theorem MZ:c2*det a0 a1 a2 b0 b1 b2 d0 d1 d2 - d2*det a0 a1 a2 b0 b1 b2 c0 c1 c2=m2 a0 a1 a2 b0 b1 b2 c0 c1 c2 d0 d1 d2:=by
 unfold det m2;grind
theorem M0:b2*det c0 c1 c2 d0 d1 d2 a0 a1 a2 - a2*det c0 c1 c2 d0 d1 d2 b0 b1 b2=m2 a0 a1 a2 b0 b1 b2 c0 c1 c2 d0 d1 d2:=by
 unfold det m2;grind
theorem FT:det c0 c1 c2 d0 d1 d2 a0 a1 a2*b0 - det c0 c1 c2 d0 d1 d2 b0 b1 b2*a0=m0 a0 a1 a2 b0 b1 b2 c0 c1 c2 d0 d1 d2:=by
 unfold det m0;grind
theorem FU:det c0 c1 c2 d0 d1 d2 a0 a1 a2*b1 - det c0 c1 c2 d0 d1 d2 b0 b1 b2*a1=m1 a0 a1 a2 b0 b1 b2 c0 c1 c2 d0 d1 d2:=by
 unfold det m1;grind
theorem FV:det c0 c1 c2 d0 d1 d2 a0 a1 a2*b2 - det c0 c1 c2 d0 d1 d2 b0 b1 b2*a2=m2 a0 a1 a2 b0 b1 b2 c0 c1 c2 d0 d1 d2:=by
 unfold det m2;grind
theorem JB:m0 c0 c1 c2 d0 d1 d2 a0 a1 a2 b0 b1 b2= -m0 a0 a1 a2 b0 b1 b2 c0 c1 c2 d0 d1 d2∧m1 c0 c1 c2 d0 d1 d2 a0 a1 a2 b0 b1 b2= -m1 a0 a1 a2 b0 b1 b2 c0 c1 c2 d0 d1 d2∧m2 c0 c1 c2 d0 d1 d2 a0 a1 a2 b0 b1 b2= -m2 a0 a1 a2 b0 b1 b2 c0 c1 c2 d0 d1 d2:=by
 unfold m0 m1 m2;grind
theorem JC:m0 b0 b1 b2 a0 a1 a2 c0 c1 c2 d0 d1 d2= -m0 a0 a1 a2 b0 b1 b2 c0 c1 c2 d0 d1 d2∧m1 b0 b1 b2 a0 a1 a2 c0 c1 c2 d0 d1 d2= -m1 a0 a1 a2 b0 b1 b2 c0 c1 c2 d0 d1 d2∧m2 b0 b1 b2 a0 a1 a2 c0 c1 c2 d0 d1 d2= -m2 a0 a1 a2 b0 b1 b2 c0 c1 c2 d0 d1 d2:=by
 unfold m0 m1 m2;grind
theorem Dv{x y w:Int}(h:w≠0):sx (-x) (-y) (-w)=sx x y w∧sy (-x) (-y) (-w)=sy x y w∧sw (-x) (-y) (-w)=sw x y w:=
 kO (by omega) h (by grind) (by grind)
theorem w_:(a0*(b2*c2*d2))*((a2*b2*c2*d2)*m2 a0 a1 a2 b0 b1 b2 c0 c1 c2 d0 d1 d2)+(b0*(a2*c2*d2) - a0*(b2*c2*d2))*((a2*b2*c2*d2*b2)*det c0 c1 c2 d0 d1 d2 a0 a1 a2)=(a2*b2*c2*d2)*(a2*b2*c2*d2)*m0 a0 a1 a2 b0 b1 b2 c0 c1 c2 d0 d1 d2:=by
 unfold det m0 m2;grind
theorem xa:(a1*(b2*c2*d2))*((a2*b2*c2*d2)*m2 a0 a1 a2 b0 b1 b2 c0 c1 c2 d0 d1 d2)+(b1*(a2*c2*d2) - a1*(b2*c2*d2))*((a2*b2*c2*d2*b2)*det c0 c1 c2 d0 d1 d2 a0 a1 a2)=(a2*b2*c2*d2)*(a2*b2*c2*d2)*m1 a0 a1 a2 b0 b1 b2 c0 c1 c2 d0 d1 d2:=by
 unfold det m1 m2;grind
end
end My
namespace L2
open PySem PySem.Spec PyProof.Rows
section
variable{X:Cx}{a b:Expr}{ta tb:TE}{pos:Pos}
theorem aC:dB X (binaryOp .Mult) (rI IntMulOk fun i j=>.int (i*j)):=Ja fun _ _ _ _ _ _ _ hc q=>mul_int q hc
def A7(_i j:Int):Prop:=j≠0∧j.natAbs.log2<9000
theorem eK:dB X (binaryOp .FloorDiv) (rI A7 fun i j=>.int (i.fdiv j)):=Ja fun _ _ _ _ _ _ _ hc q=>floordiv_int hc.1 q (.inl (PyProof.noPylong_of_log2 hc.2))
theorem xb:gf X (.builtin "isinstance") (fun xs H Q=>∃x n t k,xs=[x,.ty n]∧i9 X.K H x t∧PySem.W.kitOne X.K t (.type n)=some k∧Q (.bl k) H):=by
 intro pins s σ H xs us Q I r h
 obtain⟨x,n,t,k,rfl,ty,e,q⟩:=h
 obtain⟨u,w',rfl,rx,rc⟩:=vals2 r
 cases (show w'=Value.type n from rc)
 exact AV I rx ty e fun tk=>⟨.bl k,H,I.tok tk,rfl,q⟩
end
section
variable{X:Cx}{K:PySem.W.Frag}
end
theorem oH{H:Hp}{p q:Addr}{x z:HO}(h:H p=some x)(hq:H q=none):upd H q z p=some x:=by
 rw[bG (dR h hq)];exact h
theorem fW{H:Hp}{q:Addr}{z:HO}(hq:H q=none):qN H (upd H q z):=fun _ _ h=>oH h hq
theorem qN.LJ{K:PySem.W.Frag}{H H':Hp}{a:Addr}{xs:List V}(e:qN H H')(h:bJ K H a xs):bJ K H' a xs:=by
 rcases h with(h|⟨o,h⟩)|h
 ·exact .inl (.inl (e _ _ h))
 ·exact .inl (.inr ⟨o,e _ _ h⟩)
 ·exact .inr h
theorem VU{us:List Value}{v:Value}(h:(us++[v]).length=3):∃a b,us=[a,b]:=by
 match us,h with
 |[a,b],_=>exact⟨a,b,rfl⟩
 |[],h=>simp at h
 |[_],h=>simp at h
 |_::_::_::_,h=>simp at h
theorem M1{us:List Value}(h:(us++[]).length=3):∃a b c,us=[a,b,c]:=by
 match us,h with
 |[a,b,c],_=>exact⟨a,b,c,rfl⟩
 |[],h=>simp at h
 |[_],h=>simp at h
 |[_,_],h=>simp at h
 |_::_::_::_::_,h=>simp at h
structure vJ(K:PySem.W.Frag)(x qual:Str)(st:Stmt)(f:Addr)(fd:FuncData):Prop where
 ex:∃(oc:Value) (od:Option Addr) (dV kV doc pm:Value) (an:Option Addr) (bo ct:Value) (ky:Array (Option Value)),
  fd=PySem.W.fnOf x qual (eE st) (cW st) (ay st) dV kV doc pm an bo ct∧K.lookup f=some ⟨oc,od,.func fd,ky⟩∧PySem.W.codeIn K bo qual=true
 kp:PySem.W.keepIn K (.ref f)=true
section
variable{P:Program}{w:World}{K:PySem.W.Frag}{mg:Str→Option Value}{base:Heap}
theorem vJ.ok{x qual:Str}{st:Stmt}{f:Addr}{fd:FuncData}{N ps:List Str}{k:Nat}{sp:Sp}(F:vJ K x qual st f fd)(S:aP N ps (ay st))(len:∀vs H Q E,sp vs H Q E→vs.length=ps.length)
  (j3:∀(bo:Value) (A:Around) (outer:List Env) (s:Shared) (H:Hp) (vs:List V) (Q:VK) (E:XK),eT k (A.deeper (envOfC qual (ay st) s.heap.objs.size f bo))→sp vs H Q E→
   ∃t,kr (oB de P w K mg base N qual (ay st) f bo A outer s H E).yn (cW st) t∧t { nx:=fun _ H'=>Q .bC H',rt:=Q } (start N vs) H):bM P w K mg base de (k+1) f fd ps sp:=by
 obtain⟨oc,od,dV,kV,doc,pm,an,bo,ct,ky,rfl,lk,jt⟩:=F.ex
 refine Fx lk jt S len fun A outer s H vs Q E hr vh=>?_
 obtain⟨t,h,q⟩:=j3 bo A outer s H vs Q E hr vh
 exact⟨t,h.yn,q⟩
theorem FW{x qual:Str}{st:Stmt}{f:Addr}{oc:Value}{od an:Option Addr}{ky:Array (Option Value)}{dV kV doc pm bo ct:Value}(l:K.lookup f=some ⟨oc,od,.func (PySem.W.fnOf x qual (eE st) (cW st) (ay st) dV kV doc pm an bo ct),ky⟩)
  (c:PySem.W.codeIn K bo qual=true)(k:PySem.W.keepIn K (.ref f)=true):vJ K x qual st f (PySem.W.fnOf x qual (eE st) (cW st) (ay st) dV kV doc pm an bo ct):=⟨⟨oc,od,dV,kV,doc,pm,an,bo,ct,ky,rfl,l,c⟩,k⟩
end
end L2
namespace My
open PySem PyProof.Rows
theorem bits_le{k:Nat}{x:Int}(h:Bd k x):PySem.Builtin.Int.intBits x≤k:=by
 unfold PySem.Builtin.Int.intBits
 split
 ·exact Nat.zero_le _
 ·rename_i z
  have z':x.natAbs≠0:=by
   intro e
   apply z
   have:x=0:=by omega
   rw[this];rfl
  have:=(Nat.log2_lt z').mpr h.lt
  omega
theorem M3{x y:Int}{j k:Nat}(hx:Bd j x)(hy:Bd k y)(h:(decide (j≤100000)&&decide (k≤100000))=true):PySem.IntMulOk x y:=by
 rw[Bool.and_eq_true,decide_eq_true_eq,decide_eq_true_eq]at h
 have e:(2:Nat) ^ 20=1048576:=by decide
 exact PySem.IntMulOk.of_bits (by have:=bits_le hx;omega) (by have:=bits_le hy;omega)
theorem JD{x y:Int}(h1: -(2 ^ 64)<x)(h2:x<2 ^ 64):PySem.IntMulOk x y:=PySem.IntMulOk.of_left (PySem.intBits_le_64 h1 h2)
theorem JE{x y:Int}(h1: -(2 ^ 64)<y)(h2:y<2 ^ 64):PySem.IntMulOk x y:=PySem.IntMulOk.of_right (PySem.intBits_le_64 h1 h2)
end My
namespace L2
open PySem PySem.Spec PyProof.Rows
theorem oI:bootBuiltins "abs" =some (.builtin "abs"):=by decide +kernel
theorem JF:bootBuiltins "len" =some (.builtin "len"):=by decide +kernel
theorem B9:bootBuiltins "max" =some (.builtin "max"):=by decide +kernel
theorem JG:bootBuiltins "min" =some (.builtin "min"):=by decide +kernel
theorem tK:bootBuiltins "isinstance" =some (.builtin "isinstance"):=by decide +kernel
theorem xc:bootBuiltins "int" =some (.type "int"):=by decide +kernel
theorem FX:bootBuiltins "bool" =some (.type "bool"):=by decide +kernel
theorem vK:bootBuiltins "tuple" =some (.type "tuple"):=by decide +kernel
theorem FY:bootBuiltins "list" =some (.type "list"):=by decide +kernel
theorem Qc{i j:Int}{k:Nat}(h0:j≠0)(h:My.Bd k j)(hk:(decide (0<k)&&decide (k≤9000))=true):A7 i j:=by
 rw[Bool.and_eq_true,decide_eq_true_eq,decide_eq_true_eq]at hk
 exact⟨h0,Nat.lt_of_lt_of_le (My.Bd.log2 h hk.1) hk.2⟩
end L2
namespace L2
open PySem PySem.Spec PyProof.Rows
def fQ(cells:List (Str×Addr)):List (Str×NameKind)→List (Str×Addr)→List (Str×Addr)
 |[],cs=>cs
 |(n,k)::r,cs=>fQ cells r (if k==.free then(match cells.lookup n with|some a=>(n,a)::cs|none=>cs)else cs)
theorem kQ{env:Env}:∀(names:List (Str×NameKind)) (cs:List (Str×Addr)),(∀y∈names,y.2= .free→∃c,env.cells.lookup y.1=some c)→
  (forIn names cs (fun(x:Str×NameKind) (r:List (Str×Addr))=>(do
   if x.2==.free then
    let a ←cellOf env x.1
    pure (ForInStep.yield ((x.1,a)::r))
   else pure (ForInStep.yield r):Sem (ForInStep (List (Str×Addr))))))=(pure (fQ env.cells names cs):Sem _)
 |[],cs,_=>rfl
 |(n,k)::r,cs,h=>by
  rw[List.forIn_cons]
  have hr:∀y∈r,y.2= .free→∃c,env.cells.lookup y.1=some c:=fun y hy=>h y (List.mem_cons_of_mem _ hy)
  by_cases hk:k= .free
  ·subst hk
   obtain⟨c,hc⟩:=h (n,.free) List.mem_cons_self rfl
   have fD:env.cells.lookup n=some c:=hc
   simp only[beq_self_eq_true,if_true,cellOf,fD,pure_bind,fQ]
   exact kQ r _ hr
  ·have hb:(k==NameKind.free)=false:=by simpa using hk
   simp only[hb,Bool.false_eq_true,if_false,pure_bind,fQ]
   exact kQ r _ hr
theorem kR{scope:Scope}{env:Env}(h:∀y∈scope.names,y.2= .free→∃c,env.cells.lookup y.1=some c):closureFor scope env=pure (fQ env.cells scope.names []):=by
 have e:=kQ (env:=env) scope.names [] h
 unfold closureFor
 simp only[bind_pure_comp]at e ⊢
 first
  |(simpa using e)
  |(rw[←e];rfl)
theorem qO{cells:List (Str×Addr)}{x:Str}{c:Addr}:∀{names:List (Str×NameKind)}{cs:List (Str×Addr)},(fQ cells names cs).lookup x=some c→(∀c',cs.lookup x=some c'→cells.lookup x=some c')→cells.lookup x=some c
 |[],cs,h,hc=>hc c h
 |(n,k)::r,cs,h,hc=>by
  refine qO (names:=r) h fun c' fD=>?_
  by_cases hk:(k==NameKind.free)=true
  ·rw[if_pos hk]at fD
   cases e:cells.lookup n with
   |none=>rw[e]at fD;exact hc c' fD
   |some a=>
    rw[e]at fD
    by_cases hx:x=n
    ·subst hx
     simp only[List.lookup_cons,beq_self_eq_true]at fD
     rw[e];exact fD
    ·have hb:(x==n)=false:=beq_eq_false_iff_ne.mpr hx
     simp only[List.lookup_cons,hb]at fD
     exact hc c' fD
  ·rw[if_neg hk]at fD
   exact hc c' fD
theorem oJ{cells:List (Str×Addr)}{x:Str}:∀{names:List (Str×NameKind)}{cs:List (Str×Addr)},(∃c,cs.lookup x=some c)→∃c,(fQ cells names cs).lookup x=some c
 |[],_,h=>h
 |(n,k)::r,cs,h=>by
  refine oJ (names:=r) ?_
  split
  ·split
   ·rename_i a _
    by_cases hx:x=n
    ·subst hx;exact⟨a,by simp⟩
    ·have hb:(x==n)=false:=beq_eq_false_iff_ne.mpr hx
     simpa[List.lookup_cons,hb]using h
   ·exact h
  ·exact h
theorem kS{cells:List (Str×Addr)}{x:Str}:∀{names:List (Str×NameKind)}{cs:List (Str×Addr)},(x,NameKind.free)∈names→(∃c,cells.lookup x=some c)→∃c,(fQ cells names cs).lookup x=some c
 |[],_,h,_=>nomatch h
 |(n,k)::r,cs,h,hc=>by
  rcases List.mem_cons.mp h with e|h
  ·cases e
   refine oJ (names:=r) ?_
   obtain⟨c,hc⟩:=hc
   rw[if_pos (by rfl),hc]
   exact⟨c,by simp⟩
  ·exact kS (names:=r) h hc
theorem vm{prog:Program}{w:World}{A:Around}{R:Result→Shared→Prop}{s:Shared}{elt target iter:Expr}{ifs:List Expr}{scope:Scope}{pos:Pos}{it acc:Value}{env:Env}(I:Nat→Shared→Prop)
  (turn:∀n s,I n s→wpAny (model prog w) A (pyNext it) (fun r bB=>match r with
   |none=>R (.ok .next) bB
   |some v=>wpAny (model prog w) A (letOwnedTupleGo target it v) (fun _ bp=>wpAny (model prog w) A (assign target env v) (fun _ i5=>
     wpAny (model prog w) A (forIn ifs true fun c r=>if r=true then do let ok ←isTrue c env (eval c env);pure (ForInStep.yield ok)else pure (ForInStep.yield r)) (fun ok yO=>
      if ok=true then wpAny (model prog w) A (eval elt env) (fun x B_=>
       wpAny (model prog w) A (call (.builtin "list.append") [acc,x]) (fun _ LK=>∃m,m<n∧I m LK) (fun _ _=>False) B_) (fun _ _=>False) yO
      else ∃m,m<n∧I m yO) (fun _ _=>False) i5) (fun _ _=>False) bp) (fun _ _=>False) bB) (fun _ _=>False) s)
  (n:Nat)(h:I n s):
  codeAny (model prog w) A (.compLoop (.ListComp elt [⟨target,iter,ifs,0⟩] scope pos) 0 it acc env) R s:=by
 refine codeAny_loop rfl I (fun n s hI=>?_) n h
 show wpAny _ A ((compTurn (.ListComp elt [⟨target,iter,ifs,0⟩] scope pos) 0 it acc env).onRaise (fun x=>do noteFrame x env;theTreesLotGoes x)) _ _ s
 refine wpAny_noted ?_
 rw[compTurn_list]
 refine wpAny_bind (wpAny_standAt (wpAny_bind (wpAny_mono (turn n s hI) (fun r bB ja=>?_) fun _ _ h'=>h'.elim)))
 cases r with
 |none=>exact wpAny_pure ja
 |some v=>
  refine wpAny_bind (wpAny_mono ja (fun _ bp h₀=>?_) fun _ _ h'=>h'.elim)
  refine wpAny_bind (wpAny_mono h₀ (fun _ i5 Qd=>wpAny_bind (wpAny_mono Qd (fun ok yO LL=>?_) fun _ _ h'=>h'.elim)) fun _ _ h'=>h'.elim)
  cases ok with
  |false=>exact wpAny_pure ⟨rfl,LL⟩
  |true=>
   exact wpAny_bind (wpAny_bind (wpAny_mono LL (fun x B_ Qe=>wpAny_bind (wpAny_mono Qe (fun _ LK Qf=>wpAny_pure (wpAny_pure ⟨rfl,Qf⟩)) fun _ _ h'=>h'.elim)) fun _ _ h'=>h'.elim))
abbrev Cx.h_(X:Cx)(scope:Scope)(C:Addr)(N':List Str)(bp:Shared)(cJ:Hp)(fp:List Addr):Cx:=
 { X with N:=N',bp:=bp,cJ:=cJ,env:=compEnvC scope (fQ X.env.cells scope.names []) C X.env,outer:=X.stack,ex:=fp,fn:=fun _=>false,pn:=[],xe:=fun _ _=>False }
def rT(σ:St)(cap:List (Option Nat)):St:=cap.map fun o=>match o with
 |some i=>(match σ[i]? with|some v=>v|none=>none)
 |none=>none
structure nT(X:Cx)(scope:Scope)(N':List Str)(cap:List (Option Nat)):Prop where
 kind:scope.kind= .function
 A8:∀y∈scope.names,y.2≠.cell
 names:∀y∈scope.names,y.2= .local→scope.names.lookup y.1=some .local
 frees:∀y∈scope.names,y.2= .free→X.env.kindOf y.1=some .cell∨X.env.kindOf y.1=some .free
 len:cap.length=N'.length
 Qg:∀(j i:Nat) (x:Str),cap[j]? =some (some i)→N'[j]? =some x→X.N[i]? =some x∧(x,NameKind.free)∈scope.names
 SV:∀(j i:Nat) (x:Str),cap[j]? =some (some i)→N'[j]? =some x→AG X.env.scope x
 un:∀(j i:Nat) (x:Str),cap[j]? =some (some i)→N'[j]? =some x→∀z∈scope.names,z.1=x→z.2= .free
def gh(sc scope:Scope)(NN:List Str):List Str→List (Option Nat)→Bool
 |[],[]=>true
 |_::N,none::c=>gh sc scope NN N c
 |x::N,some i::c=>decide (NN[i]? =some x)&&decide ((x,NameKind.free)∈scope.names)&&(decide (sc.names.lookup x=some .local)||decide (sc.names.lookup x=some .cell)||decide (sc.names.lookup x=some .free))&&decide (∀z∈scope.names,z.1=x→z.2= .free)&&gh sc scope NN N c
 |_,_=>false
theorem nU{sc scope:Scope}{NN:List Str}:∀{N':List Str}{cap:List (Option Nat)},gh sc scope NN N' cap=true→cap.length=N'.length
 |[],[],_=>rfl
 |_::_,none::_,h=>congrArg (·+1) (nU (by simpa only[gh]using h))
 |_::_,some _::_,h=>congrArg (·+1) (nU (by simp only[gh,Bool.and_eq_true]at h;exact h.2))
 |[],_::_,h=>by simp[gh]at h
 |_::_,[],h=>by simp[gh]at h
theorem iB{sc scope:Scope}{NN:List Str}:∀{N':List Str}{cap:List (Option Nat)},gh sc scope NN N' cap=true→∀(j i:Nat) (x:Str),cap[j]? =some (some i)→N'[j]? =some x→
  NN[i]? =some x∧(x,NameKind.free)∈scope.names∧AG sc x∧∀z∈scope.names,z.1=x→z.2= .free
 |[],[],_,j,i,x,e,_=>by simp at e
 |_::_,none::_,h,0,i,x,e,_=>by simp at e
 |_::_,none::_,h,j+1,i,x,e,e'=>iB (by simpa only[gh]using h) j i x (by simpa using e) (by simpa using e')
 |y::_,some k::_,h,0,i,x,e,e'=>by
  simp only[List.getElem?_cons_zero,Option.some.injEq]at e e'
  subst e e'
  simp only[gh,Bool.and_eq_true,Bool.or_eq_true,decide_eq_true_eq]at h
  obtain⟨⟨⟨⟨h1,h2⟩,h3⟩,h4⟩,_⟩:=h
  refine⟨h1,h2,?_,h4⟩
  rcases h3 with(h3|h3)|h3
  ·exact .inl h3
  ·exact .inr (.inl h3)
  ·exact .inr (.inr h3)
 |_::_,some _::_,h,j+1,i,x,e,e'=>iB (by simp only[gh,Bool.and_eq_true]at h;exact h.2) j i x (by simpa using e) (by simpa using e')
 |[],_::_,h,_,_,_,_,_=>by simp[gh]at h
 |_::_,[],h,_,_,_,_,_=>by simp[gh]at h
theorem oK{X:Cx}{sc scope:Scope}{NN N':List Str}{cap:List (Option Nat)}(e:X.env.scope=sc)(eN:X.N=NN)(h1:scope.kind= .function)(h2:∀y∈scope.names,y.2≠.cell)(h3:∀y∈scope.names,y.2= .local→scope.names.lookup y.1=some .local)
  (h4:∀y∈scope.names,y.2= .free→sc.names.lookup y.1=some .cell∨sc.names.lookup y.1=some .free)(h5:gh sc scope NN N' cap=true):nT X scope N' cap:=by
 subst e eN
 exact⟨h1,h2,h3,h4,nU h5,fun j i x a b=>⟨(iB h5 j i x a b).1,(iB h5 j i x a b).2.1⟩,fun j i x a b=>(iB h5 j i x a b).2.2.1,fun j i x a b=>(iB h5 j i x a b).2.2.2⟩
def A9(wi:TI)(cap:List (Option Nat))(g:TG)(tt:TT)(te:TE):TE:=fun σ H Q=>wi σ H fun J H1=>∀l,H1 l=none→
 ∃W:Nat→Nat→St→Hp→Prop,(∃m,W 0 m (rT σ cap) (upd H1 l (.lst [])))∧∀i m τ H2,W i m τ H2→
  (J.stop i H2∧Q (.ref l) H2)∨(J.go i H2∧∃N:St→Hp→Prop,(∀FZ H',N FZ H'→∃m',m'<m∧W (i+1) m' FZ H')∧
   ∀x H',J.Fc i H2 x H'→g x τ H' fun xf H3=>tt xf H3 fun b H4=>if b=true then te xf H4 fun y H5=>∃ys,H5 l=some (.lst ys)∧ys.length<sizeLine∧N xf (upd H5 l (.lst (ys++[y])))else N xf H4)
def gY:TT:=fun _ H Q=>Q true H
namespace Zu
set_option allowUnsafeReducibility true in
@[scoped irreducible] def _root_.L2.oM(X:Cx)(ifs:List Expr)(t:TT):Prop:=
 ∀(pins:List (Addr×Obj)) (s:Shared) (σ:St) (H:Hp) (Q:Bool→Hp→Prop),Inv X pins σ H s→t σ H Q→
  wpAny (model X.prog X.w) X.A (forIn ifs true fun c r=>if r=true then do let ok ←isTrue c X.env (eval c X.env);pure (ForInStep.yield ok)else pure (ForInStep.yield r)) (TP X pins σ Q) X.xe s
end Zu
theorem Dw{X:Cx}:oM X [] gY:=fun _ _ _ H _ I h=>wpAny_tests_nil ⟨H,I,h⟩
theorem F0{X:Cx}{c:Expr}{t:TT}(h:PT X c t):oM X [c] t:=fun pins s σ H Q I q=>wpAny_tests_one (h pins s σ H Q I q)
section
variable{X:Cx}{pos:Pos}{elt iter tg:Expr}{ifs:List Expr}{scope:Scope}{N':List Str}{cap:List (Option Nat)}{wi:TI}{g:TG}{tt:TT}{te:TE}
theorem jv{X:Cx}:∀{names:List (Str×NameKind)}{y:Str}{k:NameKind},(names.map fun(n,k)=>if (k==NameKind.free&&X.env.scope.kind==.function&&X.env.kindOf n==some .cell)then(n,NameKind.cell)else(n,k)).lookup y=some k→
  (k= .cell∨k= .free)→(∀z∈names,z.2≠.cell)→(y,NameKind.free)∈names
 |[],_,_,h,_,_=>by simp at h
 |(n,k0)::r,y,k,h,hk,hc=>by
  have SW:∀z∈r,z.2≠.cell:=fun z hz=>hc z (List.mem_cons_of_mem _ hz)
  have h0:k0≠.cell:=hc (n,k0) List.mem_cons_self
  rw[List.map_cons]at h
  dsimp only at h
  by_cases hy:y=n
  ·subst hy
   have:k0= .free:=by
    by_cases hf:k0= .free
    ·exact hf
    ·exfalso
     have hb:(k0==NameKind.free)=false:=by simpa using hf
     simp only[hb,Bool.false_and,Bool.false_eq_true,if_false,List.lookup_cons,beq_self_eq_true]at h
     cases h
     rcases hk with e|e
     ·exact h0 e
     ·exact hf e
   subst this
   exact List.mem_cons_self
  ·have hb:(y==n)=false:=beq_eq_false_iff_ne.mpr hy
   have h':(r.map fun(n,k)=>if (k==NameKind.free&&X.env.scope.kind==.function&&X.env.kindOf n==some .cell)then(n,NameKind.cell)else(n,k)).lookup y=some k:=by
    split at h<;>simpa only[List.lookup_cons,hb]using h
   exact List.mem_cons_of_mem _ (jv (X:=X) h' hk SW)
theorem mO{X:Cx}:∀{names:List (Str×NameKind)}{y:Str},(y,NameKind.free)∈names→(∀z∈names,z.1=y→z.2= .free)→∃k,(k=NameKind.cell∨k= .free)∧
  (names.map fun(n,k)=>if (k==NameKind.free&&X.env.scope.kind==.function&&X.env.kindOf n==some .cell)then(n,NameKind.cell)else(n,k)).lookup y=some k
 |[],_,h,_=>nomatch h
 |(n,k0)::r,y,h,hu=>by
  rw[List.map_cons]
  dsimp only
  by_cases hy:y=n
  ·subst hy
   have:k0= .free:=hu (y,k0) List.mem_cons_self rfl
   subst this
   split
   ·exact⟨.cell,.inl rfl,by simp⟩
   ·exact⟨.free,.inr rfl,by simp⟩
  ·have hb:(y==n)=false:=beq_eq_false_iff_ne.mpr hy
   have hm:(y,NameKind.free)∈r:=by
    rcases List.mem_cons.mp h with e|h
    ·cases e;exact absurd rfl hy
    ·exact h
   obtain⟨k,hk,e⟩:=mO (X:=X) hm fun z hz=>hu z (List.mem_cons_of_mem _ hz)
   refine⟨k,hk,?_⟩
   split<;>simpa only[List.lookup_cons,hb]using e
theorem F1{pins:List (Addr×Obj)}{σ:St}{H:Hp}{s:Shared}{fp:List Addr}{h1:Heap}{m:Str→Option Value}{t':Nat}(B:nT X scope N' cap)
  (I:Inv X pins σ H s)(hf:∀b∈fp,kK X pins H b)(ho:∀b∈fp,∃o,s.heap.get? b=some o)(keep:∀b o,s.heap.get? b=some o→h1.get? b=some o)(Jv:h1.Ns s.heap.objs.size m):
  Inv (X.h_ scope s.heap.objs.size N' s H fp) [] (rT σ cap) H { s with heap:=h1,toks:=t' }:=by
 have I1:Inv X pins σ H { s with heap:=h1,toks:=t' }:=I.kept keep
 have vL:∀y c,(fQ X.env.cells scope.names []).lookup y=some c→X.env.cells.lookup y=some c:=fun y c h=>qO h fun c' fD=>by simp at fD
 refine⟨⟨I.ok.mod,B.kind,I.ok.glob,I.ok.blt,Nat.le_refl _,fun y z c e1 e2=>I.ok.inj y z c (vL y c e1) (vL z c e2),fun y hy=>?_,fun y c e _=>absurd e (by simp),I.ok.hd,I.ok.frames,.inl rfl,fun b hb=>⟨?_,fun y c e=>(hf b hb).2.2.2.2.1 y c (vL y c e)⟩,fun b o e=>I.bs b o e,Nat.le_trans I.ok.wQ I.sz,fun b o e hb=>?_,fun b hb hs=>?_,I.stack,I.ym⟩,
  rfl,I.bare,Un.kept keep,⟨m,Jv,fun j y v e1 e2 e3=>?_⟩,fun y c e=>I1.cell y c (vL y c e),I.bV.fresh (Nat.le_refl _),fun y c e=>(I.jZ y c (vL y c e)).imp id fun z=>⟨rfl,z.2⟩,fun p hp=>absurd hp (by simp),I1.bV,?_⟩
 ·-- has
  have kG:(y,NameKind.free)∈scope.names:=by
   rcases hy with hy|hy
   ·exact jv (X:=X) (k:=.cell) hy (.inl rfl) B.A8
   ·exact jv (X:=X) (k:=.free) hy (.inr rfl) B.A8
  exact kS kG (I.ok.has y (B.frees (y,.free) kG rfl))
 ·-- fp below nM Qh frame
  obtain⟨o,e⟩:=ho b hb
  exact Nat.ne_of_lt (Heap.lt_size e)
 ·-- base
  rcases(hf b hb).2.2.2.1 with z|z
  ·exact I.ok.yj b o e z
  ·exact absurd (Nat.lt_of_lt_of_le (Heap.lt_size e) (Nat.le_trans I.ok.wQ z)) (Nat.lt_irrefl _)
 ·-- frames
  rcases List.mem_cons.mp (I.wR b hs)with z|z
  ·exact(hf b hb).2.1 z
  ·exact(hf b hb).2.2.1 z
 ·-- Ph values
  have hc:∃i,cap[j]? =some (some i)∧σ[i]? =some (some v):=by
   unfold rT at e2
   rw[List.getElem?_map]at e2
   cases e:cap[j]? with
   |none=>rw[e]at e2;cases e2
   |some o=>
    rw[e]at e2
    cases o with
    |none=>simp at e2
    |some i=>
     refine⟨i,rfl,?_⟩
     simp only[Option.map_some,Option.some.injEq]at e2
     cases q:σ[i]? with
     |none=>rw[q]at e2;cases e2
     |some w=>
      rw[q]at e2
      have oN:w=some v:=e2
      rw[oN]
  obtain⟨i,hi,hv⟩:=hc
  obtain⟨hN,qb⟩:=B.Qg j i y hi e1
  obtain⟨m1,_,hl⟩:=I1.loc
  obtain⟨u,r,l⟩:=hl i y v hN hv (B.SV j i y hi e1)
  refine⟨u,r,.inr ?_⟩
  obtain⟨k,hk,ek⟩:=mO (X:=X) qb (B.un j i y hi e1)
  have wU:∃c,X.env.cells.lookup y=some c∧h1.IsCell c (some u):=by
   rcases l with⟨k1,_⟩|⟨_,c,e,z⟩
   ·rcases B.frees (y,.free) qb rfl with q|q
    ·rw[show X.env.kindOf y=some NameKind.local from k1]at q;cases q
    ·rw[show X.env.kindOf y=some NameKind.local from k1]at q;cases q
   ·exact⟨c,e,z⟩
  obtain⟨c,ec,zc⟩:=wU
  obtain⟨c',Qi⟩:=kS (cs:=[]) qb ⟨c,ec⟩
  have:c'=c:=by have:=vL y c' Qi;rw[ec]at this;cases this;rfl
  subst this
  refine⟨?_,c',Qi,zc⟩
  rcases hk with rfl|rfl
  ·exact .inl ek
  ·exact .inr ek
 ·show(rT σ cap).length=N'.length
  unfold rT
  rw[List.length_map];exact B.len
theorem tL{RR:Value→Addr→Result→Shared→Prop}{pins:List (Addr×Obj)}{σ:St}{H2:Hp}{s2:Shared}{it:Addr}{fp:List Addr}{tn:Nat→Heap→Prop}{J:It}{Q:VK}(B:nT X scope N' cap)(hc:X.calm=true)
  (hg:∀C bp cJ fp,PG (X.h_ scope C N' bp cJ fp) tg g)(ht:∀C bp cJ fp,oM (X.h_ scope C N' bp cJ fp) ifs tt)(he:∀C bp cJ fp,PE (X.h_ scope C N' bp cJ fp) elt te)
  (I2:Inv X pins σ H2 s2)(T:Turn X.prog X.w X.K tg J fp it tn)(qe:tn 0 s2.heap)(f2:∀b∈fp,kK X pins H2 b)
  (tM:∀l,H2 l=none→∃W:Nat→Nat→St→Hp→Prop,(∃m,W 0 m (rT σ cap) (upd H2 l (.lst [])))∧∀i m τ H2,W i m τ H2→
   (J.stop i H2∧Q (.ref l) H2)∨(J.go i H2∧∃N:St→Hp→Prop,(∀FZ H',N FZ H'→∃m',m'<m∧W (i+1) m' FZ H')∧
    ∀x H',J.Fc i H2 x H'→g x τ H' fun xf H3=>tt xf H3 fun b H4=>if b=true then te xf H4 fun y H5=>∃ys,H5 l=some (.lst ys)∧ys.length<sizeLine∧N xf (upd H5 l (.lst (ys++[y])))else N xf H4))
  (fin:∀(D C:Addr) (o:Obj) (m:Str→Option Value) (H5:Hp) (s5:Shared),Inv X pins σ H5 s5→kK X pins H5 C→s5.heap.get? C=some o→(∀v,o.data≠.cell v)→s5.heap.Ns C m→Q (.ref D) H5→RR (.ref D) C (.ok .next) s5):
  wpAny (model X.prog X.w) X.A (newList []) (fun acc yO=>wpAny (model X.prog X.w) X.A (newFunctionEnv scope X.env.globals (fQ X.env.cells scope.names []) [] X.env.qual none .none (some X.env)) (fun LM B_=>
   codeAny (model X.prog X.w) X.A (.compStart (.ListComp elt [⟨tg,iter,ifs,0⟩] scope pos) 0 (.ref it) acc { LM with scope:=relabel scope X.env }) (RR acc LM.locals) B_) X.xe yO) X.xe s2:=by
 refine wpAny_newObj_type (wpAny_newFunctionEnv B.A8 (by intro y hy;simp at hy) (fun ja xg Ca=>?_) B.kind)
 dsimp only at xg Ca ⊢
 have I3:Inv X pins σ (upd H2 s2.heap.objs.size (.lst [])) { s2 with heap:=s2.heap.push { cls:=.type "list",dict:=none,data:=.seq ([]:List Value).toArray } }:=I2.LH (t':=s2.toks) (its:=[]) (ys:=[]) .nil (Nat.zero_le _)
 have hD:H2 s2.heap.objs.size=none:=I2.fresh
 have Qj:∀b∈fp,b≠s2.heap.objs.size:=fun b hb=>by
  obtain⟨o,e,_⟩:=T.obj 0 _ qe b hb
  exact Nat.ne_of_lt (Heap.lt_size e)
 have f3:∀b∈fp,kK X pins (upd H2 s2.heap.objs.size (.lst [])) b:=fun b hb=>⟨by rw[bG (Qj b hb)];exact(f2 b hb).1,(f2 b hb).2⟩
 obtain⟨W,⟨m0,w0⟩,turn⟩:=tM s2.heap.objs.size hD
 generalize JH:({ s2 with heap:=s2.heap.push { cls:=.type "list",dict:=none,data:=.seq ([]:List Value).toArray } }:Shared)=s3 at I3
 have JI:s3.heap=s2.heap.push { cls:=.type "list",dict:=none,data:=.seq ([]:List Value).toArray }:=by rw[←JH]
 have keep:∀b o,s3.heap.get? b=some o→ja.get? b=some o:=fun b o e=>by
  have eQ:=Heap.lt_size e
  rw[JI]at e eQ
  exact Ca.extBut b o (Nat.ne_of_lt eQ) (Heap.get?_push_of_some _ e)
 have SX:∀b∈fp,∃o,s3.heap.get? b=some o:=fun b hb=>by
  obtain⟨o,e,_⟩:=T.obj 0 _ qe b hb
  exact⟨o,by rw[JI];exact Heap.get?_push_of_some _ e⟩
 have Qk:s3.heap.objs.size=(s2.heap.push { cls:=.type "list",dict:=none,data:=.seq ([]:List Value).toArray }).objs.size:=by rw[JI]
 rw[←Qk]at xg ⊢
 have J0:Inv (X.h_ scope s3.heap.objs.size N' s3 (upd H2 s2.heap.objs.size (.lst [])) fp) [] (rT σ cap) (upd H2 s2.heap.objs.size (.lst [])) { s3 with heap:=ja,toks:=s3.toks }:=F1 (t':=s3.toks) B I3 f3 SX keep xg
 have Ql:tn 0 ja:=T.keep 0 s2.heap ja qe fun b hb o e=>keep b o (by rw[JI];exact Heap.get?_push_of_some _ e)
 have es:({ s2 with heap:=ja,toks:=s2.toks+([]:List (Str×Value)).length }:Shared)= { s3 with heap:=ja,toks:=s3.toks }:=by
  rw[←JH];rfl
 have M4:∀{s5:Shared}{H5:Hp}{Qn:St},Inv (X.h_ scope s3.heap.objs.size N' s3 (upd H2 s2.heap.objs.size (.lst [])) fp) [] Qn H5 s5→Inv X pins σ H5 s5:=fun {s5 H5 Qn} J5=>
  I3.Me (ch:=fp) J5.os J5.base J5.bV J5.bare fun b hb=>⟨(f3 b hb).2.2.2.1,(f3 b hb).2.1,(f3 b hb).2.2.2.2.1,(f3 b hb).2.2.2.2.2⟩
 have M5:∀{H':Hp},(∀b∈fp,H' b=none)→∀b∈fp,kK (X.h_ scope s3.heap.objs.size N' s3 (upd H2 s2.heap.objs.size (.lst [])) fp) [] H' b:=fun {H'} hn b hb=>
  ⟨hn b hb,(J0.ok.ID b hb).1,J0.ok.yk b hb,.inl hb,(J0.ok.ID b hb).2,fun p hp=>absurd hp (by simp)⟩
 have loop:codeAny (model X.prog X.w) X.A (.compLoop (.ListComp elt [⟨tg,iter,ifs,0⟩] scope pos) 0 (.ref it) (.ref s2.heap.objs.size) (compEnvC scope (fQ X.env.cells scope.names []) s3.heap.objs.size X.env))
   (RR (.ref s2.heap.objs.size) s3.heap.objs.size) { s3 with heap:=ja,toks:=s3.toks }:=by
  refine vm (fun n s'=>∃i τ H',Inv (X.h_ scope s3.heap.objs.size N' s3 (upd H2 s2.heap.objs.size (.lst [])) fp) [] τ H' s'∧tn i s'.heap∧(∀b∈fp,H' b=none)∧W i n τ H') ?_ m0 ⟨0,_,_,J0,Ql,fun b hb=>(f3 b hb).1,w0⟩
  rintro n s4 ⟨i,τ,H4,J4,Qo,Qp,w4⟩
  rcases turn i n τ H4 w4 with⟨stop,q⟩|⟨go,N,hN,step⟩
  ·refine wpAny_mono (T.done (X.h_ scope s3.heap.objs.size N' s3 (upd H2 s2.heap.objs.size (.lst [])) fp) rfl rfl rfl hc i [] s4 τ H4 (fun _ _=>False) J4 (M5 Qp) Qo stop) (fun r s5 bh=>?_) (fun _ _ f=>f)
   obtain⟨hr,J5⟩:=bh
   subst hr
   obtain⟨m5,Qq,_⟩:=J5.loc
   have I5:Inv X pins σ H4 s5:=M4 J5
   obtain⟨o5,V2,V3,SY,S0,_⟩:=id Qq
   refine fin _ _ o5 m5 H4 s5 I5 ⟨J5.free,fun e=>?_,I3.Ls (Nat.le_refl _),.inr I3.sz,fun y c e z=>?_,fun p hp z=>?_⟩ SY (fun v e=>?_) Qq q
   ·have:=I3.lt
    rw[←e]at this
    exact Nat.lt_irrefl _ this
   ·obtain⟨v,o,C8,_⟩:=I3.cell y c e
    have:=Heap.lt_size C8
    rw[z]at this
    exact Nat.lt_irrefl _ this
   ·have:=Heap.lt_size (I3.pin p hp).1
    rw[z]at this
    exact Nat.lt_irrefl _ this
   ·rw[S0]at e;cases e
  ·refine wpAny_mono (T.item (X.h_ scope s3.heap.objs.size N' s3 (upd H2 s2.heap.objs.size (.lst [])) fp) rfl rfl rfl hc i [] s4 τ H4 (fun _ _=>False) J4 (M5 Qp) Qo go) (fun r s5 bh=>?_) (fun _ _ f=>f)
   obtain⟨u,hr,h5⟩:=bh
   subst hr
   refine wpAny_mono h5 (fun _ s6 bh=>?_) (fun _ _ f=>f)
   obtain⟨xv,H6,J6,r6,y6,M6,S1⟩:=bh
   have S2:=J6.pinned (M5 S1) (T.obj _ _ M6)
   have again:∀{s7:Shared}{vn:St}{H7:Hp},Inv (X.h_ scope s3.heap.objs.size N' s3 (upd H2 s2.heap.objs.size (.lst [])) fp) ([]++ox fp s6.heap) vn H7 s7→N vn H7→∃m,m<n∧∃i τ H',Inv (X.h_ scope s3.heap.objs.size N' s3 (upd H2 s2.heap.objs.size (.lst [])) fp) [] τ H' s7∧tn i s7.heap∧(∀b∈fp,H' b=none)∧W i m τ H':=fun {s7 vn H7} J7 n7=>by
    obtain⟨m',hm,w7⟩:=hN vn H7 n7
    refine⟨m',hm,i+1,vn,H7,J7.jG,T.keep _ _ _ M6 fun b hb o e=>(J7.pin (b,o) (List.mem_append_right _ (List.mem_append_right _ (i7 hb e)))).1,fun b hb=>?_,w7⟩
    obtain⟨o,e,d⟩:=T.obj _ _ M6 b hb
    exact(J7.pin (b,o) (List.mem_append_right _ (List.mem_append_right _ (i7 hb e)))).2.1
   refine wpAny_mono (hg s3.heap.objs.size s3 (upd H2 s2.heap.objs.size (.lst [])) fp _ s6 τ H6 xv u _ S2 r6 (step xv H6 y6)) (fun _ s7 bh=>?_) (fun _ _ f=>f)
   obtain⟨vn,H7,J7,q7⟩:=bh
   refine wpAny_mono (ht s3.heap.objs.size s3 (upd H2 s2.heap.objs.size (.lst [])) fp _ s7 vn H7 _ J7 q7) (fun ok s8 bh=>?_) (fun _ _ f=>f)
   obtain⟨H8,J8,q8⟩:=bh
   cases ok with
   |false=>
    rw[if_neg (by decide)]at q8 ⊢
    exact again J8 q8
   |true=>
    rw[if_pos rfl]at q8 ⊢
    refine wpAny_mono (he s3.heap.objs.size s3 (upd H2 s2.heap.objs.size (.lst [])) fp _ s8 vn H8 _ J8 q8) (fun yv s9 bh=>?_) (fun _ _ f=>f)
    obtain⟨y,H9,J9,r9,q9⟩:=bh
    obtain⟨ys,hl,hz,n9⟩:=q9
    exact wpAny_mono (nR (X:=X.h_ scope s3.heap.objs.size N' s3 (upd H2 s2.heap.objs.size (.lst [])) fp) _ s9 vn H9 (.ref s2.heap.objs.size) [y] (.ref s2.heap.objs.size) [yv] (fun _ H'=>N vn H') J9 rfl (.cons r9 .nil) ⟨_,ys,y,rfl,rfl,hl,hz,n9⟩) (fun _ V4 ⟨_,V5,S3,_,S4⟩=>again S3 S4) (fun _ _ f=>f)
 rw[es]
 exact codeAny_compStart_list loop (T.self _ 0 _ _ _ Ql loop)
theorem F3(B:nT X scope N' cap)(hc:X.calm=true)
  (hi:PI X tg iter wi)(hg:∀C bp cJ fp,PG (X.h_ scope C N' bp cJ fp) tg g)(ht:∀C bp cJ fp,oM (X.h_ scope C N' bp cJ fp) ifs tt)(he:∀C bp cJ fp,PE (X.h_ scope C N' bp cJ fp) elt te)
  (hs:∀x,foldedSetIterable iter X.env x=pure x:=by intro _;rfl):
  PE X (.ListComp elt [⟨tg,iter,ifs,0⟩] scope pos) (A9 wi cap g tt te):=by
 intro pins s σ H Q I h
 rw[eval_ListComp]
 refine wpAny_comprehension_free (use:=none) rfl hs (kR fun y hy hf=>I.ok.has y.1 (B.frees y hy hf)) B.kind B.names ?_
 refine bK (hi pins s σ H _ I h) fun v s1 h1=>bK h1 fun I8 s2 h2=>?_
 obtain⟨it,fp,tn,J,H2,e,I2,T,qe,f2,tM⟩:=h2
 subst e
 refine tL (RR:=fun acc C=>compPost (model X.prog X.w) X.A X.xe none (EP X pins σ Q) acc C) B hc hg ht he I2 T qe f2 tM fun D C o m H5 s5 I5 f5 ho hd hn q=>?_
 refine⟨m,hn,fun h' yP=>?_⟩
 exact⟨.ref D,H5,I5.turned (t':=s5.toks) (it:=C) (fun b o hb e=>yP.extBut b o hb e) f5.1 (fun e=>f5.2.1 e) f5.2.2.2.1 f5.2.2.2.2.1 f5.2.2.2.2.2,rfl,q⟩
theorem F4{i:Nat}{y:Str}{py yQ:Pos}(B:nT X scope N' cap)(hc:X.calm=true)
  (hi:PI X tg iter wi)(hg:∀C bp cJ fp,PG (X.h_ scope C N' bp cJ fp) tg g)(ht:∀C bp cJ fp,oM (X.h_ scope C N' bp cJ fp) ifs tt)(he:∀C bp cJ fp,PE (X.h_ scope C N' bp cJ fp) elt te)
  (hN:X.N.Nodup)(Dx:X.N[i]? =some y)(hy:Loc X.env.scope y)(M7:swapsWith (.ListComp elt [⟨tg,iter,ifs,0⟩] scope pos) (some (.Name y py)) yQ.line X.env=pure true)
  (hf:X.fn y=true∨X.env.scope.names.lookup y=some .local:=by first|exact .inl rfl|exact .inr rfl|assumption)
  (hs:∀x,foldedSetIterable iter X.env x=pure x:=by intro _;rfl):
  PS X (.Assign [.Name y py] (.ListComp elt [⟨tg,iter,ifs,0⟩] scope pos) yQ) (Fb (A9 wi cap g tt te) (aD i)):=by
 intro pins s σ H D I h
 rw[exec_Assign_Name_used _ _ _ _ M7]
 refine wpAny_bind (wpAny_standAt (wpAny_bind ?_))
 show wpAny _ X.A (do let _ ←comprehension (.ListComp elt [⟨tg,iter,ifs,0⟩] scope pos) scope X.env _ (newList []) false (eval iter X.env) (some (assign (.Name y py) X.env))) _ _ s
 refine wpAny_bind (wpAny_mono (wpAny_comprehension_free (use:=some (assign (.Name y py) X.env)) (Q:=fun _ s'=>SP X pins D .next s') rfl hs (kR fun y hy hf=>I.ok.has y.1 (B.frees y hy hf)) B.kind B.names
  (bK (hi pins s σ H _ I h) fun v s1 h1=>bK h1 fun I8 s2 h2=>?_)) (fun _ s' hq=>wpAny_pure (wpAny_pure hq)) fun _ _ e=>e)
 obtain⟨it,fp,tn,J,H2,e,I2,T,qe,f2,tM⟩:=h2
 subst e
 refine tL (Q:=fun v H'=>aD i v σ H' D.nx) (RR:=fun acc C=>compPost (model X.prog X.w) X.A X.xe (some (assign (.Name y py) X.env)) (fun _ s'=>SP X pins D .next s') acc C) B hc hg ht he I2 T qe f2 tM fun D' C o m H5 s5 I5 f5 ho hd hn q=>?_
 show wpAny _ X.A (assign (.Name y py) X.env (.ref D')) _ _ _
 have Mo:Inv X (pins++[(C,o)]) σ H5 s5:=I5.sW fun p hp=>by
  rcases List.mem_append.mp hp with z|z
  ·exact I5.pin p (List.mem_append_right _ z)
  ·have:p=(C,o):=by simpa using z
   subst this
   exact⟨ho,f5.1,f5.2.1,f5.2.2.1,hd⟩
 refine bK (yo (pos:=py) hN Dx hy hf (pins++[(C,o)]) s5 σ H5 (.ref D') (.ref D') _ Mo rfl q) fun _ s6 bh=>?_
 obtain⟨Mp,H6,I6,q6⟩:=bh
 obtain⟨e6,n6,_⟩:=I6.pin (C,o) (List.mem_append_right _ (List.mem_append_right _ List.mem_cons_self))
 have S5:s6.heap.Ns C m:=by
  obtain⟨o',es,ep,q1,r⟩:=hn
  rw[ho]at q1;cases q1
  exact⟨o,es,ep,e6,r⟩
 refine⟨m,S5,fun h' yP=>⟨Mp,H6,I6.jG.turned (t':=s6.toks) (it:=C) (fun b o hb e=>yP.extBut b o hb e) n6 f5.2.1 f5.2.2.2.1 f5.2.2.2.2.1 f5.2.2.2.2.2,q6⟩⟩
end
end L2
namespace L2
open PySem PySem.Spec PyProof.Rows
end L2
namespace L2
open PySem PySem.Spec PyProof.Rows
end L2
namespace L2
open PySem PySem.Spec PyProof.Rows
mutual
inductive jw(K:PySem.W.Frag)(H:Hp):V→PyData→Prop
 |bC:jw K H .bC .none
 |bl (b:Bool):jw K H (.bl b) (.bool b)
 |int (i:Int):jw K H (.int i) (.int i)
 |str (x:Str):jw K H (.str x) (.str x)
 |tup {p:Addr}{xs:List V}{ds:List PyData}:bJ K H p xs→nV K H xs ds→jw K H (.ref p) (.tuple ds)
 |lst {p:Addr}{xs:List V}{ds:List PyData}:dI K H p xs→nV K H xs ds→jw K H (.ref p) (.list ds)
inductive nV(K:PySem.W.Frag)(H:Hp):List V→List PyData→Prop
 |nil:nV K H [] []
 |cons {x:V}{xs:List V}{d:PyData}{ds:List PyData}:jw K H x d→nV K H xs ds→nV K H (x::xs) (d::ds)
end
section
variable{X:Cx}{pins:List (Addr×Obj)}{σ:St}{H:Hp}{s:Shared}
mutual
theorem jw.reads(I:Inv X pins σ H s):∀{x:V}{d:PyData},jw X.K H x d→∀{v:Value},RelV x v→∃as,Reads s.heap v d as
 |_,_,.bC,v,r=>by cases (show v=Value.none from r);exact⟨_,.none⟩
 |_,_,.bl b,v,r=>by cases (show v=Value.bool b from r);exact⟨_,.bool b⟩
 |_,_,.int i,v,r=>by
  obtain⟨t,e⟩:=(show ∃t,v=Value.int i t from r)
  cases e
  exact⟨_,.int i t⟩
 |_,_,.str x,v,r=>by
  obtain⟨t,e⟩:=(show ∃t,v=Value.str x t from r)
  cases e
  exact⟨_,.str x t⟩
 |_,_,.tup (p:=p) h a,v,r=>by
  cases (show v=Value.ref p from r)
  obtain⟨its,hv,⟨o,ho,hc,n,hd⟩,_⟩:=I.tuple h
  obtain⟨as,ra⟩:=nV.reads I a hv
  exact⟨as,.tuple ho hc hd (by simpa using ra)⟩
 |_,_,.lst (p:=p) h a,v,r=>by
  cases (show v=Value.ref p from r)
  obtain⟨its,hv,pl,_⟩:=I.list h
  obtain⟨o,ho,hc,n,hd⟩:=pl.isList
  obtain⟨as,ra⟩:=nV.reads I a hv
  exact⟨_,.list ho hc hd (by simpa using ra)⟩
theorem nV.reads(I:Inv X pins σ H s):∀{xs:List V}{ds:List PyData},nV X.K H xs ds→∀{us:List Value},Vals xs us→∃as,ReadsAll s.heap us ds as
 |_,_,.nil,_,.nil=>⟨_,.nil⟩
 |_,_,.cons h a,_,.cons r t=>by
  obtain⟨as,ra⟩:=jw.reads I h r
  obtain⟨bs,rb⟩:=nV.reads I a t
  exact⟨_,.cons ra rb⟩
end
end
def vM(K:PySem.W.Frag)(neg:Bool):R2:=fun x y H Q=>∃d e,jw K H x d∧jw K H y e∧SeqAt.shaped d=true∧SeqAt.shaped e=true∧Q (.bl (if neg then !PyData.eqv d e else PyData.eqv d e)) H
section
variable{X:Cx}
theorem JJ(hu:X.A.units+64<cLine):dB X (compareOp .Eq) (vM X.K false):=by
 intro pins s σ H x y v u Q I rx ry h
 obtain⟨d,e,h1,h2,s1,s2,q⟩:=h
 obtain⟨as,ra⟩:=h1.reads I rx
 obtain⟨bs,rb⟩:=h2.reads I ry
 exact eq_dataH ra rb s1 s2 hu ⟨.bl (PyData.eqv d e),H,I,rfl,q⟩
theorem JK(hu:X.A.units+64<cLine):dB X (compareOp .NotEq) (vM X.K true):=by
 intro pins s σ H x y v u Q I rx ry h
 obtain⟨d,e,h1,h2,s1,s2,q⟩:=h
 obtain⟨as,ra⟩:=h1.reads I rx
 obtain⟨bs,rb⟩:=h2.reads I ry
 exact ne_dataH ra rb s1 s2 hu ⟨.bl (!PyData.eqv d e),H,I,rfl,q⟩
def M9(i j k:Nat)(ta:TA):TS:=fun D σ H=>ta σ H fun vs H1=>∃u v w,vs=[u,v,w]∧D.nx (((σ.set i (some u)).set j (some v)).set k (some w)) H1
theorem F5{i j k:Nat}{x y z:Str}{a b c:Expr}{ta:TA}{px py pz pt pos:Pos}{kt k2 nJ}(hc:X.calm=true)(hN:X.N.Nodup)(hi:X.N[i]? =some x)(hj:X.N[j]? =some y)(hk:X.N[k]? =some z)(nK:i≠j)(M_:i≠k)(j5:j≠k)
  (hx:X.env.scope.names.lookup x=some .local)(hy:X.env.scope.names.lookup y=some .local)(hz:X.env.scope.names.lookup z=some .local)(ha:PA X [a,b,c] ta)
  (hw:swappedStores [.Tuple [.Name x px,.Name y py,.Name z pz] kt pt] (.Tuple [a,b,c] k2 nJ) X.env=pure (some [x,y,z]))
  (hs:swapsWithSole [.Tuple [.Name x px,.Name y py,.Name z pz] kt pt] (.Tuple [a,b,c] k2 nJ) pos.line X.env=pure false:=by rfl):
  PS X (.Assign [.Tuple [.Name x px,.Name y py,.Name z pz] kt pt] (.Tuple [a,b,c] k2 nJ) pos) (M9 i j k ta):=by
 intro pins s σ H D I h
 rw[exec_Assign_arm]
 refine wpAny_bind (wpAny_standAt ?_)
 rw[hs]
 refine wpAny_bind (wpAny_pure ?_)
 rw[if_neg (by decide)]
 refine wpAny_bind (Tuple_ (bK (ha _ pins s σ H _ I h) fun us s1 bh=>?_))
 obtain⟨vs,H1,I1,r1,q1⟩:=bh
 obtain⟨v1,v2,v3,e1,q1⟩:=q1
 subst e1
 obtain⟨u1,u2,u3,rfl,ra,rb,rc⟩:∃u1 u2 u3,us=[u1,u2,u3]∧RelV v1 u1∧RelV v2 u2∧RelV v3 u3:=by
  cases r1 with
  |cons p q=>
   cases q with
   |cons p' q'=>
    cases q' with
    |cons S6 S7=>
     cases S7
     exact⟨_,_,_,rfl,p,p',S6⟩
 refine wpAny_newObj_type ?_ (by show 3≤sizeLine;decide)
 have I2:Inv X pins σ H1 { s1 with heap:=s1.heap.push { cls:=.type "tuple",data:=.seq [u1,u2,u3].toArray } }:=I1.kept (t':=s1.toks) fun b o e=>Heap.get?_push_of_some _ e
 rw[hw]
 refine wpAny_bind (wpAny_pure ?_)
 show wpAny (model X.prog X.w) X.A (do rule "assign.swapped-stores";let items ←unpackItems (.ref s1.heap.objs.size) 3 none;assignInOrder [fun v=>bindName X.env z v,fun v=>bindName X.env y v,fun v=>bindName X.env x v] items.reverse;pure Flow.next) _ _ _
 refine wpAny_bind (wpAny_rule (wpAny_bind (unpackItems_tuple (items:=#[u1,u2,u3]) (I.ok.hd hc) (IsTup.new s1.heap _) fun h' iY=>?_)))
 have I3:=I2.kept (h':=h') (t':=s1.toks) fun b o e=>iY b o (Nat.ne_of_lt (Heap.lt_size e)) e
 show wpAny _ _ (assignInOrder [fun v=>bindName X.env z v,fun v=>bindName X.env y v,fun v=>bindName X.env x v] [u3,u2,u1] >>= fun _=>pure Flow.next) _ _ _
 refine wpAny_bind (assignInOrder_cons (wpAny_bindName (gF I3 hN hk (.inl hz) rc (fun s2 I4=>?_) (.inr hz))))
 refine assignInOrder_cons (wpAny_bindName (gF I4 hN hj (.inl hy) rb (fun s3 I5=>?_) (.inr hy)))
 refine assignInOrder_cons (wpAny_bindName (gF I5 hN hi (.inl hx) ra (fun s4 I6=>assignInOrder_nil (wpAny_pure ?_)) (.inr hx)))
 have es:((σ.set k (some v3)).set j (some v2)).set i (some v1)=((σ.set i (some v1)).set j (some v2)).set k (some v3):=by
  rw[List.set_comm (some v2) (some v1) (Ne.symm nK),List.set_comm (some v3) (some v1) (Ne.symm M_),List.set_comm (some v3) (some v2) (Ne.symm j5)]
 rw[es]at I6
 exact⟨_,H1,I6,q1⟩
end
section
variable{X:Cx}
theorem mP{h:Heap}{d:PyData}{e:Value→Bool}:∀{us:List Value}{ds:List PyData}{as:List Addr},ReadsAll h us ds as→(∀u d' xi,u∈us→d'∈ds→Reads h u d' xi→e u=PyData.eqv d' d)→us.any e=ds.any fun d'=>PyData.eqv d' d
 |_,_,_,.nil,_=>rfl
 |_,_,_,.cons r t,h=>by
  rw[List.any_cons,List.any_cons,h _ _ _ List.mem_cons_self List.mem_cons_self r,mP t fun u d' xi hu hd r'=>h u d' xi (List.mem_cons_of_mem _ hu) (List.mem_cons_of_mem _ hd) r']
theorem readsAll_mem{h:Heap}:∀{us:List Value}{ds:List PyData}{as:List Addr},ReadsAll h us ds as→∀u∈us,∃d'∈ds,∃xi,Reads h u d' xi
 |_,_,_,.nil,_,hu=>nomatch hu
 |_,_,_,.cons r t,u,hu=>by
  rcases List.mem_cons.mp hu with rfl|hu
  ·exact⟨_,List.mem_cons_self,_,r⟩
  ·obtain⟨d',hd,xi,r'⟩:=readsAll_mem t u hu
   exact⟨d',List.mem_cons_of_mem _ hd,xi,r'⟩
open Classical in
noncomputable def tN(h:Heap)(d:PyData)(u:Value):Bool:=if e:∃d',PyData.canLay0 d'=true∧∃as,Reads h u d' as then PyData.eqv (Classical.choose e) d else false
theorem yR{h:Heap}{d d':PyData}{u:Value}{as:List Addr}(c:PyData.canLay0 d'=true)(r:Reads h u d' as):tN h d u=PyData.eqv d' d:=by
 have e:∃d',PyData.canLay0 d'=true∧∃as,Reads h u d' as:=⟨d',c,as,r⟩
 unfold tN
 rw[dif_pos e]
 obtain⟨c1,V6,r1⟩:=Classical.choose_spec e
 rw[SeqAt.Reads.unique _ _ _ _ _ c1 r1 r]
end
end L2
namespace L2
open PySem PySem.W PySem.Spec
abbrev vE:List Value:=[.type "ValueError",.type "Exception",.type "BaseException",.type "object"]
structure S8(K:Frag)(C S:Addr)(cd:ClassData):Prop where
 cls:clsIn K C=some cd
 mro:cd.mro= .ref C::.ref S::vE
 Dy:cd.hasDict=true
 ty:typeIn K (.ref C)=some (.type "type")
 sa:findIn K (.ref C) "__setattr__" =some (some (.builtin "object.__setattr__"))
 ga:findIn K (.ref C) "__getattribute__" =some (some (.builtin "BaseException.__getattribute__"))
 gt:findIn K (.ref C) "__getattr__" =some none
 cl:findIn K (.ref C) "__class__" =some (some (.builtin "object.__class__"))
def xm(a:Addr)(o:Obj):HO:=.ext fun h=>h.get? a=some o
def xh(a:Addr)(o:Obj):HO:=.fS o (xm a o)
abbrev xo(C:Addr)(d:Option Addr)(vs:Array Value)(sl:Array (Option Value)):Obj:=⟨.ref C,d,.fields vs,sl⟩
def Qr(H:Hp):Option Addr→Option Obj→Prop
 |some dx,some od=>H dx=some (xh dx od)
 |none,none=>True
 |_,_=>False
structure Cb(K:Frag)(H:Hp)(a C S:Addr)(vs:List (Key×V)):Prop where
 ex:∃(cd:ClassData) (d:Option Addr) (Na:Array Value) (sl:Array (Option Value)) (Dz:Option Obj),S8 K C S cd∧H a=some (xh a (xo C d Na sl))∧Qr H d Dz∧
  ∀(f:Str) (v:V),(Sum.inr f,v)∈vs→findIn K (.ref C) f=some none∧∃od u,Dz=some od∧lookIn f od=some (some u)∧RelV v u
theorem Cb.up{K:Frag}{H H':Hp}{a C S:Addr}{vs:List (Key×V)}(h:Cb K H a C S vs)(fz:∀p o x,H p=some (.fS o x)→H' p=some (.fS o x)):Cb K H' a C S vs:=by
 obtain⟨cd,d,Na,sl,Dz,h1,h2,h3,h4⟩:=h.ex
 refine⟨cd,d,Na,sl,Dz,h1,fz _ _ _ h2,?_,h4⟩
 cases d with
 |none=>
  cases Dz with
  |none=>exact True.intro
  |some od=>exact h3
 |some dx=>
  cases Dz with
  |none=>exact h3
  |some od=>exact fz _ _ _ h3
end L2
namespace Qm
open PySem
structure Cc where
 params:Arguments
 body:Expr
 scope:Scope
 qual:Str
 code:Nat
 pos:Pos
 free:List Str
end Qm
namespace L2
open PySem PySem.W PySem.Spec PyProof.Rows
structure Cd(H:Hp)(a:Addr)(t:Qm.Cc)(vs:List V):Prop where
 ex:∃(tO:List (Str×Addr)) (pm Nb:Value) (c':Addr) (oc:Obj) (fs:Array Value) (tk:Tok),H a=some (xh a (kla_obj "<lambda>" t.qual t.params t.body t.scope tO pm c' Nb))∧
  H c'=some (xh c' oc)∧oc.data= .fields fs∧fs[1]? =some (.str t.qual tk)∧(∀x y c,tO.lookup x=some c→tO.lookup y=some c→x=y)∧
  (∀x c,tO.lookup x=some c→x∈t.free)∧vs.length=t.free.length∧
  ∀(i:Nat) (x:Str) (v:V),t.free[i]? =some x→vs[i]? =some v→∃c o u u0,tO.lookup x=some c∧H c=some (.fS o u0)∧o.data= .cell (some u)∧RelV v u
theorem Cd.up{H H':Hp}{a:Addr}{t:Qm.Cc}{vs:List V}(h:Cd H a t vs)(fz:∀p o x,H p=some (.fS o x)→H' p=some (.fS o x)):Cd H' a t vs:=by
 obtain⟨tO,pm,Nb,c',oc,fs,tk,h1,h2,h3,h4,h5,h6,h7,h8⟩:=h.ex
 refine⟨tO,pm,Nb,c',oc,fs,tk,fz _ _ _ h1,fz _ _ _ h2,h3,h4,h5,h6,h7,fun i x v e1 e2=>?_⟩
 obtain⟨c,o,u,u0,g1,g2,g3⟩:=h8 i x v e1 e2
 exact⟨c,o,u,u0,g1,fz _ _ _ g2,g3⟩
structure vN(K:Frag)(H:Hp)(cd:Addr)(q:Str)(P:Addr):Prop where
 hd:codeHdIn K cd P=true
 ex:∃ps:Array Value,H P=some (.wO ps)∧TriplesOk ps.toList∧∀pos cv,codeAmong pos ps.toList=some cv→∃c' oc fs tk,cv= .ref c'∧H c'=some (xh c' oc)∧oc.data= .fields fs∧fs[1]? =some (.str q tk)
theorem vN.up{K:Frag}{H H':Hp}{cd P:Addr}{q:Str}(h:vN K H cd q P)(fz:∀p o x,H p=some (.fS o x)→H' p=some (.fS o x))(hs:∀o,H P=some o→H' P=some o):vN K H' cd q P:=by
 obtain⟨ps,h1,h2,h3⟩:=h.ex
 refine⟨h.hd,ps,hs _ h1,h2,fun pos cv e=>?_⟩
 obtain⟨c',oc,fs,tk,g1,g2,g3⟩:=h3 pos cv e
 exact⟨c',oc,fs,tk,g1,fz _ _ _ g2,g3⟩
end L2
namespace Qm
open PySem
noncomputable section
inductive D where
 |bC|bl(b:Bool)|int(i:Int)|str(x:Str)|tup(xs:List D)|ref(n:Nat)|ty(n:String)|adr(a:Nat)|F6(t:Cc)(bs:List D)
inductive Cell where
 |lst(xs:List D)
 |ro(xs:List D)
 |Dy(ps:List (Str×D))
 |DA(ps:List (Str×D))
 |F7(ps:List (List Int×D))
 |F8(ps:List (List (List Int)×D))
 |vO(ps:List (List (List Int)×D))
 |exc(C S:Nat)(fs:List (Str×D))
 |tab(cd:Nat)(q:Str)
def Cell.mt:Cell→Bool
 |.ro _=>false
 |.DA _=>false
 |.vO _=>false
 |.exc _ _ _=>false
 |_=>true
abbrev Cells:=List Cell
abbrev Env:=List (Option D)
abbrev XE:=Env→Cells→Option (D×Cells)
abbrev XA:=Env→Cells→Option (List D×Cells)
abbrev XT:=Env→Cells→Option (Bool×Cells)
abbrev XO:=Env→Cells→Option (Option Int×Cells)
inductive Fl where
 |nx|rt(d:D)|bk|ct
abbrev XS:=Env→Cells→Option (Fl×Env×Cells)
abbrev XG:=D→Env→Cells→Option (Env×Cells)
abbrev rV:=List D→Env→Cells→Option (Env×Cells)
abbrev FN:=List D→Cells→Option (D×Cells)
structure Itm where
 ds:List D
 ks:List (Nat×Cell)
abbrev XI:=Env→Cells→Option (Itm×Cells)
abbrev G1:=D→Cells→Option (D×Cells)
abbrev G2:=D→D→Cells→Option (D×Cells)
def dk:Nat:=Classical.choose (⟨10000000,rfl⟩:∃n:Nat,n=10000000)
theorem tP:dk=10000000:=Classical.choose_spec (⟨10000000,rfl⟩:∃n:Nat,n=10000000)
def eC(d:D):XE:=fun _ c=>some (d,c)
def eV(i:Nat):XE:=fun σ c=>(σ[i]?.join).bind fun d=>some (d,c)
def e1(g:G1)(a:XE):XE:=fun σ c=>(a σ c).bind fun p=>g p.1 p.2
def e2(g:G2)(a b:XE):XE:=fun σ c=>(a σ c).bind fun p=>(b σ p.2).bind fun q=>g p.1 q.1 q.2
def kT(d:D):Option Bool:=match d with
 |.bl b=>some b
 |_=>none
def F9(a b:XE):XE:=fun σ c=>(a σ c).bind fun p=>(kT p.1).bind fun k=>if k=true then b σ p.2 else some (.bl false,p.2)
def S9(a b:XE):XE:=fun σ c=>(a σ c).bind fun p=>(kT p.1).bind fun k=>if k=true then some (.bl true,p.2)else b σ p.2
def Qs(a:XE):XE:=fun σ c=>(a σ c).bind fun p=>(kT p.1).bind fun k=>some (.bl (!k),p.2)
def rW(t:XT)(a b:XE):XE:=fun σ c=>(t σ c).bind fun p=>if p.1=true then a σ p.2 else b σ p.2
def aj:XA:=fun _ c=>some ([],c)
def ag(a:XE)(r:XA):XA:=fun σ c=>(a σ c).bind fun p=>(r σ p.2).bind fun q=>some (p.1::q.1,q.2)
def aA(a:XA):XE:=fun σ c=>(a σ c).bind fun p=>if p.1.length≤dk then some (.tup p.1,p.2)else none
def cZ(a:XA):XE:=fun σ c=>(a σ c).bind fun p=>if p.1.length≤dk then some (.ref p.2.length,p.2++[.lst p.1])else none
def ar(F:FN)(ds:List D)(a:XA):XE:=fun σ c=>(a σ c).bind fun p=>F (p.1++ds) p.2
def eB(F:FN)(a:XA):XE:=fun σ c=>(a σ c).bind fun p=>F p.1 p.2
def dC:XO:=fun _ c=>some (none,c)
def cE(a:XE):XO:=fun σ c=>(a σ c).bind fun p=>match p.1 with
 |.int i=>some (some i,p.2)
 |_=>none
def ic(g:D→Option Int→Option Int→Cells→Option (D×Cells))(a:XE)(lo hi:XO):XE:=fun σ c=>(a σ c).bind fun p=>(lo σ p.2).bind fun l=>(hi σ l.2).bind fun h=>g p.1 l.1 h.1 h.2
def j6(g h:G2)(a b d:XE):XE:=fun σ c=>(a σ c).bind fun p=>(b σ p.2).bind fun q=>(g p.1 q.1 q.2).bind fun z=>(kT z.1).bind fun k=>
 if k=true then(d σ z.2).bind fun u=>h q.1 u.1 u.2 else some (.bl false,z.2)
def tV(a:XE):XT:=fun σ c=>(a σ c).bind fun p=>(kT p.1).bind fun k=>some (k,p.2)
def ot(a b:XT):XT:=fun σ c=>(a σ c).bind fun p=>if p.1=true then b σ p.2 else some (false,p.2)
def ku(a b:XT):XT:=fun σ c=>(a σ c).bind fun p=>if p.1=true then some (true,p.2)else b σ p.2
def km(a:XT):XT:=fun σ c=>(a σ c).bind fun p=>some (!p.1,p.2)
def br:XS:=fun σ c=>some (.nx,σ,c)
def au(a b:XS):XS:=fun σ c=>(a σ c).bind fun p=>match p.1 with
 |.nx=>b p.2.1 p.2.2
 |_=>some p
def az(i:Nat)(e:XE):XS:=fun σ c=>(e σ c).bind fun p=>some (.nx,σ.set i (some p.1),p.2)
def tR(e:XE)(g:XG):XS:=fun σ c=>(e σ c).bind fun p=>(g p.1 σ p.2).bind fun q=>some (.nx,q.1,q.2)
def mQ(is:List Nat)(a:XA):XS:=fun σ c=>(a σ c).bind fun p=>if p.1.length=is.length then some (.nx,(is.zip p.1).foldl (fun σ q=>σ.set q.1 (some q.2)) σ,p.2)else none
def cH(t:XT)(a b:XS):XS:=fun σ c=>(t σ c).bind fun p=>if p.1=true then a σ p.2 else b σ p.2
def aT(e:XE):XS:=fun σ c=>(e σ c).bind fun p=>some (.rt p.1,σ,p.2)
def nW(e:XE):XS:=fun σ c=>(e σ c).bind fun p=>some (.nx,σ,p.2)
def aD(i:Nat):XG:=fun d σ c=>some (σ.set i (some d),c)
def ou:rV:=fun ds σ c=>match ds with
 |[]=>some (σ,c)
 |_=>none
def eS(g:XG)(r:rV):rV:=fun ds σ c=>match ds with
 |d::t=>(g d σ c).bind fun p=>r t p.1 p.2
 |[]=>none
def sY(n:Nat)(g:rV):XG:=fun d σ c=>match d with
 |.tup xs=>if xs.length=n then g xs σ c else none
 |_=>none
def stays(ks:List (Nat×Cell))(c:Cells):Prop:=∀p∈ks,c[p.1]? =some p.2
open Classical in
def d_(ks:List (Nat×Cell))(g:XG)(body:XS):List D→XS
 |[],σ,c=>if stays ks c then some (.nx,σ,c)else none
 |d::r,σ,c=>if stays ks c then(g d σ c).bind fun p=>(body p.1 p.2).bind fun q=>(match q.1 with
   |.nx=>d_ ks g body r q.2.1 q.2.2
   |.ct=>d_ ks g body r q.2.1 q.2.2
   |.bk=>some (.nx,q.2.1,q.2.2)
   |.rt d=>some (.rt d,q.2.1,q.2.2))else none
def cR(it:XI)(g:XG)(body:XS):XS:=fun σ c=>(it σ c).bind fun p=>d_ p.1.ks g body p.1.ds σ p.2
def gZ(t:XT)(b:XS):Nat→XS
 |0,_,_=>none
 |n+1,σ,c=>(t σ c).bind fun p=>if p.1=true then(b σ p.2).bind fun q=>(match q.1 with
   |.nx=>gZ t b n q.2.1 q.2.2
   |.ct=>gZ t b n q.2.1 q.2.2
   |.bk=>some (.nx,q.2.1,q.2.2)
   |.rt d=>some (.rt d,q.2.1,q.2.2))else some (.nx,σ,p.2)
open Classical in
def fR(t:XT)(b:XS):XS:=fun σ c=>if h:∃n r,gZ t b n σ c=some r then gZ t b (Classical.choose h) σ c else none
def kn(σ:Env)(cap:List (Option Nat)):Env:=cap.map fun o=>match o with
 |some i=>(match σ[i]? with|some v=>v|none=>none)
 |none=>none
open Classical in
def cY(L:Nat)(ks:List (Nat×Cell))(g:XG)(tt:XT)(te:XE):List D→Env→Cells→Option Cells
 |[],_,c=>if stays ks c then some c else none
 |d::r,τ,c=>if stays ks c then(g d τ c).bind fun p=>(tt p.1 p.2).bind fun b=>if b.1=true then(te p.1 b.2).bind fun y=>
   (match y.2[L]? with
    |some (.lst ys)=>if ys.length<dk then cY L ks g tt te r p.1 (y.2.set L (.lst (ys++[y.1])))else none
    |_=>none)else cY L ks g tt te r p.1 b.2 else none
def dD(it:XI)(cap:List (Option Nat))(g:XG)(tt:XT)(te:XE):XE:=fun σ c=>(it σ c).bind fun p=>
 (cY p.2.length p.1.ks g tt te p.1.ds (kn σ cap) (p.2++[.lst []])).bind fun c'=>some (.ref p.2.length,c')
def gY:XT:=fun _ c=>some (true,c)
def eF(n N:Nat)(b:XS):FN:=fun ds c=>if ds.length=n then(b (ds.map some++List.replicate (N - n) none) c).bind fun p=>(match p.1 with
 |.rt d=>some (d,p.2.2)
 |.nx=>some (.bC,p.2.2)
 |_=>none)else none
def cf(d:D)(c:Cells):Option (List D):=match d with
 |.tup xs=>some xs
 |.ref n=>(match c[n]? with
  |some (.lst xs)=>some xs
  |some (.ro xs)=>some xs
  |_=>none)
 |_=>none
def cp(d:D)(c:Cells):Option (Nat×List D):=match d with
 |.ref n=>(match c[n]? with
  |some (.lst xs)=>some (n,xs)
  |_=>none)
 |_=>none
def tS(d:D):Option Int:=match d with
 |.int i=>some i
 |_=>none
def ii(f:Int→Int→Option D):G2:=fun x y c=>(tS x).bind fun i=>(tS y).bind fun j=>(f i j).bind fun d=>some (d,c)
def MulOk(i j:Int):Prop:=(My.Bd 90000 i∧My.Bd 90000 j)∨(My.Bd 64 i∨My.Bd 64 j)
open Classical in
def aJ:G2:=ii fun i j=>if MulOk i j then some (.int (i*j))else none
def a_:G2:=ii fun i j=>some (.int (i - j))
open Classical in
def di:G2:=ii fun i j=>if j≠0∧My.Bd 8900 j then some (.int (i.fdiv j))else none
def dS:G2:=ii fun i j=>if j≠0 then some (.int (i.fmod j))else none
def vP:G2:=ii fun i j=>if 0≤j∧j≤100∧i.natAbs<1000 then some (.int (i ^ j.toNat))else none
def oO:G2:=ii fun i j=>some (.bl (decide (i<j)))
def vo:G2:=ii fun i j=>some (.bl (decide (i≤j)))
def vp:G2:=ii fun i j=>some (.bl (decide (j<i)))
def S_:G2:=ii fun i j=>some (.bl (decide (j≤i)))
def aK:G2:=fun x y c=>match x,y with
 |.int i,.int j=>some (.int (i+j),c)
 |.tup xs,.tup ys=>if xs≠[]∧xs.length+ys.length≤dk then some (.tup (xs++ys),c)else none
 |x,y=>(cp x c).bind fun p=>(cp y c).bind fun q=>if p.2.length+q.2.length≤dk then some (.ref c.length,c++[.lst (p.2++q.2)])else none
def aZ:G1:=fun x c=>(tS x).bind fun i=>some (.int (-i),c)
def omap{α β:Type}(f:α→Option β):List α→Option (List β)
 |[]=>some []
 |x::xs=>(f x).bind fun d=>(omap f xs).bind fun ds=>some (d::ds)
def data(c:Cells):Nat→D→Option PyData
 |0,_=>none
 |k+1,d=>match d with
  |.bC=>some .none
  |.int i=>some (.int i)
  |.str x=>if x.cps.all (·<1114112)=true then some (.str x)else none
  |.tup xs=>(omap (data c k) xs).bind fun ds=>some (.tuple ds)
  |.ref n=>(match c[n]? with
   |some (.lst xs)=>(omap (data c k) xs).bind fun ds=>some (.list ds)
   |some (.ro xs)=>(omap (data c k) xs).bind fun ds=>some (.list ds)
   |_=>none)
  |_=>none
open Classical in
def mG(x y:D)(c:Cells):Option Bool:=match x,y with
 |.bl a,.bl b=>some (a==b)
 |x,y=>(data c 6 x).bind fun d=>(data c 6 y).bind fun e=>some (decide (d=e))
def df:G2:=fun x y c=>(mG x y c).bind fun b=>some (.bl b,c)
def jx:G2:=fun x y c=>(mG x y c).bind fun b=>some (.bl (!b),c)
def vQ:G2:=fun x y c=>match y with
 |.bC=>some (.bl (match x with|.bC=>true|_=>false),c)
 |_=>none
open Classical in
def JL(x y:D)(c:Cells):Option Bool:=(cf y c).bind fun xs=>(data c 5 x).bind fun d=>(omap (data c 5) xs).bind fun ds=>some (decide (d∈ds))
def vq:G2:=fun x y c=>(JL x y c).bind fun b=>some (.bl b,c)
def tT(n:Nat)(i:Int):Option Nat:=if 0≤i then(if i<n then some i.toNat else none)else if -(n:Int)≤i then some (i+n).toNat else none
def jK{α:Type}(xs:List α)(i:Int):Option α:=(tT xs.length i).bind fun j=>xs[j]?
def av:G2:=fun x y c=>(cf x c).bind fun xs=>(tS y).bind fun i=>(jK xs i).bind fun d=>some (d,c)
def DB(n d:Nat):Option Int→Nat
 |none=>d
 |some v=>if v<0 then(v+n).toNat else min v.toNat n
def cutD{α:Type}(xs:List α)(lo hi:Option Int):List α:=(xs.drop (DB xs.length 0 lo)).take (DB xs.length xs.length hi - DB xs.length 0 lo)
def c_(x:D)(lo hi:Option Int)(c:Cells):Option (D×Cells):=match x with
 |.tup xs=>some (.tup (cutD xs lo hi),c)
 |x=>(cf x c).bind fun xs=>some (.ref c.length,c++[.lst (cutD xs lo hi)])
def Ce(o i:XE):XG:=fun d σ c=>(o σ c).bind fun p=>(i σ p.2).bind fun q=>(cp p.1 q.2).bind fun l=>(tS q.1).bind fun k=>(tT l.2.length k).bind fun j=>some (σ,q.2.set l.1 (.lst (l.2.set j d)))
def one(g:G1):FN:=fun ds c=>match ds with
 |[x]=>g x c
 |_=>none
def two(g:G2):FN:=fun ds c=>match ds with
 |[x,y]=>g x y c
 |_=>none
def tU:FN:=one fun x c=>(tS x).bind fun i=>some (.int (if i<0 then -i else i),c)
def cF:FN:=one fun x c=>(cf x c).bind fun xs=>some (.int xs.length,c)
def tW:FN:=one fun x c=>match x with
 |.int i=>some (.int i,c)
 |.bl k=>some (.int (if k then 1 else 0),c)
 |_=>none
def qi:FN:=two (ii fun i j=>some (.int (if j > i then j else i)))
def Nc:FN:=two (ii fun i j=>some (.int (if j<i then j else i)))
def oR:FN:=one fun x c=>(cf x c).bind fun xs=>some (.tup xs,c)
def Cf(n:String)(d:D)(c:Cells):Option Bool:=match d with
 |.int _=>if n= "int" then some true else if n= "bool" then some false else none
 |.bl _=>if n= "bool" then some true else none
 |.tup _=>if n= "tuple" then some true else none
 |.ref m=>(match c[m]? with
  |some (.lst _)=>if n= "list" then some true else none
  |_=>none)
 |_=>none
def oS:FN:=two fun x y c=>match y with
 |.ty n=>(Cf n x c).bind fun k=>some (.bl k,c)
 |_=>none
def Cg:FN:=one fun x c=>(cp x c).bind fun l=>(omap kT l.2).bind fun bs=>some (.bl (bs.all id),c)
def yS(xs ys:List D):List D:=(xs.zip ys).map fun p=>.tup [p.1,p.2]
def qj:FN:=fun ds c=>match ds with
 |[.tup xs,.tup ys]=>some (.ref c.length,c++[.lst (yS xs ys)])
 |_=>none
def eM(g:D→FN)(o:XE)(a:XA):XE:=fun σ c=>(o σ c).bind fun p=>(cp p.1 p.2).bind fun _=>(a σ p.2).bind fun q=>g p.1 q.1 q.2
def gj(o:D):FN:=one fun y c=>(cp o c).bind fun l=>if l.2.length<dk then some (.bC,c.set l.1 (.lst (l.2++[y])))else none
def mN(a:XE):XI:=fun σ c=>(a σ c).bind fun p=>match p.1 with
 |.tup xs=>some (⟨xs,[]⟩,p.2)
 |_=>none
def ij(a:XE):XI:=fun σ c=>(a σ c).bind fun p=>match p.1 with
 |.ref n=>(p.2[n]?).bind fun z=>(cf (.ref n) p.2).bind fun xs=>some (⟨xs,[(n,z)]⟩,p.2)
 |_=>none
def cM(lo:Int)(n:Nat):List D:=(List.range n).map fun(i:Nat)=>.int (lo+i)
structure Nd(j:Int):Prop where
 lo: -(2 ^ 62)≤j
 hi:j<2 ^ 62
open Classical in
def b_(a:XA):XI:=fun σ c=>(a σ c).bind fun p=>match p.1 with
 |[.int j]=>if Nd j then some (⟨cM 0 j.toNat,[]⟩,p.2)else none
 |_=>none
open Classical in
def hZ(a:XA):XI:=fun σ c=>(a σ c).bind fun p=>match p.1 with
 |[.int i,.int j]=>if Nd i∧Nd j then some (⟨cM i (j - i).toNat,[]⟩,p.2)else none
 |_=>none
theorem j7{t:XT}{b:XS}:∀{n k:Nat}{σ:Env}{c:Cells}{r},gZ t b n σ c=some r→gZ t b (n+k) σ c=some r
 |0,_,_,_,_,h=>by simp[gZ]at h
 |n+1,k,σ,c,r,h=>by
  rw[show n+1+k=(n+k)+1 by omega]
  simp only[gZ]at h ⊢
  cases ht:t σ c with
  |none=>rw[ht]at h;simp at h
  |some p=>
   rw[ht]at h
   simp only[Option.bind_some]at h ⊢
   split
   ·rename_i hp
    rw[if_pos hp]at h
    cases hb:b σ p.2 with
    |none=>rw[hb]at h;simp at h
    |some q=>
     rw[hb]at h
     simp only[Option.bind_some]at h ⊢
     obtain⟨f,σ',c'⟩:=q
     cases f with
     |nx=>exact j7 h
     |ct=>exact j7 h
     |bk=>exact h
     |rt d=>exact h
   ·rename_i hp
    rw[if_neg hp]at h
    exact h
theorem tX{t:XT}{b:XS}{n:Nat}{σ:Env}{c:Cells}{r}(h:gZ t b n σ c=some r):fR t b σ c=some r:=by
 have hx:∃n r,gZ t b n σ c=some r:=⟨n,r,h⟩
 unfold fR
 rw[dif_pos hx]
 obtain⟨r',h'⟩:=Classical.choose_spec hx
 have h1:=j7 (k:=n) h'
 have h2:=j7 (k:=Classical.choose hx) h
 rw[Nat.add_comm]at h2
 rw[h']
 exact h1.symm.trans h2
theorem tY{t:XT}{b:XS}{σ:Env}{c:Cells}{r}(h:fR t b σ c=some r):∃n,gZ t b n σ c=some r:=by
 unfold fR at h
 split at h
 ·exact⟨_,h⟩
 ·cases h
theorem oT{t:XT}{b:XS}{σ:Env}{c c':Cells}(h:t σ c=some (false,c')):fR t b σ c=some (.nx,σ,c'):=
 tX (n:=1) (by simp[gZ,h])
theorem tZ{t:XT}{b:XS}{σ σ':Env}{c c' c2:Cells}{r}(h:t σ c=some (true,c'))(hb:b σ c'=some (.nx,σ',c2))(hr:fR t b σ' c2=some r):fR t b σ c=some r:=by
 obtain⟨n,hn⟩:=tY hr
 exact tX (n:=n+1) (by simp[gZ,h,hb,hn])
end
end Qm
namespace L2
open PySem PySem.Spec PyProof.Rows
theorem aM{α β:Type}{x:Option α}{f:α→Option β}{z:β}(h:x.bind f=some z):∃a,x=some a∧f a=some z:=by
 cases x with
 |none=>cases h
 |some a=>exact⟨a,rfl,h⟩
theorem kU{n:Nat}(h:n≤Qm.dk):n≤sizeLine:=Nat.le_trans h (by rw[Qm.tP,sizeLine_eq];decide)
theorem yT{n:Nat}(h:n<Qm.dk):n<sizeLine:=Nat.lt_of_lt_of_le h (by rw[Qm.tP,sizeLine_eq];decide)
mutual
inductive RD(K:PySem.W.Frag)(ρ:Nat→Addr)(N:Nat)(H:Hp):Qm.D→V→Prop
 |bC:RD K ρ N H .bC .bC
 |bl (b:Bool):RD K ρ N H (.bl b) (.bl b)
 |int (i:Int):RD K ρ N H (.int i) (.int i)
 |str (x:Str):RD K ρ N H (.str x) (.str x)
 |ty (n:String):RD K ρ N H (.ty n) (.ty n)
 |tup {p:Addr}{xs:List V}{ds:List Qm.D}:H p=some (.tup xs)→RA K ρ N H ds xs→RD K ρ N H (.tup ds) (.ref p)
 |ref {n:Nat}:n<N→RD K ρ N H (.ref n) (.ref (ρ n))
 |adr (a:Nat):RD K ρ N H (.adr a) (.ref a)
 |F6 {a:Addr}{t:Qm.Cc}{ds:List Qm.D}{vs:List V}:Cd H a t vs→RA K ρ N H ds vs→RD K ρ N H (.F6 t ds) (.ref a)
inductive RA(K:PySem.W.Frag)(ρ:Nat→Addr)(N:Nat)(H:Hp):List Qm.D→List V→Prop
 |nil:RA K ρ N H [] []
 |cons {d:Qm.D}{ds:List Qm.D}{x:V}{xs:List V}:RD K ρ N H d x→RA K ρ N H ds xs→RA K ρ N H (d::ds) (x::xs)
end
structure Up(K:PySem.W.Frag)(ρ:Nat→Addr)(N:Nat)(H:Hp)(aW:Nat→Addr)(N':Nat)(H':Hp):Prop where
 agree:∀n,n<N→aW n=ρ n
 len:N≤N'
 ts:∀p xs,H p=some (.tup xs)→H' p=some (.tup xs)
 fz:∀p o x,H p=some (.fS o x)→H' p=some (.fS o x)
section
variable{K:PySem.W.Frag}{ρ aW yU:Nat→Addr}{N N' Qt:Nat}{H H' F_:Hp}
theorem Up.refl:Up K ρ N H ρ N H:=⟨fun _ _=>rfl,Nat.le_refl _,fun _ _ h=>h,fun _ _ _ h=>h⟩
theorem Up.trans(a:Up K ρ N H aW N' H')(b:Up K aW N' H' yU Qt F_):Up K ρ N H yU Qt F_:=
 ⟨fun n h=>(b.agree n (Nat.lt_of_lt_of_le h a.len)).trans (a.agree n h),Nat.le_trans a.len b.len,fun p xs h=>b.ts p xs (a.ts p xs h),fun p o x h=>b.fz p o x (a.fz p o x h)⟩
mutual
theorem RD.up(u:Up K ρ N H aW N' H'):∀{d:Qm.D}{v:V},RD K ρ N H d v→RD K aW N' H' d v
 |_,_,.bC=>.bC
 |_,_,.bl b=>.bl b
 |_,_,.int i=>.int i
 |_,_,.str x=>.str x
 |_,_,.ty n=>.ty n
 |_,_,.adr a=>.adr a
 |_,_,.F6 h a=>.F6 (h.up u.fz) (RA.up u a)
 |_,_,.tup h a=>.tup (u.ts _ _ h) (RA.up u a)
 |_,_,.ref (n:=n) h=>by rw[←u.agree n h];exact .ref (Nat.lt_of_lt_of_le h u.len)
theorem RA.up(u:Up K ρ N H aW N' H'):∀{ds:List Qm.D}{vs:List V},RA K ρ N H ds vs→RA K aW N' H' ds vs
 |_,_,.nil=>.nil
 |_,_,.cons h a=>.cons (RD.up u h) (RA.up u a)
end
theorem RA.length:∀{ds:List Qm.D}{vs:List V},RA K ρ N H ds vs→ds.length=vs.length
 |_,_,.nil=>rfl
 |_,_,.cons _ a=>congrArg (·+1) (RA.length a)
theorem RA.append:∀{ds es:List Qm.D}{vs us:List V},RA K ρ N H ds vs→RA K ρ N H es us→RA K ρ N H (ds++es) (vs++us)
 |_,_,_,_,.nil,b=>b
 |_,_,_,_,.cons h a,b=>.cons h (RA.append a b)
theorem RA.get:∀{ds:List Qm.D}{vs:List V}{i:Nat}{d:Qm.D},RA K ρ N H ds vs→ds[i]? =some d→∃v,vs[i]? =some v∧RD K ρ N H d v
 |_,_,_,_,.nil,e=>by simp at e
 |_,_,0,_,.cons h _,e=>by simp at e;subst e;exact⟨_,rfl,h⟩
 |_,_,i+1,d,.cons _ a,e=>by
  obtain⟨v,h1,h2⟩:=RA.get (i:=i) (d:=d) a (by simpa using e)
  exact⟨v,by simpa using h1,h2⟩
theorem RA.take:∀{ds:List Qm.D}{vs:List V} (n:Nat),RA K ρ N H ds vs→RA K ρ N H (ds.take n) (vs.take n)
 |_,_,0,_=>.nil
 |_,_,_+1,.nil=>.nil
 |_,_,n+1,.cons h a=>.cons h (RA.take n a)
theorem RA.drop:∀{ds:List Qm.D}{vs:List V} (n:Nat),RA K ρ N H ds vs→RA K ρ N H (ds.drop n) (vs.drop n)
 |_,_,0,a=>a
 |_,_,_+1,.nil=>.nil
 |_,_,n+1,.cons _ a=>RA.drop n a
theorem RA.set{d:Qm.D}{v:V}(r:RD K ρ N H d v):∀{ds:List Qm.D}{vs:List V} (n:Nat),RA K ρ N H ds vs→RA K ρ N H (ds.set n d) (vs.set n v)
 |_,_,_,.nil=>.nil
 |_,_,0,.cons _ a=>.cons r a
 |_,_,n+1,.cons h a=>.cons h (RA.set r n a)
theorem RA.one{d:Qm.D}{v:V}(h:RD K ρ N H d v):RA K ρ N H [d] [v]:=.cons h .nil
theorem RA.kW{d:Qm.D}{vs:List V}(h:RA K ρ N H [d] vs):∃v,vs=[v]∧RD K ρ N H d v:=by
 cases h with
 |cons r t=>cases t;exact⟨_,rfl,r⟩
theorem RA.oU{d e:Qm.D}{vs:List V}(h:RA K ρ N H [d,e] vs):∃v u,vs=[v,u]∧RD K ρ N H d v∧RD K ρ N H e u:=by
 cases h with
 |cons r t=>obtain⟨u,rfl,q⟩:=RA.kW t;exact⟨_,_,rfl,r,q⟩
theorem RA.Qu{vs:List V}(h:RA K ρ N H [] vs):vs=[]:=by cases h;rfl
theorem RD.fX{i:Int}{v:V}(h:RD K ρ N H (.int i) v):v= .int i:=by cases h;rfl
theorem RD.nX{b:Bool}{v:V}(h:RD K ρ N H (.bl b) v):v= .bl b:=by cases h;rfl
theorem RD.LN{v:V}(h:RD K ρ N H .bC v):v= .bC:=by cases h;rfl
theorem RD.eU{ds:List Qm.D}{v:V}(h:RD K ρ N H (.tup ds) v):∃p xs,v= .ref p∧H p=some (.tup xs)∧RA K ρ N H ds xs:=by cases h with|tup a b=>exact⟨_,_,rfl,a,b⟩
theorem RD.yV{n:Nat}{v:V}(h:RD K ρ N H (.ref n) v):v= .ref (ρ n)∧n<N:=by cases h with|ref h=>exact⟨rfl,h⟩
end
def vR(K:PySem.W.Frag)(H:Hp)(a:Addr)(xs:List V):Prop:=(∃o,H a=some (.fS o (.lst xs)))∨dI K (fun _=>none) a xs
theorem vR.seq{K:PySem.W.Frag}{H:Hp}{a:Addr}{xs:List V}(h:vR K H a xs):dI K H a xs:=by
 rcases h with⟨o,h⟩|h
 ·exact .inl (.inr ⟨o,h⟩)
 ·rcases h with(h|⟨o,h⟩)|h
  ·cases h
  ·cases h
  ·exact .inr h
theorem vR.of{K:PySem.W.Frag}{H:Hp}{a:Addr}{xs:List V}(hO:yG H)(h:dI K H a xs):vR K H a xs:=by
 rcases h with(h|⟨o,h⟩)|h
 ·rcases hO a with z|⟨o,ys,z⟩
  ·rw[z]at h;cases h
  ·rw[z]at h;cases h
 ·exact .inl ⟨o,h⟩
 ·exact .inr (.inr h)
inductive RK(K:PySem.W.Frag)(ρ:Nat→Addr)(N:Nat)(H:Hp):List (Str×Qm.D)→List (Key×V)→Prop
 |nil:RK K ρ N H [] []
 |cons {k:Str}{d:Qm.D}{ds:List (Str×Qm.D)}{x:V}{xs:List (Key×V)}:RD K ρ N H d x→RK K ρ N H ds xs→RK K ρ N H ((k,d)::ds) ((.inr k,x)::xs)
theorem RK.up{K:PySem.W.Frag}{ρ aW:Nat→Addr}{N N':Nat}{H H':Hp}(u:Up K ρ N H aW N' H'):∀{ds:List (Str×Qm.D)}{vs:List (Key×V)},RK K ρ N H ds vs→RK K aW N' H' ds vs
 |_,_,.nil=>.nil
 |_,_,.cons h a=>.cons (h.up u) (RK.up u a)
inductive kX(K:PySem.W.Frag)(ρ:Nat→Addr)(N:Nat)(H:Hp):List (List Int×Qm.D)→List (List Key×V)→Prop
 |nil:kX K ρ N H [] []
 |cons {k:List Int}{d:Qm.D}{ds:List (List Int×Qm.D)}{x:V}{xs:List (List Key×V)}:RD K ρ N H d x→kX K ρ N H ds xs→kX K ρ N H ((k,d)::ds) ((k.map Sum.inl,x)::xs)
inductive kz(K:PySem.W.Frag)(ρ:Nat→Addr)(N:Nat)(H:Hp):List (List (List Int)×Qm.D)→List (List (List Key)×V)→Prop
 |nil:kz K ρ N H [] []
 |cons {k:List (List Int)}{d:Qm.D}{ds:List (List (List Int)×Qm.D)}{x:V}{xs:List (List (List Key)×V)}:RD K ρ N H d x→kz K ρ N H ds xs→kz K ρ N H ((k,d)::ds) ((k.map (List.map Sum.inl),x)::xs)
theorem kX.up{K:PySem.W.Frag}{ρ aW:Nat→Addr}{N N':Nat}{H H':Hp}(u:Up K ρ N H aW N' H'):∀{ds:List (List Int×Qm.D)}{vs:List (List Key×V)},kX K ρ N H ds vs→kX K aW N' H' ds vs
 |_,_,.nil=>.nil
 |_,_,.cons h a=>.cons (h.up u) (kX.up u a)
theorem kz.up{K:PySem.W.Frag}{ρ aW:Nat→Addr}{N N':Nat}{H H':Hp}(u:Up K ρ N H aW N' H'):∀{ds:List (List (List Int)×Qm.D)}{vs:List (List (List Key)×V)},kz K ρ N H ds vs→kz K aW N' H' ds vs
 |_,_,.nil=>.nil
 |_,_,.cons h a=>.cons (h.up u) (kz.up u a)
def CO(K:PySem.W.Frag)(ρ:Nat→Addr)(N:Nat)(H:Hp)(a:Addr):Qm.Cell→Prop
 |.lst ds=>∃vs,H a=some (.lst vs)∧RA K ρ N H ds vs
 |.ro ds=>∃vs,vR K H a vs∧RA K ρ N H ds vs
 |.Dy ds=>∃vs,H a=some (.dK vs)∧RK K ρ N H ds vs
 |.DA ds=>∃o vs,H a=some (.fS o (.dK vs))∧RK K ρ N H ds vs
 |.F7 ds=>∃vs,H a=some (.dT vs)∧kX K ρ N H ds vs
 |.F8 ds=>∃vs,H a=some (.dU vs)∧kz K ρ N H ds vs
 |.vO ds=>∃o vs,H a=some (.fS o (.dU vs))∧kz K ρ N H ds vs
 |.exc C S ds=>∃vs,Cb K H a C S vs∧RK K ρ N H ds vs
 |.tab cd q=>vN K H cd q a
structure RS(K:PySem.W.Frag)(ρ:Nat→Addr)(c:Qm.Cells)(H:Hp):Prop where
 inj:∀(i j:Nat) (z y:Qm.Cell),c[i]? =some z→c[j]? =some y→z.mt=true→y.mt=true→ρ i=ρ j→i=j
 ok:∀(n:Nat) (z:Qm.Cell),c[n]? =some z→CO K ρ c.length H (ρ n) z
structure RE(K:PySem.W.Frag)(ρ:Nat→Addr)(N:Nat)(H:Hp)(env:Qm.Env)(σ:St):Prop where
 len:env.length=σ.length
 at_:∀(i:Nat) (d:Qm.D),env[i]? =some (some d)→∃v:V,σ[i]? =some (some v)∧RD K ρ N H d v
structure Nx(K:PySem.W.Frag)(ρ:Nat→Addr)(c:Qm.Cells)(H:Hp)(aW:Nat→Addr)(c':Qm.Cells)(H':Hp):Prop where
 up:Up K ρ c.length H aW c'.length H'
 rs:RS K aW c' H'
section
variable{K:PySem.W.Frag}{ρ aW yU:Nat→Addr}{N N':Nat}{c c' DC:Qm.Cells}{H H' F_:Hp}{env:Qm.Env}{σ:St}
theorem RE.up(h:RE K ρ N H env σ)(u:Up K ρ N H aW N' H'):RE K aW N' H' env σ:=⟨h.len,fun i d e=>let ⟨v,h1,h2⟩:=h.at_ i d e;⟨v,h1,h2.up u⟩⟩
theorem Nx.refl(r:RS K ρ c H):Nx K ρ c H ρ c H:=⟨Up.refl,r⟩
theorem Nx.trans(a:Nx K ρ c H aW c' H')(b:Nx K aW c' H' yU DC F_):Nx K ρ c H yU DC F_:=⟨a.up.trans b.up,b.rs⟩
theorem CO.up{a:Addr}{z:Qm.Cell}(h:CO K ρ N H a z)(u:Up K ρ N H aW N' H')(hs:∀o,H a=some o→H' a=some o):CO K aW N' H' a z:=by
 cases z with
 |lst ds=>obtain⟨vs,h1,h2⟩:=h;exact⟨vs,hs _ h1,h2.up u⟩
 |ro ds=>
  obtain⟨vs,h1,h2⟩:=h
  refine⟨vs,?_,h2.up u⟩
  rcases h1 with⟨o,h1⟩|h1
  ·exact .inl ⟨o,hs _ h1⟩
  ·exact .inr h1
 |Dy ds=>obtain⟨vs,h1,h2⟩:=h;exact⟨vs,hs _ h1,h2.up u⟩
 |DA ds=>obtain⟨o,vs,h1,h2⟩:=h;exact⟨o,vs,hs _ h1,h2.up u⟩
 |F7 ds=>obtain⟨vs,h1,h2⟩:=h;exact⟨vs,hs _ h1,h2.up u⟩
 |F8 ds=>obtain⟨vs,h1,h2⟩:=h;exact⟨vs,hs _ h1,h2.up u⟩
 |vO ds=>obtain⟨o,vs,h1,h2⟩:=h;exact⟨o,vs,hs _ h1,h2.up u⟩
 |exc C S ds=>obtain⟨vs,h1,h2⟩:=h;exact⟨vs,h1.up u.fz,h2.up u⟩
 |tab cd q=>exact vN.up h u.fz hs
theorem CO.obj{a:Addr}{z:Qm.Cell}(h:CO K ρ N H a z)(m:z.mt=true):∃o,H a=some o∧(∀xs,o≠.tup xs)∧∀q x,o≠.fS q x:=by
 cases z with
 |lst ds=>obtain⟨vs,h1,_⟩:=h;exact⟨_,h1,(fun _ z=>by cases z),(fun _ _ z=>by cases z)⟩
 |ro ds=>cases m
 |DA ds=>cases m
 |Dy ds=>obtain⟨vs,h1,_⟩:=h;exact⟨_,h1,(fun _ z=>by cases z),(fun _ _ z=>by cases z)⟩
 |F7 ds=>obtain⟨vs,h1,_⟩:=h;exact⟨_,h1,(fun _ z=>by cases z),(fun _ _ z=>by cases z)⟩
 |F8 ds=>obtain⟨vs,h1,_⟩:=h;exact⟨_,h1,(fun _ z=>by cases z),(fun _ _ z=>by cases z)⟩
 |vO ds=>cases m
 |exc C S ds=>cases m
 |tab cd q=>obtain⟨ps,h1,_⟩:=vN.ex h;exact⟨_,h1,(fun _ z=>by cases z),(fun _ _ z=>by cases z)⟩
theorem RE.set{d:Qm.D}{v:V}{i:Nat}(h:RE K ρ N H env σ)(r:RD K ρ N H d v):RE K ρ N H (env.set i (some d)) (σ.set i (some v)):=by
 refine⟨by rw[List.length_set,List.length_set];exact h.len,fun j e he=>?_⟩
 rw[List.getElem?_set]at he ⊢
 have hl:=h.len
 by_cases nK:i=j
 ·rw[if_pos nK]at he ⊢
  subst nK
  split at he
  ·rename_i eQ
   rw[if_pos (by omega)]
   cases he
   exact⟨v,rfl,r⟩
  ·cases he
 ·rw[if_neg nK]at he ⊢
  exact h.at_ j e he
theorem Nx.same(r:RS K ρ c H)(e:qN H H'):Nx K ρ c H ρ c H':=by
 have u:Up K ρ c.length H ρ c.length H':=⟨fun _ _=>rfl,Nat.le_refl _,fun p xs h=>e _ _ h,fun p o x h=>e _ _ h⟩
 exact⟨u,r.inj,fun n z hz=>(r.ok n z hz).up u (fun o h=>e _ _ h)⟩
theorem Nx.JM(r:RS K ρ c H){l:Addr}(hl:H l=none){z:Qm.Cell}{o:HO}(hz:∀aW N' H',Up K ρ c.length H aW N' H'→H' l=some o→CO K aW N' H' l z):Nx K ρ c H (fun n=>if n=c.length then l else ρ n) (c++[z]) (upd H l o)∧RD K (fun n=>if n=c.length then l else ρ n) (c++[z]).length (upd H l o) (.ref c.length) (.ref l):=by
 have hlen:(c++[z]).length=c.length+1:=by simp
 have u:Up K ρ c.length H (fun n=>if n=c.length then l else ρ n) (c++[z]).length (upd H l o):=by
  refine⟨fun n h=>if_neg (by omega),by omega,fun p xs h=>oH h hl,fun p o x h=>oH h hl⟩
 refine⟨⟨u,fun i j x y h1 h2 m1 m2 e=>?_,fun n z' JN=>?_⟩,?_⟩
 ·have V7:i<c.length+1:=by rw[←hlen];exact(List.getElem?_eq_some_iff.mp h1).1
  have V8:j<c.length+1:=by rw[←hlen];exact(List.getElem?_eq_some_iff.mp h2).1
  have fresh:∀k y,k<c.length→(c++[z])[k]? =some y→y.mt=true→ρ k≠l:=fun k y hk hz m e'=>by
   rw[List.getElem?_append_left hk]at hz
   obtain⟨o',h',_⟩:=(r.ok k _ hz).obj m
   rw[e',hl]at h';cases h'
  by_cases hi:i=c.length<;>by_cases hj:j=c.length
  ·omega
  ·exfalso
   simp only[hi,if_true,if_neg hj]at e
   exact fresh j y (by omega) h2 m2 e.symm
  ·exfalso
   simp only[hj,if_true,if_neg hi]at e
   exact fresh i x (by omega) h1 m1 e
  ·simp only[if_neg hi,if_neg hj]at e
   rw[List.getElem?_append_left (by omega)]at h1 h2
   exact r.inj i j x y h1 h2 m1 m2 e
 ·have lt:n<c.length+1:=by rw[←hlen];exact(List.getElem?_eq_some_iff.mp JN).1
  by_cases hn:n=c.length
  ·subst hn
   have:z'=z:=by simpa using JN.symm
   subst this
   simp only[if_true]
   exact hz _ _ _ u du
  ·simp only[if_neg hn]
   rw[List.getElem?_append_left (by omega)]at JN
   exact(r.ok n z' JN).up u (fun o h=>oH h hl)
 ·have:=RD.ref (K:=K) (ρ:=fun n=>if n=c.length then l else ρ n) (N:=(c++[z]).length) (H:=upd H l o) (n:=c.length) (by omega)
  simpa using this
theorem Nx.alloc(r:RS K ρ c H){l:Addr}(hl:H l=none){ds:List Qm.D}{vs:List V}(a:RA K ρ c.length H ds vs):Nx K ρ c H (fun n=>if n=c.length then l else ρ n) (c++[.lst ds]) (upd H l (.lst vs))∧RD K (fun n=>if n=c.length then l else ρ n) (c++[Qm.Cell.lst ds]).length (upd H l (.lst vs)) (.ref c.length) (.ref l):=
 Nx.JM r hl fun _ _ _ u h=>⟨vs,h,a.up u⟩
theorem Nx.Qv(r:RS K ρ c H){n:Nat}{y z:Qm.Cell}(hn:c[n]? =some y)(my:y.mt=true){o:HO}(hz:∀N' H',Up K ρ c.length H ρ N' H'→H' (ρ n)=some o→CO K ρ N' H' (ρ n) z):Nx K ρ c H ρ (c.set n z) (upd H (ρ n) o):=by
 obtain⟨w,hw,hk⟩:=(r.ok n _ hn).obj my
 have eQ:n<c.length:=(List.getElem?_eq_some_iff.mp hn).1
 have Ga:∀{p:Addr}{q:HO},H p=some q→((∃ys,q= .tup ys)∨∃o x,q= .fS o x)→p≠ρ n:=fun {p q} h h1 e=>by
  rw[e,hw]at h;cases h
  rcases h1 with⟨_,rfl⟩|⟨_,_,rfl⟩
  ·exact hk.1 _ rfl
  ·exact hk.2 _ _ rfl
 have u:Up K ρ c.length H ρ (c.set n z).length (upd H (ρ n) o):=by
  refine⟨fun _ _=>rfl,by rw[List.length_set];exact Nat.le_refl _,fun p ys h=>?_,fun p q x h=>?_⟩
  ·rw[bG (Ga h (.inl ⟨_,rfl⟩))];exact h
  ·rw[bG (Ga h (.inr ⟨_,_,rfl⟩))];exact h
 have look:∀{j:Nat}{x:Qm.Cell},j≠n→(c.set n z)[j]? =some x→c[j]? =some x:=fun {j x} hj hx=>by
  rw[List.getElem?_set,if_neg (fun e=>hj e.symm)]at hx;exact hx
 have back:∀{j:Nat}{x:Qm.Cell},(c.set n z)[j]? =some x→x.mt=true→∃x',c[j]? =some x'∧x'.mt=true:=fun {j x} hx m=>by
  by_cases hj:j=n
  ·subst hj;exact⟨y,hn,my⟩
  ·exact⟨x,look hj hx,m⟩
 refine⟨u,fun i j p q h1 h2 m1 m2 e=>?_,fun j x hx=>?_⟩
 ·obtain⟨_,g1,w1⟩:=back h1 m1
  obtain⟨_,g2,w2⟩:=back h2 m2
  exact r.inj i j _ _ g1 g2 w1 w2 e
 ·by_cases hj:j=n
  ·subst hj
   have:x=z:=by
    rw[List.getElem?_set,if_pos rfl,if_pos eQ]at hx;cases hx;rfl
   subst this
   exact hz _ _ u du
  ·have iY:=look hj hx
   by_cases hm:x.mt=true
   ·have hp:ρ j≠ρ n:=fun e=>hj (r.inj j n _ _ iY hn hm my e)
    exact(r.ok j _ iY).up u (fun ys h=>by rw[bG hp];exact h)
   ·cases x with
    |lst zs=>exact absurd rfl hm
    |Dy zs=>exact absurd rfl hm
    |F7 zs=>exact absurd rfl hm
    |F8 zs=>exact absurd rfl hm
    |tab cd q=>exact absurd rfl hm
    |DA zs=>
     obtain⟨o',A_,h1,h2⟩:=r.ok j _ iY
     exact⟨o',A_,by rw[bG (Ga h1 (.inr ⟨_,_,rfl⟩))];exact h1,h2.up u⟩
    |vO zs=>
     obtain⟨o',A_,h1,h2⟩:=r.ok j _ iY
     exact⟨o',A_,by rw[bG (Ga h1 (.inr ⟨_,_,rfl⟩))];exact h1,h2.up u⟩
    |exc C S zs=>
     obtain⟨A_,h1,h2⟩:=r.ok j _ iY
     exact⟨A_,h1.up u.fz,h2.up u⟩
    |ro zs=>
     obtain⟨A_,h1,h2⟩:=r.ok j _ iY
     refine⟨A_,?_,h2.up u⟩
     rcases h1 with⟨o,h1⟩|h1
     ·exact .inl ⟨o,by rw[bG (Ga h1 (.inr ⟨_,_,rfl⟩))];exact h1⟩
     ·exact .inr h1
theorem Nx.put(r:RS K ρ c H){n:Nat}{xs:List Qm.D}(hn:c[n]? =some (.lst xs)){ds:List Qm.D}{vs:List V}(a:RA K ρ c.length H ds vs):Nx K ρ c H ρ (c.set n (.lst ds)) (upd H (ρ n) (.lst vs)):=
 Nx.Qv r hn rfl fun _ _ u h=>⟨vs,h,a.up u⟩
theorem RS.lst(r:RS K ρ c H){n:Nat}{ds:List Qm.D}(h:c[n]? =some (.lst ds)):∃vs,H (ρ n)=some (.lst vs)∧RA K ρ c.length H ds vs:=r.ok n _ h
theorem RS.seq(r:RS K ρ c H){d:Qm.D}{ds:List Qm.D}{v:V}(h:RD K ρ c.length H d v)(e:Qm.cf d c=some ds):∃p vs,v= .ref p∧(dI K H p vs∨H p=some (.tup vs))∧RA K ρ c.length H ds vs:=by
 unfold Qm.cf at e
 split at e
 ·cases e
  obtain⟨p,xs,rfl,h1,h2⟩:=h.eU
  exact⟨p,xs,rfl,.inr h1,h2⟩
 ·rename_i n
  obtain⟨rfl,hn⟩:=h.yV
  split at e
  ·rename_i xs hx
   cases e
   obtain⟨vs,h1,h2⟩:=r.lst hx
   exact⟨_,vs,rfl,.inl (dI.of h1),h2⟩
  ·rename_i xs hx
   cases e
   obtain⟨vs,h1,h2⟩:=r.ok n _ hx
   exact⟨_,vs,rfl,.inl h1.seq,h2⟩
  ·cases e
 ·cases e
theorem xj{d:Qm.D}{c:Qm.Cells}{ds:List Qm.D}(e:Qm.cf d c=some ds):d= .tup ds∨∃n,d= .ref n:=by
 unfold Qm.cf at e
 split at e
 ·cases e;exact .inl rfl
 ·exact .inr ⟨_,rfl⟩
 ·cases e
theorem RS.Ci(r:RS K ρ c H){n:Nat}{ds:List Qm.D}{v:V}(h:RD K ρ c.length H (.ref n) v)(e:Qm.cf (.ref n) c=some ds):∃vs,v= .ref (ρ n)∧dI K H (ρ n) vs∧RA K ρ c.length H ds vs:=by
 obtain⟨rfl,hn⟩:=h.yV
 unfold Qm.cf at e
 dsimp only at e
 split at e
 ·rename_i xs hx
  cases e
  obtain⟨vs,h1,h2⟩:=r.lst hx
  exact⟨vs,rfl,dI.of h1,h2⟩
 ·rename_i xs hx
  cases e
  obtain⟨vs,h1,h2⟩:=r.ok n _ hx
  exact⟨vs,rfl,h1.seq,h2⟩
 ·cases e
theorem RS.cp(r:RS K ρ c H){d:Qm.D}{n:Nat}{ds:List Qm.D}{v:V}(h:RD K ρ c.length H d v)(e:Qm.cp d c=some (n,ds)):d= .ref n∧c[n]? =some (.lst ds)∧∃vs,v= .ref (ρ n)∧H (ρ n)=some (.lst vs)∧RA K ρ c.length H ds vs:=by
 unfold Qm.cp at e
 split at e
 ·obtain⟨rfl,hn⟩:=h.yV
  split at e
  ·rename_i xs hx
   cases e
   obtain⟨vs,h1,h2⟩:=r.lst hx
   exact⟨rfl,hx,vs,rfl,h1,h2⟩
  ·cases e
 ·cases e
end
def TQ(K:PySem.W.Frag)(f:Qm.XE):TE:=fun σ H Q=>∃ρ env c d c',RS K ρ c H∧RE K ρ c.length H env σ∧f env c=some (d,c')∧∀aW v H',Nx K ρ c H aW c' H'→RD K aW c'.length H' d v→Q v H'
def AQ(K:PySem.W.Frag)(f:Qm.XA):TA:=fun σ H Q=>∃ρ env c ds c',RS K ρ c H∧RE K ρ c.length H env σ∧f env c=some (ds,c')∧∀aW vs H',Nx K ρ c H aW c' H'→RA K aW c'.length H' ds vs→Q vs H'
def BQ(K:PySem.W.Frag)(f:Qm.XT):TT:=fun σ H Q=>∃ρ env c b c',RS K ρ c H∧RE K ρ c.length H env σ∧f env c=some (b,c')∧∀aW H',Nx K ρ c H aW c' H'→Q b H'
def OQ(K:PySem.W.Frag)(f:Qm.XO):TO:=fun σ H Q=>∃ρ env c o c',RS K ρ c H∧RE K ρ c.length H env σ∧f env c=some (o,c')∧∀aW H',Nx K ρ c H aW c' H'→Q o H'
def Qw(K:PySem.W.Frag)(ρ:Nat→Addr)(c:Qm.Cells)(H:Hp)(env:Qm.Env)(D:Ends):Qm.Fl→Prop
 |.nx=>∀σ,RE K ρ c.length H env σ→D.nx σ H
 |.bk=>∀σ,RE K ρ c.length H env σ→D.bk σ H
 |.ct=>∀σ,RE K ρ c.length H env σ→D.ct σ H
 |.rt d=>∀v,RD K ρ c.length H d v→D.rt v H
def SQ(K:PySem.W.Frag)(f:Qm.XS):TS:=fun D σ H=>∃ρ env c fl cu c',RS K ρ c H∧RE K ρ c.length H env σ∧f env c=some (fl,cu,c')∧∀aW H',Nx K ρ c H aW c' H'→Qw K aW c' H' cu D fl
def GQ(K:PySem.W.Frag)(g:Qm.XG):TG:=fun v σ H Q=>∃ρ env c d cu c',RS K ρ c H∧RE K ρ c.length H env σ∧RD K ρ c.length H d v∧g d env c=some (cu,c')∧∀aW H' σ',Nx K ρ c H aW c' H'→RE K aW c'.length H' cu σ'→Q σ' H'
def Ta(K:PySem.W.Frag)(g:Qm.rV):sX:=fun vs σ H Q=>∃ρ env c ds cu c',RS K ρ c H∧RE K ρ c.length H env σ∧RA K ρ c.length H ds vs∧g ds env c=some (cu,c')∧∀aW H' σ',Nx K ρ c H aW c' H'→RE K aW c'.length H' cu σ'→Q σ' H'
def LO(K:PySem.W.Frag)(Ba:Nat→Addr)(N0:Nat)(H0:Hp)(m:Qm.Itm)(J:It):Prop:=∀ρ c H,Up K Ba N0 H0 ρ c.length H→RS K ρ c H→Qm.stays m.ks c→
 (∀i,i<m.ds.length→J.go i H)∧J.stop m.ds.length H∧∀i d x H',m.ds[i]? =some d→J.Fc i H x H'→Nx K ρ c H ρ c H'∧RD K ρ c.length H' d x
def IQ(K:PySem.W.Frag)(f:Qm.XI):TI:=fun σ H R=>∃ρ env c m c',RS K ρ c H∧RE K ρ c.length H env σ∧f env c=some (m,c')∧∀aW J H',Nx K ρ c H aW c' H'→LO K aW c'.length H' m J→R J H'
abbrev QE(X:Cx)(e:Expr)(f:Qm.XE):Prop:=PE X e (TQ X.K f)
abbrev QA(X:Cx)(es:List Expr)(f:Qm.XA):Prop:=PA X es (AQ X.K f)
abbrev QT(X:Cx)(e:Expr)(f:Qm.XT):Prop:=PT X e (BQ X.K f)
abbrev QW(X:Cx)(e:Expr)(f:Qm.XT):Prop:=PW X e (BQ X.K f)
abbrev QO(X:Cx)(e:Option Expr)(f:Qm.XO):Prop:=PO X e (OQ X.K f)
abbrev QS(X:Cx)(e:Stmt)(f:Qm.XS):Prop:=PS X e (SQ X.K f)
abbrev vt(X:Cx)(e:List Stmt)(f:Qm.XS):Prop:=kr X e (SQ X.K f)
abbrev QG(X:Cx)(e:Expr)(f:Qm.XG):Prop:=PG X e (GQ X.K f)
abbrev Gb(X:Cx)(e:List Expr)(f:Qm.rV):Prop:=wV X e (Ta X.K f)
abbrev QI(X:Cx)(tg e:Expr)(f:Qm.XI):Prop:=PI X tg e (IQ X.K f)
abbrev Cj(X:Cx)(e:List Expr)(f:Qm.XT):Prop:=oM X e (BQ X.K f)
section
variable{X:Cx}
theorem PE.imp{e:Expr}{t t':TE}(h:PE X e t)(k:∀σ H Q,t' σ H Q→t σ H Q):PE X e t':=fun pins s σ H Q I q=>h pins s σ H Q I (k σ H Q q)
theorem PT.imp{e:Expr}{t t':TT}(h:PT X e t)(k:∀σ H Q,t' σ H Q→t σ H Q):PT X e t':=fun pins s σ H Q I q=>h pins s σ H Q I (k σ H Q q)
theorem PW.imp{e:Expr}{t t':TT}(h:PW X e t)(k:∀σ H Q,t' σ H Q→t σ H Q):PW X e t':=fun wh pins s σ H Q I q=>h wh pins s σ H Q I (k σ H Q q)
theorem PA.imp{e:List Expr}{t t':TA}(h:PA X e t)(k:∀σ H Q,t' σ H Q→t σ H Q):PA X e t':=fun pos pins s σ H Q I q=>h pos pins s σ H Q I (k σ H Q q)
theorem PS.imp{e:Stmt}{t t':TS}(h:PS X e t)(k:∀D σ H,t' D σ H→t D σ H):PS X e t':=fun pins s σ H D I q=>h pins s σ H D I (k D σ H q)
theorem kr.imp{e:List Stmt}{t t':TS}(h:kr X e t)(k:∀D σ H,t' D σ H→t D σ H):kr X e t':=fun pins s σ H D I q=>h pins s σ H D I (k D σ H q)
theorem PO.imp{e:Option Expr}{t t':TO}(h:PO X e t)(k:∀σ H Q,t' σ H Q→t σ H Q):PO X e t':=fun pins s σ H Q I q=>h pins s σ H Q I (k σ H Q q)
theorem PG.imp{e:Expr}{t t':TG}(h:PG X e t)(k:∀v σ H Q,t' v σ H Q→t v σ H Q):PG X e t':=fun pins s σ H x v Q I r q=>h pins s σ H x v Q I r (k x σ H Q q)
theorem wV.imp{e:List Expr}{t t':sX}(h:wV X e t)(k:∀v σ H Q,t' v σ H Q→t v σ H Q):wV X e t':=fun pins s σ H x v Q I r q=>h pins s σ H x v Q I r (k x σ H Q q)
theorem PI.imp{tg e:Expr}{t t':TI}(h:PI X tg e t)(k:∀σ H Q,t' σ H Q→t σ H Q):PI X tg e t':=fun pins s σ H R I q=>h pins s σ H R I (k σ H R q)
theorem oM.imp{e:List Expr}{t t':TT}(h:oM X e t)(k:∀σ H Q,t' σ H Q→t σ H Q):oM X e t':=fun pins s σ H Q I q=>h pins s σ H Q I (k σ H Q q)
end
end L2
namespace L2
open PySem PySem.Spec PyProof.Rows
section
variable{X:Cx}{a b e:Expr}{es:List Expr}{fa fb fc fe:Qm.XE}{ft fu:Qm.XT}{pos:Pos}
theorem JO(i:Nat)(h:PE X e (EZ i)):QE X e (Qm.eV i):=h.imp <| by
 rintro σ H Q ⟨ρ,env,c,d,c',rs,re,e,k⟩
 unfold Qm.eV at e
 obtain⟨d',e1,e2⟩:=aM e
 cases e2
 have e3:env[i]? =some (some d):=by
  cases h:env[i]? with
  |none=>rw[h]at e1;cases e1
  |some o=>rw[h]at e1;rw[show o=some d from e1]
 obtain⟨v,h1,h2⟩:=re.at_ i d e3
 exact⟨v,h1,k ρ v H (Nx.refl rs) h2⟩
theorem yW{v:V}(d:Qm.D)(h:PE X e (tC v))(r:∀ρ N H,RD X.K ρ N H d v):QE X e (Qm.eC d):=h.imp <| by
 rintro σ H Q ⟨ρ,env,c,d',c',rs,re,e,k⟩
 unfold Qm.eC at e
 cases e
 exact k ρ v H (Nx.refl rs) (r _ _ _)
theorem ai{i:Int}{j pos}:QE X (.Constant (.int i) j pos) (Qm.eC (.int i)):=yW _ BX fun _ _ _=>.int i
theorem gG{i:Bool}{j pos}:QE X (.Constant (.bool i) j pos) (Qm.eC (.bl i)):=yW _ Mf fun _ _ _=>.bl i
theorem l7{j pos}:QE X (.Constant .none j pos) (Qm.eC .bC):=yW _ IH fun _ _ _=>.bC
theorem jb{x:Str}{j pos}:QE X (.Constant (.str x) j pos) (Qm.eC (.str x)):=yW _ II fun _ _ _=>.str x
def gb(K:PySem.W.Frag)(r:R2)(g:Qm.G2):Prop:=∀ρ c H x y d c' v u Q,RS K ρ c H→RD K ρ c.length H x v→RD K ρ c.length H y u→g x y c=some (d,c')→(∀aW w H',Nx K ρ c H aW c' H'→RD K aW c'.length H' d w→Q w H')→r v u H Q
theorem xk{K:PySem.W.Frag}{r:R2}{g:Qm.G2}(hl:gb K r g){σ:St}{H:Hp}{Q:VK}(h:TQ K (Qm.e2 g fa fb) σ H Q):Fh r (TQ K fa) (TQ K fb) σ H Q:=by
 obtain⟨ρ,env,c,d,c',rs,re,e,k⟩:=h
 obtain⟨p,e1,e⟩:=aM e
 obtain⟨q,e2,e3⟩:=aM e
 exact⟨ρ,env,c,p.1,p.2,rs,re,e1,fun aS v H1 n1 r1=>⟨aS,env,p.2,q.1,q.2,n1.rs,re.up n1.up,e2,fun mH u H2 n2 r2=>
  hl mH q.2 H2 p.1 q.1 d c' v u Q n2.rs (r1.up n2.up) r2 e3 fun aW w H' n3 r3=>k aW w H' (n1.trans (n2.trans n3)) r3⟩⟩
theorem aq{op:Operator}{r:R2}{g:Qm.G2}(ho:dB X (binaryOp op) r)(hl:gb X.K r g)(ha:QE X a fa)(hb:QE X b fb):QE X (.BinOp a op b pos) (Qm.e2 g fa fb):=(Mr ho ha hb).imp fun _ _ _ h=>xk hl h
theorem j8{op:CmpOp}{r:R2}{g:Qm.G2}(ho:dB X (compareOp op) r)(hl:gb X.K r g)(ha:QE X a fa)(hb:QE X b fb)(hm:behindInMarks op b=false):QE X (.Compare a [op] [b] pos) (Qm.e2 g fa fb):=(Fm ho ha hb hm).imp fun _ _ _ h=>xk hl h
theorem Nf{r:R2}{g:Qm.G2}(hr:vi X r)(hl:gb X.K r g)(ha:QE X a fa)(hb:QE X b fb)(hs:oD b):QE X (.Subscript a b pos) (Qm.e2 g fa fb):=(ME hr ha hb hs).imp fun _ _ _ h=>xk hl h
theorem gk{d:Qm.D}{i:Int}(h:Qm.tS d=some i):d= .int i:=by
 unfold Qm.tS at h
 split at h
 ·cases h;rfl
 ·cases h
theorem sr{d:Qm.D}{i:Bool}(h:Qm.kT d=some i):d= .bl i:=by
 unfold Qm.kT at h
 split at h
 ·cases h;rfl
 ·cases h
theorem sA{K:PySem.W.Frag}{C:Int→Int→Prop}{g:Int→Int→V}{f:Int→Int→Option Qm.D}(h:∀i j d,f i j=some d→C i j∧∀ρ N H,RD K ρ N H d (g i j)):gb K (rI C g) (Qm.ii f):=by
 intro ρ c H x y d c' v u Q rs rx ry e k
 obtain⟨i,e1,e⟩:=aM e
 obtain⟨j,e2,e⟩:=aM e
 obtain⟨d',e3,e⟩:=aM e
 cases e
 cases gk e1;cases gk e2
 cases rx.fX;cases ry.fX
 obtain⟨hc,hr⟩:=h i j d e3
 exact⟨i,j,rfl,rfl,hc,k ρ _ H (Nx.refl rs) (hr _ _ _)⟩
theorem oV{K:PySem.W.Frag}{g:Int→Int→V}{f:Int→Int→Option Qm.D}(h:∀i j d,f i j=some d→∀ρ N H,RD K ρ N H d (g i j)):gb K (oy g) (Qm.ii f):=by
 intro ρ c H x y d c' v u Q rs rx ry e k
 obtain⟨i,e1,e⟩:=aM e
 obtain⟨j,e2,e⟩:=aM e
 obtain⟨d',e3,e⟩:=aM e
 cases e
 cases gk e1;cases gk e2
 cases rx.fX;cases ry.fX
 exact⟨i,j,rfl,rfl,k ρ _ H (Nx.refl rs) (h i j d e3 _ _ _)⟩
theorem bu{K:PySem.W.Frag}:gb K (oy fun i j=>.int (i - j)) Qm.a_:=oV fun i j d e ρ N H=>by cases e;exact .int _
theorem aL{K:PySem.W.Frag}:gb K (rI IntMulOk fun i j=>.int (i*j)) Qm.aJ:=sA fun i j d e=>by
 split at e
 ·rename_i h
  cases e
  refine⟨?_,fun _ _ _=>.int _⟩
  have V9:(2:Nat) ^ 64=18446744073709551616:=by decide
  rcases h with h|h|h
  ·exact My.M3 h.1 h.2 rfl
  ·have:=h.lt
   exact My.JD (by omega) (by omega)
  ·have:=h.lt
   exact My.JE (by omega) (by omega)
 ·cases e
theorem fG{K:PySem.W.Frag}:gb K (rI A7 fun i j=>.int (i.fdiv j)) Qm.di:=sA fun i j d e=>by
 split at e
 ·rename_i h
  cases e
  exact⟨Qc h.1 h.2 rfl,fun _ _ _=>.int _⟩
 ·cases e
theorem gM{K:PySem.W.Frag}:gb K (rI (fun _ j=>j≠0) fun i j=>.int (i.fmod j)) Qm.dS:=sA fun i j d e=>by
 split at e
 ·rename_i h
  cases e
  exact⟨h,fun _ _ _=>.int _⟩
 ·cases e
theorem xl{K:PySem.W.Frag}:gb K (rI Ly fun i j=>.int (i ^ j.toNat)) Qm.vP:=sA fun i j d e=>by
 split at e
 ·rename_i h
  cases e
  exact⟨⟨h.1,by omega,by(have:=h.2.2;have:(2:Nat) ^ 64=18446744073709551616:=(by decide);omega)⟩,fun _ _ _=>.int _⟩
 ·cases e
theorem jy{K:PySem.W.Frag}:gb K (oy fun i j=>.bl (decide (i<j))) Qm.oO:=oV fun i j d e ρ N H=>by cases e;exact .bl _
theorem xn{K:PySem.W.Frag}:gb K (oy fun i j=>.bl (decide (i≤j))) Qm.vo:=oV fun i j d e ρ N H=>by cases e;exact .bl _
theorem qk{K:PySem.W.Frag}:gb K (oy fun i j=>.bl (decide (j<i))) Qm.vp:=oV fun i j d e ρ N H=>by cases e;exact .bl _
theorem aY{K:PySem.W.Frag}:gb K (fun x y H Q=>(oy fun i j=>.int (i+j)) x y H Q∨(tq K x y H Q∨FK x y H Q)) Qm.aK:=by
 intro ρ c H x y d c' v u Q rs rx ry e k
 unfold Qm.aK at e
 split at e
 ·cases e
  cases rx.fX;cases ry.fX
  exact .inl ⟨_,_,rfl,rfl,k ρ _ H (Nx.refl rs) (.int _)⟩
 ·rename_i xs ys
  split at e
  ·rename_i h
   cases e
   obtain⟨p,vs,rfl,h1,a1⟩:=rx.eU
   obtain⟨q,us,rfl,h2,a2⟩:=ry.eU
   have l1:=a1.length
   have l2:=a2.length
   refine .inr (.inl ⟨p,q,vs,us,rfl,rfl,bJ.of h1,bJ.of h2,?_,kU (by omega),fun z=>?_,fun _ l hl=>?_⟩)
   ·intro z;subst z
    have:xs=[]:=List.length_eq_zero_iff.mp (by simpa using l1)
    exact h.1 this
   ·subst z
    have:ys=[]:=List.length_eq_zero_iff.mp (by simpa using l2)
    subst this
    rw[List.append_nil]at k
    exact k ρ _ H (Nx.refl rs) (.tup h1 a1)
   ·have n:=Nx.same rs (fW (z:=.tup (vs++us)) hl)
    exact k ρ _ _ n (.tup du ((a1.append a2).up n.up))
  ·cases e
 ·obtain⟨p,e1,e⟩:=aM e
  obtain⟨q,e2,e⟩:=aM e
  split at e
  ·rename_i h
   cases e
   obtain⟨_,hp,vs,rfl,h1,a1⟩:=rs.cp rx e1
   obtain⟨_,hq,us,rfl,h2,a2⟩:=rs.cp ry e2
   have l1:=a1.length
   have l2:=a2.length
   refine .inr (.inr ⟨_,_,vs,us,rfl,rfl,h1,h2,kU (by omega),fun l hl=>?_⟩)
   obtain⟨n,r⟩:=Nx.alloc rs hl (a1.append a2)
   exact k _ _ _ n r
  ·cases e
theorem aQ:dB X (binaryOp .Add) (fun x y H Q=>(oy fun i j=>.int (i+j)) x y H Q∨(tq X.K x y H Q∨FK x y H Q)):=Jb.or (yB.or Ju)
theorem Ng{K:PySem.W.Frag}:gb K (P0 K) Qm.av:=by
 intro ρ c H x y d c' v u Q rs rx ry e k
 obtain⟨xs,e1,e⟩:=aM e
 obtain⟨i,e2,e⟩:=aM e
 obtain⟨d',e3,e⟩:=aM e
 cases e
 cases gk e2
 cases ry.fX
 obtain⟨p,vs,rfl,h,a⟩:=rs.seq rx e1
 obtain⟨j,hj,hx⟩:=aM (show(Qm.tT xs.length i).bind (fun j=>xs[j]?)=some d from e3)
 obtain⟨w,hw,yp⟩:=a.get hx
 have yX:Dl vs i=some w:=by
  show(AZ vs.length i).bind (fun j=>vs[j]?)=some w
  rw[←a.length,show AZ xs.length i=some j from hj]
  exact hw
 rcases h with h|h
 ·exact .inl ⟨p,vs,i,w,rfl,rfl,h,yX,k ρ _ H (Nx.refl rs) yp⟩
 ·exact .inr (.inl ⟨p,vs,i,w,rfl,rfl,bJ.of h,yX,k ρ _ H (Nx.refl rs) yp⟩)
theorem bD(ha:QE X a fa)(hb:QE X b fb)(hs:oD b):QE X (.Subscript a b pos) (Qm.e2 Qm.av fa fb):=Nf Jr Ng ha hb hs
theorem cC(ha:QE X a fa):QE X (.UnaryOp .USub a pos) (Qm.e1 Qm.aZ fa):=(Ms Jc ha).imp <| by
 rintro σ H Q ⟨ρ,env,c,d,c',rs,re,e,k⟩
 obtain⟨p,e1,e⟩:=aM e
 obtain⟨i,e2,e⟩:=aM e
 cases e
 refine⟨ρ,env,c,p.1,p.2,rs,re,e1,fun aS v H1 n1 r1=>?_⟩
 rw[gk e2]at r1
 cases r1.fX
 exact⟨i,rfl,k aS _ H1 n1 (.int _)⟩
theorem JP{op}(h:QE X a fa):QE X (.BoolOp op [a] pos) fa:=IS h
theorem JQ{rest:List Expr}(ha:QE X a fa)(hb:QE X (.BoolOp .And (b::rest) pos) fb):QE X (.BoolOp .And (a::b::rest) pos) (Qm.F9 fa fb):=(IT ha hb).imp <| by
 rintro σ H Q ⟨ρ,env,c,d,c',rs,re,e,k⟩
 obtain⟨p,e1,e⟩:=aM e
 obtain⟨i,e2,e⟩:=aM e
 refine⟨ρ,env,c,p.1,p.2,rs,re,e1,fun aS v H1 n1 r1=>?_⟩
 rw[sr e2]at r1
 cases r1.nX
 refine⟨i,rfl,?_⟩
 split at e
 ·rename_i hi
  rw[if_pos hi]
  exact⟨aS,env,p.2,d,c',n1.rs,re.up n1.up,e,fun aW w H' n r=>k aW w H' (n1.trans n) r⟩
 ·rename_i hi
  rw[if_neg hi]
  cases e
  exact k aS _ H1 n1 (.bl _)
theorem l8{c0:Expr}(hc:QT X c0 ft)(ha:QE X a fa)(hb:QE X b fb):QE X (.IfExp c0 a b pos) (Qm.rW ft fa fb):=(C_ hc ha hb).imp <| by
 rintro σ H Q ⟨ρ,env,c,d,c',rs,re,e,k⟩
 obtain⟨p,e1,e⟩:=aM e
 refine⟨ρ,env,c,p.1,p.2,rs,re,e1,fun aS H1 n1=>?_⟩
 split at e
 ·rename_i hi
  rw[if_pos hi]
  exact⟨aS,env,p.2,d,c',n1.rs,re.up n1.up,e,fun aW w H' n r=>k aW w H' (n1.trans n) r⟩
 ·rename_i hi
  rw[if_neg hi]
  exact⟨aS,env,p.2,d,c',n1.rs,re.up n1.up,e,fun aW w H' n r=>k aW w H' (n1.trans n) r⟩
theorem DE{K:PySem.W.Frag}{r r':R2}{g g':Qm.G2}(hl:gb K r g)(vf:gb K r' g'){σ:St}{H:Hp}{Q:VK}(h:TQ K (Qm.j6 g g' fa fb fc) σ H Q):BY r r' (TQ K fa) (TQ K fb) (TQ K fc) σ H Q:=by
 obtain⟨ρ,env,c,d,c',rs,re,e,k⟩:=h
 obtain⟨p,e1,e⟩:=aM e
 obtain⟨q,e2,e⟩:=aM e
 obtain⟨z,e3,e⟩:=aM e
 obtain⟨i,e4,e⟩:=aM e
 refine⟨ρ,env,c,p.1,p.2,rs,re,e1,fun aS v H1 n1 r1=>⟨aS,env,p.2,q.1,q.2,n1.rs,re.up n1.up,e2,fun mH u H2 n2 r2=>?_⟩⟩
 refine hl mH q.2 H2 p.1 q.1 z.1 z.2 v u _ n2.rs (r1.up n2.up) r2 e3 fun Bb w H3 n3 r3=>?_
 rw[sr e4]at r3
 cases r3.nX
 refine⟨i,rfl,?_⟩
 split at e
 ·rename_i hi
  rw[if_pos hi]
  obtain⟨s,e5,e⟩:=aM e
  refine⟨Bb,env,z.2,s.1,s.2,n3.rs,re.up (n1.trans (n2.trans n3)).up,e5,fun oW w4 H4 n4 r4=>?_⟩
  exact vf oW s.2 H4 q.1 s.1 d c' u w4 Q n4.rs ((r2.up n3.up).up n4.up) r4 e fun Nh w5 H5 n5 r5=>k Nh w5 H5 (n1.trans (n2.trans (n3.trans (n4.trans n5)))) r5
 ·rename_i hi
  rw[if_neg hi]
  cases e
  exact k Bb _ H3 (n1.trans (n2.trans n3)) (.bl _)
theorem ak:QA X [] Qm.aj:=Jf.imp <| by
 rintro σ H Q ⟨ρ,env,c,ds,c',rs,re,e,k⟩
 cases e
 exact k ρ [] H (Nx.refl rs) .nil
theorem ah{fr:Qm.XA}(ha:QE X e fa)(hr:QA X es fr)(hs:starEach (e::es) X.env=(false,eval e X.env)::starEach es X.env:=by rfl):QA X (e::es) (Qm.ag fa fr):=(Fs ha hr hs).imp <| by
 rintro σ H Q ⟨ρ,env,c,ds,c',rs,re,e,k⟩
 obtain⟨p,e1,e⟩:=aM e
 obtain⟨q,e2,e⟩:=aM e
 cases e
 exact⟨ρ,env,c,p.1,p.2,rs,re,e1,fun aS v H1 n1 r1=>⟨aS,env,p.2,q.1,q.2,n1.rs,re.up n1.up,e2,fun mH vs H2 n2 r2=>k mH (v::vs) H2 (n1.trans n2) (.cons (r1.up n2.up) r2)⟩⟩
theorem aO{x1}{f:Qm.XA}(h:QA X es f):QE X (.Tuple es x1 pos) (Qm.aA f):=(Jg h).imp <| by
 rintro σ H Q ⟨ρ,env,c,d,c',rs,re,e,k⟩
 obtain⟨p,e1,e⟩:=aM e
 split at e
 ·rename_i hz
  cases e
  refine⟨ρ,env,c,p.1,p.2,rs,re,e1,fun aS vs H1 n1 r1=>⟨kU (by rw[←r1.length];exact hz),fun l hl=>?_⟩⟩
  have n:=Nx.same n1.rs (fW (z:=.tup vs) hl)
  exact k aS _ _ (n1.trans n) (.tup du (r1.up n.up))
 ·cases e
theorem eO{f:Qm.XA}(h:QA X es f):QE X (.List es pos) (Qm.cZ f):=(Jh h).imp <| by
 rintro σ H Q ⟨ρ,env,c,d,c',rs,re,e,k⟩
 obtain⟨p,e1,e⟩:=aM e
 split at e
 ·rename_i hz
  cases e
  refine⟨ρ,env,c,p.1,p.2,rs,re,e1,fun aS vs H1 n1 r1=>⟨kU (by rw[←r1.length];exact hz),fun l hl=>?_⟩⟩
  obtain⟨n,r⟩:=Nx.alloc n1.rs hl r1
  exact k _ _ _ (n1.trans n) r
 ·cases e
def dr(K:PySem.W.Frag)(F:Qm.FN):Sp:=fun vs H Q _=>∃ρ c ds d c',RS K ρ c H∧RA K ρ c.length H ds vs∧F ds c=some (d,c')∧∀aW v H',Nx K ρ c H aW c' H'→RD K aW c'.length H' d v→Q v H'
theorem Gd{K:PySem.W.Frag}{F:Qm.FN}{f:Qm.XA}{ds:List Qm.D}{oA:List V}{E:XK}(hd:∀ρ N H,RA K ρ N H ds oA){σ:St}{H:Hp}{Q:VK}(h:TQ K (Qm.ar F ds f) σ H Q):Ft (dr K F) oA E (AQ K f) σ H Q:=by
 obtain⟨ρ,env,c,d,c',rs,re,e,k⟩:=h
 obtain⟨p,e1,e⟩:=aM e
 exact⟨ρ,env,c,p.1,p.2,rs,re,e1,fun aS vs H1 n1 r1=>⟨aS,p.2,p.1++ds,d,c',n1.rs,r1.append (hd _ _ _),e,fun aW v H' n r=>k aW v H' (n1.trans n) r⟩⟩
theorem Ge{k:Nat}{f:Addr}{fd:FuncData}{ps:List Str}{F:Qm.FN}{oA:List V}{ds:List Value}{x:Str}{p:Pos}{fx:Qm.XA}(qs:List Qm.D)(G:bM X.prog X.w X.K X.mg X.base de k f fd ps (dr X.K F))(hr:eT k X.A)(hg:Gl X x)(hm:X.mg x=some (.ref f))(hk:PySem.W.keepIn X.K (.ref f)=true)(hb:Binds X.K fd ps ds)(hd:Vals oA ds)(hq:∀ρ N H,RA X.K ρ N H qs oA)
  (ha:QA X (e::es) fx)(nO:(x==("__debug__":Str))=false:=by decide)(he:starEach (e::es) X.env=(false,eval e X.env)::starEach es X.env:=by rfl)(ip:(backTo pos (starEach es X.env)).any (·.1)=false:=by rfl):
  QE X (.Call (.Name x p) (e::es) [] pos) (Qm.ar F qs fx):=(Fu (E:=E0) G hr hg hm hk hb hd MR ha nO he ip).imp fun _ _ _ h=>Gd hq h
def ql(K:PySem.W.Frag)(r:List V→Hp→VK→Prop)(F:Qm.FN):Prop:=∀ρ c H ds d c' vs Q,RS K ρ c H→RA K ρ c.length H ds vs→F ds c=some (d,c')→(∀aW w H',Nx K ρ c H aW c' H'→RD K aW c'.length H' d w→Q w H')→r vs H Q
theorem Gf{K:PySem.W.Frag}{r:List V→Hp→VK→Prop}{F:Qm.FN}(hl:ql K r F){f:Qm.XA}{σ:St}{H:Hp}{Q:VK}(h:TQ K (Qm.eB F f) σ H Q):MB r (AQ K f) σ H Q:=by
 obtain⟨ρ,env,c,d,c',rs,re,e,k⟩:=h
 obtain⟨p,e1,e⟩:=aM e
 exact⟨ρ,env,c,p.1,p.2,rs,re,e1,fun aS vs H1 n1 r1=>hl aS p.2 H1 p.1 d c' vs Q n1.rs r1 e fun aW v H' n r=>k aW v H' (n1.trans n) r⟩
theorem dg{id:String}{r:List V→Hp→VK→Prop}{F:Qm.FN}{x:Str}{p:Pos}{f:Qm.XA}(hc:gf X (.builtin id) r)(hl:ql X.K r F)(hg:Gl X x)(hm:X.mg x=none)(hv:bootBuiltins x=some (.builtin id))(ha:QA X (e::es) f)(hn:x≠"__name__":=by decide)(nO:(x==("__debug__":Str))=false:=by decide)
  (he:starEach (e::es) X.env=(false,eval e X.env)::starEach es X.env:=by rfl)(ip:(backTo pos (starEach es X.env)).any (·.1)=false:=by rfl):QE X (.Call (.Name x p) (e::es) [] pos) (Qm.eB F f):=(Dh hc hg hm hv ha hn nO he ip).imp fun _ _ _ h=>Gf hl h
theorem iE{id:String}{r:List V→Hp→VK→Prop}{F:Qm.FN}{x:Str}{p:Pos}{f:Qm.XA}(hc:gf X (.type id) r)(hl:ql X.K r F)(hg:Gl X x)(hm:X.mg x=none)(hv:bootBuiltins x=some (.type id))(ha:QA X (e::es) f)(hn:x≠"__name__":=by decide)(nO:(x==("__debug__":Str))=false:=by decide)
  (he:starEach (e::es) X.env=(false,eval e X.env)::starEach es X.env:=by rfl)(ip:(backTo pos (starEach es X.env)).any (·.1)=false:=by rfl):QE X (.Call (.Name x p) (e::es) [] pos) (Qm.eB F f):=(AX hc hg hm hv ha hn nO he ip).imp fun _ _ _ h=>Gf hl h
end
end L2
namespace L2
open PySem PySem.Spec PyProof.Rows
section
variable{X:Cx}{a b e:Expr}{es:List Expr}{fa fb fc fe:Qm.XE}{ft fu:Qm.XT}{pos:Pos}
theorem Gg{K:PySem.W.Frag}{t:TE}{f:Qm.XE}(ht:∀σ H Q,TQ K f σ H Q→t σ H Q){σ:St}{H:Hp}{Q:Bool→Hp→Prop}(h:BQ K (Qm.tV f) σ H Q):t σ H fun x H1=>∃k,x= .bl k∧Q k H1:=by
 obtain⟨ρ,env,c,d,c',rs,re,e,k⟩:=h
 obtain⟨p,e1,e⟩:=aM e
 obtain⟨i,e2,e⟩:=aM e
 cases e
 refine ht σ H _ ⟨ρ,env,c,p.1,p.2,rs,re,e1,fun aS v H1 n1 r1=>?_⟩
 rw[sr e2]at r1
 cases r1.nX
 exact⟨_,rfl,k aS H1 n1⟩
theorem l9(h:QE X e fe)(he:∀whole,isTrue e X.env whole=(do let v ←whole;standAt e.pos;holding [v] (truthy v)):=by intro _;rfl):QT X e (Qm.tV fe):=(IJ h he).imp fun _ _ _ q=>Gg (fun _ _ _ z=>z) q
theorem xp{op:CmpOp}{r:R2}{g:Qm.G2}(ho:dB X (compareOp op) r)(hl:gb X.K r g)(ha:QE X a fa)(hb:QE X b fb)(hm:behindInMarks op b=false):QT X (.Compare a [op] [b] pos) (Qm.tV (Qm.e2 g fa fb)):=(Fo ho ha hb hm).imp fun _ _ _ q=>Gg (fun _ _ _ z=>xk hl z) q
theorem vS{op AR:CmpOp}{r r':R2}{g g':Qm.G2}{c0:Expr}(ho:dB X (compareOp op) r)(hl:gb X.K r g)(mE:dB X (compareOp AR) r')(vf:gb X.K r' g')(ha:QE X a fa)(hb:QE X b fb)(hc:QE X c0 fc)
  (hm:lastMarks [op,AR] [b,c0]=false:=by with_unfolding_all rfl):QT X (.Compare a [op,AR] [b,c0] pos) (Qm.tV (Qm.j6 g g' fa fb fc)):=(Dg ho mE ha hb hc hm).imp fun _ _ _ q=>Gg (fun _ _ _ z=>DE hl vf z) q
theorem yY(ha:QT X a ft):QW X (.BoolOp .And [a] pos) ft:=E5 ha
theorem l_(ha:QT X a ft):QW X (.BoolOp .Or [a] pos) ft:=IL ha
theorem Ck{rest:List Expr}(ha:QT X a ft)(hb:QW X (.BoolOp .And (b::rest) pos) fu):QW X (.BoolOp .And (a::b::rest) pos) (Qm.ot ft fu):=(IM ha hb).imp <| by
 rintro σ H Q ⟨ρ,env,c,d,c',rs,re,e,k⟩
 obtain⟨p,e1,e⟩:=aM e
 refine⟨ρ,env,c,p.1,p.2,rs,re,e1,fun aS H1 n1=>?_⟩
 split at e
 ·rename_i hi
  rw[if_pos hi]
  exact⟨aS,env,p.2,d,c',n1.rs,re.up n1.up,e,fun aW H' n=>k aW H' (n1.trans n)⟩
 ·rename_i hi
  rw[if_neg hi]
  cases e
  exact k aS H1 n1
theorem kY{rest:List Expr}(ha:QT X a ft)(hb:QW X (.BoolOp .Or (b::rest) pos) fu):QW X (.BoolOp .Or (a::b::rest) pos) (Qm.ku ft fu):=(Mg ha hb).imp <| by
 rintro σ H Q ⟨ρ,env,c,d,c',rs,re,e,k⟩
 obtain⟨p,e1,e⟩:=aM e
 refine⟨ρ,env,c,p.1,p.2,rs,re,e1,fun aS H1 n1=>?_⟩
 split at e
 ·rename_i hi
  rw[if_pos hi]
  cases e
  exact k aS H1 n1
 ·rename_i hi
  rw[if_neg hi]
  exact⟨aS,env,p.2,d,c',n1.rs,re.up n1.up,e,fun aW H' n=>k aW H' (n1.trans n)⟩
theorem sC(ha:QT X a ft):QT X (.UnaryOp .Not a pos) (Qm.km ft):=(IP ha).imp <| by
 rintro σ H Q ⟨ρ,env,c,d,c',rs,re,e,k⟩
 obtain⟨p,e1,e⟩:=aM e
 cases e
 exact⟨ρ,env,c,p.1,p.2,rs,re,e1,fun aS H1 n1=>k aS H1 n1⟩
theorem g7:QO X none Qm.dC:=FC.imp <| by
 rintro σ H Q ⟨ρ,env,c,d,c',rs,re,e,k⟩
 cases e
 exact k ρ H (Nx.refl rs)
theorem fH(h:QE X e fe):QO X (some e) (Qm.cE fe):=(FG h).imp <| by
 rintro σ H Q ⟨ρ,env,c,d,c',rs,re,e,k⟩
 obtain⟨p,e1,e⟩:=aM e
 refine⟨ρ,env,c,p.1,p.2,rs,re,e1,fun aS v H1 n1 r1=>?_⟩
 split at e
 ·rename_i i hi
  cases e
  rw[hi]at r1
  cases r1.fX
  exact⟨_,rfl,k aS H1 n1⟩
 ·cases e
theorem qm{K:PySem.W.Frag}{ρ:Nat→Addr}{N:Nat}{H:Hp}{ds:List Qm.D}{vs:List V}(a:RA K ρ N H ds vs)(lo hi:Option Int):RA K ρ N H (Qm.cutD ds lo hi) (kM vs lo hi):=by
 have e:∀n d o,Qm.DB n d o=HT.cn n d o:=fun n d o=>by cases o<;>rfl
 unfold Qm.cutD kM
 rw[e,e,a.length]
 exact(a.drop _).take _
end
section
variable{prog:Program}{w:World}{A:Around}{E:Value→Shared→Prop}{s:Shared}
theorem kZ{t sl:Addr}{items:Array Value}{vl vu:Value}{lo hi:Option Int}{Q:Value→Shared→Prop}(ht:IsTup s.heap t items)(hs:s.heap.IsSliceOf sl vl vu .none)(pl:IsPart vl lo)(pu:IsPart vu hi)
  (hw:HT.cn items.size 0 lo=0∧HT.cn items.size items.size hi=items.size)(h:Q (.ref t) s):wpAny (model prog w) A (getItem (.ref t) (.ref sl)) Q E s:=by
 obtain⟨os,AY,Jn,Fz⟩:=id hs
 have MC:s.TypeIs (.ref sl) "slice":=⟨os,AY,Jn⟩
 unfold getItem
 try with_reducible refine wpAny_holding ?_
 first|refine wpAny_bind (wpAny_pure ?_)|skip
 refine wpAny_bind (wpAny_sequenceKey ht.typeIs (by decide) ?_)
 refine wpAny_bind (wpAny_callSpecial?_slot (name:=Str.ofString "__getitem__") ht.typeIs PyProof.Rows.slot_tuple_getitem
  (wpAny_call_entry PyProof.Rows.slot_tuple_getitem ht.typeIs entry_tuple_getitem ?_ (args_tuple_getitem _ _)))
 show wpAny _ _ (Builtin.Tuple.tupleItemsOf (.ref t) >>= _) _ _ s
 refine wpAny_bind (tupleItemsOf_ ht ?_)
 refine wpAny_bind (wpAny_typeOf MC ?_)
 rw[if_pos (by decide)]
 refine wpAny_bind (HT.i_ hs pl pu ?_)
 have Qx:(((HT.cn items.size 0 lo:Nat):Int)==0&&(1:Int)==1&&(HT.cn items.size items.size hi - HT.cn items.size 0 lo)==items.size)=true:=by
  rw[hw.1,hw.2];simp
 show wpAny _ _ (if (((HT.cn items.size 0 lo:Nat):Int)==0&&(1:Int)==1&&(HT.cn items.size items.size hi - HT.cn items.size 0 lo)==items.size)=true then _ else _) _ _ s
 rw[if_pos Qx]
 unfold Builtin.Tuple.tupleIsExact
 refine wpAny_bind (wpAny_bind (wpAny_typeOf ht.typeIs (wpAny_pure ?_)))
 rw[if_pos (by decide)]
 refine wpAny_bind (wpAny_rule ?_)
 exact wpAny_pure ⟨_,rfl,wpAny_pure h⟩
end
section
variable{X:Cx}{a b e:Expr}{es:List Expr}{fa fb fc fe:Qm.XE}{ft fu:Qm.XT}{pos p2:Pos}{lo hi:Option Expr}{fl fh:Qm.XO}
def Gh(K:PySem.W.Frag):V→Option Int→Option Int→Hp→VK→Prop:=fun x lo hi H Q=>∃a xs,x= .ref a∧bJ K H a xs∧(HT.cn xs.length 0 lo=0∧HT.cn xs.length xs.length hi=xs.length)∧Q (.ref a) H
theorem Gi:wZ X (Gh X.K):=by
 intro pins s σ H x v vl vu lo hi sl Q I rx hs pl pu h
 obtain⟨a,xs,rfl,hx,hw,q⟩:=h
 cases rx
 obtain⟨its,r,ht,hz⟩:=I.tuple hx
 have hlen:its.toArray.size=xs.length:=by rw[List.size_toArray];exact r.length.symm
 refine⟨"tuple",_,PyProof.Rows.slot_tuple_getitem.lookup,ht.typeIs,?_⟩
 exact kZ ht hs pl pu (by rw[hlen];exact hw) ⟨.ref a,H,I,rfl,q⟩
def LP(K:PySem.W.Frag):V→Option Int→Option Int→Hp→VK→Prop:=fun x lo hi H Q=>LA K x lo hi H Q∨(Gh K x lo hi H Q∨LF K x lo hi H Q)
theorem JR:wZ X (LP X.K):=Jo.or (Gi.or FI)
theorem JS{K:PySem.W.Frag}{ρ:Nat→Addr}{c c':Qm.Cells}{H:Hp}{x d:Qm.D}{v:V}{lo hi:Option Int}{Q:VK}(rs:RS K ρ c H)(rx:RD K ρ c.length H x v)(e:Qm.c_ x lo hi c=some (d,c'))(k:∀aW w H',Nx K ρ c H aW c' H'→RD K aW c'.length H' d w→Q w H'):LP K v lo hi H Q:=by
 unfold Qm.c_ at e
 split at e
 ·rename_i xs
  cases e
  obtain⟨p,vs,rfl,h1,a1⟩:=rx.eU
  by_cases hw:HT.cn vs.length 0 lo=0∧HT.cn vs.length vs.length hi=vs.length
  ·refine .inr (.inl ⟨p,vs,rfl,bJ.of h1,hw,?_⟩)
   have:kM vs lo hi=vs:=by
    unfold kM
    rw[hw.1,hw.2];simp
   have a2:=qm a1 lo hi
   rw[this]at a2
   exact k ρ _ H (Nx.refl rs) (.tup h1 a2)
  ·refine .inl ⟨p,vs,rfl,bJ.of h1,hw,fun l hl=>?_⟩
   have n:=Nx.same rs (fW (z:=.tup (kM vs lo hi)) hl)
   exact k ρ _ _ n (.tup du ((qm a1 lo hi).up n.up))
 ·rename_i x' gH
  obtain⟨xs,e1,e⟩:=aM e
  cases e
  rcases xj e1 with z|⟨n,z⟩
  ·exact absurd z (gH xs)
  ·subst z
   obtain⟨vs,rfl,h,a⟩:=rs.Ci rx e1
   refine .inr (.inr ⟨_,vs,rfl,h,fun l hl=>?_⟩)
   obtain⟨n,r⟩:=Nx.alloc rs hl (qm a lo hi)
   exact k _ _ _ n r
theorem ff(he:QE X e fe)(hl:QO X lo fl)(hu:QO X hi fh):QE X (.Subscript e (.Slice lo hi none p2) pos) (Qm.ic Qm.c_ fe fl fh):=(Dk JR he hl hu).imp <| by
 rintro σ H Q ⟨ρ,env,c,d,c',rs,re,e,k⟩
 obtain⟨p,e1,e⟩:=aM e
 obtain⟨l,e2,e⟩:=aM e
 obtain⟨h,e3,e⟩:=aM e
 exact⟨ρ,env,c,p.1,p.2,rs,re,e1,fun aS v H1 n1 r1=>⟨aS,env,p.2,l.1,l.2,n1.rs,re.up n1.up,e2,fun mH H2 n2=>⟨mH,env,l.2,h.1,h.2,n2.rs,re.up (n1.trans n2).up,e3,fun Bb H3 n3=>
  JS n3.rs ((r1.up n2.up).up n3.up) e fun aW w H' n r=>k aW w H' (n1.trans (n2.trans (n3.trans n))) r⟩⟩⟩
def Qy(K:PySem.W.Frag)(r:V→List V→Hp→VK→Prop)(g:Qm.D→Qm.FN):Prop:=∀ρ c H x ds d c' v vs Q,RS K ρ c H→RD K ρ c.length H x v→RA K ρ c.length H ds vs→g x ds c=some (d,c')→(∀aW w H',Nx K ρ c H aW c' H'→RD K aW c'.length H' d w→Q w H')→r v vs H Q
theorem Tb{K:PySem.W.Frag}{ρ:Nat→Addr}{c:Qm.Cells}{H:Hp}{x:Qm.D}{v:V}{z:Nat×List Qm.D}(rs:RS K ρ c H)(rx:RD K ρ c.length H x v)(e:Qm.cp x c=some z):MG K "list" v H:=by
 obtain⟨_,_,vs,rfl,h,_⟩:=rs.cp rx e
 exact .inl ⟨rfl,_,dI.of h⟩
theorem LQ{name:Str}{id:String}{r:V→List V→Hp→VK→Prop}{g:Qm.D→Qm.FN}{o:Expr}{fo:Qm.XE}{f:Qm.XA}{apos gD:Pos}(slot:Slot "list" name id)(MI:typeOf (.builtin id)=pure (.type "method_descriptor"))(hm:MJ X id r)(hl:Qy X.K r g)(ho:QE X o fo)(ha:QA X (e::es) f)
  (A0:attributeBase o name X.env (eval o X.env)=eval o X.env:=by rfl)
  (B0:((backTo gD (starEach (e::es) X.env)).all (fun x=>!x.1)&&(backToKw gD (keywordEach [] X.env)).all (fun x=>x.1.isSome)
   &&decide ((e::es).length+([]:List Keyword).length+(if ([]:List Keyword).isEmpty then 0 else 1)<30))=true:=by rfl)
  (A3:(apos.endLine==gD.line)=true:=by rfl)(hs:starEach (e::es) X.env=(false,eval e X.env)::starEach es X.env:=by rfl)(w6:(backTo gD (starEach es X.env)).any (·.1)=false:=by rfl):
  QE X (.Call (.Attribute o name apos) (e::es) [] gD) (Qm.eM g fo f):=(MH PySem.F.plainAttrs_list slot MI hm ho ha A0 B0 A3 hs w6).imp <| by
 rintro σ H Q ⟨ρ,env,c,d,c',rs,re,e,k⟩
 obtain⟨p,e1,e⟩:=aM e
 obtain⟨z,e2,e⟩:=aM e
 obtain⟨q,e3,e⟩:=aM e
 exact⟨ρ,env,c,p.1,p.2,rs,re,e1,fun aS v H1 n1 r1=>⟨Tb n1.rs r1 e2,aS,env,p.2,q.1,q.2,n1.rs,re.up n1.up,e3,fun mH vs H2 n2 r2=>
  hl mH q.2 H2 p.1 q.1 d c' v vs Q n2.rs (r1.up n2.up) r2 e fun aW w H' n r=>k aW w H' (n1.trans (n2.trans n)) r⟩⟩
theorem t4{K:PySem.W.Frag}:Qy K yF Qm.gj:=by
 intro ρ c H x ds d c' v vs Q rs rx ra e k
 unfold Qm.gj Qm.one at e
 split at e
 ·rename_i y
  obtain⟨l,e1,e⟩:=aM e
  obtain⟨u,rfl,ry⟩:=ra.kW
  split at e
  ·rename_i hz
   cases e
   obtain⟨_,hn,ws,rfl,h,a⟩:=rs.cp rx e1
   have n:=Nx.put rs hn (a.append (RA.one ry))
   exact⟨_,ws,u,rfl,rfl,h,yT (by rw[←a.length];exact hz),k ρ _ _ n .bC⟩
  ·cases e
 ·cases e
theorem oX{g:Qm.G1}{ds:List Qm.D}{c:Qm.Cells}{z}(h:Qm.one g ds c=some z):∃x,ds=[x]∧g x c=some z:=by
 unfold Qm.one at h
 split at h
 ·exact⟨_,rfl,h⟩
 ·cases h
theorem Cm{g:Qm.G2}{ds:List Qm.D}{c:Qm.Cells}{z}(h:Qm.two g ds c=some z):∃x y,ds=[x,y]∧g x y c=some z:=by
 unfold Qm.two at h
 split at h
 ·exact⟨_,_,rfl,h⟩
 ·cases h
theorem oY{K:PySem.W.Frag}:ql K (fun xs H Q=>∃i,xs=[.int i]∧Q (.int (if i<0 then -i else i)) H) Qm.tU:=by
 intro ρ c H ds d c' vs Q rs ra e k
 obtain⟨x,rfl,e⟩:=oX e
 obtain⟨v,rfl,rx⟩:=ra.kW
 obtain⟨i,e1,e⟩:=aM e
 cases e
 cases gk e1
 cases rx.fX
 exact⟨i,rfl,k ρ _ H (Nx.refl rs) (.int _)⟩
theorem JT{K:PySem.W.Frag}:ql K (fun xs H Q=>∃p ys,xs=[.ref p]∧(dI K H p ys∨bJ K H p ys)∧Q (.int ys.length) H) Qm.cF:=by
 intro ρ c H ds d c' vs Q rs ra e k
 obtain⟨x,rfl,e⟩:=oX e
 obtain⟨v,rfl,rx⟩:=ra.kW
 obtain⟨xs,e1,e⟩:=aM e
 cases e
 obtain⟨p,ws,rfl,h,a⟩:=rs.seq rx e1
 exact⟨p,ws,rfl,h.imp id bJ.of,k ρ _ H (Nx.refl rs) (by rw[a.length];exact .int _)⟩
theorem t5{K:PySem.W.Frag}:ql K (fun xs H Q=>(∃i,xs=[.int i]∧Q (.int i) H)∨∃k,xs=[.bl k]∧Q (.int (if k then 1 else 0)) H) Qm.tW:=by
 intro ρ c H ds d c' vs Q rs ra e k
 obtain⟨x,rfl,e'⟩:=oX e
 obtain⟨v,rfl,rx⟩:=ra.kW
 split at e'
 ·cases e'
  cases rx.fX
  exact .inl ⟨_,rfl,k ρ _ H (Nx.refl rs) (.int _)⟩
 ·cases e'
  cases rx.nX
  exact .inr ⟨_,rfl,k ρ _ H (Nx.refl rs) (.int _)⟩
 ·cases e'
theorem Ni{f:Int→Int→Option Qm.D}{x y d:Qm.D}{c c':Qm.Cells}(h:Qm.ii f x y c=some (d,c')):∃i j,x= .int i∧y= .int j∧f i j=some d∧c'=c:=by
 obtain⟨i,e1,e⟩:=aM h
 obtain⟨j,e2,e⟩:=aM e
 obtain⟨z,e3,e⟩:=aM e
 cases e
 exact⟨i,j,gk e1,gk e2,e3,rfl⟩
theorem Gj{K:PySem.W.Frag}:ql K (fun xs H Q=>∃i j,xs=[.int i,.int j]∧Q (.int (if j > i then j else i)) H) Qm.qi:=by
 intro ρ c H ds d c' vs Q rs ra e k
 obtain⟨x,y,rfl,e⟩:=Cm e
 obtain⟨v,u,rfl,rx,ry⟩:=ra.oU
 obtain⟨i,j,rfl,rfl,e,rfl⟩:=Ni e
 cases e
 cases rx.fX;cases ry.fX
 exact⟨i,j,rfl,k ρ _ H (Nx.refl rs) (.int _)⟩
theorem vT{K:PySem.W.Frag}:ql K (fun xs H Q=>∃p ys,xs=[.ref p]∧((dI K H p ys∧∀l,H l=none→Q (.ref l) (upd H l (.tup ys)))∨(bJ K H p ys∧Q (.ref p) H))) Qm.oR:=by
 intro ρ c H ds d c' vs Q rs ra e k
 obtain⟨x,rfl,e⟩:=oX e
 obtain⟨v,rfl,rx⟩:=ra.kW
 obtain⟨xs,e1,e⟩:=aM e
 cases e
 obtain⟨p,ws,rfl,h,a⟩:=rs.seq rx e1
 refine⟨p,ws,rfl,?_⟩
 rcases h with h|h
 ·refine .inl ⟨h,fun l hl=>?_⟩
  have n:=Nx.same rs (fW (z:=.tup ws) hl)
  exact k ρ _ _ n (.tup du (a.up n.up))
 ·exact .inr ⟨bJ.of h,k ρ _ H (Nx.refl rs) (.tup h a)⟩
end
end L2
namespace L2
open PySem PySem.Spec PyProof.Rows
section
variable{X:Cx}{a b e tg:Expr}{es:List Expr}{fa fb fc fe:Qm.XE}{ft fu:Qm.XT}{pos:Pos}{st:Stmt}{rest:List Stmt}{fs fr:Qm.XS}{fg:Qm.XG}
theorem aX:vt X [] Qm.br:=E6.imp <| by
 rintro D σ H ⟨ρ,env,c,fl,cu,c',rs,re,e,k⟩
 cases e
 exact k ρ H (Nx.refl rs) σ re
theorem ao(h1:QS X st fs)(h2:vt X rest fr):vt X (st::rest) (Qm.au fs fr):=(Dd h1 h2).imp <| by
 rintro D σ H ⟨ρ,env,c,fl,cu,c',rs,re,e,k⟩
 obtain⟨p,e1,e⟩:=aM e
 obtain⟨f,e2,c2⟩:=p
 cases f with
 |nx=>exact⟨ρ,env,c,.nx,e2,c2,rs,re,e1,fun aS H1 n1 σ1 rX=>⟨aS,e2,c2,fl,cu,c',n1.rs,rX,e,fun aW H' n=>k aW H' (n1.trans n)⟩⟩
 |rt d=>cases e;exact⟨ρ,env,c,.rt d,cu,c',rs,re,e1,fun aS H1 n1=>k aS H1 n1⟩
 |bk=>cases e;exact⟨ρ,env,c,.bk,cu,c',rs,re,e1,fun aS H1 n1=>k aS H1 n1⟩
 |ct=>cases e;exact⟨ρ,env,c,.ct,cu,c',rs,re,e1,fun aS H1 n1=>k aS H1 n1⟩
theorem aw(h1:QS X st fs):vt X [st] fs:=E7 h1
theorem yZ(he:QE X e fe)(hs:swapsWith e none pos.line X.env=pure false:=by rfl):QS X (.Expr e pos) (Qm.nW fe):=(E8 he hs).imp <| by
 rintro D σ H ⟨ρ,env,c,fl,cu,c',rs,re,e,k⟩
 obtain⟨p,e1,e⟩:=aM e
 cases e
 exact⟨ρ,env,c,p.1,p.2,rs,re,e1,fun aS v H1 n1 _=>k aS H1 n1 σ (re.up n1.up)⟩
theorem aH(he:QE X e fe):QS X (.Return (some e) pos) (Qm.aT fe):=(IU he).imp <| by
 rintro D σ H ⟨ρ,env,c,fl,cu,c',rs,re,e,k⟩
 obtain⟨p,e1,e⟩:=aM e
 cases e
 exact⟨ρ,env,c,p.1,p.2,rs,re,e1,fun aS v H1 n1 r1=>k aS H1 n1 v r1⟩
theorem bS{c0:Expr}{x y:List Stmt}(hc:QT X c0 ft)(ha:vt X x fs)(hb:vt X y fr):QS X (.If c0 x y pos) (Qm.cH ft fs fr):=(Ml hc ha hb).imp <| by
 rintro D σ H ⟨ρ,env,c,fl,cu,c',rs,re,e,k⟩
 obtain⟨p,e1,e⟩:=aM e
 refine⟨ρ,env,c,p.1,p.2,rs,re,e1,fun aS H1 n1=>?_⟩
 split at e
 ·rename_i hi
  rw[if_pos hi]
  exact⟨aS,env,p.2,fl,cu,c',n1.rs,re.up n1.up,e,fun aW H' n=>k aW H' (n1.trans n)⟩
 ·rename_i hi
  rw[if_neg hi]
  exact⟨aS,env,p.2,fl,cu,c',n1.rs,re.up n1.up,e,fun aW H' n=>k aW H' (n1.trans n)⟩
theorem j9{i:Nat}{x:Str}{pos':Pos}(hN:X.N.Nodup)(hi:X.N[i]? =some x)(hx:Loc X.env.scope x)(he:QE X e fe)(hs:swapsWith e (some (.Name x pos')) pos.line X.env=pure false:=by rfl)(hf:X.fn x=true∨X.env.scope.names.lookup x=some .local:=by first|exact .inl rfl|exact .inr rfl|assumption):
  QS X (.Assign [.Name x pos'] e pos) (Qm.az i fe):=(IY hN hi hx he hs hf).imp <| by
 rintro D σ H ⟨ρ,env,c,fl,cu,c',rs,re,e,k⟩
 obtain⟨p,e1,e⟩:=aM e
 cases e
 exact⟨ρ,env,c,p.1,p.2,rs,re,e1,fun aS v H1 n1 r1=>k aS H1 n1 _ ((re.up n1.up).set r1)⟩
theorem xq(he:QE X e fe)(hg:QG X tg fg)(hs:swapsWithSole [tg] e pos.line X.env=pure false:=by rfl)(hw:swappedStores [tg] e X.env=pure none:=by rfl)
  (h1:(assignEach [tg] X.env).map (·.2)=[assign tg X.env]:=by rfl):QS X (.Assign [tg] e pos) (Qm.tR fe fg):=(IX he hg hs hw h1).imp <| by
 rintro D σ H ⟨ρ,env,c,fl,cu,c',rs,re,e,k⟩
 obtain⟨p,e1,e⟩:=aM e
 obtain⟨q,e2,e⟩:=aM e
 cases e
 exact⟨ρ,env,c,p.1,p.2,rs,re,e1,fun aS v H1 n1 r1=>⟨aS,env,p.2,p.1,q.1,q.2,n1.rs,re.up n1.up,r1,e2,fun aW H' σ' n Nj=>k aW H' (n1.trans n) σ' Nj⟩⟩
theorem y4{i j:Nat}{x y:Str}{f:Qm.XA}{px py pt:Pos}{kt k2 nJ}(hc:X.calm=true)(hN:X.N.Nodup)(hi:X.N[i]? =some x)(hj:X.N[j]? =some y)(nK:i≠j)
  (hx:X.env.scope.names.lookup x=some .local)(hy:X.env.scope.names.lookup y=some .local)(ha:QA X [a,b] f)
  (hw:swappedStores [.Tuple [.Name x px,.Name y py] kt pt] (.Tuple [a,b] k2 nJ) X.env=pure (some [x,y]))
  (hs:swapsWithSole [.Tuple [.Name x px,.Name y py] kt pt] (.Tuple [a,b] k2 nJ) pos.line X.env=pure false:=by rfl):
  QS X (.Assign [.Tuple [.Name x px,.Name y py] kt pt] (.Tuple [a,b] k2 nJ) pos) (Qm.mQ [i,j] f):=(IZ hc hN hi hj nK hx hy ha hw hs).imp <| by
 rintro D σ H ⟨ρ,env,c,fl,cu,c',rs,re,e,k⟩
 obtain⟨p,e1,e⟩:=aM e
 split at e
 ·rename_i hl
  cases e
  refine⟨ρ,env,c,p.1,p.2,rs,re,e1,fun aS vs H1 n1 r1=>?_⟩
  obtain⟨ds,c2⟩:=p
  match ds,hl,r1 with
  |[d1,d2],_,r1=>
   obtain⟨v,u,rfl,ra,rb⟩:=r1.oU
   exact⟨v,u,rfl,k aS H1 n1 _ (((re.up n1.up).set ra).set rb)⟩
 ·cases e
theorem y7{i j l:Nat}{x y z:Str}{d0:Expr}{f:Qm.XA}{px py pz pt:Pos}{kt k2 nJ}(hc:X.calm=true)(hN:X.N.Nodup)(hi:X.N[i]? =some x)(hj:X.N[j]? =some y)(hk:X.N[l]? =some z)(nK:i≠j)(M_:i≠l)(j5:j≠l)
  (hx:X.env.scope.names.lookup x=some .local)(hy:X.env.scope.names.lookup y=some .local)(hz:X.env.scope.names.lookup z=some .local)(ha:QA X [a,b,d0] f)
  (hw:swappedStores [.Tuple [.Name x px,.Name y py,.Name z pz] kt pt] (.Tuple [a,b,d0] k2 nJ) X.env=pure (some [x,y,z]))
  (hs:swapsWithSole [.Tuple [.Name x px,.Name y py,.Name z pz] kt pt] (.Tuple [a,b,d0] k2 nJ) pos.line X.env=pure false:=by rfl):
  QS X (.Assign [.Tuple [.Name x px,.Name y py,.Name z pz] kt pt] (.Tuple [a,b,d0] k2 nJ) pos) (Qm.mQ [i,j,l] f):=(F5 hc hN hi hj hk nK M_ j5 hx hy hz ha hw hs).imp <| by
 rintro D σ H ⟨ρ,env,c,fl,cu,c',rs,re,e,k⟩
 obtain⟨p,e1,e⟩:=aM e
 split at e
 ·rename_i hl
  cases e
  refine⟨ρ,env,c,p.1,p.2,rs,re,e1,fun aS vs H1 n1 r1=>?_⟩
  obtain⟨ds,c2⟩:=p
  match ds,hl,r1 with
  |[d1,d2,d3],_,.cons ra r2=>
   obtain⟨v,u,rfl,rb,rc⟩:=r2.oU
   exact⟨_,v,u,rfl,k aS H1 n1 _ ((((re.up n1.up).set ra).set rb).set rc)⟩
 ·cases e
theorem jL{i:Nat}{x:Str}(hN:X.N.Nodup)(hi:X.N[i]? =some x)(hx:Loc X.env.scope x)(hf:X.fn x=true∨X.env.scope.names.lookup x=some .local:=by first|exact .inl rfl|exact .inr rfl|assumption):QG X (.Name x pos) (Qm.aD i):=(yo hN hi hx hf).imp <| by
 rintro v σ H Q ⟨ρ,env,c,d,cu,c',rs,re,rd,e,k⟩
 cases e
 exact k ρ H _ (Nx.refl rs) (re.set rd)
theorem y8:Gb X [] Qm.ou:=E_.imp <| by
 rintro vs σ H Q ⟨ρ,env,c,ds,cu,c',rs,re,ra,e,k⟩
 unfold Qm.ou at e
 split at e
 ·cases e
  exact⟨ra.Qu,k ρ H σ (Nx.refl rs) re⟩
 ·cases e
theorem iC{y9:Qm.rV}(h1:QG X e fg)(h2:Gb X es y9)(hs:(assignEach (e::es) X.env).map (·.2)=assign e X.env::(assignEach es X.env).map (·.2):=by rfl):Gb X (e::es) (Qm.eS fg y9):=(De h1 h2 hs).imp <| by
 rintro vs σ H Q ⟨ρ,env,c,ds,cu,c',rs,re,ra,e,k⟩
 unfold Qm.eS at e
 split at e
 ·rename_i d t
  obtain⟨p,e1,e⟩:=aM e
  cases ra with
  |cons r1 r2=>
   exact⟨_,_,rfl,ρ,env,c,d,p.1,p.2,rs,re,r1,e1,fun aS H1 σ1 n1 rX=>⟨aS,p.1,p.2,t,cu,c',n1.rs,rX,r2.up n1.up,e,fun aW H' σ' n Nj=>k aW H' σ' (n1.trans n) Nj⟩⟩
 ·cases e
theorem JU{k0:Nat}{y9:Qm.rV}{n:Nat}(hc:X.calm=true)(h:Gb X es y9)(hn:(assignEach es X.env).length=n:=by rfl)(gd:(assignEach es X.env).findIdx? (·.1)=none:=by rfl):QG X (.Tuple es k0 pos) (Qm.sY n y9):=(IV hc h hn gd).imp <| by
 rintro v σ H Q ⟨ρ,env,c,d,cu,c',rs,re,rd,e,k⟩
 unfold Qm.sY at e
 split at e
 ·rename_i xs
  split at e
  ·rename_i hl
   obtain⟨p,vs,rfl,h1,a1⟩:=rd.eU
   exact⟨p,vs,rfl,bJ.of h1,by rw[←a1.length];exact hl,ρ,env,c,xs,cu,c',rs,re,a1,e,k⟩
  ·cases e
 ·cases e
theorem JV{o i:Expr}{fo fi:Qm.XE}(ho:QE X o fo)(hi:QE X i fi)
  (ha:∀v,assign (.Subscript o i pos) X.env v=(do
   let ov ←holding [v] (eval o X.env)
   let iv ←holding [v,ov] (eval i X.env)
   standAt pos
   holding [v,ov,iv] (setItem ov iv v)
   release [v,ov,iv] []):=by intro _;rfl):QG X (.Subscript o i pos) (Qm.Ce fo fi):=(IW ho hi set_list ha).imp <| by
 rintro v σ H Q ⟨ρ,env,c,d,cu,c',rs,re,rd,e,k⟩
 obtain⟨p,e1,e⟩:=aM e
 obtain⟨q,e2,e⟩:=aM e
 obtain⟨l,e3,e⟩:=aM e
 obtain⟨m,e4,e⟩:=aM e
 obtain⟨j,e5,e⟩:=aM e
 cases e
 refine⟨ρ,env,c,p.1,p.2,rs,re,e1,fun aS v1 H1 n1 r1=>⟨aS,env,p.2,q.1,q.2,n1.rs,re.up n1.up,e2,fun mH v2 H2 n2 r2=>?_⟩⟩
 rw[gk e4]at r2
 cases r2.fX
 obtain⟨_,hn,ws,rfl,h,a⟩:=n2.rs.cp (r1.up n2.up) e3
 have n:=Nx.put n2.rs hn (RA.set (rd.up (n1.trans n2).up) j a)
 refine⟨_,ws,m,j,rfl,rfl,h,by rw[←a.length];exact e5,?_⟩
 exact k mH _ σ (n1.trans (n2.trans n)) (re.up (n1.trans (n2.trans n)).up)
theorem Cn(h:QE X e fe):QI X tg e (Qm.mN fe):=(I9 h).imp <| by
 rintro σ H R ⟨ρ,env,c,m,c',rs,re,e,k⟩
 obtain⟨p,e1,e⟩:=aM e
 refine⟨ρ,env,c,p.1,p.2,rs,re,e1,fun aS v H1 n1 r1=>?_⟩
 split at e
 ·rename_i xs hx
  cases e
  rw[hx]at r1
  obtain⟨q,vs,rfl,h1,a1⟩:=r1.eU
  refine⟨q,rfl,⟨vs,bJ.of h1⟩,k aS _ H1 n1 fun mH c2 H2 u2 JW _=>?_⟩
  have h2:=u2.ts _ _ h1
  have a2:=a1.up u2
  refine⟨fun i hi=>⟨vs,vs[i]'(by rw[←a1.length];exact hi),bJ.of h2,List.getElem?_eq_getElem _⟩,⟨vs,bJ.of h2,by rw[a1.length];exact Nat.le_refl _⟩,fun i d x H' hd hy=>?_⟩
  obtain⟨rfl,hy⟩:=hy
  obtain⟨v,hv,rv⟩:=a2.get hd
  have:=hy vs (bJ.of h2)
  rw[hv]at this;cases this
  exact⟨Nx.refl JW,rv⟩
 ·cases e
theorem mR{K:PySem.W.Frag}{ρ:Nat→Addr}{c:Qm.Cells}{H:Hp}(rs:RS K ρ c H){n:Nat}{z:Qm.Cell}{c0:Qm.Cells}{xs:List Qm.D}(h0:c0[n]? =some z)(h1:Qm.cf (.ref n) c0=some xs)(h:c[n]? =some z):∃vs,dI K H (ρ n) vs∧RA K ρ c.length H xs vs:=by
 have hn:n<c.length:=(List.getElem?_eq_some_iff.mp h).1
 have e:Qm.cf (.ref n) c=some xs:=by
  unfold Qm.cf at h1 ⊢
  dsimp only at h1 ⊢
  rw[h0]at h1;rw[h];exact h1
 obtain⟨vs,_,h2,h3⟩:=rs.Ci (.ref hn) e
 exact⟨vs,h2,h3⟩
theorem t6(h:QE X e fe):QI X tg e (Qm.ij fe):=(Ff h).imp <| by
 rintro σ H R ⟨ρ,env,c,m,c',rs,re,e,k⟩
 obtain⟨p,e1,e⟩:=aM e
 refine⟨ρ,env,c,p.1,p.2,rs,re,e1,fun aS v H1 n1 r1=>?_⟩
 split at e
 ·rename_i n hx
  obtain⟨z,e2,e⟩:=aM e
  obtain⟨xs,e3,e⟩:=aM e
  cases e
  rw[hx]at r1
  obtain⟨hv,hn⟩:=r1.yV
  subst hv
  obtain⟨vs,h1,a1⟩:=mR n1.rs e2 e3 e2
  refine⟨_,rfl,⟨vs,h1⟩,k aS _ H1 n1 fun mH c2 H2 u2 JW qe=>?_⟩
  obtain⟨ws,h2,a2⟩:=mR JW e2 e3 (qe (n,z) (by simp))
  rw[u2.agree n hn]at h2
  refine⟨fun i hi=>⟨ws,ws[i]'(by rw[←a2.length];exact hi),h2,List.getElem?_eq_getElem _⟩,⟨ws,h2,by rw[a2.length];exact Nat.le_refl _⟩,fun i d x H' hd hy=>?_⟩
  obtain⟨rfl,hy⟩:=hy
  obtain⟨v,hv,rv⟩:=a2.get hd
  have:=hy ws h2
  rw[hv]at this;cases this
  exact⟨Nx.refl JW,rv⟩
 ·cases e
theorem Gk{lo:Int}{n i:Nat}{d:Qm.D}(h:(Qm.cM lo n)[i]? =some d):i<n∧d= .int (lo+i):=by
 unfold Qm.cM at h
 rw[List.getElem?_map]at h
 by_cases hi:i<n
 ·rw[List.getElem?_range hi]at h
  cases h
  exact⟨hi,rfl⟩
 ·rw[List.getElem?_eq_none_iff.mpr (by simpa using Nat.le_of_not_lt hi)]at h
  cases h
theorem Co{K:PySem.W.Frag}{ρ:Nat→Addr}{N:Nat}{H:Hp}{lo:Int}{n:Nat}:LO K ρ N H ⟨Qm.cM lo n,[]⟩ (Fe lo n):=fun ρ c H u rs _=>by
 have hl:(Qm.cM lo n).length=n:=by simp[Qm.cM]
 refine⟨fun i hi=>by show i<n;rw[←hl];exact hi,by show n≤(Qm.cM lo n).length;omega,fun i d x H' hd hy=>?_⟩
 obtain⟨rfl,rfl⟩:=hy
 obtain⟨_,rfl⟩:=Gk hd
 exact⟨Nx.refl rs,.int _⟩
theorem fT{f:Qm.XA}{p:Pos}(hg:Gl X "range")(hm:X.mg "range" =none)(ha:QA X [a] f)(hs:starEach [a] X.env=[(false,eval a X.env)]:=by rfl):QI X tg (.Call (.Name "range" p) [a] [] pos) (Qm.b_ f):=(AM hg hm ha hs).imp <| by
 rintro σ H R ⟨ρ,env,c,m,c',rs,re,e,k⟩
 obtain⟨p,e1,e⟩:=aM e
 refine⟨ρ,env,c,p.1,p.2,rs,re,e1,fun aS vs H1 n1 r1=>?_⟩
 split at e
 ·rename_i j hj
  split at e
  ·rename_i hb
   cases e
   rw[hj]at r1
   obtain⟨v,rfl,rv⟩:=r1.kW
   cases rv.fX
   exact⟨j,rfl,hb.1,hb.2,k aS _ H1 n1 Co⟩
  ·cases e
 ·cases e
theorem t7{f:Qm.XA}{p:Pos}(hg:Gl X "range")(hm:X.mg "range" =none)(ha:QA X [a,b] f)(hs:starEach [a,b] X.env=[(false,eval a X.env),(false,eval b X.env)]:=by rfl)(mF:starEach [b] X.env=[(false,eval b X.env)]:=by rfl):QI X tg (.Call (.Name "range" p) [a,b] [] pos) (Qm.hZ f):=(AN hg hm ha hs mF).imp <| by
 rintro σ H R ⟨ρ,env,c,m,c',rs,re,e,k⟩
 obtain⟨p,e1,e⟩:=aM e
 refine⟨ρ,env,c,p.1,p.2,rs,re,e1,fun aS vs H1 n1 r1=>?_⟩
 split at e
 ·rename_i i j hj
  split at e
  ·rename_i hb
   cases e
   rw[hj]at r1
   obtain⟨v,u,rfl,rv,ru⟩:=r1.oU
   cases rv.fX;cases ru.fX
   exact⟨i,j,rfl,⟨hb.1.1,hb.1.2,hb.2.1,hb.2.2⟩,k aS _ H1 n1 Co⟩
  ·cases e
 ·cases e
theorem iq{body:List Stmt}{fi:Qm.XI}(hp:PassesOwn (model X.prog X.w) X.A X.env X.xe)(hc:X.calm=true)(hi:QI X tg e fi)(hg:QG X tg fg)(hb:vt X body fs)
  (hs:∀x,foldedSetIterable e X.env x=pure x:=by intro _;rfl):QS X (.For tg e body [] pos) (Qm.cR fi fg fs):=(I_ hp hc hi hg hb hs).imp <| by
 rintro D σ H ⟨ρ,env,c,fl,cu,c',rs,re,e,k⟩
 obtain⟨m,e1,e⟩:=aM e
 refine⟨ρ,env,c,m.1,m.2,rs,re,e1,fun Ba J H0 n0 it=>?_⟩
 refine⟨fun i q σ' H'=>q=m.1.ds.length - i∧i≤m.1.ds.length∧∃aS eP c1,Nx X.K Ba m.2 H0 aS c1 H'∧RE X.K aS c1.length H' eP σ'∧Qm.d_ m.1.ks fg fs (m.1.ds.drop i) eP c1=some (fl,cu,c'),⟨_,rfl,Nat.zero_le _,Ba,env,m.2,Nx.refl n0.rs,re.up n0.up,e⟩,?_⟩
 rintro i q σ1 H1 ⟨rfl,hi,aS,eP,c1,n1,rX,e1⟩
 by_cases eQ:i<m.1.ds.length
 ·rw[List.drop_eq_getElem_cons eQ]at e1
  unfold Qm.d_ at e1
  split at e1
  ·rename_i gd
   obtain⟨go,_,yl⟩:=it aS c1 H1 n1.up n1.rs gd
   obtain⟨p,e2,e1⟩:=aM e1
   obtain⟨q,e3,e1⟩:=aM e1
   refine .inr ⟨go i eQ,fun σ' H'=>i+1≤m.1.ds.length∧∃aS eP c1,Nx X.K Ba m.2 H0 aS c1 H'∧RE X.K aS c1.length H' eP σ'∧Qm.d_ m.1.ks fg fs (m.1.ds.drop (i+1)) eP c1=some (fl,cu,c'),fun σ' H' h=>⟨m.1.ds.length - (i+1),by omega,rfl,h⟩,fun x H2 hy=>?_⟩
   obtain⟨n2,r2⟩:=yl i _ x H2 (List.getElem?_eq_getElem eQ) hy
   refine⟨aS,eP,c1,_,p.1,p.2,n2.rs,rX.up n2.up,r2,e2,fun Bb H3 qc n3 DF=>?_⟩
   obtain⟨f,t8,c4⟩:=q
   refine⟨Bb,p.1,p.2,f,t8,c4,n3.rs,DF,e3,fun oW H4 n4=>?_⟩
   have nn:=n1.trans (n2.trans (n3.trans n4))
   cases f with
   |nx=>exact fun Bc t9=>⟨eQ,oW,t8,c4,nn,t9,e1⟩
   |ct=>exact fun Bc t9=>⟨eQ,oW,t8,c4,nn,t9,e1⟩
   |bk=>cases e1;exact fun Bc t9=>k oW H4 (n0.trans nn) Bc t9
   |rt d=>cases e1;exact fun v rv=>k oW H4 (n0.trans nn) v rv
  ·cases e1
 ·have xr:i=m.1.ds.length:=by omega
  subst xr
  rw[List.drop_length]at e1
  unfold Qm.d_ at e1
  split at e1
  ·rename_i gd
   obtain⟨_,stop,_⟩:=it aS c1 H1 n1.up n1.rs gd
   cases e1
   exact .inl ⟨stop,k aS H1 (n0.trans n1) σ1 rX⟩
  ·cases e1
theorem vU{c0:Expr}{body:List Stmt}(hp:PassesOwn (model X.prog X.w) X.A X.env X.xe)(hc:QT X c0 ft)(hb:vt X body fs):QS X (.While c0 body [] pos) (Qm.fR ft fs):=(Df hp hc hb).imp <| by
 rintro D σ H ⟨ρ,env,c,fl,cu,c',rs,re,e,k⟩
 obtain⟨n,e⟩:=Qm.tY e
 refine⟨fun q σ' H'=>∃aS eP c1,Nx X.K ρ c H aS c1 H'∧RE X.K aS c1.length H' eP σ'∧Qm.gZ ft fs q eP c1=some (fl,cu,c'),⟨n,ρ,env,c,Nx.refl rs,re,e⟩,?_⟩
 rintro q σ1 H1 ⟨aS,eP,c1,n1,rX,e1⟩
 cases q with
 |zero=>simp[Qm.gZ]at e1
 |succ q=>
  simp only[Qm.gZ]at e1
  obtain⟨p,e2,e1⟩:=aM e1
  refine⟨aS,eP,c1,p.1,p.2,n1.rs,rX,e2,fun mH H2 n2=>?_⟩
  split at e1
  ·rename_i hi
   rw[if_pos hi]
   obtain⟨r,e3,e1⟩:=aM e1
   refine⟨fun σ' H'=>∃aS eP c1,Nx X.K ρ c H aS c1 H'∧RE X.K aS c1.length H' eP σ'∧Qm.gZ ft fs q eP c1=some (fl,cu,c'),fun σ' H' h=>⟨q,Nat.lt_succ_self _,h⟩,?_⟩
   obtain⟨f,t8,c4⟩:=r
   refine⟨mH,eP,p.2,f,t8,c4,n2.rs,rX.up n2.up,e3,fun oW H4 n4=>?_⟩
   have nn:=n1.trans (n2.trans n4)
   cases f with
   |nx=>exact fun Bc t9=>⟨oW,t8,c4,nn,t9,e1⟩
   |ct=>exact fun Bc t9=>⟨oW,t8,c4,nn,t9,e1⟩
   |bk=>cases e1;exact fun Bc t9=>k oW H4 nn Bc t9
   |rt d=>cases e1;exact fun v rv=>k oW H4 nn v rv
  ·rename_i hi
   rw[if_neg hi]
   cases e1
   exact k mH H2 (n1.trans n2) σ1 (rX.up n2.up)
theorem j_:Cj X [] Qm.gY:=Dw.imp <| by
 rintro σ H Q ⟨ρ,env,c,b,c',rs,re,e,k⟩
 cases e
 exact k ρ H (Nx.refl rs)
theorem DG{c0:Expr}(h:QT X c0 ft):Cj X [c0] ft:=F0 h
theorem RE.rT{K:PySem.W.Frag}{ρ:Nat→Addr}{N:Nat}{H:Hp}{env:Qm.Env}{σ:St}(re:RE K ρ N H env σ)(cap:List (Option Nat)):RE K ρ N H (Qm.kn env cap) (rT σ cap):=by
 refine⟨by simp[Qm.kn,L2.rT],fun j d h=>?_⟩
 unfold Qm.kn at h
 unfold L2.rT
 rw[List.getElem?_map]at h ⊢
 cases e:cap[j]? with
 |none=>rw[e]at h;cases h
 |some o=>
  rw[e]at h
  cases o with
  |none=>simp at h
  |some i=>
   simp only[Option.map_some,Option.some.injEq]at h
   cases e2:env[i]? with
   |none=>rw[e2]at h;cases h
   |some w=>
    rw[e2]at h
    have h':w=some d:=h
    subst h'
    obtain⟨v,h1,h2⟩:=re.at_ i d e2
    refine⟨v,?_,h2⟩
    simp[h1]
theorem y_{K:PySem.W.Frag}{fi:Qm.XI}{cap:List (Option Nat)}{σ:St}{H:Hp}{Q:VK}(h:TQ K (Qm.dD fi cap fg ft fe) σ H Q):A9 (IQ K fi) cap (GQ K fg) (BQ K ft) (TQ K fe) σ H Q:=by
 obtain⟨ρ,env,c,d,c',rs,re,e,k⟩:=h
 obtain⟨m,e1,e⟩:=aM e
 obtain⟨cz,e2,e⟩:=aM e
 cases e
 refine⟨ρ,env,c,m.1,m.2,rs,re,e1,fun Ba J H0 n0 it l hl=>?_⟩
 obtain⟨na,ra⟩:=Nx.alloc n0.rs hl (ds:=[]) (vs:=[]) .nil
 generalize Tc:(fun n=>if n=m.2.length then l else Ba n)=Gm at na ra
 have hL:Gm m.2.length=l:=by rw[←Tc];simp
 have hlen:(m.2++[Qm.Cell.lst []]).length=m.2.length+1:=by simp
 have fin:∀{aS:Nat→Addr}{c1:Qm.Cells}{H1:Hp},Nx K Gm (m.2++[.lst []]) (upd H0 l (.lst [])) aS c1 H1→aS m.2.length=l:=fun n=>by rw[n.up.agree _ (by rw[hlen];omega),hL]
 refine⟨fun i q τ H'=>q=m.1.ds.length - i∧i≤m.1.ds.length∧∃aS eP c1,Nx K Gm (m.2++[.lst []]) (upd H0 l (.lst [])) aS c1 H'∧RE K aS c1.length H' eP τ∧Qm.cY m.2.length m.1.ks fg ft fe (m.1.ds.drop i) eP c1=some c',
  ⟨_,rfl,Nat.zero_le _,Gm,_,_,Nx.refl na.rs,((re.up n0.up).up na.up).rT cap,e2⟩,?_⟩
 rintro i q τ H1 ⟨rfl,hi,aS,eP,c1,n1,rX,e1⟩
 have Qz:=it aS c1 H1 (na.up.trans n1.up) n1.rs
 by_cases eQ:i<m.1.ds.length
 ·rw[List.drop_eq_getElem_cons eQ]at e1
  unfold Qm.cY at e1
  split at e1
  ·rename_i gd
   obtain⟨go,_,yl⟩:=Qz gd
   obtain⟨p,e2,e1⟩:=aM e1
   obtain⟨b,e3,e1⟩:=aM e1
   refine .inr ⟨go i eQ,fun τ H'=>i+1≤m.1.ds.length∧∃aS eP c1,Nx K Gm (m.2++[.lst []]) (upd H0 l (.lst [])) aS c1 H'∧RE K aS c1.length H' eP τ∧Qm.cY m.2.length m.1.ks fg ft fe (m.1.ds.drop (i+1)) eP c1=some c',fun σ' H' h=>⟨m.1.ds.length - (i+1),by omega,rfl,h⟩,fun x H2 hy=>?_⟩
   obtain⟨n2,r2⟩:=yl i _ x H2 (List.getElem?_eq_getElem eQ) hy
   refine⟨aS,eP,c1,_,p.1,p.2,n2.rs,rX.up n2.up,r2,e2,fun Bb H3 qc n3 DF=>?_⟩
   refine⟨Bb,p.1,p.2,b.1,b.2,n3.rs,DF,e3,fun oW H4 n4=>?_⟩
   have nn:=n1.trans (n2.trans (n3.trans n4))
   split at e1
   ·rename_i hb
    dsimp only
    rw[if_pos hb]
    obtain⟨y,e4,e1⟩:=aM e1
    refine⟨oW,p.1,b.2,y.1,y.2,n4.rs,DF.up n4.up,e4,fun Nh yv H5 n5 r5=>?_⟩
    have Gn:=nn.trans n5
    split at e1
    ·rename_i ys QB
     split at e1
     ·rename_i hz
      obtain⟨vs,h5,a5⟩:=Gn.rs.lst QB
      rw[fin Gn]at h5
      have n6:=Nx.put Gn.rs QB (a5.append (RA.one r5))
      rw[fin Gn]at n6
      refine⟨vs,h5,yT (by rw[←a5.length];exact hz),eQ,Nh,p.1,_,Gn.trans n6,(DF.up (n4.trans (n5.trans n6)).up),e1⟩
     ·cases e1
    ·cases e1
   ·rename_i hb
    dsimp only
    rw[if_neg hb]
    exact⟨eQ,oW,p.1,b.2,nn,DF.up n4.up,e1⟩
  ·cases e1
 ·have xr:i=m.1.ds.length:=by omega
  subst xr
  rw[List.drop_length]at e1
  unfold Qm.cY at e1
  split at e1
  ·rename_i gd
   obtain⟨_,stop,_⟩:=Qz gd
   cases e1
   refine .inl ⟨stop,k aS _ H1 (n0.trans (na.trans n1)) ?_⟩
   rw[←fin n1]
   exact .ref (Nat.lt_of_lt_of_le (by rw[hlen];omega) n1.up.len)
  ·cases e1
theorem t_{tg:Expr}{scope:Scope}{N':List Str}{cap:List (Option Nat)}{ifs:List Expr}{fi:Qm.XI}(B:nT X scope N' cap)(hc:X.calm=true)
  (hi:QI X tg b fi)(hg:∀C bp cJ fp,QG (X.h_ scope C N' bp cJ fp) tg fg)(ht:∀C bp cJ fp,Cj (X.h_ scope C N' bp cJ fp) ifs ft)(he:∀C bp cJ fp,QE (X.h_ scope C N' bp cJ fp) e fe)
  (hs:∀x,foldedSetIterable b X.env x=pure x:=by intro _;rfl):
  QE X (.ListComp e [⟨tg,b,ifs,0⟩] scope pos) (Qm.dD fi cap fg ft fe):=(F3 B hc hi hg ht he hs).imp fun _ _ _ h=>y_ h
theorem zd{i:Nat}{tg:Expr}{y:Str}{py yQ:Pos}{scope:Scope}{N':List Str}{cap:List (Option Nat)}{ifs:List Expr}{fi:Qm.XI}(B:nT X scope N' cap)(hc:X.calm=true)
  (hi:QI X tg b fi)(hg:∀C bp cJ fp,QG (X.h_ scope C N' bp cJ fp) tg fg)(ht:∀C bp cJ fp,Cj (X.h_ scope C N' bp cJ fp) ifs ft)(he:∀C bp cJ fp,QE (X.h_ scope C N' bp cJ fp) e fe)
  (hN:X.N.Nodup)(Dx:X.N[i]? =some y)(hy:Loc X.env.scope y)(M7:swapsWith (.ListComp e [⟨tg,b,ifs,0⟩] scope pos) (some (.Name y py)) yQ.line X.env=pure true)
  (hf:X.fn y=true∨X.env.scope.names.lookup y=some .local:=by first|exact .inl rfl|exact .inr rfl|assumption)
  (hs:∀x,foldedSetIterable b X.env x=pure x:=by intro _;rfl):
  QS X (.Assign [.Name y py] (.ListComp e [⟨tg,b,ifs,0⟩] scope pos) yQ) (Qm.az i (Qm.dD fi cap fg ft fe)):=(F4 B hc hi hg ht he hN Dx hy M7 hf hs).imp <| by
 rintro D σ H ⟨ρ,env,c,fl,cu,c',rs,re,e,k⟩
 obtain⟨p,e1,e⟩:=aM e
 cases e
 exact y_ ⟨ρ,env,c,p.1,p.2,rs,re,e1,fun aS v H1 n1 r1=>k aS H1 n1 _ ((re.up n1.up).set r1)⟩
theorem ma{K:PySem.W.Frag}{n:Nat}{N:List Str}{B:Qm.XS}{vs:List V}{H:Hp}{Q:VK}{E:XK}(hn:n≤N.length)(h:dr K (Qm.eF n N.length B) vs H Q E):vs.length=n∧SQ K B { nx:=fun _ H'=>Q .bC H',rt:=Q } (start N vs) H:=by
 obtain⟨ρ,c,ds,d,c',rs,ra,e,k⟩:=h
 unfold Qm.eF at e
 split at e
 ·rename_i hl
  obtain⟨p,e1,e⟩:=aM e
  obtain⟨f,cu,c2⟩:=p
  have hv:vs.length=n:=by rw[←ra.length];exact hl
  refine⟨hv,ρ,_,c,f,cu,c2,rs,⟨?_,fun i d hd=>?_⟩,e1,fun aW H' nx=>?_⟩
  ·simp[start,hl,hv]
  ·have hi:i<ds.length:=by
    by_cases hi:i<ds.length
    ·exact hi
    ·exfalso
     rw[List.getElem?_append_right (by simp;omega)]at hd
     have:=List.mem_of_getElem? hd
     have:=List.eq_of_mem_replicate this
     cases this
   rw[List.getElem?_append_left (by simpa using hi),List.getElem?_map]at hd
   cases e:ds[i]? with
   |none=>rw[e]at hd;cases hd
   |some d'=>
    rw[e]at hd
    cases hd
    obtain⟨v,h1,h2⟩:=ra.get e
    refine⟨v,?_,h2⟩
    unfold start
    rw[List.getElem?_append_left (by have:=ra.length;simp;omega),List.getElem?_map,h1]
    rfl
  ·cases f with
   |nx=>cases e;exact fun σ' _=>k aW .bC H' nx .bC
   |rt d=>cases e;exact fun v rv=>k aW v H' nx rv
   |bk=>cases e
   |ct=>cases e
 ·cases e
end
section
variable{P:Program}{w:World}{K:PySem.W.Frag}{mg:Str→Option Value}{base:Heap}
theorem yH.fj{x qual:Str}{st:Stmt}{f:Addr}{fd:FuncData}{N ps:List Str}{k n m:Nat}{B:Qm.XS}{FF:Qm.FN}(F:yH K x qual st f fd)(S:aP N ps (ay st))(hn:ps.length=n)(hm:N.length=m)(hN:n≤m)(hF:FF=Qm.eF n m B)
  (j3:∀(bo:Value) (A:Around) (outer:List Env) (s:Shared) (H:Hp) (E:XK),eT k (A.deeper (envOfC qual (ay st) s.heap.objs.size f bo))→
   vt (oB de P w K mg base N qual (ay st) f bo A outer s H E).yn (cW st) B):bM P w K mg base de (k+1) f fd ps (dr K FF):=by
 subst hm hF
 exact F.ok S (fun vs H Q E h=>by rw[(ma hN h).1,hn]) fun bo A outer s H vs Q E hr h=>⟨_,j3 bo A outer s H E hr,(ma hN h).2⟩
theorem vJ.fj{x qual:Str}{st:Stmt}{f:Addr}{fd:FuncData}{N ps:List Str}{k n m:Nat}{B:Qm.XS}{FF:Qm.FN}(F:vJ K x qual st f fd)(S:aP N ps (ay st))(hn:ps.length=n)(hm:N.length=m)(hN:n≤m)(hF:FF=Qm.eF n m B)
  (j3:∀(bo:Value) (A:Around) (outer:List Env) (s:Shared) (H:Hp) (E:XK),eT k (A.deeper (envOfC qual (ay st) s.heap.objs.size f bo))→
   vt (oB de P w K mg base N qual (ay st) f bo A outer s H E).yn (cW st) B):bM P w K mg base de (k+1) f fd ps (dr K FF):=by
 subst hm hF
 exact F.ok S (fun vs H Q E h=>by rw[(ma hN h).1,hn]) fun bo A outer s H vs Q E hr h=>⟨_,j3 bo A outer s H E hr,(ma hN h).2⟩
theorem JX{F:Qm.FN}{H:Hp}{a:Addr}{ns:List Int}(hO:yG H)(hS:dI K H a (ns.map V.int)){c':Qm.Cells}(h:F [.ref 0] [.ro (ns.map Qm.D.int)]=some (.bl true,c')):dr K F [.ref a] H (fun v _=>v= .bl true) fun _ _ _=>False:=by
 have zs:∀ms:List Int,RA K (fun _=>a) 1 H (ms.map Qm.D.int) (ms.map V.int):=fun ms=>by
  induction ms with
  |nil=>exact .nil
  |cons m ms ih=>exact .cons (.int m) ih
 refine⟨fun _=>a,[.ro (ns.map Qm.D.int)],[.ref 0],.bl true,c',⟨fun i j z y h1 h2 m1 m2 _=>?_,fun n z hz=>?_⟩,.cons (.ref (by simp)) .nil,h,fun aW v H' n r=>r.nX⟩
 ·match i,h1 with
  |0,h1=>
   have:z= .ro (ns.map Qm.D.int):=by simpa using h1.symm
   subst this
   cases m1
  |i+1,h1=>simp at h1
 ·match n,hz with
  |0,hz=>
   have:z= .ro (ns.map Qm.D.int):=by simpa using hz.symm
   subst this
   exact⟨ns.map V.int,vR.of hO hS,zs ns⟩
  |n+1,hz=>simp at hz
end
end L2
namespace L2
open PySem PySem.Spec PyProof.Rows
section
variable{prog:Program}{w:World}{A:Around}{E:Value→Shared→Prop}{s:Shared}
theorem dy{it t:Addr}{i:Nat}{vs:Array Value}{x:Value}{Q:Value→Shared→Prop}(a:s.heap.IsTupleIter it t i)(b:s.heap.IsTuple t vs)(g:vs[i]? =some x)
  (k:∀h',h'.IsTupleIter it t (i+1)→Heap.SameBut it s.heap h'→Q x { s with heap:=h' }):wpAny (model prog w) A (Builtin.SmallTypes.nextOf (.ref it)) Q E s:=by
 obtain⟨o1,q1,q2,q3⟩:=id a
 obtain⟨o2,p1,_,m,p3⟩:=b
 unfold Builtin.SmallTypes.nextOf
 refine wpAny_bind (wpAny_callSpecial?_slot (name:=Str.ofString "__next__") a.typeIs F.slot_tuple_iterator_next
  (wpAny_call_entry F.slot_tuple_iterator_next a.typeIs F.entry_tuple_iterator_next ?_ (F.args_tuple_iterator_next_1 _)))
 show wpAny _ _ (field (Value.ref it) 0 >>= _) _ _ _
 refine wpAny_bind (wpAny_field q1 q3 (x:=.ref t) rfl ?_)
 show wpAny _ _ (ite ((Value.ref t==Value.none)=true) _ _) _ _ _
 rw[if_neg (by exact Bool.false_ne_true)]
 show wpAny _ _ (field (Value.ref it) 1 >>= _) _ _ _
 refine wpAny_bind (wpAny_field q1 q3 (x:=.int i 0) rfl ?_)
 show wpAny _ _ (seqItems? (Value.ref t) >>= _) _ _ _
 refine wpAny_bind (wpAny_seqItems p1 p3 ?_)
 simp only[Int.toNat_natCast,g]
 refine wpAny_bind (wpAny_setField q1 q3 (by simp) (wpAny_pure ⟨x,rfl,wpAny_pure (k _ ⟨_,Heap.get?_update_self _ q1 (Obj.isFreed_of_fields (Obj.data_mapFields q3 _)),(Obj.cls_mapFields ..).trans q2,?_⟩ (Heap.SameBut.update ..))⟩))
 rw[Obj.data_mapFields q3];simp[rawInt]
theorem gJ{it t:Addr}{i:Nat}{vs:Array Value}{Q:Value→Shared→Prop}(hh:A.handled=none)(a:s.heap.IsTupleIter it t i)(b:s.heap.IsTuple t vs)(g:vs[i]? =none)
  (k:∀h' e,Heap.ExtBut it s.heap h'→(∃o,h'.get? e=some o∧o.cls= .type "StopIteration")→E (.ref e) { s with heap:=h' }):wpAny (model prog w) A (Builtin.SmallTypes.nextOf (.ref it)) Q E s:=by
 obtain⟨o1,q1,q2,q3⟩:=id a
 obtain⟨o2,p1,_,m,p3⟩:=b
 unfold Builtin.SmallTypes.nextOf
 refine wpAny_bind (wpAny_callSpecial?_slot (name:=Str.ofString "__next__") a.typeIs F.slot_tuple_iterator_next
  (wpAny_call_entry F.slot_tuple_iterator_next a.typeIs F.entry_tuple_iterator_next ?_ (F.args_tuple_iterator_next_1 _)))
 show wpAny _ _ (field (Value.ref it) 0 >>= _) _ _ _
 refine wpAny_bind (wpAny_field q1 q3 (x:=.ref t) rfl ?_)
 show wpAny _ _ (ite ((Value.ref t==Value.none)=true) _ _) _ _ _
 rw[if_neg (by exact Bool.false_ne_true)]
 show wpAny _ _ (field (Value.ref it) 1 >>= _) _ _ _
 refine wpAny_bind (wpAny_field q1 q3 (x:=.int i 0) rfl ?_)
 show wpAny _ _ (seqItems? (Value.ref t) >>= _) _ _ _
 refine wpAny_bind (wpAny_seqItems p1 p3 ?_)
 simp only[Int.toNat_natCast,g]
 refine wpAny_bind (wpAny_rule (wpAny_bind (wpAny_setField q1 q3 (by simp) (wpAny_bind (m:=newExc (.type "StopIteration") []) ?_))))
 simp only[newExc,newTuple]
 refine wpAny_bind (wpAny_newObj_type ?_ (by size_fits))
 refine wpAny_bind (m:=firstArgMember _ _) (wpAny_of_eq (a:=.none) (by first|rfl|(simp only[firstArgMember];rfl)) (wpAny_newObj_type ?_ (by size_fits)))
 simp only[raiseNew]
 refine wpAny_bind (wpAny_handled ?_)
 first|rw[show A.in1.handled=none from hh]|rw[hh]
 exact wpAny_bind (wpAny_pure (wpAny_throw (k _ _ (((Heap.SameBut.update ..).extBut.push _).push _) ⟨_,Heap.get?_push_size _ rfl,rfl⟩)))
def gm(h:Heap)(z TI TO:Addr)(f0 f1:Value):Prop:=h.get? z=some { cls:=.type "zip",dict:=none,data:=.fields #[f0,f1,.bool false,.ref TI,.ref TO],slots:=#[] }
def cN(h:Heap)(T:Addr)(a b:Value):Prop:=h.get? T=some { cls:=.type "tuple",data:=.seq #[a,b] }
structure iu(z TI TO i1 i2 t1 t2:Addr):Prop where
 nd: [z,TI,TO,i1,i2].Nodup
 n1:t1∉[z,TI,TO,i1,i2]
 n2:t2∉[z,TI,TO,i1,i2]
def Gp(h:Heap)(f0:Value):Prop:=f0= .none∨∃T o,f0=rawInt (T:Addr)∧h.get? T=some o
theorem iu.ne{z TI TO i1 i2 t1 t2:Addr}(D:iu z TI TO i1 i2 t1 t2):TI≠z∧TO≠z∧i1≠z∧i2≠z∧TI≠TO∧TI≠i1∧TI≠i2∧TO≠i1∧TO≠i2∧i1≠i2:=by
 have h:=D.nd
 simp only[List.nodup_cons,List.mem_cons,List.not_mem_nil,or_false,not_or]at h
 obtain⟨⟨a1,a2,a3,a4⟩,⟨b1,b2,b3⟩,⟨c1,c2⟩,d1,_⟩:=h
 exact⟨fun e=>a1 e.symm,fun e=>a2 e.symm,fun e=>a3 e.symm,fun e=>a4 e.symm,b1,b2,b3,c1,c2,d1⟩
theorem iu.Gq{z TI TO i1 i2 t1 t2:Addr}(D:iu z TI TO i1 i2 t1 t2):(t1≠z∧t1≠TO∧t1≠i1∧t1≠i2)∧(t2≠z∧t2≠TO∧t2≠i1∧t2≠i2):=by
 have h1:=D.n1
 have h2:=D.n2
 simp only[List.mem_cons,List.not_mem_nil,or_false,not_or]at h1 h2
 exact⟨⟨h1.1,h1.2.2.1,h1.2.2.2.1,h1.2.2.2.2⟩,h2.1,h2.2.2.1,h2.2.2.2.1,h2.2.2.2.2⟩
theorem qo{T:Addr}{a b x:Value}{k:Nat}{Q:Unit→Shared→Prop}(g:cN s.heap T a b)
  (q:∀h',h'.get? T=some { cls:=.type "tuple",data:=.seq ((#[a,b]:Array Value).setIfInBounds k x) }→Heap.SameBut T s.heap h'→Q () { s with heap:=h' }):
  wpAny (model prog w) A (updateSeq T (·.setIfInBounds k x)) Q E s:=by
 refine wpAny_updateSeq g rfl (q _ ?_ (Heap.SameBut.update ..))
 rw[Heap.get?_update_self _ g rfl]
 simp[Obj.mapSeq]
structure oZ(h h':Heap)(z TI TO i1 i2 t1 t2:Addr)(k:Nat)(T:Addr)(x y:Value):Prop where
 rc:∃f0 b1,gm h' z TI TO f0 (.bool b1)∧Gp h' f0
 to:∃a b,cN h' TO a b
 j1:h'.IsTupleIter i1 t1 (k+1)
 j2:h'.IsTupleIter i2 t2 (k+1)
 new:h.objs.size≤T
 at_:cN h' T x y
 keep:∀c o,c≠z→c≠TO→c≠i1→c≠i2→h.get? c=some o→h'.get? c=some o
theorem Be{z TI TO i1 i2 t1 t2:Addr}{k:Nat}{xs ys:Array Value}{x y a b f1:Value}{Q:Value→Shared→Prop}(D:iu z TI TO i1 i2 t1 t2)
  (hz:gm s.heap z TI TO .none f1)(gI:cN s.heap TI (.ref i1) (.ref i2))(gO:cN s.heap TO a b)(h1:s.heap.IsTupleIter i1 t1 k)(h2:s.heap.IsTupleIter i2 t2 k)(l1:s.heap.IsTuple t1 xs)(l2:s.heap.IsTuple t2 ys)(hx:xs[k]? =some x)(hy:ys[k]? =some y)
  (q:∀h' T,oZ s.heap h' z TI TO i1 i2 t1 t2 k T x y→gm h' z TI TO (rawInt T) (.bool false)→Q (.ref T) { s with heap:=h' }):
  wpAny (model prog w) A (Builtin.«zip.__next__» ⟨[.ref z],[]⟩) (fun fin s'=>∃v,fin= .done (.ret v)∧Q v s') E s:=by
 obtain⟨d1,d2,d3,d4,d5,d6,d7,d8,d9,nY⟩:=D.ne
 obtain⟨⟨m1,m2,m3,m4⟩,n1,n2,n3,n4⟩:=D.Gq
 show wpAny _ _ (field (Value.ref z) 2 >>= _) _ _ _
 refine wpAny_bind (wpAny_field hz rfl (x:=Value.bool false) rfl ?_)
 show wpAny _ _ (field (Value.ref z) 3 >>= _) _ _ _
 refine wpAny_bind (wpAny_field hz rfl (x:=Value.ref TI) rfl (wpAny_bind (wpAny_seqItems gI rfl ?_)))
 refine wpAny_bind (m:=Builtin.SmallTypes.ownedTupleIsFree (.ref z)) ?_
 unfold Builtin.SmallTypes.ownedTupleIsFree
 refine wpAny_bind (wpAny_field hz rfl (x:=Value.none) rfl (wpAny_pure ?_))
 simp only[if_true]
 refine wpAny_bind (wpAny_rule (wpAny_bind (wpAny_field hz rfl (x:=Value.ref TO) rfl (wpAny_bind (wpAny_setField_rec hz (by simp) fun e1 z1 s1=>?_)))))
 have JY:gm e1 z TI TO .ellipsis f1:=z1
 refine wpAny_bind ?_
 simp only[List.forIn_cons,List.forIn_nil,List.zipIdx_cons,List.zipIdx_nil]
 refine wpAny_bind (wpAny_bind (wpAny_onRaise (show wpAny _ _ (Builtin.SmallTypes.nextOf (Value.ref i1) >>= _) _ _ _ from ?_)))
 refine wpAny_bind (dy (h1.extBut s1.extBut d3) (l1.extBut s1.extBut m1) hx fun e2 j1 s2=>wpAny_pure ?_)
 have Gr:cN e2 TO a b:=s2.extBut _ _ d8 (s1.extBut _ _ d2 gO)
 refine wpAny_bind (wpAny_seqItems Gr rfl (wpAny_bind (qo Gr fun e3 w3 s3=>wpAny_bind (wpAny_letGo (wpAny_pure ?_)))))
 have Td:cN e3 TO x b:=w3
 refine wpAny_bind (wpAny_bind (wpAny_onRaise (show wpAny _ _ (Builtin.SmallTypes.nextOf (Value.ref i2) >>= _) _ _ _ from ?_)))
 refine wpAny_bind (dy (((h2.extBut s1.extBut d4).extBut s2.extBut nY.symm).extBut s3.extBut d9.symm) (((l2.extBut s1.extBut n1).extBut s2.extBut n3).extBut s3.extBut n2) hy fun e4 j2 s4=>wpAny_pure ?_)
 have QC:cN e4 TO x b:=s4.extBut _ _ d9 Td
 refine wpAny_bind (wpAny_seqItems QC rfl (wpAny_bind (qo QC fun e5 w5 s5=>wpAny_bind (wpAny_letGo (wpAny_pure (wpAny_pure ?_))))))
 have QD:cN e5 TO x y:=w5
 refine wpAny_bind (wpAny_seqItems QD rfl (wpAny_bind (wpAny_newTuple ?_)))
 have sz:e5.objs.size=s.heap.objs.size:=by rw[s5.1,s4.1,s3.1,s2.1,s1.1]
 have z5:gm e5 z TI TO .ellipsis f1:=s5.extBut _ _ d2.symm (s4.extBut _ _ d4.symm (s3.extBut _ _ d2.symm (s2.extBut _ _ d3.symm JY)))
 have k5:∀c o,c≠z→c≠TO→c≠i1→c≠i2→s.heap.get? c=some o→e5.get? c=some o:=fun c o c1 c2 c3 c4 e=>
  s5.extBut _ _ c2 (s4.extBut _ _ c4 (s3.extBut _ _ c2 (s2.extBut _ _ c3 (s1.extBut _ _ c1 e))))
 have J1:e5.IsTupleIter i1 t1 (k+1):=((j1.extBut s3.extBut d8.symm).extBut s4.extBut nY).extBut s5.extBut d8.symm
 have J2:e5.IsTupleIter i2 t2 (k+1):=j2.extBut s5.extBut d9.symm
 have zl:z<e5.objs.size:=Heap.lt_size z5
 refine wpAny_bind (m:=Builtin.SmallTypes.ownedTupleHandOut (.ref z) (.ref e5.objs.size)) ?_
 unfold Builtin.SmallTypes.ownedTupleHandOut
 have z6:gm (e5.push { cls:=.type "tuple",data:=.seq #[x,y] }) z TI TO .ellipsis f1:=Heap.get?_push_of_some _ z5
 refine wpAny_bind (wpAny_setField_rec z6 (by simp) fun e7 w7 s7=>?_)
 have z7:gm e7 z TI TO (rawInt e5.objs.size) f1:=w7
 refine wpAny_setField_rec z7 (by simp) fun e8 w8 s8=>?_
 have z8:gm e8 z TI TO (rawInt e5.objs.size) (.bool false):=w8
 have up:∀c o,c≠z→e5.get? c=some o→e8.get? c=some o:=fun c o c1 e=>s8.extBut _ _ c1 (s7.extBut _ _ c1 (Heap.get?_push_of_some _ e))
 have LR:cN e8 e5.objs.size x y:=s8.extBut _ _ (Nat.ne_of_gt zl) (s7.extBut _ _ (Nat.ne_of_gt zl) (Heap.get?_push_size _ rfl))
 refine wpAny_pure ⟨_,rfl,q e8 e5.objs.size ⟨⟨_,_,z8,.inr ⟨_,_,rfl,LR⟩⟩,⟨x,y,up _ _ d2 QD⟩,J1.at fun o e=>up _ o d3 e,J2.at fun o e=>up _ o d4 e,by rw[sz];exact Nat.le_refl _,LR,fun c o c1 c2 c3 c4 e=>up c o c1 (k5 c o c1 c2 c3 c4 e)⟩ z8⟩
theorem Bf{z TI TO i1 i2 t1 t2 T0:Addr}{ob:Obj}{k:Nat}{xs ys:Array Value}{x y a b:Value}{b1:Bool}{Q:Value→Shared→Prop}(D:iu z TI TO i1 i2 t1 t2)(hl:s.heap.get? T0=some ob)
  (hz:gm s.heap z TI TO (rawInt T0) (.bool b1))(gI:cN s.heap TI (.ref i1) (.ref i2))(gO:cN s.heap TO a b)(h1:s.heap.IsTupleIter i1 t1 k)(h2:s.heap.IsTupleIter i2 t2 k)(l1:s.heap.IsTuple t1 xs)(l2:s.heap.IsTuple t2 ys)(hx:xs[k]? =some x)(hy:ys[k]? =some y)
  (q:∀h' T,oZ s.heap h' z TI TO i1 i2 t1 t2 k T x y→Q (.ref T) { s with heap:=h' }):
  wpAny (model prog w) A (Builtin.«zip.__next__» ⟨[.ref z],[]⟩) (fun fin s'=>∃v,fin= .done (.ret v)∧Q v s') E s:=by
 obtain⟨d1,d2,d3,d4,d5,d6,d7,d8,d9,nY⟩:=D.ne
 obtain⟨⟨m1,m2,m3,m4⟩,n1,n2,n3,n4⟩:=D.Gq
 show wpAny _ _ (field (Value.ref z) 2 >>= _) _ _ _
 refine wpAny_bind (wpAny_field hz rfl (x:=Value.bool false) rfl ?_)
 show wpAny _ _ (field (Value.ref z) 3 >>= _) _ _ _
 refine wpAny_bind (wpAny_field hz rfl (x:=Value.ref TI) rfl (wpAny_bind (wpAny_seqItems gI rfl ?_)))
 refine wpAny_bind (m:=Builtin.SmallTypes.ownedTupleIsFree (.ref z)) ?_
 unfold Builtin.SmallTypes.ownedTupleIsFree
 refine wpAny_bind (wpAny_field hz rfl (x:=rawInt T0) rfl ?_)
 show wpAny _ _ (loadIfAlive ((T0:Int).toNat) >>= _) _ _ _
 rw[show((T0:Int).toNat)=T0 from Int.toNat_natCast _]
 refine wpAny_bind (PySem.W.kdx_alive hl ?_)
 show wpAny _ _ (field (Value.ref z) 1 >>= _) _ _ _
 refine wpAny_bind (wpAny_field hz rfl (x:=Value.bool b1) rfl ?_)
 have last:∀e0 e1 e2:Heap,gm e0 z TI TO (rawInt T0) (.bool true)→Heap.SameBut z s.heap e0→Heap.SameBut i1 e0 e1→Heap.SameBut i2 e1 e2→e1.IsTupleIter i1 t1 (k+1)→e2.IsTupleIter i2 t2 (k+1)→
   oZ s.heap (e2.push { cls:=.type "tuple",data:=.seq #[x,y] }) z TI TO i1 i2 t1 t2 k e2.objs.size x y:=by
  intro e0 e1 e2 z0 s0 s1 s2 j1 j2
  have sz:e2.objs.size=s.heap.objs.size:=by rw[s2.1,s1.1,s0.1]
  have kk:∀c o,c≠z→c≠i1→c≠i2→s.heap.get? c=some o→e2.get? c=some o:=fun c o c1 c2 c3 e=>s2.extBut _ _ c3 (s1.extBut _ _ c2 (s0.extBut _ _ c1 e))
  have z2:gm e2 z TI TO (rawInt T0) (.bool true):=s2.extBut _ _ d4.symm (s1.extBut _ _ d3.symm z0)
  have up:∀c o,e2.get? c=some o→(e2.push { cls:=.type "tuple",data:=.seq #[x,y] }).get? c=some o:=fun c o e=>Heap.get?_push_of_some _ e
  have th:∃o,e2.get? T0=some o:=by
   have any:∀{h h':Heap}{b:Addr},Heap.SameBut b h h'→(∃o,h.get? b=some o→∃o',h'.get? b=some o')→True:=fun _ _=>trivial
   by_cases c1:T0=z
   ·exact⟨_,by rw[c1];exact z2⟩
   ·by_cases c2:T0=i1
    ·obtain⟨o,e,_⟩:=j1.extBut s2.extBut nY
     exact⟨o,by rw[c2];exact e⟩
    ·by_cases c3:T0=i2
     ·obtain⟨o,e,_⟩:=j2
      exact⟨o,by rw[c3];exact e⟩
     ·exact⟨ob,kk _ _ c1 c2 c3 hl⟩
  obtain⟨o',mE⟩:=th
  exact⟨⟨_,_,up _ _ z2,.inr ⟨T0,o',rfl,up _ _ mE⟩⟩,⟨a,b,up _ _ (kk _ _ d2 d8 d9 gO)⟩,(j1.extBut s2.extBut nY).at fun o e=>up _ o e,j2.at fun o e=>up _ o e,by rw[sz];exact Nat.le_refl _,Heap.get?_push_size _ rfl,fun c o c1 c2 c3 c4 e=>up c o (kk c o c1 c3 c4 e)⟩
 cases b1 with
 |true=>
  rw[if_neg (by decide)]
  refine wpAny_pure ?_
  have s0:Heap.SameBut z s.heap s.heap:=Heap.SameBut.refl ..
  simp only[Bool.false_eq_true,if_false]
  refine wpAny_bind ?_
  rw[show(#[Value.ref i1,Value.ref i2]:Array Value)=[Value.ref i1,Value.ref i2].toArray from rfl]
  simp only[List.forIn_toArray,List.forIn_cons,List.forIn_nil]
  refine wpAny_bind (wpAny_bind (wpAny_holding ?_))
  show wpAny _ _ (Builtin.SmallTypes.nextOf (Value.ref i1) >>= _) _ _ _
  refine wpAny_bind (dy (h1.extBut s0.extBut d3) (l1.extBut s0.extBut m1) hx fun e1 j1 s1=>wpAny_pure (wpAny_pure ?_))
  refine wpAny_bind (wpAny_bind (wpAny_holding ?_))
  show wpAny _ _ (Builtin.SmallTypes.nextOf (Value.ref i2) >>= _) _ _ _
  refine wpAny_bind (dy ((h2.extBut s0.extBut d4).extBut s1.extBut nY.symm) ((l2.extBut s0.extBut n1).extBut s1.extBut n3) hy fun e2 j2 s2=>wpAny_pure (wpAny_pure (wpAny_pure ?_)))
  refine wpAny_bind (wpAny_newTuple ?_ (by show 2≤sizeLine;decide))
  exact wpAny_pure ⟨_,rfl,q _ e2.objs.size (last s.heap e1 e2 hz s0 s1 s2 j1 j2)⟩
 |false=>
  rw[if_pos (by decide)]
  refine wpAny_bind (wpAny_setField_rec hz (by simp) fun e0 z0 s0=>wpAny_pure ?_)
  simp only[Bool.false_eq_true,if_false]
  refine wpAny_bind ?_
  rw[show(#[Value.ref i1,Value.ref i2]:Array Value)=[Value.ref i1,Value.ref i2].toArray from rfl]
  simp only[List.forIn_toArray,List.forIn_cons,List.forIn_nil]
  refine wpAny_bind (wpAny_bind (wpAny_holding ?_))
  show wpAny _ _ (Builtin.SmallTypes.nextOf (Value.ref i1) >>= _) _ _ _
  refine wpAny_bind (dy (h1.extBut s0.extBut d3) (l1.extBut s0.extBut m1) hx fun e1 j1 s1=>wpAny_pure (wpAny_pure ?_))
  refine wpAny_bind (wpAny_bind (wpAny_holding ?_))
  show wpAny _ _ (Builtin.SmallTypes.nextOf (Value.ref i2) >>= _) _ _ _
  refine wpAny_bind (dy ((h2.extBut s0.extBut d4).extBut s1.extBut nY.symm) ((l2.extBut s0.extBut n1).extBut s1.extBut n3) hy fun e2 j2 s2=>wpAny_pure (wpAny_pure (wpAny_pure ?_)))
  refine wpAny_bind (wpAny_newTuple ?_ (by show 2≤sizeLine;decide))
  exact wpAny_pure ⟨_,rfl,q _ e2.objs.size (last e0 e1 e2 z0 s0 s1 s2 j1 j2)⟩
theorem DH{z TI TO i1 i2 t1 t2:Addr}{k:Nat}{xs ys:Array Value}{a b f1:Value}{Q:PySem.Fin→Shared→Prop}(hh:A.handled=none)(D:iu z TI TO i1 i2 t1 t2)
  (hz:gm s.heap z TI TO .none f1)(gI:cN s.heap TI (.ref i1) (.ref i2))(gO:cN s.heap TO a b)(h1:s.heap.IsTupleIter i1 t1 k)(h2:s.heap.IsTupleIter i2 t2 k)(l1:s.heap.IsTuple t1 xs)(l2:s.heap.IsTuple t2 ys)(o3:xs[k]? =none∨ys[k]? =none)
  (q:∀h' e,(∀c o,c≠z→c≠TO→c≠i1→c≠i2→s.heap.get? c=some o→h'.get? c=some o)→(∃o,h'.get? e=some o∧o.cls= .type "StopIteration")→E (.ref e) { s with heap:=h' }):
  wpAny (model prog w) A (Builtin.«zip.__next__» ⟨[.ref z],[]⟩) Q E s:=by
 obtain⟨d1,d2,d3,d4,d5,d6,d7,d8,d9,nY⟩:=D.ne
 obtain⟨⟨m1,m2,m3,m4⟩,n1,n2,n3,n4⟩:=D.Gq
 show wpAny _ _ (field (Value.ref z) 2 >>= _) _ _ _
 refine wpAny_bind (wpAny_field hz rfl (x:=Value.bool false) rfl ?_)
 show wpAny _ _ (field (Value.ref z) 3 >>= _) _ _ _
 refine wpAny_bind (wpAny_field hz rfl (x:=Value.ref TI) rfl (wpAny_bind (wpAny_seqItems gI rfl ?_)))
 refine wpAny_bind (m:=Builtin.SmallTypes.ownedTupleIsFree (.ref z)) ?_
 unfold Builtin.SmallTypes.ownedTupleIsFree
 refine wpAny_bind (wpAny_field hz rfl (x:=Value.none) rfl (wpAny_pure ?_))
 simp only[if_true]
 refine wpAny_bind (wpAny_rule (wpAny_bind (wpAny_field hz rfl (x:=Value.ref TO) rfl (wpAny_bind (wpAny_setField_rec hz (by simp) fun e1 z1 s1=>?_)))))
 have JY:gm e1 z TI TO .ellipsis f1:=z1
 refine wpAny_bind ?_
 simp only[List.forIn_cons,List.forIn_nil,List.zipIdx_cons,List.zipIdx_nil]
 refine wpAny_bind (wpAny_bind (wpAny_onRaise (show wpAny _ _ (Builtin.SmallTypes.nextOf (Value.ref i1) >>= _) _ _ _ from ?_)))
 have off:∀{h h3:Heap}{e:Addr},gm h z TI TO .ellipsis f1→(∃o,h.get? e=some o∧o.cls= .type "StopIteration")→Heap.SameBut z h h3→∃o,h3.get? e=some o∧o.cls= .type "StopIteration":=fun {h h3 e} zz he ss=>by
  obtain⟨o,e1,c⟩:=he
  refine⟨o,ss.extBut _ _ (fun q=>?_) e1,c⟩
  subst q
  rw[show h.get? e=_ from zz]at e1
  cases e1
  simp at c
 cases hx:xs[k]? with
 |none=>
  refine wpAny_bind (gJ hh (h1.extBut s1.extBut d3) (l1.extBut s1.extBut m1) hx fun e2 e s2 he=>?_)
  have z2:gm e2 z TI TO .ellipsis f1:=s2 _ _ d3.symm JY
  exact wpAny_setField_rec z2 (by simp) fun e3 _ s3=>q e3 e (fun c o c1 _ c3 _ x=>s3.extBut _ _ c1 (s2 _ _ c3 (s1.extBut _ _ c1 x))) (off z2 he s3)
 |some x=>
  have hy:ys[k]? =none:=o3.resolve_left (by rw[hx];simp)
  refine wpAny_bind (dy (h1.extBut s1.extBut d3) (l1.extBut s1.extBut m1) hx fun e2 j1 s2=>wpAny_pure ?_)
  have Gr:cN e2 TO a b:=s2.extBut _ _ d8 (s1.extBut _ _ d2 gO)
  refine wpAny_bind (wpAny_seqItems Gr rfl (wpAny_bind (qo Gr fun e3 w3 s3=>wpAny_bind (wpAny_letGo (wpAny_pure ?_)))))
  refine wpAny_bind (wpAny_bind (wpAny_onRaise (show wpAny _ _ (Builtin.SmallTypes.nextOf (Value.ref i2) >>= _) _ _ _ from ?_)))
  refine wpAny_bind (gJ hh (((h2.extBut s1.extBut d4).extBut s2.extBut nY.symm).extBut s3.extBut d9.symm) (((l2.extBut s1.extBut n1).extBut s2.extBut n3).extBut s3.extBut n2) hy fun e4 e s4 he=>?_)
  have z4:gm e4 z TI TO .ellipsis f1:=s4 _ _ d4.symm (s3.extBut _ _ d2.symm (s2.extBut _ _ d3.symm JY))
  exact wpAny_setField_rec z4 (by simp) fun e5 _ s5=>q e5 e (fun c o c1 c2 c3 c4 x=>s5.extBut _ _ c1 (s4 _ _ c4 (s3.extBut _ _ c2 (s2.extBut _ _ c3 (s1.extBut _ _ c1 x))))) (off z4 he s5)
theorem DI{z TI TO i1 i2 t1 t2 T0:Addr}{ob:Obj}{k:Nat}{xs ys:Array Value}{b1:Bool}{Q:PySem.Fin→Shared→Prop}(hh:A.handled=none)(D:iu z TI TO i1 i2 t1 t2)(hl:s.heap.get? T0=some ob)
  (hz:gm s.heap z TI TO (rawInt T0) (.bool b1))(gI:cN s.heap TI (.ref i1) (.ref i2))(h1:s.heap.IsTupleIter i1 t1 k)(h2:s.heap.IsTupleIter i2 t2 k)(l1:s.heap.IsTuple t1 xs)(l2:s.heap.IsTuple t2 ys)(o3:xs[k]? =none∨ys[k]? =none)
  (q:∀h' e,(∀c o,c≠z→c≠TO→c≠i1→c≠i2→s.heap.get? c=some o→h'.get? c=some o)→(∃o,h'.get? e=some o∧o.cls= .type "StopIteration")→E (.ref e) { s with heap:=h' }):
  wpAny (model prog w) A (Builtin.«zip.__next__» ⟨[.ref z],[]⟩) Q E s:=by
 obtain⟨d1,d2,d3,d4,d5,d6,d7,d8,d9,nY⟩:=D.ne
 obtain⟨⟨m1,m2,m3,m4⟩,n1,n2,n3,n4⟩:=D.Gq
 show wpAny _ _ (field (Value.ref z) 2 >>= _) _ _ _
 refine wpAny_bind (wpAny_field hz rfl (x:=Value.bool false) rfl ?_)
 show wpAny _ _ (field (Value.ref z) 3 >>= _) _ _ _
 refine wpAny_bind (wpAny_field hz rfl (x:=Value.ref TI) rfl (wpAny_bind (wpAny_seqItems gI rfl ?_)))
 refine wpAny_bind (m:=Builtin.SmallTypes.ownedTupleIsFree (.ref z)) ?_
 unfold Builtin.SmallTypes.ownedTupleIsFree
 refine wpAny_bind (wpAny_field hz rfl (x:=rawInt T0) rfl ?_)
 show wpAny _ _ (loadIfAlive ((T0:Int).toNat) >>= _) _ _ _
 rw[show((T0:Int).toNat)=T0 from Int.toNat_natCast _]
 refine wpAny_bind (PySem.W.kdx_alive hl ?_)
 show wpAny _ _ (field (Value.ref z) 1 >>= _) _ _ _
 refine wpAny_bind (wpAny_field hz rfl (x:=Value.bool b1) rfl ?_)
 cases b1 with
 |true=>
  rw[if_neg (by decide)]
  refine wpAny_pure ?_
  have s0:Heap.SameBut z s.heap s.heap:=Heap.SameBut.refl ..
  simp only[Bool.false_eq_true,if_false]
  refine wpAny_bind ?_
  rw[show(#[Value.ref i1,Value.ref i2]:Array Value)=[Value.ref i1,Value.ref i2].toArray from rfl]
  simp only[List.forIn_toArray,List.forIn_cons,List.forIn_nil]
  refine wpAny_bind (wpAny_bind (wpAny_holding ?_))
  show wpAny _ _ (Builtin.SmallTypes.nextOf (Value.ref i1) >>= _) _ _ _
  cases hx:xs[k]? with
  |none=>exact wpAny_bind (gJ hh (h1.extBut s0.extBut d3) (l1.extBut s0.extBut m1) hx fun e1 e s1 he=>q e1 e (fun c o c1 c2 c3 c4 z=>s1 _ _ c3 (s0.extBut _ _ c1 z)) he)
  |some x=>
   have hy:ys[k]? =none:=o3.resolve_left (by rw[hx];simp)
   refine wpAny_bind (dy (h1.extBut s0.extBut d3) (l1.extBut s0.extBut m1) hx fun e1 j1 s1=>wpAny_pure (wpAny_pure ?_))
   refine wpAny_bind (wpAny_bind (wpAny_holding ?_))
   show wpAny _ _ (Builtin.SmallTypes.nextOf (Value.ref i2) >>= _) _ _ _
   exact wpAny_bind (gJ hh ((h2.extBut s0.extBut d4).extBut s1.extBut nY.symm) ((l2.extBut s0.extBut n1).extBut s1.extBut n3) hy fun e2 e s2 he=>q e2 e (fun c o c1 c2 c3 c4 z=>s2 _ _ c4 (s1.extBut _ _ c3 (s0.extBut _ _ c1 z))) he)
 |false=>
  rw[if_pos (by decide)]
  refine wpAny_bind (wpAny_setField_rec hz (by simp) fun e0 z0 s0=>wpAny_pure ?_)
  simp only[Bool.false_eq_true,if_false]
  refine wpAny_bind ?_
  rw[show(#[Value.ref i1,Value.ref i2]:Array Value)=[Value.ref i1,Value.ref i2].toArray from rfl]
  simp only[List.forIn_toArray,List.forIn_cons,List.forIn_nil]
  refine wpAny_bind (wpAny_bind (wpAny_holding ?_))
  show wpAny _ _ (Builtin.SmallTypes.nextOf (Value.ref i1) >>= _) _ _ _
  cases hx:xs[k]? with
  |none=>exact wpAny_bind (gJ hh (h1.extBut s0.extBut d3) (l1.extBut s0.extBut m1) hx fun e1 e s1 he=>q e1 e (fun c o c1 c2 c3 c4 z=>s1 _ _ c3 (s0.extBut _ _ c1 z)) he)
  |some x=>
   have hy:ys[k]? =none:=o3.resolve_left (by rw[hx];simp)
   refine wpAny_bind (dy (h1.extBut s0.extBut d3) (l1.extBut s0.extBut m1) hx fun e1 j1 s1=>wpAny_pure (wpAny_pure ?_))
   refine wpAny_bind (wpAny_bind (wpAny_holding ?_))
   show wpAny _ _ (Builtin.SmallTypes.nextOf (Value.ref i2) >>= _) _ _ _
   exact wpAny_bind (gJ hh ((h2.extBut s0.extBut d4).extBut s1.extBut nY.symm) ((l2.extBut s0.extBut n1).extBut s1.extBut n3) hy fun e2 e s2 he=>q e2 e (fun c o c1 c2 c3 c4 z=>s2 _ _ c4 (s1.extBut _ _ c3 (s0.extBut _ _ c1 z))) he)
structure kc(h:Heap)(z TI TO i1 i2 t1 t2:Addr)(xs ys:Array Value)(k:Nat):Prop where
 ap:iu z TI TO i1 i2 t1 t2
 rc:∃f0 b1,gm h z TI TO f0 (.bool b1)∧Gp h f0
 ti:cN h TI (.ref i1) (.ref i2)
 to:∃a b,cN h TO a b
 j1:h.IsTupleIter i1 t1 k
 j2:h.IsTupleIter i2 t2 k
 l1:h.IsTuple t1 xs
 l2:h.IsTuple t2 ys
theorem kc.type{z TI TO i1 i2 t1 t2:Addr}{xs ys:Array Value}{k:Nat}(Z:kc s.heap z TI TO i1 i2 t1 t2 xs ys k):s.TypeIs (.ref z) "zip":=by
 obtain⟨f0,b1,h,_⟩:=Z.rc
 exact⟨_,h,rfl⟩
theorem kc.next{z TI TO i1 i2 t1 t2:Addr}{xs ys:Array Value}{k:Nat}{x y:Value}{Q:Option Value→Shared→Prop}(Z:kc s.heap z TI TO i1 i2 t1 t2 xs ys k)(hx:xs[k]? =some x)(hy:ys[k]? =some y)
  (q:∀h' T,kc h' z TI TO i1 i2 t1 t2 xs ys (k+1)→s.heap.objs.size≤T→cN h' T x y→(∀c o,c≠z→c≠TO→c≠i1→c≠i2→s.heap.get? c=some o→h'.get? c=some o)→Q (some (.ref T)) { s with heap:=h' }):
  wpAny (model prog w) A (pyNext (.ref z)) Q E s:=by
 have hT:=Z.type
 obtain⟨D,⟨f0,b1,hz,hf⟩,gI,⟨a,b,gO⟩,j1,j2,l1,l2⟩:=Z
 obtain⟨d1,d2,d3,d4,d5,d6,d7,d8,d9,nY⟩:=D.ne
 obtain⟨⟨m1,m2,m3,m4⟩,n1,n2,n3,n4⟩:=D.Gq
 have go:∀h' T,oZ s.heap h' z TI TO i1 i2 t1 t2 k T x y→Q (some (.ref T)) { s with heap:=h' }:=fun h' T B=>
  q h' T ⟨D,B.rc,B.keep _ _ d1 d5 d6 d7 gI,B.to,B.j1,B.j2,l1.at fun o e=>B.keep _ o m1 m2 m3 m4 e,l2.at fun o e=>B.keep _ o n1 n2 n3 n4 e⟩ B.new B.at_ B.keep
 unfold pyNext
 refine wpAny_bind (wpAny_attempt (wpAny_callSpecial?_slot (name:=Str.ofString "__next__") hT F.slot_zip_next (wpAny_call_entry F.slot_zip_next hT F.entry_zip_next ?_ (F.args_zip_next_1 _))))
 rcases hf with rfl|⟨T0,o,rfl,ho⟩
 ·exact Be D hz gI gO j1 j2 l1 l2 hx hy fun h' T B _=>wpAny_pure (go h' T B)
 ·exact Bf D ho hz gI gO j1 j2 l1 l2 hx hy fun h' T B=>wpAny_pure (go h' T B)
theorem kc.stop{z TI TO i1 i2 t1 t2:Addr}{xs ys:Array Value}{k:Nat}{Q:Option Value→Shared→Prop}(hh:A.handled=none)(Z:kc s.heap z TI TO i1 i2 t1 t2 xs ys k)(o3:xs[k]? =none∨ys[k]? =none)
  (q:∀h',(∀c o,c≠z→c≠TO→c≠i1→c≠i2→s.heap.get? c=some o→h'.get? c=some o)→Q none { s with heap:=h' }):wpAny (model prog w) A (pyNext (.ref z)) Q E s:=by
 have hT:=Z.type
 obtain⟨D,⟨f0,b1,hz,hf⟩,gI,⟨a,b,gO⟩,j1,j2,l1,l2⟩:=Z
 have go:∀h' e,(∀c o,c≠z→c≠TO→c≠i1→c≠i2→s.heap.get? c=some o→h'.get? c=some o)→(∃o,h'.get? e=some o∧o.cls= .type "StopIteration")→
   wpAny (model prog w) A (do if ←isInstance (.ref e) (.type "StopIteration")then pure none else throw (.ref e)) Q E { s with heap:=h' }:=by
  rintro h' e kk ⟨o,ho,hc⟩
  refine wpAny_bind (wpAny_isInstance (T:="StopIteration") (b:=true) ⟨o,ho,hc⟩ isSubtype_stop ?_)
  exact wpAny_pure (q h' kk)
 unfold pyNext
 refine wpAny_bind (wpAny_attempt (wpAny_callSpecial?_slot (name:=Str.ofString "__next__") hT F.slot_zip_next (wpAny_call_entry F.slot_zip_next hT F.entry_zip_next ?_ (F.args_zip_next_1 _))))
 rcases hf with rfl|⟨T0,o,rfl,ho⟩
 ·exact DH hh D hz gI gO j1 j2 l1 l2 o3 fun h' e kk he=>go h' e kk he
 ·exact DI hh D ho hz gI j1 j2 l1 l2 o3 fun h' e kk he=>go h' e kk he
end
end L2
namespace L2
open PySem PySem.Spec PyProof.Rows
abbrev Nk(t:Addr):Obj:={ cls:=.type "tuple_iterator",data:=.fields #[.ref t,.int 0 0] }
abbrev zA(h:Heap)(t:Addr):Heap:=h.push (Nk t)
abbrev zB(h:Heap)(t u:Addr):Heap:=(zA h t).push (Nk u)
abbrev zC(h:Heap)(t u:Addr):Heap:=(zB h t u).push { cls:=.type "tuple",data:=.seq #[.ref h.objs.size,.ref (zA h t).objs.size] }
abbrev zD(h:Heap)(t u:Addr):Heap:=(zC h t u).push { cls:=.type "tuple",data:=.seq #[.none,.none] }
abbrev zE(h:Heap)(t u:Addr):Heap:=(zD h t u).push { cls:=.type "zip",data:=.fields #[.none,.bool false,.bool false,.ref (zB h t u).objs.size,.ref (zC h t u).objs.size] }
theorem DJ(t u:Addr)(xs ys:Array Value):Meets (Builtin.«zip.__new__» ⟨[.type "zip",.ref t,.ref u],[]⟩) (fun _ R s=>s.heap.IsTuple t xs∧s.heap.IsTuple u ys∧R (.ok (.ret (.ref (zD s.heap t u).objs.size))) { s with heap:=zE s.heap t u }):=
 .of_wp fun prog w A R s h=>by
  obtain⟨hp,g,d,tk,os⟩:=s
  obtain⟨a1,a2,h⟩:=h
  have ua:=sub_zip
  have b1:Heap.IsTuple (Shared.heap ⟨hp,g,d,tk,os⟩) t xs:=a1
  have b2:Heap.IsTuple (Shared.heap ⟨hp.push (Nk t),g,d,tk,os⟩) u ys:=Heap.IsTuple.push a2 _
  wp_walk using wpAny_pyIter_tuple b1,wpAny_pyIter_tuple b2
  exact⟨_,rfl,h⟩
theorem Nl(n t u:Nat)(ht:t<n)(hu:u<n): [n+4,n+2,n+3,n,n+1].Nodup∧t∉[n+4,n+2,n+3,n,n+1]∧u∉[n+4,n+2,n+3,n,n+1]:=by
 refine⟨?_,?_,?_⟩
 ·simp only[List.nodup_cons,List.mem_cons,List.not_mem_nil,or_false,not_or,not_false_eq_true,List.nodup_nil,and_true]
  omega
 ·simp only[List.mem_cons,List.not_mem_nil,or_false,not_or]
  omega
 ·simp only[List.mem_cons,List.not_mem_nil,or_false,not_or]
  omega
section
variable{prog:Program}{w:World}{A:Around}{E:Value→Shared→Prop}{s:Shared}
theorem DK{t u:Addr}{xs ys:Array Value}{Q:Value→Shared→Prop}(a1:s.heap.IsTuple t xs)(a2:s.heap.IsTuple u ys)
  (q:∀h',kc h' (s.heap.objs.size+4) (s.heap.objs.size+2) (s.heap.objs.size+3) s.heap.objs.size (s.heap.objs.size+1) t u xs ys 0→gm h' (s.heap.objs.size+4) (s.heap.objs.size+2) (s.heap.objs.size+3) .none (.bool false)→h'.objs.size=s.heap.objs.size+5→(∀c o,s.heap.get? c=some o→h'.get? c=some o)→Q (.ref (s.heap.objs.size+4)) { s with heap:=h' }):
  wpAny (model prog w) A (call (.type "zip") [.ref t,.ref u]) Q E s:=by
 refine callType_new F.called_zip (by decide) (F.typeCall_zip_2 _ _) (F.newCall_zip_2 _ _) (fun obj=>F.args_object_init_3 obj _ _) F.entry_zip_new (DJ t u xs ys) ⟨a1,a2,?_⟩
 have s1:(zA s.heap t).objs.size=s.heap.objs.size+1:=Heap.size_push ..
 have s2:(zB s.heap t u).objs.size=s.heap.objs.size+2:=by rw[Heap.size_push,s1]
 have s3:(zC s.heap t u).objs.size=s.heap.objs.size+3:=by rw[Heap.size_push,s2]
 have s4:(zD s.heap t u).objs.size=s.heap.objs.size+4:=by rw[Heap.size_push,s3]
 have s5:(zE s.heap t u).objs.size=s.heap.objs.size+5:=by rw[Heap.size_push,s4]
 have up:∀c o,s.heap.get? c=some o→(zE s.heap t u).get? c=some o:=fun c o e=>Heap.get?_push_of_some _ (Heap.get?_push_of_some _ (Heap.get?_push_of_some _ (Heap.get?_push_of_some _ (Heap.get?_push_of_some _ e))))
 have g5:(zE s.heap t u).get? (zD s.heap t u).objs.size=some _:=Heap.get?_push_size _ rfl
 have g4:(zE s.heap t u).get? (zC s.heap t u).objs.size=some _:=Heap.get?_push_of_some _ (Heap.get?_push_size _ rfl)
 have g3:(zE s.heap t u).get? (zB s.heap t u).objs.size=some _:=Heap.get?_push_of_some _ (Heap.get?_push_of_some _ (Heap.get?_push_size _ rfl))
 have g2:(zE s.heap t u).get? (zA s.heap t).objs.size=some _:=Heap.get?_push_of_some _ (Heap.get?_push_of_some _ (Heap.get?_push_of_some _ (Heap.get?_push_size _ rfl)))
 have g1:(zE s.heap t u).get? s.heap.objs.size=some _:=Heap.get?_push_of_some _ (Heap.get?_push_of_some _ (Heap.get?_push_of_some _ (Heap.get?_push_of_some _ (Heap.get?_push_size _ rfl))))
 rw[s2,s3,s4]at g5
 rw[s1,s2]at g3
 rw[s3]at g4
 rw[s1]at g2
 have lt:t<s.heap.objs.size:=by obtain⟨o,e,_⟩:=a1;exact Heap.lt_size e
 have lu:u<s.heap.objs.size:=by obtain⟨o,e,_⟩:=a2;exact Heap.lt_size e
 show _∧_
 rw[s4]
 refine⟨⟨_,g5,rfl⟩,q _ ⟨⟨(Nl _ t u lt lu).1,(Nl _ t u lt lu).2.1,(Nl _ t u lt lu).2.2⟩,⟨.none,false,g5,.inl rfl⟩,g3,⟨_,_,g4⟩,⟨_,g1,rfl,rfl⟩,⟨_,g2,rfl,rfl⟩,a1.at fun o e=>up _ o e,a2.at fun o e=>up _ o e⟩ g5 s5 up⟩
theorem kc.at{h h':Heap}{z TI TO i1 i2 t1 t2:Addr}{xs ys:Array Value}{k:Nat}(Z:kc h z TI TO i1 i2 t1 t2 xs ys k)(up:∀c,c∈[z,TI,TO,i1,i2,t1,t2]→∀o,h.get? c=some o→h'.get? c=some o)(al:∀c o,h.get? c=some o→∃o',h'.get? c=some o'):kc h' z TI TO i1 i2 t1 t2 xs ys k:=by
 obtain⟨D,⟨f0,b1,hz,hf⟩,gI,⟨a,b,gO⟩,j1,j2,l1,l2⟩:=Z
 refine⟨D,⟨f0,b1,up _ (by simp) _ hz,?_⟩,up _ (by simp) _ gI,⟨a,b,up _ (by simp) _ gO⟩,j1.at fun o e=>up _ (by simp) o e,j2.at fun o e=>up _ (by simp) o e,l1.at fun o e=>up _ (by simp) o e,l2.at fun o e=>up _ (by simp) o e⟩
 rcases hf with e|⟨T,o,e,g⟩
 ·exact .inl e
 ·obtain⟨o',g'⟩:=al _ _ g
  exact .inr ⟨T,o',e,g'⟩
theorem kc.self{z TI TO i1 i2 t1 t2:Addr}{xs ys:Array Value}{k:Nat}{Q:Value→Shared→Prop}(Z:kc s.heap z TI TO i1 i2 t1 t2 xs ys k)(q:Q (.ref z) s):wpAny (model prog w) A (pyIter (.ref z)) Q E s:=by
 have hT:=Z.type
 refine wpAny_pyIter_slot hT F.slot_zip_iter (wpAny_call_entry F.slot_zip_iter hT F.entry_zip_iter ?_ (F.args_zip_iter_1 _))
 exact wpAny_pure ⟨_,rfl,"zip",_,hT,F.slot_zip_next.lookup,q⟩
end
end L2
namespace L2
open PySem PySem.Spec PyProof.Rows
theorem DL:typeLookup (.type "zip") "__len__" =pure none:=by rw[typeLookup_type,builtinLookup_eq_fast];kernel_rfl
theorem Bg:typeLookup (.type "zip") "__length_hint__" =pure none:=by rw[typeLookup_type,builtinLookup_eq_fast];kernel_rfl
structure mS(h:Heap)(b0:Nat)(xs ys:Array Value)(Ts:List Addr)(k:Nat):Prop where
 len:Ts.length=k
 nd:Ts.Nodup
 new:∀T∈Ts,b0≤T∧T<h.objs.size
 at_:∀(i:Nat) (T:Addr),Ts[i]? =some T→∃x y,xs[i]? =some x∧ys[i]? =some y∧cN h T x y
theorem mS.nil{h:Heap}{b0:Nat}{xs ys:Array Value}:mS h b0 xs ys [] 0:=⟨rfl,List.nodup_nil,fun _ h=>(nomatch h),fun i T h=>by simp at h⟩
theorem mS.more{h h':Heap}{b0:Nat}{xs ys:Array Value}{Ts:List Addr}{k:Nat}{T:Addr}{x y:Value}(C:mS h b0 xs ys Ts k)(hb:b0≤h.objs.size)(sz:h.objs.size≤T)(lt:T<h'.objs.size)(hx:xs[k]? =some x)(hy:ys[k]? =some y)(g:cN h' T x y)(up:∀c o,b0≤c→h.get? c=some o→h'.get? c=some o):mS h' b0 xs ys (Ts++[T]) (k+1):=by
 refine⟨by simp[C.len],?_,fun U hU=>?_,fun i U hU=>?_⟩
 ·rw[List.nodup_append]
  refine⟨C.nd,by simp,fun U hU V hV e=>?_⟩
  have:V=T:=by simpa using hV
  subst this
  subst e
  exact absurd (C.new _ hU).2 (Nat.not_lt.mpr sz)
 ·rcases List.mem_append.mp hU with z|z
  ·exact⟨(C.new U z).1,Nat.lt_of_lt_of_le (C.new U z).2 (Nat.le_of_lt (Nat.lt_of_le_of_lt sz lt))⟩
  ·have:U=T:=by simpa using z
   subst this
   exact⟨Nat.le_trans hb sz,lt⟩
 ·by_cases hi:i<Ts.length
  ·rw[List.getElem?_append_left hi]at hU
   obtain⟨x',y',a,b,c⟩:=C.at_ i U hU
   exact⟨x',y',a,b,up _ _ (C.new U (List.mem_of_getElem? hU)).1 c⟩
  ·have hl:=C.len
   have Te:i=Ts.length:=by
    have:=(List.getElem?_eq_some_iff.mp hU).1
    rw[List.length_append]at this
    simp at this
    omega
   subst Te
   have:U=T:=by simpa using hU.symm
   subst this
   rw[hl]
   exact⟨x,y,hx,hy,g⟩
section
variable{prog:Program}{w:World}{A:Around}{s:Shared}{R:Result→Shared→Prop}
theorem Nm{z TI TO i1 i2 t1 t2 S:Addr}{xs ys:Array Value}{b0:Nat}{res:Value}(hh:A.in1.handled=none)(hb:∀c∈[S,z,TI,TO,i1,i2],c<b0)(hS:S∉[z,TI,TO,i1,i2,t1,t2])(hn:min xs.size ys.size≤sizeLine):
  ∀(m k:Nat) (s:Shared) (Ts:List Addr) (c:Nat),min xs.size ys.size - k=m→k≤min xs.size ys.size→kc s.heap z TI TO i1 i2 t1 t2 xs ys k→b0≤s.heap.objs.size→mS s.heap b0 xs ys Ts k→
   s.heap.get? S=some { cls:=.type "list",dict:=none,data:=.seq (Ts.map Value.ref).toArray c,slots:=#[] }→
   (∀h' tk Us c',(∀d o,d≠S→d≠z→d≠TO→d≠i1→d≠i2→s.heap.get? d=some o→h'.get? d=some o)→mS h' b0 xs ys Us (min xs.size ys.size)→h'.get? S=some { cls:=.type "list",dict:=none,data:=.seq (Us.map Value.ref).toArray c',slots:=#[] }→R (.ok (.ret res)) { s with heap:=h',toks:=tk })→
   codeAny (model prog w) A (.builtin "list.extend.loop" ⟨[.ref S,.ref z,res],[]⟩) R s:=by
 have Gs:S≠z∧S≠TI∧S≠TO∧S≠i1∧S≠i2∧S≠t1∧S≠t2:=by simpa only[List.mem_cons,List.not_mem_nil,or_false,not_or]using hS
 obtain⟨e1,e2,e3,e4,e5,e6,e7⟩:=Gs
 intro m
 induction m with
 |zero=>
  intro k s Ts c hm hk Z sz C hL q
  have Nn:k=min xs.size ys.size:=by omega
  refine codeAny_builtin F.entry_extend_loop ?_
  rw[Around.under_plainId F.plain_extend_loop _]
  show wpAny _ A.in1 (pyNext (Value.ref z) >>= _) _ _ _
  have o3:xs[k]? =none∨ys[k]? =none:=by
   rcases Nat.le_total xs.size ys.size with h|h
   ·exact .inl (Array.getElem?_eq_none (by omega))
   ·exact .inr (Array.getElem?_eq_none (by omega))
  refine wpAny_bind (Z.stop hh o3 fun h' kk=>?_)
  have C':mS h' b0 xs ys Ts k:=⟨C.len,C.nd,fun T hT=>⟨(C.new T hT).1,?_⟩,fun i T hT=>?_⟩
  ·subst Nn
   exact wpAny_pure (q h' s.toks Ts c (fun d o _ d2 d3 d4 d5 e=>kk d o d2 d3 d4 d5 e) C' (kk _ _ e1 e3 e4 e5 hL))
  ·obtain⟨i,hi⟩:=List.getElem?_of_mem hT
   obtain⟨x,y,_,_,g⟩:=C.at_ i T hi
   have b:=(C.new T hT).1
   exact Heap.lt_size (kk _ _ (Nat.ne_of_gt (Nat.lt_of_lt_of_le (hb z (by simp)) b)) (Nat.ne_of_gt (Nat.lt_of_lt_of_le (hb TO (by simp)) b)) (Nat.ne_of_gt (Nat.lt_of_lt_of_le (hb i1 (by simp)) b)) (Nat.ne_of_gt (Nat.lt_of_lt_of_le (hb i2 (by simp)) b)) g)
  ·obtain⟨x,y,a1,a2,g⟩:=C.at_ i T hT
   have b:=(C.new T (List.mem_of_getElem? hT)).1
   exact⟨x,y,a1,a2,kk _ _ (Nat.ne_of_gt (Nat.lt_of_lt_of_le (hb z (by simp)) b)) (Nat.ne_of_gt (Nat.lt_of_lt_of_le (hb TO (by simp)) b)) (Nat.ne_of_gt (Nat.lt_of_lt_of_le (hb i1 (by simp)) b)) (Nat.ne_of_gt (Nat.lt_of_lt_of_le (hb i2 (by simp)) b)) g⟩
 |succ m ih=>
  intro k s Ts c hm hk Z sz C hL q
  have hx:k<xs.size:=by omega
  have hy:k<ys.size:=by omega
  refine codeAny_builtin F.entry_extend_loop ?_
  rw[Around.under_plainId F.plain_extend_loop _]
  show wpAny _ A.in1 (pyNext (Value.ref z) >>= _) _ _ _
  refine wpAny_bind (Z.next (Array.getElem?_eq_getElem hx) (Array.getElem?_eq_getElem hy) fun h' T Z' hT g kk=>?_)
  have old:∀c o,b0≤c→s.heap.get? c=some o→h'.get? c=some o:=fun c o b e=>kk c o (Nat.ne_of_gt (Nat.lt_of_lt_of_le (hb z (by simp)) b)) (Nat.ne_of_gt (Nat.lt_of_lt_of_le (hb TO (by simp)) b)) (Nat.ne_of_gt (Nat.lt_of_lt_of_le (hb i1 (by simp)) b)) (Nat.ne_of_gt (Nat.lt_of_lt_of_le (hb i2 (by simp)) b)) e
  have QF:=kk _ _ e1 e3 e4 e5 hL
  have C':=C.more sz hT (Heap.lt_size g) (Array.getElem?_eq_getElem hx) (Array.getElem?_eq_getElem hy) g old
  show wpAny _ A.in1 (updateSeq S (·.push (Value.ref T)) >>= _) _ _ _
  have keep:∀d o,d≠S→h'.get? d=some o→(h'.update S (Obj.mapSeq (·.push (Value.ref T)))).get? d=some o:=fun d o hd e=>(Heap.get?_update_other _ _ (Ne.symm hd)).trans e
  have QH:=Heap.get?_update_self (Obj.mapSeq (·.push (Value.ref T))) QF rfl
  have QJ:(h'.update S (Obj.mapSeq (·.push (Value.ref T)))).objs.size=h'.objs.size:=(Heap.SameBut.update ..).1
  have fits:(Ts.map Value.ref).toArray.size<sizeLine:=by
   have:=C.len
   rw[List.size_toArray,List.length_map];omega
  refine wpAny_bind (wpAny_updateSeq QF rfl (wpAny_pure ⟨plainId_quiet F.plain_extend_loop _,ih (k+1) _ (Ts++[T]) (c+1) (by omega) (by omega) (Z'.at (fun d hd o e=>keep d o (fun z=>hS (z ▸ hd)) e) fun d o e=>?_) ?_ ?_ ?_ fun Tf tk Us c' k2 C2 g2=>?_⟩) ?_)
  ·by_cases hd:d=S
   ·subst hd;exact⟨_,QH⟩
   ·exact⟨o,keep d o hd e⟩
  ·show b0≤(h'.update S _).objs.size
   rw[QJ]
   exact Nat.le_trans sz (Nat.le_of_lt (Nat.lt_of_le_of_lt hT (Heap.lt_size g)))
  ·refine⟨C'.len,C'.nd,fun U hU=>by rw[QJ];exact C'.new U hU,fun i U hU=>?_⟩
   obtain⟨x,y,a1,a2,gg⟩:=C'.at_ i U hU
   exact⟨x,y,a1,a2,keep _ _ (Nat.ne_of_gt (Nat.lt_of_lt_of_le (hb S (by simp)) (C'.new U (List.mem_of_getElem? hU)).1)) gg⟩
  ·rw[QH]
   simp[Obj.mapSeq]
  ·exact q Tf tk Us c' (fun d o d1 d2 d3 d4 d5 e=>k2 d o d1 d2 d3 d4 d5 (keep d o d1 (kk d o d2 d3 d4 d5 e))) C2 g2
  ·exact Nat.le_of_lt fits
end
section
variable{prog:Program}{w:World}{A:Around}{E:Value→Shared→Prop}{s:Shared}
theorem DM{z TI TO i1 i2 t1 t2:Addr}{xs ys:Array Value}{Q:Value→Shared→Prop}(hh:A.handled=none)(Z:kc s.heap z TI TO i1 i2 t1 t2 xs ys 0)(hn:min xs.size ys.size≤sizeLine)
  (q:∀h' tk Ts c,(∀d o,d≠z→d≠TO→d≠i1→d≠i2→s.heap.get? d=some o→h'.get? d=some o)→mS h' (s.heap.objs.size+1) xs ys Ts (min xs.size ys.size)→h'.get? s.heap.objs.size=some { cls:=.type "list",dict:=none,data:=.seq (Ts.map Value.ref).toArray c,slots:=#[] }→Q (.ref s.heap.objs.size) { s with heap:=h',toks:=tk }):
  wpAny (model prog w) A (call (.type "list") [.ref z]) Q E s:=by
 refine callType_codes (Q₁:=fun obj s'=>obj= .ref s.heap.objs.size∧s'= { s with heap:=s.heap.push { cls:=.type "list",data:=.seq #[] } }) F.called_list (F.typeCall_list_1 _) F.entry_list_init (code_list_new _ ⟨rfl,rfl⟩) fun obj bB g=>?_
 obtain⟨rfl,rfl⟩:=g
 have lt:∀{c o},s.heap.get? c=some o→c<s.heap.objs.size:=fun e=>Heap.lt_size e
 obtain⟨D,⟨f0,b1,hz,hf⟩,gI,⟨a,b,gO⟩,j1,j2,l1,l2⟩:=id Z
 have bz:=lt hz
 have bI:=lt gI
 have bO:=lt gO
 have Np:i1<s.heap.objs.size:=by obtain⟨o,e,_⟩:=j1;exact lt e
 have Nq:i2<s.heap.objs.size:=by obtain⟨o,e,_⟩:=j2;exact lt e
 have QK:t1<s.heap.objs.size:=by obtain⟨o,e,_⟩:=l1;exact lt e
 have QL:t2<s.heap.objs.size:=by obtain⟨o,e,_⟩:=l2;exact lt e
 have hS:(s.heap.push { cls:=.type "list",data:=.seq #[] }).get? s.heap.objs.size=some { cls:=.type "list",data:=.seq #[] }:=Heap.get?_push_size _ rfl
 have QM:s.heap.objs.size∉[z,TI,TO,i1,i2,t1,t2]:=by
  intro hm
  have:s.heap.objs.size<s.heap.objs.size:=by
   rcases List.mem_cons.mp hm with e|hm
   ·rw[←e]at bz;exact bz
   rcases List.mem_cons.mp hm with e|hm
   ·rw[←e]at bI;exact bI
   rcases List.mem_cons.mp hm with e|hm
   ·rw[←e]at bO;exact bO
   rcases List.mem_cons.mp hm with e|hm
   ·rw[←e]at Np;exact Np
   rcases List.mem_cons.mp hm with e|hm
   ·rw[←e]at Nq;exact Nq
   rcases List.mem_cons.mp hm with e|hm
   ·rw[←e]at QK;exact QK
   ·have e:s.heap.objs.size=t2:=by simpa using hm
    rw[←e]at QL;exact QL
  exact Nat.lt_irrefl _ this
 refine⟨⟨_,hS,rfl⟩,F.args_list_init_2 _ _,?_⟩
 generalize Tg:s.heap.objs.size=S at*
 have Ti:(s.heap.push { cls:=.type "list",data:=.seq #[] }).objs.size=S+1:=by rw[Heap.size_push,Tg]
 have Zp:kc (s.heap.push { cls:=.type "list",data:=.seq #[] }) z TI TO i1 i2 t1 t2 xs ys 0:=Z.at (fun c _ o e=>Heap.get?_push_of_some _ e) fun c o e=>⟨o,Heap.get?_push_of_some _ e⟩
 have Tj:∀c o,s.heap.get? c=some o→(s.heap.push { cls:=.type "list",data:=.seq #[] }).get? c=some o:=fun c o e=>Heap.get?_push_of_some _ e
 generalize hp:s.heap.push { cls:=.type "list",data:=.seq #[] } =p at*
 have step:∀(g:Array Value→Array Value) (h:Heap) (n:Nat),(g #[]).size=0→kc h z TI TO i1 i2 t1 t2 xs ys 0→h.get? S=some { cls:=.type "list",data:=.seq #[] n }→True:=fun _ _ _ _ _ _=>trivial
 show wpAny _ A.in1.in1 (do let old ←Builtin.List.listItems (Value.ref S);Builtin.List.listUpdate (Value.ref S) (fun _=>#[]);letGo old.toList.reverse;Builtin.List.listExtendWith (Value.ref S) (Value.ref z) .none) _ _ _
 refine wpAny_bind (m:=Builtin.List.listItems (Value.ref S)) ?_
 unfold Builtin.List.listItems
 refine wpAny_bind (wpAny_seqItems hS rfl (wpAny_pure ?_))
 refine wpAny_bind (m:=updateSeq S (fun _=>#[])) (wpAny_updateSeq hS rfl (wpAny_bind (m:=letGo (#[]:Array Value).toList.reverse) (wpAny_letGo ?_)))
 have Gu:=Heap.get?_update_self (Obj.mapSeq (fun _=>(#[]:Array Value))) hS rfl
 have o2:∀b o,b≠S→p.get? b=some o→(p.update S (Obj.mapSeq (fun _=>(#[]:Array Value)))).get? b=some o:=fun b o hb e=>(Heap.get?_update_other _ _ (Ne.symm hb)).trans e
 have Gv:∀c,c∈[z,TI,TO,i1,i2,t1,t2]→c≠S:=fun c hc e=>QM (e ▸ hc)
 have Z2:kc (p.update S (Obj.mapSeq (fun _=>(#[]:Array Value)))) z TI TO i1 i2 t1 t2 xs ys 0:=Zp.at (fun c hc o e=>o2 c o (Gv c hc) e) fun c o e=>by
  by_cases hc:c=S
  ·subst hc;exact⟨_,Gu⟩
  ·exact⟨o,o2 c o hc e⟩
 have o6:(p.update S (Obj.mapSeq (fun _=>(#[]:Array Value)))).objs.size=S+1:=(Heap.SameBut.update ..).1.trans Ti
 generalize p.update S (Obj.mapSeq (fun _=>(#[]:Array Value)))=p2 at*
 unfold Builtin.List.listExtendWith
 refine wpAny_bind (wpAny_typeOf Z2.type ?_)
 have c1:Builtin.List.listSameRef (.ref S) (.ref z)=false:=by simp[Builtin.List.listSameRef,Ne.symm (Gv z (by simp))]
 have c2:(Value.type "zip"==Value.type "list")=false:=by decide
 have c3:(Value.type "zip"==Value.type "tuple")=false:=by decide
 simp only[c1,c2,c3,Bool.or_false,Bool.false_eq_true,if_false]
 refine wpAny_bind (Z2.self (wpAny_bind (wpAny_holding ?_)))
 unfold Builtin.List.listLengthHint
 refine wpAny_bind (wpAny_specialOf Z2.type DL ?_)
 show wpAny _ A.in1.in1 (specialOf (Value.ref z) (Str.ofString "__length_hint__") >>= _) _ _ _
 refine wpAny_bind (wpAny_specialOf Z2.type Bg (wpAny_pure ?_))
 refine wpAny_bind (m:=rule "list.extend.makes-room") (wpAny_rule (wpAny_bind (m:=Builtin.List.listTouch (.ref S)) ?_))
 refine wpAny_bind (m:=updateSeq S (·.push .none)) (wpAny_updateSeq Gu rfl ?_)
 have QN:=Heap.get?_update_self (Obj.mapSeq (·.push Value.none)) Gu rfl
 refine wpAny_updateSeq (hz:=by seq_fits) QN rfl ?_
 have QP:=Heap.get?_update_self (Obj.mapSeq (·.pop)) QN rfl
 have o4:∀b o,b≠S→p2.get? b=some o→((p2.update S (Obj.mapSeq (·.push Value.none))).update S (Obj.mapSeq (·.pop))).get? b=some o:=fun b o hb e=>(Heap.get?_update_other _ _ (Ne.symm hb)).trans ((Heap.get?_update_other _ _ (Ne.symm hb)).trans e)
 have Tn:((p2.update S (Obj.mapSeq (·.push Value.none))).update S (Obj.mapSeq (·.pop))).objs.size=S+1:=((Heap.SameBut.update ..).1.trans (Heap.SameBut.update ..).1).trans o6
 have Z4:kc ((p2.update S (Obj.mapSeq (·.push Value.none))).update S (Obj.mapSeq (·.pop))) z TI TO i1 i2 t1 t2 xs ys 0:=Z2.at (fun c hc o e=>o4 c o (Gv c hc) e) fun c o e=>by
  by_cases hc:c=S
  ·subst hc;exact⟨_,QP⟩
  ·exact⟨o,o4 c o hc e⟩
 generalize (p2.update S (Obj.mapSeq (·.push Value.none))).update S (Obj.mapSeq (·.pop))=p4 at*
 refine wpAny_pure ⟨plainId_quiet F.plain_extend_loop _,Nm (b0:=S+1) (TI:=TI) (A:=A.in1) hh (fun c hc=>?_) QM hn _ 0 _ [] _ rfl (Nat.zero_le _) Z4 (by rw[Tn];exact Nat.le_refl _) mS.nil QP fun h' tk Us c' kk C g=>⟨rfl,q h' tk Us c' (fun d o d2 d3 d4 d5 e=>?_) C g⟩⟩
 ·rcases List.mem_cons.mp hc with e|hc
  ·rw[e];exact Nat.lt_succ_self _
  have:c<S:=by
   rcases List.mem_cons.mp hc with e|hc
   ·rw[e];exact bz
   rcases List.mem_cons.mp hc with e|hc
   ·rw[e];exact bI
   rcases List.mem_cons.mp hc with e|hc
   ·rw[e];exact bO
   rcases List.mem_cons.mp hc with e|hc
   ·rw[e];exact Np
   ·have e:c=i2:=by simpa using hc
    rw[e];exact Nq
  exact Nat.lt_succ_of_lt this
 ·have hd:d≠S:=Nat.ne_of_lt (lt e)
  exact kk d o hd d2 d3 d4 d5 (o4 d o hd (o2 d o hd (Tj d o e)))
end
end L2
namespace L2
open PySem PySem.Spec PyProof.Rows
section
variable{X:Cx}{pins:List (Addr×Obj)}{σ:St}{H H':Hp}{s:Shared}{h':Heap}
theorem Inv.grow{t':Nat}(I:Inv X pins σ H s)(k:∀b u,s.heap.get? b=some u→h'.get? b=some u)(e:∀b,b<s.heap.objs.size→H' b=H b)(n:∀b o,s.heap.objs.size≤b→H' b=some o→dq X.prog X.w H' h' b o):Inv X pins σ H' { s with heap:=h',toks:=t' }:=by
 have low:∀b o,H b=some o→b<s.heap.objs.size:=fun b o q=>(I.bV b o q).lt
 refine I.un ⟨fun b o q _ _ _=>k b o q,fun b o q _ _ _=>⟨o.slots,k b o q⟩,fun b o q z _=>by rw[e b (Heap.lt_size q)];exact z,fun b o q _=>⟨o,k b o q⟩,fun b xs q=>by rw[e b (low b _ q)];exact q,fun b o u q=>by rw[e b (low b _ q)];exact q,fun b ps q=>⟨#[],by rw[e b (low b _ q),q];simp⟩⟩ fun b o q=>?_
 by_cases hb:b<s.heap.objs.size
 ·rw[e b hb]at q
  exact(I.bV b o q).sU (fun c u _ z=>k c u z) (fun c z=>by rw[e c (low c _ z)];exact z) fun c xs z=>by rw[e c (low c _ z)];exact z
 ·exact n b o (Nat.le_of_not_lt hb) q
end
theorem qP{α:Type}{v:α}:∀{Ts:List Addr}{ps:List α}{i:Nat}{T:Addr},Ts.Nodup→Ts[i]? =some T→ps[i]? =some v→(Ts.zip ps).lookup T=some v
 |[],_,_,_,_,h,_=>by simp at h
 |_::_,[],_,_,_,_,h=>by simp at h
 |U::Ts,p::ps,0,T,_,h1,h2=>by
  simp at h1 h2
  subst h1 h2
  simp
 |U::Ts,p::ps,i+1,T,nd,h1,h2=>by
  have hm:T∈Ts:=List.mem_of_getElem? (by simpa using h1)
  have gH:(T==U)=false:=by
   rw[List.nodup_cons]at nd
   exact beq_eq_false_iff_ne.mpr fun e=>nd.1 (e ▸ hm)
  rw[List.zip_cons_cons,List.lookup_cons,gH]
  exact qP (List.nodup_cons.mp nd).2 (by simpa using h1) (by simpa using h2)
theorem iF{α:Type}{v:α}:∀{Ts:List Addr}{ps:List α}{T:Addr},(Ts.zip ps).lookup T=some v→∃i:Nat,Ts[i]? =some T∧ps[i]? =some v
 |[],_,_,h=>by simp at h
 |_::_,[],_,h=>by simp at h
 |U::Ts,p::ps,T,h=>by
  rw[List.zip_cons_cons,List.lookup_cons]at h
  by_cases e:(T==U)=true
  ·rw[e]at h
   cases h
   exact⟨0,by simp[(beq_iff_eq.mp e).symm],by simp⟩
  ·rw[show(T==U)=false by simpa using e]at h
   obtain⟨i,h1,h2⟩:=iF h
   exact⟨i+1,by simpa using h1,by simpa using h2⟩
def DN(K:PySem.W.Frag)(t:TA):TE:=fun σ H Q=>t σ H fun vs H1=>∃a b xs ys,vs=[.ref a,.ref b]∧bJ K H1 a xs∧bJ K H1 b ys∧
 ∀(Hm:Hp) (l:Addr) (Ts:List Addr),qN H1 Hm→Hm l=none→Ts.length=min xs.length ys.length→(∀(i:Nat) (T:Addr) (x y:V),Ts[i]? =some T→xs[i]? =some x→ys[i]? =some y→Hm T=some (.tup [x,y]))→Q (.ref l) (upd Hm l (.lst (Ts.map V.ref)))
section
variable{X:Cx}
theorem ub:∀(Ts:List Addr),Vals (Ts.map V.ref) (Ts.map Value.ref)
 |[]=>.nil
 |_::Ts=>.cons rfl (ub Ts)
theorem ze{p0 p1 p2 pos:Pos}{e1 e2:Expr}{t:TA}(hc:X.calm=true)(hg:Gl X "list")(hm:X.mg "list" =none)(qp:Gl X "zip")(iw:X.mg "zip" =none)(ha:PA X [e1,e2] t)
  (hs:starEach [.Call (.Name "zip" p1) [e1,e2] [] p2] X.env=[(false,eval (.Call (.Name "zip" p1) [e1,e2] [] p2) X.env)]:=by rfl)
  (mF:starEach [e1,e2] X.env=(false,eval e1 X.env)::starEach [e2] X.env:=by rfl)(ip:(backTo p2 (starEach [e2] X.env)).any (·.1)=false:=by rfl):
  PE X (.Call (.Name "list" p0) [.Call (.Name "zip" p1) [e1,e2] [] p2] [] pos) (DN X.K t):=by
 intro pins s σ H Q I h
 refine wpAny_Call_Name_kw (gc I hg hm (u:=.type "list") FY ?_)
 refine PyProof.Rows.callWith_type1 ?_ hs rfl
 rw[hs]
 show wpAny _ _ (spliced [(false,eval (.Call (.Name "zip" p1) [e1,e2] [] p2) X.env)]) _ _ _
 refine Calls.spliced_cons ?_
 refine wpAny_Call_Name_kw (gc I qp iw (u:=.type "zip") (by decide +kernel) ?_)
 refine PyProof.Rows.callWith_type1 (bK (ha p2 pins s σ H _ I h) fun us s1 bh=>?_) mF ip
 obtain⟨vs,H1,I1,r1,q1⟩:=bh
 obtain⟨a,b,xs,ys,rfl,Bh,Nr,q⟩:=q1
 obtain⟨u1,u2,rfl,ra,rb⟩:=vals2 r1
 cases (show u1=Value.ref a from ra)
 cases (show u2=Value.ref b from rb)
 obtain⟨ia,va,ta,za⟩:=I1.tuple Bh
 obtain⟨ib,vb,tb,zb⟩:=I1.tuple Nr
 have la:=va.length
 have lb:=vb.length
 have mn:min ia.toArray.size ib.toArray.size=min xs.length ys.length:=by simp[la,lb]
 refine DK (xs:=ia.toArray) (ys:=ib.toArray) ta tb fun h2 Z _ sz up=>Calls.spliced_nil ?_
 refine DM (I.ok.hd hc) Z (by rw[mn];exact Nat.le_trans (Nat.min_le_left _ _) za) fun h3 tk Ts c kk C g=>?_
 dsimp only at kk C g ⊢
 rw[mn]at C
 have ge:∀b o,s1.heap.get? b=some o→h3.get? b=some o:=fun b o e=>by
  have hb:=Heap.lt_size e
  exact kk b o (Nat.ne_of_lt (Nat.lt_add_right 4 hb)) (Nat.ne_of_lt (Nat.lt_add_right 3 hb)) (Nat.ne_of_lt hb) (Nat.ne_of_lt (Nat.lt_add_right 1 hb)) (up b o e)
 let pv:List (List V):=(xs.zip ys).map fun p=>[p.1,p.2]
 let Hm:Hp:=fun b=>match (Ts.zip pv).lookup b with
  |some xs=>some (.tup xs)
  |none=>H1 b
 have To:∀T∈Ts,h2.objs.size+1≤T:=fun T hT=>(C.new T hT).1
 have V_:pv.length=min xs.length ys.length:=by simp[pv]
 have QQ:∀(i:Nat) (x y:V),xs[i]? =some x→ys[i]? =some y→pv[i]? =some [x,y]:=fun i x y h1 h2=>by
  simp[pv,List.getElem?_zip_eq_some,h1,h2]
 have Gw:∀b,b<h2.objs.size+1→Hm b=H1 b:=fun b hb=>by
  show(match (Ts.zip pv).lookup b with|some xs=>some (HO.tup xs)|none=>H1 b)=H1 b
  cases e:(Ts.zip pv).lookup b with
  |none=>rfl
  |some v=>
   obtain⟨i,h1,_⟩:=iF e
   exact absurd hb (Nat.not_lt.mpr (To b (List.mem_of_getElem? h1)))
 have JZ:s1.heap.objs.size≤h2.objs.size:=by rw[sz];exact Nat.le_add_right _ _
 have fr:∀b,s1.heap.objs.size≤b→H1 b=none:=fun b hb=>I1.bV.fresh hb
 have hl:Hm h2.objs.size=none:=by rw[Gw _ (Nat.lt_succ_self _)];exact fr _ JZ
 have sm:qN H1 Hm:=fun b o e=>by
  rw[Gw b (Nat.lt_succ_of_le (Nat.le_trans (Nat.le_of_lt (I1.bV b o e).lt) JZ))];exact e
 have yX:∀(i:Nat) (T:Addr) (x y:V),Ts[i]? =some T→xs[i]? =some x→ys[i]? =some y→Hm T=some (.tup [x,y]):=fun i T x y h1 h2 h3=>by
  show(match (Ts.zip pv).lookup T with|some xs=>some (HO.tup xs)|none=>H1 T)=_
  rw[qP C.nd h1 (QQ i x y h2 h3)]
 have I3:Inv X pins σ (upd Hm h2.objs.size (.lst (Ts.map V.ref))) { s1 with heap:=h3,toks:=tk }:=by
  refine I1.grow (t':=tk) ge (fun b hb=>by rw[bG (Nat.ne_of_lt (Nat.lt_of_lt_of_le hb JZ)),Gw b (Nat.lt_succ_of_le (Nat.le_trans (Nat.le_of_lt hb) JZ))]) fun b o hb e=>?_
  by_cases QR:b=h2.objs.size
  ·subst QR
   rw[du]at e
   cases e
   refine⟨by rw[List.length_map,C.len];exact Nat.le_trans (Nat.min_le_left _ _) za,Ts.map Value.ref,c,ub Ts,g⟩
  ·rw[bG QR]at e
   have e':(match (Ts.zip pv).lookup b with|some xs=>some (HO.tup xs)|none=>H1 b)=some o:=e
   cases el:(Ts.zip pv).lookup b with
   |none=>rw[el]at e';rw[fr b hb]at e';cases e'
   |some v=>
    rw[el]at e'
    cases e'
    obtain⟨i,h1,hv⟩:=iF el
    obtain⟨x,y,ex,ey,gp⟩:=C.at_ i b h1
    have hi:i<pv.length:=(List.getElem?_eq_some_iff.mp hv).1
    have QU:i<xs.length:=by omega
    have Dx:i<ys.length:=by omega
    have:v=[xs[i],ys[i]]:=by
     have:=QQ i xs[i] ys[i] (List.getElem?_eq_getElem QU) (List.getElem?_eq_getElem Dx)
     rw[hv]at this;cases this;rfl
    subst this
    obtain⟨ux,Tp,rx⟩:=va.get (List.getElem?_eq_getElem QU)
    obtain⟨uy,Tq,ry⟩:=vb.get (List.getElem?_eq_getElem Dx)
    have Pn:ux=x:=by
     have:ia.toArray[i]? =some ux:=by simpa using Tp
     rw[this]at ex;cases ex;rfl
    have Tr:uy=y:=by
     have:ib.toArray[i]? =some uy:=by simpa using Tq
     rw[this]at ey;cases ey;rfl
    subst Pn Tr
    exact⟨by show 2≤sizeLine;decide,[ux,uy],.cons rx (.cons ry .nil),⟨_,gp,rfl,_,rfl⟩⟩
 exact⟨.ref h2.objs.size,_,I3,rfl,q Hm h2.objs.size Ts sm hl C.len yX⟩
end
end L2
namespace L2
open PySem PySem.Spec PyProof.Rows
section
variable{X:Cx}{e1 e2:Expr}{p0 p1 p2 pos:Pos}{f:Qm.XA}
theorem RA.zip{K:PySem.W.Frag}{ρ:Nat→Addr}{N:Nat}{H:Hp}:∀{xs ys:List Qm.D}{vs us:List V}{Ts:List Addr},RA K ρ N H xs vs→RA K ρ N H ys us→Ts.length=min vs.length us.length→(∀(i:Nat) (T:Addr) (x y:V),Ts[i]? =some T→vs[i]? =some x→us[i]? =some y→H T=some (.tup [x,y]))→RA K ρ N H (Qm.yS xs ys) (Ts.map V.ref)
 |[],_,_,_,Ts,.nil,_,hl,_=>by
  have:Ts=[]:=List.length_eq_zero_iff.mp (by simpa using hl)
  subst this
  exact .nil
 |_::_,[],_,_,Ts,.cons _ _,.nil,hl,_=>by
  have:Ts=[]:=List.length_eq_zero_iff.mp (by simpa using hl)
  subst this
  exact .nil
 |x::xs,y::ys,v::vs,u::us,Ts,.cons r1 a1,.cons r2 a2,hl,h=>by
  cases Ts with
  |nil=>simp at hl
  |cons T Ts=>
   refine .cons (.tup (h 0 T v u rfl rfl rfl) (.cons r1 (.cons r2 .nil))) (RA.zip a1 a2 (by simp at hl ⊢;omega) fun i T' x y h1 h2 h3=>h (i+1) T' x y (by simpa using h1) (by simpa using h2) (by simpa using h3))
theorem zf(hg:Gl X "list")(hm:X.mg "list" =none)(qp:Gl X "zip")(iw:X.mg "zip" =none)(ha:QA X [e1,e2] f)(hc:X.calm=true:=by rfl)
  (hs:starEach [.Call (.Name "zip" p1) [e1,e2] [] p2] X.env=[(false,eval (.Call (.Name "zip" p1) [e1,e2] [] p2) X.env)]:=by rfl)
  (mF:starEach [e1,e2] X.env=(false,eval e1 X.env)::starEach [e2] X.env:=by rfl)(ip:(backTo p2 (starEach [e2] X.env)).any (·.1)=false:=by rfl):
  QE X (.Call (.Name "list" p0) [.Call (.Name "zip" p1) [e1,e2] [] p2] [] pos) (Qm.eB Qm.qj f):=(ze hc hg hm qp iw ha hs mF ip).imp <| by
 rintro σ H Q ⟨ρ,env,c,d,c',rs,re,e,k⟩
 obtain⟨p,ea,e⟩:=aM e
 refine⟨ρ,env,c,p.1,p.2,rs,re,ea,fun aS vs H1 n1 r1=>?_⟩
 unfold Qm.qj at e
 split at e
 ·rename_i xs ys hp
  cases e
  rw[hp]at r1
  obtain⟨v,u,rfl,rx,ry⟩:=r1.oU
  obtain⟨a,va,rfl,Bh,aa⟩:=rx.eU
  obtain⟨b,vb,rfl,Nr,ab⟩:=ry.eU
  refine⟨a,b,va,vb,rfl,bJ.of Bh,bJ.of Nr,fun Hm l Ts sm hl hlen yX=>?_⟩
  have n2:=Nx.same n1.rs sm
  obtain⟨n3,r3⟩:=Nx.alloc n2.rs hl (RA.zip (aa.up n2.up) (ab.up n2.up) hlen yX)
  exact k _ _ _ (n1.trans (n2.trans n3)) r3
 ·cases e
end
end L2
namespace L2
open PySem PySem.Spec PyProof.Rows
theorem Gx:typeLookup (.type "tuple") "__reversed__" =pure none:=by rw[typeLookup_type,builtinLookup_eq_fast];kernel_rfl
theorem DO:typeLookup (.type "reversed") "__len__" =pure none:=by rw[typeLookup_type,builtinLookup_eq_fast];kernel_rfl
theorem Gy:typeLookup (.type "reversed") "__length_hint__" =pure (some (.builtin "reversed.__length_hint__")):=by rw[typeLookup_type,builtinLookup_eq_fast];kernel_rfl
theorem qq:Manifest.owners.lookup (String.ofList ['d','e','s','r','e','v','e','r'].reverse)=some Manifest.sig_reversed:=by kernel_rfl
theorem k_:Slot "reversed" "__next__" "reversed.__next__":=
 .of (owner:="reversed") (n:="__next__") (by rw[typeLookup_type,builtinLookup_eq_fast];kernel_rfl) (by decide +kernel) (by decide +kernel) (by decide +kernel) (.inl (by decide +kernel)) (by rw[isSubtype_type];kernel_rfl)
theorem zg:Slot "reversed" "__iter__" "reversed.__iter__":=
 .of (owner:="reversed") (n:="__iter__") (by rw[typeLookup_type,builtinLookup_eq_fast];kernel_rfl) (by decide +kernel) (by decide +kernel) (by decide +kernel) (.inl (by decide +kernel)) (by rw[isSubtype_type];kernel_rfl)
theorem Gz:Slot "reversed" "__init__" "object.__init__":=
 .of (owner:="object") (n:="__init__") (by rw[typeLookup_type,builtinLookup_eq_fast];kernel_rfl) (by decide +kernel) (by decide +kernel) (by decide +kernel) (.inl (by decide +kernel)) (by rw[isSubtype_type];kernel_rfl)
theorem uc:entryFor table "reversed.__next__" =some Builtin.«reversed.__next__»:=entryFor_of_tree (by kernel_rfl)
theorem Bi:entryFor table "reversed.__length_hint__" =some Builtin.«reversed.__length_hint__»:=entryFor_of_tree (by kernel_rfl)
theorem Bj:entryFor table "reversed.__iter__" =some Builtin.«dict_keyiterator.__iter__»:=
 entryFor_alias (id':="dict_keyiterator.__iter__") (by kernel_rfl) (by first|rfl|decide +kernel|(unfold String.splitOn;simp +decide [String.splitOnAux])) (by decide +kernel) (by kernel_rfl)
theorem ud(a:Value):argsOk "reversed.__next__" ⟨[a],[]⟩:=by
 unfold argsOk;rw[signature?_of (id:="reversed.__next__") (n:=['_','_','t','x','e','n','_','_']) (o:=['d','e','s','r','e','v','e','r']) (by kernel_rfl) qq];kernel_rfl
theorem Bk(a:Value):argsOk "reversed.__iter__" ⟨[a],[]⟩:=by
 unfold argsOk;rw[signature?_of (id:="reversed.__iter__") (n:=['_','_','r','e','t','i','_','_']) (o:=['d','e','s','r','e','v','e','r']) (by kernel_rfl) qq];kernel_rfl
theorem Cp:mroOf (.type "reversed")=pure [.type "reversed",.type "object"]:=by rw[mroOf_type];kernel_rfl
theorem J3:typeLookup (.type "reversed") "__new__" =pure (some (.builtin "reversed.__new__")):=by rw[typeLookup_type,builtinLookup_eq_fast];kernel_rfl
theorem Bl:TypeCalled "reversed" "reversed.__new__" "object.__init__":=
 ⟨by decide +kernel,by decide +kernel,⟨_,_,Cp⟩,madeBy_type Cp J3 (by decide +kernel),by decide +kernel,by rw[isSubtype_type];kernel_rfl,Gz⟩
theorem Nt(a:Value):checkTypeCall "reversed" ⟨[a],[]⟩=pure ():=by kernel_rfl
theorem Nu(a:Value):checkBuiltinCall "reversed.__new__" ⟨[.type "reversed",a],[]⟩=pure ():=by kernel_rfl
theorem DP:entryFor table "reversed.__new__" =some Builtin.«reversed.__new__»:=entryFor_of_tree (by kernel_rfl)
theorem zh:isSubtype (.type "reversed") (.type "reversed")=pure true:=by rw[isSubtype_type];kernel_rfl
theorem ue:isSubtype (.type "tuple") (.type "dict")=pure false:=by rw[isSubtype_type];kernel_rfl
theorem J_(a:Value):Builtin.SmallTypes.newClass "reversed" ⟨[.type "reversed",a],[]⟩=pure (.type "reversed",[a]):=by
 unfold Builtin.SmallTypes.newClass
 simp only[isType,zh,pure_bind,Bool.not_true,Bool.false_eq_true,if_false]
def lg(t:Addr)(i:Int):Obj:={ cls:=.type "reversed",data:=.fields #[.ref t,rawInt i] }
theorem GA(t:Addr)(xs:Array Value)(gE:(xs.size:Int)<2 ^ 63):Meets (Builtin.«reversed.__new__» ⟨[.type "reversed",.ref t],[]⟩) (fun _ R s=>s.heap.IsTuple t xs∧∀tk,R (.ok (.ret (.ref s.heap.objs.size))) { s with heap:=s.heap.push (lg t ((xs.size:Int) - 1)),toks:=tk }):=
 .of_wp fun prog w A R s h=>by
  obtain⟨hp,g,d,tk,os⟩:=s
  obtain⟨a1,h⟩:=h
  have b1:Heap.IsTuple (Shared.heap ⟨hp,g,d,tk,os⟩) t xs:=a1
  have hT:Shared.TypeIs ⟨hp,g,d,tk,os⟩ (.ref t) "tuple":=b1.typeIs
  have c1:IsTup (Shared.heap ⟨hp,g,d,tk,os⟩) t xs:=b1
  have e1:=J_ (.ref t)
  have e2:=Gx
  have e3:=ue
  have e4:=F.slot_tuple_getitem.lookup
  have e5:=zh
  unfold Builtin.«reversed.__new__»
  repeat (any_goals (first|assumption|(with_reducible refine wpAny_bind (PyProof.Rows.len_tuple c1 gE ?_))|(with_reducible refine wpAny_bind (wpAny_specialOf hT Gx ?_))|(with_reducible refine wpAny_bind (wpAny_specialOf hT F.slot_tuple_getitem.lookup ?_))|(with_reducible refine wpAny_bind (wpAny_isInstance (b:=false) hT ue ?_))|wp_step))
  exact⟨_,rfl,h _⟩
end L2
namespace L2
open PySem PySem.Spec PyProof.Rows
section
variable{prog:Program}{w:World}{A:Around}{E:Value→Shared→Prop}{s:Shared}
theorem GB{t:Addr}{xs:Array Value}{Q:Value→Shared→Prop}(ht:s.heap.IsTuple t xs)(gE:(xs.size:Int)<2 ^ 63)
  (h:∀tk,Q (.ref s.heap.objs.size) { s with heap:=s.heap.push (lg t ((xs.size:Int) - 1)),toks:=tk }):wpAny (model prog w) A (call (.type "reversed") [.ref t]) Q E s:=
 callType_new Bl (by decide) (Nt _) (Nu _) (fun obj=>F.args_object_init_2 obj _) DP (GA t xs gE) ⟨ht,fun tk=>⟨⟨_,Heap.get?_push_size _ rfl,rfl⟩,h tk⟩⟩
def iG(h:Heap)(a t:Addr)(i:Int):Prop:=∃o,h.get? a=some o∧o.cls= .type "reversed"∧o.data= .fields #[.ref t,rawInt i]
theorem iG.typeIs{a t:Addr}{i:Int}(x:iG s.heap a t i):s.TypeIs (.ref a) "reversed":=let ⟨o,ho,hc,_⟩:=x;⟨o,ho,hc⟩
theorem iG.at{h h':Heap}{a t:Addr}{i:Int}(x:iG h a t i)(e:∀o,h.get? a=some o→h'.get? a=some o):iG h' a t i:=let ⟨o,ho,r⟩:=x;⟨o,e _ ho,r⟩
theorem GC{it t:Addr}{i:Nat}{xs:Array Value}{x:Value}{Q:Option Value→Shared→Prop}(hit:iG s.heap it t (i:Int))(ht:s.heap.IsTuple t xs)(gE:(xs.size:Int)<2 ^ 63)(hx:xs[i]? =some x)
  (hQ:∀h' tk,iG h' it t ((i:Int) - 1)→Heap.SameBut it s.heap h'→Q (some x) { s with heap:=h',toks:=tk }):wpAny (model prog w) A (pyNext (.ref it)) Q E s:=by
 obtain⟨o,ho,hc,hd⟩:=id hit
 have hi:i<xs.size:=by
  by_cases z:i<xs.size
  ·exact z
  ·rw[Array.getElem?_eq_none (by omega)]at hx;cases hx
 have hT:s.TypeIs (.ref t) "tuple":=ht.typeIs
 have hj:seqIndex? (i:Int) xs.size=some i:=seqIndex_of (by omega) (by omega)
 unfold pyNext
 refine wpAny_bind (wpAny_attempt (wpAny_callSpecial?_slot (name:=Str.ofString "__next__") hit.typeIs k_
  (wpAny_call_entry k_ hit.typeIs uc ?_ (ud _))))
 unfold Builtin.«reversed.__next__»
 refine wpAny_bind (wpAny_of_eq (a:=(Value.ref it,[])) rfl ?_)
 try dsimp only
 refine wpAny_bind (wpAny_field ho hd (x:=.ref t) rfl ?_)
 refine wpAny_bind (wpAny_field ho hd (x:=rawInt (i:Int)) rfl ?_)
 show wpAny _ _ (if (i:Int)<0 then _ else _) _ _ s
 rw[if_neg (by omega)]
 refine wpAny_bind (wpAny_specialOf hT F.slot_tuple_getitem.lookup ?_)
 rw[if_neg (by simp)]
 refine wpAny_bind (wpAny_mkInt ?_)
 refine wpAny_bind (wpAny_attempt (getItem_tuple (s:={ s with toks:=s.toks+1 }) (show IsTup s.heap t xs from ht) (by omega) (by omega) hj hx ?_))
 show wpAny _ _ (field (Value.ref it) 1 >>= _) _ _ { s with toks:=s.toks+1 }
 refine wpAny_bind (wpAny_field (s:={ s with toks:=s.toks+1 }) ho hd (x:=rawInt (i:Int)) rfl ?_)
 show wpAny _ _ (setField (Value.ref it) 1 (rawInt ((i:Int) - 1)) >>= _) _ _ { s with toks:=s.toks+1 }
 refine wpAny_bind (wpAny_setField (s:={ s with toks:=s.toks+1 }) ho hd (by simp) ?_)
 refine wpAny_pure ⟨x,rfl,wpAny_pure (hQ _ _ ⟨_,Heap.get?_update_self _ ho (Obj.isFreed_of_fields (Obj.data_mapFields hd _)),(Obj.cls_mapFields ..).trans hc,?_⟩ (Heap.SameBut.update ..))⟩
 rw[Obj.data_mapFields hd];simp
theorem Ka{it t:Addr}{Q:Option Value→Shared→Prop}(hh:A.handled=none)(hit:iG s.heap it t (-1))
  (hQ:∀h' tk,Heap.ExtBut it s.heap h'→Q none { s with heap:=h',toks:=tk }):wpAny (model prog w) A (pyNext (.ref it)) Q E s:=by
 obtain⟨o,ho,hc,hd⟩:=id hit
 unfold pyNext
 refine wpAny_bind (wpAny_attempt (wpAny_callSpecial?_slot (name:=Str.ofString "__next__") hit.typeIs k_
  (wpAny_call_entry k_ hit.typeIs uc ?_ (ud _))))
 unfold Builtin.«reversed.__next__»
 refine wpAny_bind (wpAny_of_eq (a:=(Value.ref it,[])) rfl ?_)
 try dsimp only
 refine wpAny_bind (wpAny_field ho hd (x:=.ref t) rfl ?_)
 refine wpAny_bind (wpAny_field ho hd (x:=rawInt (-1)) rfl ?_)
 show wpAny _ _ (if (-1:Int)<0 then _ else _) _ _ s
 rw[if_pos (by decide)]
 refine wpAny_bind (wpAny_rule ?_)
 show wpAny _ _ ((setField (.ref it) 1 (rawInt (-1)) >>= fun _=>setField (.ref it) 0 .none) >>= fun _=>Builtin.SmallTypes.stopIteration >>= _) _ _ s
 have L_:=Heap.get?_update_self (fun o=>o.mapFields fun fs=>fs.setIfInBounds 1 (rawInt (-1))) ho (Obj.isFreed_of_fields (Obj.data_mapFields hd _))
 refine wpAny_bind (wpAny_bind (wpAny_setField ho hd (by simp) ?_))
 refine wpAny_setField L_ (Obj.data_mapFields hd _) (by simp) ?_
 refine wpAny_bind ?_
 show wpAny _ _ (newExc (.type "StopIteration") [] >>= _) _ _ _
 refine wpAny_bind ?_
 simp only[newExc,newTuple]
 refine wpAny_bind (wpAny_newObj_type ?_ (by size_fits))
 refine wpAny_bind (m:=firstArgMember _ _) (wpAny_of_eq (a:=Value.none) (by first|rfl|(simp only[firstArgMember];rfl)) (wpAny_newObj_type ?_ (by size_fits)))
 simp only[raiseNew]
 refine wpAny_bind (wpAny_handled ?_)
 first|rw[show A.in1.handled=none from hh]|rw[hh]
 refine wpAny_bind (wpAny_pure (wpAny_throw ?_))
 refine wpAny_bind (wpAny_isInstance (T:="StopIteration") (b:=true) ⟨_,Heap.get?_push_size _ rfl,rfl⟩ isSubtype_stop ?_)
 exact wpAny_pure (hQ _ _ ((((Heap.SameBut.update ..).trans (Heap.SameBut.update ..)).extBut.push _).push _))
theorem vv{it t:Addr}{i:Int}{Q:Value→Shared→Prop}(hit:iG s.heap it t i)(h:Q (.ref it) s):wpAny (model prog w) A (pyIter (.ref it)) Q E s:=by
 refine wpAny_pyIter_slot hit.typeIs zg (wpAny_call_entry zg hit.typeIs Bj ?_ (Bk _))
 show wpAny _ _ (ret (.ref it)) _ _ s
 exact wpAny_pure ⟨_,rfl,"reversed",_,hit.typeIs,k_.lookup,h⟩
end
theorem DQ{prog:Program}{w:World}{A:Around}(hh:A.handled=none)(I t:Addr)(gH:t≠I)(xs:Array Value)(gE:(xs.size:Int)<2 ^ 63):
  Walks prog w A I [I,t] [I] xs.size (fun i v=>xs[xs.size - 1 - i]? =some v) (fun i h=>i≤xs.size∧iG h I t ((xs.size:Int) - 1 - (i:Int))∧h.IsTuple t xs) where
 sub:=fun b hb=>by simp at hb;simp[hb]
 frame:=fun _ _ _ x hk=>⟨x.1,x.2.1.at fun o e=>hk I (by simp) o e,x.2.2.at fun o e=>hk t (by simp) o e⟩
 item:=fun i s Q E hi x hQ=>by
  have e:(xs.size:Int) - 1 - (i:Int)=((xs.size - 1 - i:Nat):Int):=by omega
  have hit:=x.2.1
  rw[e]at hit
  have hx:xs[xs.size - 1 - i]? =some (xs[xs.size - 1 - i]'(by omega)):=Array.getElem?_eq_getElem (by omega)
  refine GC hit x.2.2 gE hx fun h' tk LS yP=>?_
  have e2:((xs.size - 1 - i:Nat):Int) - 1=(xs.size:Int) - 1 - ((i+1:Nat):Int):=by omega
  rw[e2]at LS
  exact hQ _ h' tk hx ⟨hi,LS,x.2.2.at fun o eo=>(yP.2 t gH).trans eo⟩ fun b o hb eo=>yP.extBut b o (fun h=>hb (by simp[h])) eo
 done:=fun s Q E x hQ=>by
  have e:(xs.size:Int) - 1 - (xs.size:Int)= -1:=by omega
  have hit:=x.2.1
  rw[e]at hit
  exact Ka hh hit fun h' tk Kb=>hQ h' tk fun b o hb eo=>Kb b o (fun h=>hb (by simp[h])) eo
 self:=fun _ _ _ _ x hQ=>vv x.2.1 hQ
end L2
namespace L2
open PySem PySem.Spec PyProof.Rows
theorem vV:Slot "reversed" "__length_hint__" "reversed.__length_hint__":=
 .of (owner:="reversed") (n:="__length_hint__") (by rw[typeLookup_type,builtinLookup_eq_fast];kernel_rfl) (by decide +kernel) (by decide +kernel) (by decide +kernel) (.inr (by decide +kernel)) (by rw[isSubtype_type];kernel_rfl)
theorem Bm(a:Value):argsOk "reversed.__length_hint__" ⟨[a],[]⟩:=by
 unfold argsOk;rw[signature?_of (id:="reversed.__length_hint__") (n:=['_','_','t','n','i','h','_','h','t','g','n','e','l','_','_']) (o:=['d','e','s','r','e','v','e','r']) (by kernel_rfl) qq];kernel_rfl
section
variable{prog:Program}{w:World}{A:Around}{E:Value→Shared→Prop}{s:Shared}{I:Addr}{fp wr:List Addr}{G:Array GenState→Array GenState→Prop}{n:Nat}{P:Nat→Value→Prop}{St:Nat→Shared→Prop}
theorem vw{t:Addr}{xs:Array Value}{Q:Value→Shared→Prop}(hit:iG s.heap I t ((xs.size:Int) - 1))(ht:s.heap.IsTuple t xs)(gE:(xs.size:Int)<2 ^ 63)
  (h:∀u tk,s.toks≤tk→Q (.int xs.size u) { s with toks:=tk }):wpAny (model prog w) A (call (.builtin "reversed.__length_hint__") [.ref I]) Q E s:=by
 obtain⟨o,ho,hc,hd⟩:=id hit
 refine wpAny_call_entry vV hit.typeIs Bi ?_ (Bm _)
 unfold Builtin.«reversed.__length_hint__»
 refine wpAny_bind (wpAny_of_eq (a:=Value.ref I) rfl ?_)
 refine wpAny_bind (wpAny_field ho hd (x:=.ref t) rfl ?_)
 show wpAny _ _ (ite ((Value.ref t==Value.none)=true) _ _) _ _ _
 rw[if_neg (by exact Bool.false_ne_true)]
 refine wpAny_bind (len_tuple (show IsTup s.heap t xs from ht) gE ?_)
 refine wpAny_bind (wpAny_of_eq (a:=some (xs.size:Int)) rfl ?_)
 dsimp only
 refine wpAny_bind (wpAny_field (s:={ s with toks:=s.toks+1+1 }) ho hd (x:=rawInt ((xs.size:Int) - 1)) rfl ?_)
 show wpAny _ _ (if (xs.size:Int)<(xs.size:Int) - 1+1 then _ else _) _ _ _
 rw[if_neg (by omega)]
 rw[show(xs.size:Int) - 1+1=xs.size by omega]
 exact wpAny_bind (wpAny_mkInt (wpAny_pure ⟨_,rfl,h _ _ (Nat.le_succ_of_le (Nat.le_succ_of_le (Nat.le_succ _)))⟩))
theorem zi{t:Addr}{xs:Array Value}{Q:List Value→Shared→Prop}(W:WalksS prog w A.in1 I fp wr G xs.size P St)(hT:∀s,St 0 s→iG s.heap I t ((xs.size:Int) - 1)∧s.heap.IsTuple t xs)(gd:St 0 s)(GD:∀b∈fp,b<s.heap.objs.size)(hI:I∈fp)
  (hQ:∀s' acc,Moved wr G s s'→ItemsOf P acc xs.size→Q acc.toList s')(hn:xs.size≤sizeLine)(h0: 0<xs.size):wpAny (model prog w) A (collect (.ref I)) Q E s:=by
 have gE:(xs.size:Int)<2 ^ 63:=by rw[sizeLine_eq]at hn;omega
 have a1:s.heap.objs.size∉fp:=fun hm=>Nat.lt_irrefl _ (GD _ hm)
 have a2:s.heap.objs.size≠I:=fun e=>a1 (e ▸ hI)
 unfold collect
 refine wpAny_bind (wpAny_runValue (codeAny_builtin F.entry_proto_collect ?_))
 rw[Around.under_plainId F.plain_proto_collect _]
 show wpAny _ A.in1 (newList [] >>= fun l=>again (.builtin "list.__iadd__" ⟨[l,.ref I],[]⟩)) _ _ s
 refine wpAny_bind (wpAny_newObj_type (wpAny_pure ⟨plainId_quiet F.plain_list_iadd _,codeAny_builtin F.entry_list_iadd ?_⟩))
 rw[Around.under_plainId F.plain_list_iadd _]
 have b0:=W.frame 0 s (s.heap.push { cls:=.type "list",data:=.seq ([]:List Value).toArray })
 have b1:=b0 s.toks gd (Nat.le_refl _) fun b _ o e=>Heap.get?_push_of_some _ e
 have b2:(s.heap.push { cls:=.type "list",data:=.seq ([]:List Value).toArray }).get? s.heap.objs.size=some { cls:=.type "list",data:=.seq ([]:List Value).toArray }:=Heap.get?_push_size _ rfl
 have b3:Builtin.List.listSameRef (.ref s.heap.objs.size) (.ref I)=false:=by simp[Builtin.List.listSameRef,a2]
 have Kc:=(hT _ b1).1.typeIs
 show wpAny _ A.in1 (Builtin.List.listExtendWith (.ref s.heap.objs.size) (.ref I) (.ref s.heap.objs.size)) _ _ _
 unfold Builtin.List.listExtendWith
 refine wpAny_bind (wpAny_typeOf Kc ?_)
 rw[if_neg (by rw[b3];decide)]
 refine wpAny_bind (W.self 0 _ _ _ b1 (wpAny_bind (wpAny_holding ?_)))
 unfold Builtin.List.listLengthHint
 refine wpAny_bind (wpAny_specialOf Kc DO ?_)
 show wpAny _ A.in1 (specialOf (Value.ref I) (Str.ofString "__length_hint__") >>= _) _ _ _
 refine wpAny_bind (wpAny_specialOf Kc Gy ?_)
 (generalize Nv:("reversed.__length_hint__":String)=QV;(fail_if_success (clear Nv QV));wp_delta;rw[show splitId QV=some ("reversed","__length_hint__")from by subst Nv;decide +kernel];subst Nv)
 refine wpAny_bind (wpAny_isInstance (b:=true) Kc (by rw[isSubtype_type];kernel_rfl) ?_)
 rw[if_neg (by decide)]
 dsimp only
 rw[if_neg (by decide +kernel)]
 refine wpAny_bind (wpAny_rule ?_)
 refine wpAny_bind (wpAny_of_eq (vV.bind _) ?_)
 dsimp only
 refine wpAny_bind (wpAny_attempt (vw (hT _ b1).1 (hT _ b1).2 gE fun u tk hle=>?_))
 have ea:asInt? (Value.int (xs.size:Int) u)=pure (some (xs.size:Int)):=rfl
 simp only[ea,pure_bind]
 have f1:Builtin.List.listFitsIndex (xs.size:Int)=true:=by
  unfold Builtin.List.listFitsIndex
  rw[Bool.and_eq_true]
  exact⟨decide_eq_true (by omega),decide_eq_true gE⟩
 have f2:Builtin.List.listTooLong (xs.size:Int).toNat=false:=by
  rw[Int.toNat_natCast]
  exact decide_eq_false (Nat.not_lt.mpr hn)
 rw[if_neg (by rw[f1];decide),if_neg (by omega),if_neg (by rw[f2];decide)]
 have f3:((xs.size:Int) != 0)=true:=bne_iff_ne.mpr (by omega)
 rw[f3]
 refine wpAny_pure ?_
 refine wpAny_bind (m:=rule "list.extend.makes-room") (wpAny_rule (wpAny_bind (m:=Builtin.List.listTouch (.ref s.heap.objs.size)) ?_))
 have b4:=b0 tk gd hle fun b _ o e=>Heap.get?_push_of_some _ e
 generalize hp:s.heap.push { cls:=.type "list",data:=.seq ([]:List Value).toArray } =p at*
 generalize hS:s.heap.objs.size=S at*
 clear gE f1 f2 f3 ea
 have Md:id (xs.size≤sizeLine):=hn
 clear hn
 refine wpAny_bind (m:=updateSeq S (·.push .none)) (wpAny_updateSeq b2 rfl ?_)
 have g3:=Heap.get?_update_self (Obj.mapSeq (·.push Value.none)) b2 rfl
 refine wpAny_updateSeq (hz:=by seq_fits) g3 rfl ?_
 have g4:=Heap.get?_update_self (Obj.mapSeq (·.pop)) g3 rfl
 have o4:∀b o,b≠S→p.get? b=some o→((p.update S (Obj.mapSeq (·.push Value.none))).update S (Obj.mapSeq (·.pop))).get? b=some o:=fun b o hb e=>(Heap.get?_update_other _ _ (Ne.symm hb)).trans ((Heap.get?_update_other _ _ (Ne.symm hb)).trans e)
 have b5:=W.frame 0 _ ((p.update S (Obj.mapSeq (·.push Value.none))).update S (Obj.mapSeq (·.pop))) tk b4 (Nat.le_refl _) fun b hb o e=>o4 b o (fun z=>a1 (z ▸ hb)) e
 refine wpAny_pure ⟨plainId_quiet F.plain_extend_loop _,codeAny_extend_loopS W Md _ a1 _ xs.size 0 _ _ _ rfl (Nat.zero_le _) b5 g4 (ItemsOf.nil P) fun s' QX c' hm Gs qQ=>?_⟩
 show wpAny _ A (load S >>= _) _ _ s'
 refine wpAny_bind (wpAny_load Gs (wpAny_pure (hQ s' QX ?_ qQ)))
 refine⟨fun b ob hb e=>?_,hm.gens,hm.drawn,hm.os,Nat.le_trans hle hm.toks⟩
 have QY:b≠S:=fun z=>by rw[←z]at hS;rw[←hS]at e;exact absurd (Heap.lt_size e) (Nat.lt_irrefl _)
 refine hm.heap b ob (fun z=>?_) (o4 b ob QY (by rw[←hp];exact Heap.get?_push_of_some _ e))
 rcases List.mem_cons.mp z with z|z
 ·exact QY z
 ·exact hb z
end
end L2
namespace L2
open PySem PySem.Spec PyProof.Rows
section
variable{prog:Program}{w:World}{A:Around}{E:Value→Shared→Prop}{s:Shared}{I:Addr}{fp wr:List Addr}{G:Array GenState→Array GenState→Prop}{P:Nat→Value→Prop}{St:Nat→Shared→Prop}
theorem vx{t:Addr}{xs:Array Value}{Q₁:Value→Shared→Prop}(W:WalksS prog w A.in1.in1 I fp wr G xs.size P St)(hT:∀s,St 0 s→iG s.heap I t ((xs.size:Int) - 1)∧s.heap.IsTuple t xs)(gd:St 0 s)(GD:∀b∈fp,b<s.heap.objs.size)(hI:I∈fp)(nP:xs.size≤sizeLine)(h0: 0<xs.size)
  (h:∀s' acc,Moved wr G s s'→ItemsOf P acc xs.size→Q₁ (.ref s'.heap.objs.size) { s' with heap:=s'.heap.push { cls:=.type "tuple",data:=.seq acc } }):
  codeAny (model prog w) A (.call (.builtin "tuple.__new__") ⟨[.type "tuple",.ref I],[]⟩) (wants Q₁ E) s:=by
 refine codeAny_of_tree ?_
 show wpAny _ A.in1 (do checkBuiltinCall "tuple.__new__" ⟨[.type "tuple",.ref I],[]⟩;again (.builtin "tuple.__new__" ⟨[.type "tuple",.ref I],[]⟩)) _ _ s
 refine wpAny_bind (wpAny_of_eq (F.newCall_tuple_1 _) (wpAny_pure ⟨plainId_quiet F.plain_tuple_new _,codeAny_builtin F.entry_tuple_new ?_⟩))
 rw[Around.under_plainId F.plain_tuple_new _]
 have ua:=sub_tuple_self
 have Tt:=init_tuple_lookup
 have Wa:=madeHere_tuple
 have Tu:=(hT s gd).1.typeIs
 wp_walk using wpAny_typeOf Tu,zi (hn:=nP) (h0:=h0) W hT gd GD hI
 intro s' acc hm qQ
 show wpAny _ _ (Builtin.Tuple.tupleExact acc.toList.toArray >>= fun v=>ret v) _ _ _
 unfold Builtin.Tuple.tupleExact
 refine wpAny_bind (wpAny_newObj_type (wpAny_pure ?_) (by show acc.toList.toArray.size≤sizeLine;simp only[Array.toArray_toList];rw[qQ.1];exact nP))
 rw[show acc.toList.toArray=acc by simp]
 exact h s' acc hm qQ
theorem DR{t:Addr}{xs:Array Value}{Q:Value→Shared→Prop}(W:WalksS prog w A.in1.in1.in1 I fp wr G xs.size P St)(hT:∀s,St 0 s→iG s.heap I t ((xs.size:Int) - 1)∧s.heap.IsTuple t xs)(gd:St 0 s)(GD:∀b∈fp,b<s.heap.objs.size)(hI:I∈fp)(nP:xs.size≤sizeLine)(h0: 0<xs.size)
  (hQ:∀s' acc,Moved wr G s s'→ItemsOf P acc xs.size→Q (.ref s'.heap.objs.size) { s' with heap:=s'.heap.push { cls:=.type "tuple",data:=.seq acc } }):
  wpAny (model prog w) A (call (.type "tuple") [.ref I]) Q E s:=by
 refine callType_codes (Q₁:=fun obj bB=>bB.TypeIs obj "tuple"∧Q obj bB) F.called_tuple (F.typeCall_tuple_1 _) F.entry_object_init
  (vx W hT gd GD hI nP h0 fun s' acc hm qQ=>⟨⟨_,Heap.get?_push_size _ rfl,rfl⟩,hQ s' acc hm qQ⟩) fun obj bB ja=>?_
 exact⟨ja.1,F.args_object_init_2 obj _,object_init_meets F.called_tuple.init.lookup F.called_tuple.made (by decide) prog w A.in1 _ bB ⟨ja.1,rfl,ja.2⟩⟩
end
theorem DS{its:List Value}{acc:Array Value}(h:ItemsOf (fun i v=>its.toArray[its.toArray.size - 1 - i]? =some v) acc its.toArray.size):acc.toList=its.reverse:=by
 obtain⟨h1,h2⟩:=h
 apply List.ext_getElem?
 intro j
 have el:acc.toList.length=its.length:=by simpa using h1
 by_cases hj:j<its.length
 ·have e1:acc[j]? =some (acc[j]'(by rw[h1];simpa using hj)):=Array.getElem?_eq_getElem _
  have e2:=h2 j _ e1
  rw[List.getElem?_reverse hj,show acc.toList[j]? =acc[j]? by simp,e1,←e2]
  simp
 ·rw[List.getElem?_eq_none (by omega),List.getElem?_eq_none (by rw[List.length_reverse];omega)]
def GF(K:PySem.W.Frag)(t:TA):TE:=fun σ H Q=>t σ H fun vs H1=>∃a xs,vs=[.ref a]∧bJ K H1 a xs∧xs≠[]∧∀l,H1 l=none→Q (.ref l) (upd H1 l (.tup xs.reverse))
section
variable{X:Cx}
theorem Bn{p0 p1 p2 pos:Pos}{e:Expr}{f:TA}(hc:X.calm=true)(hg:Gl X "tuple")(hm:X.mg "tuple" =none)(qp:Gl X "reversed")(iw:X.mg "reversed" =none)(ha:PA X [e] f)
  (hs:starEach [.Call (.Name "reversed" p1) [e] [] p2] X.env=[(false,eval (.Call (.Name "reversed" p1) [e] [] p2) X.env)]:=by rfl)
  (mF:starEach [e] X.env=(false,eval e X.env)::starEach [] X.env:=by rfl)(ip:(backTo p2 (starEach [] X.env)).any (·.1)=false:=by rfl):
  PE X (.Call (.Name "tuple" p0) [.Call (.Name "reversed" p1) [e] [] p2] [] pos) (GF X.K f):=by
 intro pins s σ H Q I h
 refine wpAny_Call_Name_kw (gc I hg hm (u:=.type "tuple") (by decide +kernel) ?_)
 refine PyProof.Rows.callWith_type1 ?_ hs rfl
 rw[hs]
 show wpAny _ _ (spliced [(false,eval (.Call (.Name "reversed" p1) [e] [] p2) X.env)]) _ _ _
 refine Calls.spliced_cons ?_
 refine wpAny_Call_Name_kw (gc I qp iw (u:=.type "reversed") (by decide +kernel) ?_)
 refine PyProof.Rows.callWith_type1 (bK (ha p2 pins s σ H _ I h) fun us s1 bh=>?_) mF ip
 obtain⟨vs,H1,I1,r1,q1⟩:=bh
 obtain⟨t,xs,rfl,ht,gH,q⟩:=q1
 obtain⟨u1,rfl,ra⟩:=vals1 r1
 cases (show u1=Value.ref t from ra)
 obtain⟨its,hv,tt,hz⟩:=I1.tuple ht
 have hlen:=hv.length
 have nP:its.toArray.size≤sizeLine:=by simp only[List.size_toArray];omega
 have h0: 0<its.toArray.size:=by
  simp only[List.size_toArray]
  have:=List.length_pos_iff.mpr gH
  omega
 have gE:(its.toArray.size:Int)<2 ^ 63:=by rw[sizeLine_eq]at nP;omega
 refine GB (xs:=its.toArray) tt gE fun tk=>Calls.spliced_nil ?_
 have I2:Inv X pins σ H1 { s1 with heap:=s1.heap.push (lg t ((its.toArray.size:Int) - 1)),toks:=tk }:=I1.kept (t':=tk) fun b o e=>Heap.get?_push_of_some _ e
 have hit:iG (s1.heap.push (lg t ((its.toArray.size:Int) - 1))) s1.heap.objs.size t ((its.toArray.size:Int) - 1):=⟨_,Heap.get?_push_size _ rfl,rfl,rfl⟩
 have QZ:Heap.IsTuple (s1.heap.push (lg t ((its.toArray.size:Int) - 1))) t its.toArray:=Heap.IsTuple.push tt _
 have Q0:t<s1.heap.objs.size:=by obtain⟨o,ho,_⟩:=tt;exact Heap.lt_size ho
 have Tv:t≠s1.heap.objs.size:=Nat.ne_of_lt Q0
 have Q1:H1 s1.heap.objs.size=none:=I1.fresh
 have Tw:s1.heap.objs.size≠X.env.locals:=fun e=>by have:=I1.lt;rw[←e]at this;exact Nat.lt_irrefl _ this
 have Tx:X.bp.heap.objs.size≤s1.heap.objs.size:=I1.sz
 have Tz:∀y c,X.env.cells.lookup y=some c→c≠s1.heap.objs.size:=fun y c ec z=>by
  obtain⟨v,o,C8,_⟩:=I1.cell y c ec
  have:=Heap.lt_size C8
  rw[z]at this;exact Nat.lt_irrefl _ this
 have TB:∀p∈X.pn++pins,p.1≠s1.heap.objs.size:=fun p hp z=>by
  have:=Heap.lt_size (I1.pin p hp).1
  rw[z]at this;exact Nat.lt_irrefl _ this
 have es:s1.heap.objs.size<(s1.heap.push (lg t ((its.toArray.size:Int) - 1))).objs.size:=by rw[Heap.size_push];exact Nat.lt_succ_self _
 generalize s1.heap.objs.size=p at*
 generalize JH:({ s1 with heap:=s1.heap.push (lg t ((its.toArray.size:Int) - 1)),toks:=tk }:Shared)=s3 at*
 have hh:s3.heap=s1.heap.push (lg t ((its.toArray.size:Int) - 1)):=by rw[←JH]
 rw[←hh]at hit QZ es
 have W:=(DQ (prog:=X.prog) (w:=X.w) (A:=X.A.in1.in1.in1) (I.ok.hd hc) p t Tv its.toArray gE).toS
 refine DR W (t:=t) (fun s st=>⟨by simpa using st.2.1,st.2.2⟩) ⟨Nat.zero_le _,by simpa using hit,QZ⟩ (fun b hb=>?_) (by simp) nP h0 (fun s' acc hm qQ=>?_)
 ·have:b=p∨b=t:=by simpa using hb
  rcases this with rfl|rfl
  ·exact es
  ·exact Nat.lt_trans Q0 es
 ·have ea:=DS qQ
  have yP:s'= { s3 with heap:=s'.heap,toks:=s'.toks }:=by
   obtain⟨c1,c2,c3,c4,c5⟩:=s'
   obtain⟨d1,d2,d3,d4,d5⟩:=s3
   have q1:=hm.gens;have q2:=hm.drawn;have q3:=hm.os
   simp only at q1 q2 q3
   subst q1 q2 q3
   rfl
  have I3:Inv X pins σ H1 { s3 with heap:=s'.heap,toks:=s'.toks }:=I2.turned (t':=s'.toks) (it:=p) (fun b o hb eb=>hm.heap b o (by simpa using hb) eb) Q1 Tw (.inr Tx) Tz TB
  have TC:Vals xs.reverse its.reverse:=hv.reverse
  have TF:xs.reverse.length≤sizeLine:=by rw[List.length_reverse];exact hz
  have TH:acc=its.reverse.toArray:=by rw[←ea]
  have I4:Inv X pins σ (upd H1 s'.heap.objs.size (.tup xs.reverse)) { s3 with heap:=s'.heap.push { cls:=.type "tuple",data:=.seq acc },toks:=s'.toks }:=by
   rw[TH]
   exact I3.laid (t':=s'.toks) (fun b o e=>Heap.get?_push_of_some _ e) (Nat.le_refl _) (show dq X.prog X.w _ _ _ (.tup xs.reverse)from⟨TF,its.reverse,TC,IsTup.new _ _⟩)
  rw[yP]
  exact⟨.ref s'.heap.objs.size,_,I4,rfl,q _ (I3.bV.fresh (Nat.le_refl _))⟩
end
end L2
namespace Qm
open PySem
def iH:FN:=fun ds c=>match ds with
 |[.tup xs]=>if xs.isEmpty=true then none else some (.tup xs.reverse,c)
 |_=>none
end Qm
namespace L2
open PySem PySem.Spec PyProof.Rows
section
variable{X:Cx}{e1:Expr}{p0 p1 p2 pos:Pos}{f:Qm.XA}
theorem RA.snoc{K:PySem.W.Frag}{ρ:Nat→Addr}{N:Nat}{H:Hp}:∀{xs ys:List Qm.D}{vs us:List V},RA K ρ N H xs vs→RA K ρ N H ys us→RA K ρ N H (xs++ys) (vs++us)
 |[],_,_,_,.nil,h=>h
 |_::_,_,_,_,.cons r t,h=>.cons r (RA.snoc t h)
theorem RA.back{K:PySem.W.Frag}{ρ:Nat→Addr}{N:Nat}{H:Hp}:∀{xs:List Qm.D}{vs:List V},RA K ρ N H xs vs→RA K ρ N H xs.reverse vs.reverse
 |[],_,.nil=>.nil
 |_::_,_,.cons r t=>by
  rw[List.reverse_cons,List.reverse_cons]
  exact RA.snoc (RA.back t) (.cons r .nil)
theorem xt(hg:Gl X "tuple")(hm:X.mg "tuple" =none)(qp:Gl X "reversed")(iw:X.mg "reversed" =none)(ha:QA X [e1] f)(hc:X.calm=true:=by rfl)
  (hs:starEach [.Call (.Name "reversed" p1) [e1] [] p2] X.env=[(false,eval (.Call (.Name "reversed" p1) [e1] [] p2) X.env)]:=by rfl)
  (mF:starEach [e1] X.env=(false,eval e1 X.env)::starEach [] X.env:=by rfl)(ip:(backTo p2 (starEach [] X.env)).any (·.1)=false:=by rfl):
  QE X (.Call (.Name "tuple" p0) [.Call (.Name "reversed" p1) [e1] [] p2] [] pos) (Qm.eB Qm.iH f):=(Bn hc hg hm qp iw ha hs mF ip).imp <| by
 rintro σ H Q ⟨ρ,env,c,d,c',rs,re,e,k⟩
 obtain⟨p,ea,e⟩:=aM e
 refine⟨ρ,env,c,p.1,p.2,rs,re,ea,fun aS vs H1 n1 r1=>?_⟩
 unfold Qm.iH at e
 split at e
 ·rename_i xs hp
  split at e
  ·cases e
  rename_i gH
  cases e
  rw[hp]at r1
  obtain⟨v,rfl,rx⟩:=r1.kW
  obtain⟨a,va,rfl,Bh,aa⟩:=rx.eU
  refine⟨a,va,rfl,bJ.of Bh,fun z=>?_,fun l hl=>?_⟩
  ·rw[z]at aa
   cases aa
   exact gH rfl
  ·have n2:=Nx.same n1.rs (fW (z:=.tup va.reverse) hl)
   exact k _ _ _ (n1.trans n2) (.tup du ((RA.back aa).up n2.up))
 ·cases e
end
end L2
namespace L2
open PySem PySem.Spec PyProof.Rows
mutual
def nb:PyData→Bool
 |.none=>true
 |.int _=>true
 |.str _=>true
 |.tuple ds=>uf ds
 |.list ds=>uf ds
 |_=>false
def uf:List PyData→Bool
 |[]=>true
 |d::ds=>nb d&&uf ds
end
section
variable{K:PySem.W.Frag}{ρ:Nat→Addr}{c:Qm.Cells}{H:Hp}
theorem xu{k:Nat}(rs:RS K ρ c H)(ih:∀{x:Qm.D}{v:V}{d:PyData},RD K ρ c.length H x v→Qm.data c k x=some d→jw K H v d∧PyData.canLay0 d=true∧d.depth≤k∧nb d=true):
  ∀{xs:List Qm.D}{vs:List V}{ds:List PyData},RA K ρ c.length H xs vs→Qm.omap (Qm.data c k) xs=some ds→nV K H vs ds∧PyData.canLayAll0 ds=true∧PyData.depthAll ds≤k∧uf ds=true
 |[],_,ds,a,h=>by
  cases a
  cases h
  exact⟨.nil,rfl,Nat.zero_le _,rfl⟩
 |x::xs,_,ds,a,h=>by
  cases a with
  |cons r a=>
   obtain⟨d,h1,h⟩:=aM h
   obtain⟨es,h2,h⟩:=aM h
   cases h
   obtain⟨a1,a2,a3,a4⟩:=ih r h1
   obtain⟨b1,b2,b3,b4⟩:=xu rs ih a h2
   exact⟨.cons a1 b1,by simp[PyData.canLayAll0,a2,b2],by simp only[PyData.depthAll];omega,by simp[uf,a4,b4]⟩
theorem o7(rs:RS K ρ c H):∀(k:Nat) {x:Qm.D}{v:V}{d:PyData},RD K ρ c.length H x v→Qm.data c k x=some d→jw K H v d∧PyData.canLay0 d=true∧d.depth≤k∧nb d=true
 |0,_,_,_,_,h=>by simp[Qm.data]at h
 |k+1,x,v,d,r,h=>by
  have A:∀{xs:List Qm.D}{vs:List V}{ds:List PyData},RA K ρ c.length H xs vs→Qm.omap (Qm.data c k) xs=some ds→nV K H vs ds∧PyData.canLayAll0 ds=true∧PyData.depthAll ds≤k∧uf ds=true:=fun {xs vs ds}=>xu (k:=k) rs (fun r h=>o7 rs k r h)
  cases x with
  |bC=>simp[Qm.data]at h;subst h;cases r.LN;exact⟨.bC,rfl,Nat.zero_le _,rfl⟩
  |int i=>simp[Qm.data]at h;subst h;cases r.fX;exact⟨.int i,rfl,Nat.zero_le _,rfl⟩
  |bl b=>simp[Qm.data]at h
  |str b=>
   simp only[Qm.data]at h
   split at h
   ·rename_i hb
    cases h
    cases r
    exact⟨.str b,hb,Nat.zero_le _,rfl⟩
   ·cases h
  |ty b=>simp[Qm.data]at h
  |adr b=>simp[Qm.data]at h
  |F6 t bs=>simp[Qm.data]at h
  |tup xs=>
   simp only[Qm.data]at h
   obtain⟨ds,h1,h⟩:=aM h
   cases h
   obtain⟨p,vs,rfl,g,a⟩:=r.eU
   obtain⟨a1,a2,a3,a4⟩:=A a h1
   exact⟨.tup (bJ.of g) a1,by simpa[PyData.canLay0]using a2,by simp only[PyData.depth];omega,by simpa[nb]using a4⟩
  |ref n=>
   simp only[Qm.data]at h
   have hs:∀{xs:List Qm.D},Qm.cf (.ref n) c=some xs→(Qm.omap (Qm.data c k) xs).bind (fun ds=>some (PyData.list ds))=some d→jw K H v d∧PyData.canLay0 d=true∧d.depth≤k+1∧nb d=true:=fun {xs} e h=>by
    obtain⟨ds,h1,h⟩:=aM h
    cases h
    obtain⟨vs,rfl,g,a⟩:=rs.Ci r e
    obtain⟨a1,a2,a3,a4⟩:=A a h1
    exact⟨.lst g a1,by simpa[PyData.canLay0]using a2,by simp only[PyData.depth];omega,by simpa[nb]using a4⟩
   cases e:c[n]? with
   |none=>rw[e]at h;cases h
   |some z=>
    rw[e]at h
    cases z with
    |lst xs=>exact hs (by simp[Qm.cf,e]) h
    |ro xs=>exact hs (by simp[Qm.cf,e]) h
    |Dy xs=>cases h
    |DA xs=>cases h
    |F7 xs=>cases h
    |F8 xs=>cases h
    |vO xs=>cases h
    |exc C S xs=>cases h
    |tab cd q=>cases h
end
mutual
theorem o8:∀(d e:PyData),nb d=true→nb e=true→(PyData.eqv d e=true↔d=e)
 |.none,e,_,he=>by cases e<;>simp_all [PyData.eqv,nb]
 |.int i,e,_,he=>by cases e<;>simp_all [PyData.eqv,nb]
 |.tuple ds,e,hd,he=>by
  cases e<;>simp_all [PyData.eqv,nb]
  exact qr _ _ hd he
 |.list ds,e,hd,he=>by
  cases e<;>simp_all [PyData.eqv,nb]
  exact qr _ _ hd he
 |.bool _,_,h,_=>by simp[nb]at h
 |.str a,e,_,he=>by cases e<;>simp_all [PyData.eqv,nb]
 |.dict _,_,h,_=>by simp[nb]at h
theorem qr:∀(ds es:List PyData),uf ds=true→uf es=true→(PyData.eqvAll ds es=true↔ds=es)
 |[],[],_,_=>by simp[PyData.eqvAll]
 |[],_::_,_,_=>by simp[PyData.eqvAll]
 |_::_,[],_,_=>by simp[PyData.eqvAll]
 |d::ds,e::es,hd,he=>by
  simp only[uf,Bool.and_eq_true]at hd he
  simp only[PyData.eqvAll,Bool.and_eq_true,List.cons.injEq]
  rw[o8 d e hd.1 he.1,qr ds es hd.2 he.2]
end
section
variable{X:Cx}
theorem Cq{x y:Qm.D}{c:Qm.Cells}{b:Bool}(h:Qm.mG x y c=some b):(∃p q,x= .bl p∧y= .bl q∧b=(p==q))∨∃d e,Qm.data c 6 x=some d∧Qm.data c 6 y=some e∧(b=true↔d=e):=by
 unfold Qm.mG at h
 split at h
 ·cases h;exact .inl ⟨_,_,rfl,rfl,rfl⟩
 ·obtain⟨d,h1,h⟩:=aM h
  obtain⟨e,h2,h⟩:=aM h
  cases h
  exact .inr ⟨d,e,h1,h2,by simp⟩
theorem zj{K:PySem.W.Frag}{ρ:Nat→Addr}{c:Qm.Cells}{H:Hp}{x y:Qm.D}{v u:V}{d e:PyData}{b:Bool}(rs:RS K ρ c H)(rx:RD K ρ c.length H x v)(ry:RD K ρ c.length H y u)(h1:Qm.data c 6 x=some d)(h2:Qm.data c 6 y=some e)(hb:b=true↔d=e):
  jw K H v d∧jw K H u e∧SeqAt.shaped d=true∧SeqAt.shaped e=true∧PyData.eqv d e=b:=by
 obtain⟨a1,a2,a3,a4⟩:=o7 rs 6 rx h1
 obtain⟨b1,b2,b3,b4⟩:=o7 rs 6 ry h2
 refine⟨a1,b1,by simp[SeqAt.shaped,a2];omega,by simp[SeqAt.shaped,b2];omega,?_⟩
 have:=o8 d e a4 b4
 cases b with
 |true=>exact this.mpr (hb.mp rfl)
 |false=>
  cases q:PyData.eqv d e with
  |false=>rfl
  |true=>exact absurd (hb.mpr (this.mp q)) (by decide)
theorem cV(hu:X.A.units+64<cLine):dB X (compareOp .Eq) (fun x y H Q=>Mt x y H Q∨vM X.K false x y H Q):=Mv.or (JJ hu)
theorem jc(hu:X.A.units+64<cLine):dB X (compareOp .NotEq) (fun x y H Q=>Mu x y H Q∨vM X.K true x y H Q):=Mw.or (JK hu)
theorem dM{K:PySem.W.Frag}:gb K (fun x y H Q=>Mt x y H Q∨vM K false x y H Q) Qm.df:=by
 intro ρ c H x y d c' v u Q rs rx ry e k
 obtain⟨b,e1,e⟩:=aM e
 cases e
 rcases Cq e1 with⟨p,q,rfl,rfl,rfl⟩|⟨dd,ee,h1,h2,hb⟩
 ·cases rx.nX;cases ry.nX
  exact .inl ⟨rfl,by rw[sh];exact k ρ _ H (Nx.refl rs) (.bl _)⟩
 ·obtain⟨a1,a2,a3,a4,a5⟩:=zj rs rx ry h1 h2 hb
  refine .inr ⟨dd,ee,a1,a2,a3,a4,?_⟩
  rw[if_neg (by decide),a5]
  exact k ρ _ H (Nx.refl rs) (.bl _)
theorem lh{K:PySem.W.Frag}:gb K (fun x y H Q=>Mu x y H Q∨vM K true x y H Q) Qm.jx:=by
 intro ρ c H x y d c' v u Q rs rx ry e k
 obtain⟨b,e1,e⟩:=aM e
 cases e
 rcases Cq e1 with⟨p,q,rfl,rfl,rfl⟩|⟨dd,ee,h1,h2,hb⟩
 ·cases rx.nX;cases ry.nX
  exact .inl ⟨rfl,by rw[sh];exact k ρ _ H (Nx.refl rs) (.bl _)⟩
 ·obtain⟨a1,a2,a3,a4,a5⟩:=zj rs rx ry h1 h2 hb
  refine .inr ⟨dd,ee,a1,a2,a3,a4,?_⟩
  rw[if_pos rfl,a5]
  exact k ρ _ H (Nx.refl rs) (.bl _)
def Bo(x:Qm.D):Bool:=match x with|.bC=>true|_=>false
theorem RD.GG{K:PySem.W.Frag}{ρ:Nat→Addr}{N:Nat}{H:Hp}{x:Qm.D}{v:V}(r:RD K ρ N H x v):decide (v= .bC)=Bo x:=by
 cases r<;>simp[Bo]
theorem Kd{K:PySem.W.Frag}:gb K (fun x y H Q=>y= .bC∧Q (.bl (decide (x= .bC))) H) Qm.vQ:=by
 intro ρ c H x y d c' v u Q rs rx ry e k
 unfold Qm.vQ at e
 split at e
 ·cases e
  cases ry.LN
  refine⟨rfl,?_⟩
  rw[rx.GG]
  exact k ρ _ H (Nx.refl rs) (.bl (Bo x))
 ·cases e
theorem kit_is(K:PySem.W.Frag):PySem.W.kitOne K (.type "int") (.type "int")=some true∧PySem.W.kitOne K (.type "int") (.type "bool")=some false∧PySem.W.kitOne K (.type "bool") (.type "bool")=some true∧PySem.W.kitOne K (.type "bool") (.type "int")=some true∧PySem.W.kitOne K (.type "tuple") (.type "tuple")=some true∧PySem.W.kitOne K (.type "list") (.type "list")=some true:=
 ⟨by with_unfolding_all rfl,by with_unfolding_all rfl,by with_unfolding_all rfl,by with_unfolding_all rfl,by with_unfolding_all rfl,by with_unfolding_all rfl⟩
theorem Bp{K:PySem.W.Frag}:ql K (fun xs H Q=>∃x n t k,xs=[x,.ty n]∧i9 K H x t∧PySem.W.kitOne K t (.type n)=some k∧Q (.bl k) H) Qm.oS:=by
 intro ρ c H ds d c' vs Q rs ra e k
 obtain⟨x,y,rfl,e'⟩:=Cm e
 obtain⟨v,u,rfl,rx,ry⟩:=ra.oU
 obtain⟨k1,k2,k3,k4,k5,k6⟩:=kit_is K
 split at e'
 ·rename_i n
  obtain⟨b,e1,e2⟩:=aM e'
  cases e2
  have hu:u= .ty n:=by cases ry;rfl
  subst hu
  unfold Qm.Cf at e1
  split at e1
  ·cases rx.fX
   split at e1
   ·rename_i hn;cases e1;subst hn;exact⟨_,_,_,_,rfl,.int _,k1,k ρ _ H (Nx.refl rs) (.bl _)⟩
   ·split at e1
    ·rename_i hn;cases e1;subst hn;exact⟨_,_,_,_,rfl,.int _,k2,k ρ _ H (Nx.refl rs) (.bl _)⟩
    ·cases e1
  ·cases rx.nX
   split at e1
   ·rename_i hn;cases e1;subst hn;exact⟨_,_,_,_,rfl,.bl _,k3,k ρ _ H (Nx.refl rs) (.bl _)⟩
   ·cases e1
  ·obtain⟨p,ws,rfl,g,_⟩:=rx.eU
   split at e1
   ·rename_i hn;cases e1;subst hn;exact⟨_,_,_,_,rfl,.tup g,k5,k ρ _ H (Nx.refl rs) (.bl _)⟩
   ·cases e1
  ·rename_i m
   obtain⟨rfl,_⟩:=rx.yV
   split at e1
   ·rename_i ws hw
    obtain⟨us,g,_⟩:=rs.lst hw
    split at e1
    ·rename_i hn;cases e1;subst hn;exact⟨_,_,_,_,rfl,.lst g,k6,k ρ _ H (Nx.refl rs) (.bl _)⟩
    ·cases e1
   ·cases e1
  ·cases e1
 ·cases e'
end
end L2
namespace L2
open PySem PySem.Spec PyProof.Rows
section
variable{X:Cx}
def LU(K:PySem.W.Frag)(neg:Bool):R2:=fun x y H Q=>∃(p:Addr) (xs:List V) (d:PyData) (ds:List PyData),y= .ref p∧(dI K H p xs∨bJ K H p xs)∧jw K H x d∧nV K H xs ds∧SeqAt.shaped d=true∧d.depth≤8∧(∀e∈ds,PyData.canLay0 e=true)∧Q (.bl (if neg then !(ds.any fun e=>PyData.eqv e d)else ds.any fun e=>PyData.eqv e d)) H
theorem Cr{pins:List (Addr×Obj)}{σ:St}{H:Hp}{s:Shared}{x:V}{xs:List V}{v:Value}{its:List Value}{d:PyData}{ds:List PyData}(hu:X.A.units+64<cLine)(I:Inv X pins σ H s)(rx:RelV x v)(hv:Vals xs its)(hx:jw X.K H x d)(Ke:nV X.K H xs ds)(sd:SeqAt.shaped d=true)(dd:d.depth≤8)(DT:∀e∈ds,PyData.canLay0 e=true):
  (∀y∈its.toArray,SeqAt.EqAt X.A.in1 s y v (tN s.heap d y))∧its.toArray.any (tN s.heap d)=ds.any fun e=>PyData.eqv e d:=by
 obtain⟨as,ra⟩:=hx.reads I rx
 obtain⟨bs,rb⟩:=Ke.reads I hv
 have ea:its.any (tN s.heap d)=ds.any fun e=>PyData.eqv e d:=mP rb fun u' d' xi _ hd r'=>yR (DT d' hd) r'
 refine⟨fun y' kG=>?_,by simpa using ea⟩
 have hm:y'∈its:=by simpa using kG
 obtain⟨d',hd,xi,r'⟩:=readsAll_mem rb y' hm
 rw[yR (DT d' hd) r']
 refine SeqAt.eqAt_reads d' d _ _ _ _ _ _ r' ra (DT d' hd) (SeqAt.canLay_of_shaped sd) ?_
 have h1:min d'.depth d.depth≤d.depth:=Nat.min_le_right _ _
 have h2:X.A.in1.units≤X.A.units+1:=by simp[Around.in1,Around.units]
 show X.A.in1.units+_<cLine
 omega
theorem Cs(hu:X.A.units+64<cLine):dB X (compareOp .In) (LU X.K false):=by
 intro pins s σ H x y v u Q I rx ry h
 obtain⟨p,xs,d,ds,rfl,hp,hx,Ke,sd,dd,DT,q⟩:=h
 cases (show u=Value.ref p from ry)
 rcases hp with hp|hp
 ·obtain⟨its,hv,pl,_⟩:=I.list hp
  obtain⟨h1,h2⟩:=Cr hu I rx hv hx Ke sd dd DT
  refine SeqAt.in_listAt (tN s.heap d) pl.isList h1 ⟨.bl _,H,I,rfl,?_⟩
  rw[h2];exact q
 ·obtain⟨its,hv,pl,_⟩:=I.tuple hp
  obtain⟨h1,h2⟩:=Cr hu I rx hv hx Ke sd dd DT
  refine SeqAt.in_tupleAt (tN s.heap d) pl h1 ⟨.bl _,H,I,rfl,?_⟩
  rw[h2];exact q
theorem qR:∀{ds:List PyData},PyData.canLayAll0 ds=true→∀e∈ds,PyData.canLay0 e=true
 |[],_,e,he=>nomatch he
 |d::ds,h,e,he=>by
  simp only[PyData.canLayAll0,Bool.and_eq_true]at h
  rcases List.mem_cons.mp he with rfl|he
  ·exact h.1
  ·exact qR h.2 e he
theorem zk:∀{ds:List PyData},uf ds=true→∀e∈ds,nb e=true
 |[],_,e,he=>nomatch he
 |d::ds,h,e,he=>by
  simp only[uf,Bool.and_eq_true]at h
  rcases List.mem_cons.mp he with rfl|he
  ·exact h.1
  ·exact zk h.2 e he
theorem Kf{K:PySem.W.Frag}{ρ:Nat→Addr}{c:Qm.Cells}{H:Hp}{x y:Qm.D}{v u:V}{b:Bool}(rs:RS K ρ c H)(rx:RD K ρ c.length H x v)(ry:RD K ρ c.length H y u)(h:Qm.JL x y c=some b):
  ∃(p:Addr) (xs:List V) (d:PyData) (ds:List PyData),u= .ref p∧(dI K H p xs∨bJ K H p xs)∧jw K H v d∧nV K H xs ds∧SeqAt.shaped d=true∧d.depth≤8∧(∀e∈ds,PyData.canLay0 e=true)∧(ds.any fun e=>PyData.eqv e d)=b:=by
 obtain⟨xs,h1,h⟩:=aM h
 obtain⟨d,h2,h⟩:=aM h
 obtain⟨ds,h3,h⟩:=aM h
 cases h
 obtain⟨p,vs,rfl,hp,a⟩:=rs.seq ry h1
 obtain⟨a1,a2,a3,a4⟩:=o7 rs 5 rx h2
 obtain⟨b1,b2,b3,b4⟩:=xu (k:=5) rs (fun r h=>o7 rs 5 r h) a h3
 refine⟨p,vs,d,ds,rfl,hp.imp id bJ.of,a1,b1,by simp[SeqAt.shaped,a2];omega,by omega,qR b2,?_⟩
 rw[Bool.eq_iff_iff]
 simp only[List.any_eq_true,decide_eq_true_eq]
 constructor
 ·rintro⟨e,he,q⟩
  rw[o8 e d (zk b4 e he) a4]at q
  exact q ▸ he
 ·intro hd
  exact⟨d,hd,(o8 d d a4 a4).mpr rfl⟩
theorem GH{K:PySem.W.Frag}:gb K (LU K false) Qm.vq:=by
 intro ρ c H x y d c' v u Q rs rx ry e k
 obtain⟨b,e1,e⟩:=aM e
 cases e
 obtain⟨p,xs,dd,ds,rfl,a1,a2,a3,a4,a5,a6,a7⟩:=Kf rs rx ry e1
 refine⟨p,xs,dd,ds,rfl,a1,a2,a3,a4,a5,a6,?_⟩
 rw[if_neg (by decide),a7]
 exact k ρ _ H (Nx.refl rs) (.bl _)
theorem zm:∀{bs:List Bool}{us:List Value},Vals (bs.map V.bl) us→∀(i:Nat) (v:Value),us[i]? =some v→v= .bool (bs.getD i false)
 |[],_,.nil,i,v,h=>by simp at h
 |b::bs,_,.cons r t,0,v,h=>by
  simp at h
  subst h
  simpa using(show _=Value.bool b from r)
 |b::bs,_,.cons r t,i+1,v,h=>by
  have:=zm t i v (by simpa using h)
  simpa using this
theorem Bq{prog:Program}{w:World}{A:Around}{bs:List Bool}{us:List Value}(hv:Vals (bs.map V.bl) us):TruthOf prog w A (fun i v=>us.toArray[i]? =some v) fun i=>bs.getD i false:=fun i v s Q E h q=>by
 rw[zm hv i v (by simpa using h)]
 exact wpAny_truthy_bool q
theorem range_all(bs:List Bool):(List.range bs.length).all (fun i=>bs.getD i false)=bs.all id:=by
 rw[Bool.eq_iff_iff]
 simp only[List.all_eq_true,List.mem_range]
 constructor
 ·intro h b hb
  obtain⟨i,hi⟩:=List.getElem?_of_mem hb
  have hl:=(List.getElem?_eq_some_iff.mp hi).1
  have:=h i hl
  simpa[List.getD,hi]using this
 ·intro h i hi
  have:bs[i]? =some bs[i]:=List.getElem?_eq_getElem hi
  simp only[List.getD,this,Option.getD_some]
  exact h _ (List.getElem_mem hi)
theorem Br(hc:X.calm=true):gf X (.builtin "all") (fun xs H Q=>∃(p:Addr) (bs:List Bool),xs=[.ref p]∧dI X.K H p (bs.map V.bl)∧Q (.bl (bs.all id)) H):=by
 intro pins s σ H xs us Q I r h
 obtain⟨p,bs,rfl,hp,q⟩:=h
 obtain⟨u,rfl,ru⟩:=vals1 r
 cases (show u=Value.ref p from ru)
 obtain⟨its,hv,pl,_⟩:=I.list hp
 have hl:=pl.isList
 have eQ:p<s.heap.objs.size:=by obtain⟨o,e,_⟩:=hl;exact Heap.lt_size e
 refine call_all_walk (wpAny_pyIter_list hl ?_)
 refine⟨s.heap.objs.size,_,_,_,_,_,_,rfl,Walks.list (A:=X.A.in1) (I.ok.hd hc) s.heap.objs.size p (Nat.ne_of_lt eQ) its.toArray,⟨⟨_,Heap.get?_push_size _ rfl,rfl,rfl⟩,hl.at fun o e=>Heap.get?_push_of_some _ e⟩,Bq hv,fun h' tk kk=>?_⟩
 have e:its.toArray.size=bs.length:=by rw[List.size_toArray,←hv.length,List.length_map]
 rw[e,range_all]
 exact⟨.bl _,H,I.kept (t':=tk) fun b o g=>kk b o (by simpa using Nat.ne_of_lt (Heap.lt_size g)) (Heap.get?_push_of_some _ g),rfl,q⟩
theorem vW{K:PySem.W.Frag}{ρ:Nat→Addr}{N:Nat}{H:Hp}:∀{ds:List Qm.D}{vs:List V}{bs:List Bool},RA K ρ N H ds vs→Qm.omap Qm.kT ds=some bs→vs=bs.map V.bl
 |[],_,bs,a,h=>by cases a;cases h;rfl
 |d::ds,_,bs,a,h=>by
  cases a with
  |cons r a=>
   obtain⟨b,h1,h⟩:=aM h
   obtain⟨cs,h2,h⟩:=aM h
   cases h
   rw[sr h1]at r
   cases r.nX
   rw[vW a h2];rfl
theorem Kg{K:PySem.W.Frag}:ql K (fun xs H Q=>∃(p:Addr) (bs:List Bool),xs=[.ref p]∧dI K H p (bs.map V.bl)∧Q (.bl (bs.all id)) H) Qm.Cg:=by
 intro ρ c H ds d c' vs Q rs ra e k
 obtain⟨x,rfl,e'⟩:=oX e
 obtain⟨v,rfl,rx⟩:=ra.kW
 obtain⟨n,e0,e'⟩:=aM e'
 obtain⟨bs,e2,e'⟩:=aM e'
 cases e'
 obtain⟨rfl,hn,ws,rfl,g,a⟩:=rs.cp rx e0
 exact⟨_,bs,rfl,vW a e2 ▸ dI.of g,k ρ _ H (Nx.refl rs) (.bl _)⟩
theorem Kh:bootBuiltins "all" =some (.builtin "all"):=by decide +kernel
end
end L2
namespace Qm
open PySem
noncomputable section
def TJ:G2:=fun x y c=>match x with
 |.ref n=>(match c[n]? with
  |some (.ro xs)=>(cp y c).bind fun q=>if xs.length+q.2.length≤dk then some (.ref c.length,c++[.lst (xs++q.2)])else none
  |_=>none)
 |_=>none
end
end Qm
namespace L2
open PySem PySem.Spec PyProof.Rows
section
variable{X:Cx}
end
end L2
namespace L2
open PySem PySem.Spec PyProof.Rows
def cI:List Int→List Int→Bool
 |[],_=>false
 |_::_,[]=>true
 |a::r,b::t=>if a=b then cI r t else decide (a > b)
theorem zo{y:List Int}:cI [] y=false:=by cases y<;>rfl
section
variable{prog:Program}{w:World}{A:Around}{E:Value→Shared→Prop}{s:Shared}
theorem ug{xs ys:Array Value}{x y:List Int}{a b:Addr}{oa ob:Obj}{na nb:Nat}{P:PySem.Fin→Shared→Prop}(Nw:s.heap.get? a=some oa)(Ny:oa.data= .seq xs na)(GI:s.heap.get? b=some ob)(Nz:ob.cls= .type "tuple")(nO:ob.data= .seq ys nb)
  (hx:IntsAre xs.toList x)(hy:IntsAre ys.toList y)(h:P (.done (.ret (.bool (cI x y)))) s):
  wpAny (model prog w) A (Builtin.«tuple.__gt__» ⟨[.ref a,.ref b],[]⟩) P E s:=by
 have NA:s.TypeIs (.ref b) "tuple":=⟨_,GI,Nz⟩
 show wpAny _ _ (isInstance (.ref b) (.type "tuple") >>= _) _ _ s
 refine wpAny_bind (wpAny_isInstance NA isSubtype_tuple_tuple ?_)
 simp only[Bool.not_true,Bool.false_eq_true,if_false]
 refine wpAny_bind (wpAny_tupleItemsOf Nw Ny ?_)
 refine wpAny_bind (wpAny_tupleItemsOf GI nO ?_)
 refine wpAny_bind ?_
 refine wpAny_forIn_list _
  (fun rest r s'=>r.1=none∧s'=s∧∃x' y' kE kF,rest=List.zip kE kF∧IntsAre kE x'∧IntsAre kF y'∧cI x' y'=cI x y∧(decide (kE.length > kF.length))=(decide (xs.size > ys.size)))
  _ ?_ ?_ _ _ ⟨rfl,rfl,x,y,xs.toList,ys.toList,rfl,hx,hy,rfl,by simp⟩
 ·rintro⟨u,v⟩ rest r s' ⟨hr,rfl,x',y',kE,kF,hz,iY,kG,i4,hlen⟩
  cases iY with
  |nil=>simp at hz
  |@cons i t GJ NB GK=>
   cases kG with
   |nil=>simp at hz
   |@cons j t' GL NC GN=>
    simp only[List.zip_cons_cons,List.cons.injEq,Prod.mk.injEq]at hz
    obtain⟨⟨rfl,rfl⟩,rfl⟩:=hz
    refine wpAny_bind (wpAny_eqBool_int ?_)
    by_cases hk:i=j
    ·subst hk
     rw[beq_self_eq_true]
     simp only[Bool.not_true,Bool.false_eq_true,if_false]
     refine wpAny_pure ⟨rfl,rfl,NB,NC,GJ,GL,rfl,GK,GN,?_,by simpa using hlen⟩
     rw[←i4]
     simp[cI]
    ·rw[beq_eq_false_iff_ne.mpr hk]
     simp only[Bool.not_false,if_true]
     have hf:cI x y=decide (i > j):=by rw[←i4];simp[cI,hk]
     rw[hf]at h
     refine wpAny_bind (wpAny_rule (wpAny_bind ?_))
     refine richCompare_gives (op:=.Gt) (typeIs_int _ _ t) (typeIs_int _ _ t') PySem.F.slot_int_gt PySem.F.entry_int_gt (PySem.F.args_int_gt_2 _ _) (gives_int_gt _ _ t t') (fun x=>nomatch x) ?_
     exact wpAny_bind (wpAny_pure (wpAny_pure (wpAny_pure h)))
 ·rintro⟨r1,r2⟩ s' ⟨hr,rfl,x',y',kE,kF,hz,iY,kG,i4,hlen⟩
  simp only at hr
  subst hr
  refine wpAny_pure ?_
  have GO:(decide (xs.size > ys.size))=cI x y:=by
   rw[←i4,←hlen]
   cases iY with
   |nil=>simp[zo]
   |cons _ _ _=>
    cases kG with
    |nil=>simp[cI]
    |cons _ _ _=>simp at hz
  show P (.done (.ret (.bool (decide (xs.size > ys.size))))) s'
  rw[GO];exact h
theorem uh{xs ys:Array Value}{x y:List Int}{a b:Addr}{oa ob:Obj}{na nb:Nat}{P:PySem.Fin→Shared→Prop}(Nw:s.heap.get? a=some oa)(Ny:oa.data= .seq xs na)(GI:s.heap.get? b=some ob)(Nz:ob.cls= .type "tuple")(nO:ob.data= .seq ys nb)
  (hx:IntsAre xs.toList x)(hy:IntsAre ys.toList y)(h:P (.done (.ret (.bool (cI y x)))) s):
  wpAny (model prog w) A (Builtin.«tuple.__lt__» ⟨[.ref a,.ref b],[]⟩) P E s:=by
 have NA:s.TypeIs (.ref b) "tuple":=⟨_,GI,Nz⟩
 show wpAny _ _ (isInstance (.ref b) (.type "tuple") >>= _) _ _ s
 refine wpAny_bind (wpAny_isInstance NA isSubtype_tuple_tuple ?_)
 simp only[Bool.not_true,Bool.false_eq_true,if_false]
 refine wpAny_bind (wpAny_tupleItemsOf Nw Ny ?_)
 refine wpAny_bind (wpAny_tupleItemsOf GI nO ?_)
 refine wpAny_bind ?_
 refine wpAny_forIn_list _
  (fun rest r s'=>r.1=none∧s'=s∧∃x' y' kE kF,rest=List.zip kE kF∧IntsAre kE x'∧IntsAre kF y'∧cI y' x'=cI y x∧(decide (kE.length<kF.length))=(decide (xs.size<ys.size)))
  _ ?_ ?_ _ _ ⟨rfl,rfl,x,y,xs.toList,ys.toList,rfl,hx,hy,rfl,by simp⟩
 ·rintro⟨u,v⟩ rest r s' ⟨hr,rfl,x',y',kE,kF,hz,iY,kG,i4,hlen⟩
  cases iY with
  |nil=>simp at hz
  |@cons i t GJ NB GK=>
   cases kG with
   |nil=>simp at hz
   |@cons j t' GL NC GN=>
    simp only[List.zip_cons_cons,List.cons.injEq,Prod.mk.injEq]at hz
    obtain⟨⟨rfl,rfl⟩,rfl⟩:=hz
    refine wpAny_bind (wpAny_eqBool_int ?_)
    by_cases hk:i=j
    ·subst hk
     rw[beq_self_eq_true]
     simp only[Bool.not_true,Bool.false_eq_true,if_false]
     refine wpAny_pure ⟨rfl,rfl,NB,NC,GJ,GL,rfl,GK,GN,?_,by simpa using hlen⟩
     rw[←i4]
     simp[cI]
    ·rw[beq_eq_false_iff_ne.mpr hk]
     simp only[Bool.not_false,if_true]
     have hf:cI y x=decide (i<j):=by rw[←i4];simp[cI,Ne.symm hk]
     rw[hf]at h
     refine wpAny_bind (wpAny_rule (wpAny_bind ?_))
     refine richCompare_gives (op:=.Lt) (typeIs_int _ _ t) (typeIs_int _ _ t') PySem.F.slot_int_lt PySem.F.entry_int_lt (PySem.F.args_int_lt_2 _ _) (gives_int_lt _ _ t t') (fun x=>nomatch x) ?_
     exact wpAny_bind (wpAny_pure (wpAny_pure (wpAny_pure h)))
 ·rintro⟨r1,r2⟩ s' ⟨hr,rfl,x',y',kE,kF,hz,iY,kG,i4,hlen⟩
  simp only at hr
  subst hr
  refine wpAny_pure ?_
  have GO:(decide (xs.size<ys.size))=cI y x:=by
   rw[←i4,←hlen]
   cases kG with
   |nil=>simp[zo]
   |cons _ _ _=>
    cases iY with
    |nil=>simp[cI]
    |cons _ _ _=>simp at hz
  show P (.done (.ret (.bool (decide (xs.size<ys.size))))) s'
  rw[GO];exact h
theorem jd{p:Addr}{its:Array Value}(h:IsTup s.heap p its):s.TypeIs (.ref p) "tuple":=by
 obtain⟨o,ho,hc,_⟩:=h
 exact⟨_,ho,hc⟩
theorem vX{p q:Addr}{xs ys:Array Value}{x y:List Int}{Q:Value→Shared→Prop}(hp:IsTup s.heap p xs)(hq:IsTup s.heap q ys)(hx:IntsAre xs.toList x)(hy:IntsAre ys.toList y)(hu:A.units<cLine)(h:Q (.bool (cI x y)) s):wpAny (model prog w) A (richCompare .Gt (.ref p) (.ref q)) Q E s:=by
 have t1:=jd hp
 have t2:=jd hq
 obtain⟨oa,ha,ca,na,da⟩:=hp
 obtain⟨ob,hb,cb,nb,db⟩:=hq
 refine wpAny_richCompare_same_room (op:=.Gt) t1 t2 PySem.F.slot_tuple_gt (wpAny_call_entry PySem.F.slot_tuple_gt t1 PySem.F.entry_tuple_gt ?_ (PySem.F.args_tuple_gt_2 _ _)) hu
 exact ug ha da hb cb db hx hy ⟨_,rfl,nofun,h⟩
theorem DU{p q:Addr}{xs ys:Array Value}{x y:List Int}{Q:Value→Shared→Prop}(hp:IsTup s.heap p xs)(hq:IsTup s.heap q ys)(hx:IntsAre xs.toList x)(hy:IntsAre ys.toList y)(hu:A.units<cLine)(h:Q (.bool (cI y x)) s):wpAny (model prog w) A (richCompare .Lt (.ref p) (.ref q)) Q E s:=by
 have t1:=jd hp
 have t2:=jd hq
 obtain⟨oa,ha,ca,na,da⟩:=hp
 obtain⟨ob,hb,cb,nb,db⟩:=hq
 refine wpAny_richCompare_same_room (op:=.Lt) t1 t2 PySem.F.slot_tuple_lt (wpAny_call_entry PySem.F.slot_tuple_lt t1 PySem.F.entry_tuple_lt ?_ (PySem.F.args_tuple_lt_2 _ _)) hu
 exact uh ha da hb cb db hx hy ⟨_,rfl,nofun,h⟩
end
theorem ints_of:∀{ns:List Int}{us:List Value},Vals (ns.map V.int) us→IntsAre us ns
 |[],_,h=>by cases h;exact .nil
 |n::ns,_,h=>by
  cases h with
  |cons r t=>
   obtain⟨k,rfl⟩:=r
   exact .cons n k (ints_of t)
section
variable{X:Cx}
def LV(K:PySem.W.Frag):R2:=fun x y H Q=>∃p q ns ms,x= .ref p∧y= .ref q∧bJ K H p (ns.map V.int)∧bJ K H q (ms.map V.int)∧Q (.bl (cI ns ms)) H
theorem Ki(hu:X.A.units+64<cLine):dB X (compareOp .Gt) (LV X.K):=by
 intro pins s σ H x y v u Q I rx ry h
 obtain⟨p,q,ns,ms,rfl,rfl,h1,h2,k⟩:=h
 cases rx
 cases ry
 obtain⟨xs,r1,t1,_⟩:=I.tuple h1
 obtain⟨ys,r2,t2,_⟩:=I.tuple h2
 exact vX t1 t2 (by simpa using ints_of r1) (by simpa using ints_of r2) (by omega) ⟨.bl _,H,I,rfl,k⟩
end
end L2
namespace L2
open PySem PySem.Spec PyProof.Rows
section
variable{prog:Program}{w:World}{A:Around}
theorem vY{I S:Addr}{vb:Value}{c:Nat}{fp wr:List Addr}{P:Nat→Value→Prop}{St:Nat→Heap→Prop}{R:Result→Shared→Prop}{s:Shared}(W:Walks prog w A.in1 I fp wr 2 P St)(kC:S∉wr)(st:St 2 s.heap)
  (hS:s.heap.get? S=some { cls:=.type "list",dict:=none,data:=.seq #[vb,vb] c,slots:=#[] })
  (k:∀h' tk,(∀b o,b∉wr→b≠S→s.heap.get? b=some o→h'.get? b=some o)→R (.ok (.ret vb)) { s with heap:=h',toks:=tk }):
  codeAny (model prog w) A (.builtin "max.loop" ⟨[.ref I,.none,.ref S],[]⟩) R s:=by
 refine codeAny_builtin F.entry_max_loop ?_
 rw[Around.under_plainId F.plain_max_loop _]
 refine(show wpAny _ A.in1 (seqItems? (.ref S) >>= _) _ _ s from ?_)
 refine wpAny_bind (wpAny_seqItems hS rfl ?_)
 refine(show wpAny _ A.in1 (tryCatch (pyNext (.ref I)) _ >>= _) _ _ s from ?_)
 refine wpAny_bind (wpAny_tryCatch (W.done s _ _ st fun h1 tk hk=>?_))
 have lj:=hk S _ kC hS
 refine(show wpAny _ A.in1 (updateSeq S (fun _=>#[]) >>= _) _ _ _ from wpAny_bind ?_)
 refine wpAny_updateSeq lj rfl (wpAny_bind (wpAny_letGo (wpAny_pure (k _ tk ?_))))
 exact fun b o n1 n2 e=>(Heap.get?_update_other _ _ (Ne.symm n2)).trans (hk b o n1 e)
theorem Bs{I S:Addr}{va vb:Value}{t:Bool}{c:Nat}{fp wr:List Addr}{P:Nat→Value→Prop}{St:Nat→Heap→Prop}{R:Result→Shared→Prop}{s:Shared}(W:Walks prog w A.in1 I fp wr 2 P St)(mI:S∉fp)(st:St 1 s.heap)(hP:∀v,P 1 v→v=vb)
  (hS:s.heap.get? S=some { cls:=.type "list",dict:=none,data:=.seq #[va,va] c,slots:=#[] })
  (hc:∀h' tk (Q:Value→Shared→Prop) (E:Value→Shared→Prop),(∀b o,b∉wr→s.heap.get? b=some o→h'.get? b=some o)→Q (.bool t) { s with heap:=h',toks:=tk }→wpAny (model prog w) A.in1 (richCompare .Gt vb va) Q E { s with heap:=h',toks:=tk })
  (k:∀h' tk,(∀b o,b∉wr→b≠S→s.heap.get? b=some o→h'.get? b=some o)→R (.ok (.ret (if t then vb else va))) { s with heap:=h',toks:=tk }):
  codeAny (model prog w) A (.builtin "max.loop" ⟨[.ref I,.none,.ref S],[]⟩) R s:=by
 have kC:S∉wr:=fun h=>mI (W.sub _ h)
 have nm:(toString "max"++toString ".loop":String)= "max.loop":=by decide
 refine codeAny_builtin F.entry_max_loop ?_
 rw[Around.under_plainId F.plain_max_loop _]
 refine(show wpAny _ A.in1 (seqItems? (.ref S) >>= _) _ _ s from ?_)
 refine wpAny_bind (wpAny_seqItems hS rfl ?_)
 refine(show wpAny _ A.in1 (tryCatch (pyNext (.ref I)) _ >>= _) _ _ s from ?_)
 refine wpAny_bind (wpAny_tryCatch (W.item 1 s _ _ (by decide) st fun v h1 tk pv ui hk=>?_))
 have lj:=hk S _ kC hS
 obtain rfl:=hP v pv
 refine(show wpAny _ A.in1 (tryCatch (holding [v,v] (richCompare .Gt v va >>= _)) _ >>= _) _ _ _ from ?_)
 refine wpAny_bind (wpAny_tryCatch (wpAny_holding (wpAny_bind (hc h1 tk _ _ hk ?_))))
 refine wpAny_bind (wpAny_holding (wpAny_truthy_bool (wpAny_bind (wpAny_letGo (wpAny_pure ?_)))))
 cases t with
 |true=>
  simp only[if_true]at k ⊢
  refine wpAny_bind (wpAny_updateSeq lj rfl (wpAny_bind (wpAny_letGo ?_)))
  rw[nm]
  refine wpAny_pure ⟨plainId_quiet F.plain_max_loop _,vY W kC (W.frame _ _ _ ui fun b bf o e=>?_) (Heap.get?_update_self _ lj rfl) fun h2 nZ k2=>k h2 nZ fun b o n1 n2 e=>k2 b o n1 n2 ((Heap.get?_update_other _ _ (Ne.symm n2)).trans (hk b o n1 e))⟩
  exact(Heap.get?_update_other _ _ (fun z:S=b=>mI (by rw[z];exact bf))).trans e
 |false=>
  simp only[Bool.false_eq_true,if_false]at k ⊢
  refine wpAny_bind (wpAny_letGo ?_)
  rw[nm]
  exact wpAny_pure ⟨plainId_quiet F.plain_max_loop _,vY W kC ui lj fun h2 nZ k2=>k h2 nZ fun b o n1 n2 e=>k2 b o n1 n2 (hk b o n1 e)⟩
theorem zp{I S:Addr}{va vb:Value}{t:Bool}{c:Nat}{fp wr:List Addr}{P:Nat→Value→Prop}{St:Nat→Heap→Prop}{R:Result→Shared→Prop}{s:Shared}(W:Walks prog w A.in1 I fp wr 2 P St)(mI:S∉fp)(st:St 0 s.heap)(ND:∀v,P 0 v→v=va)(hP:∀v,P 1 v→v=vb)
  (hS:s.heap.get? S=some { cls:=.type "list",dict:=none,data:=.seq #[] c,slots:=#[] })
  (hc:∀h' tk (Q:Value→Shared→Prop) (E:Value→Shared→Prop),(∀b o,b∉wr→b≠S→s.heap.get? b=some o→h'.get? b=some o)→Q (.bool t) { s with heap:=h',toks:=tk }→wpAny (model prog w) A.in1 (richCompare .Gt vb va) Q E { s with heap:=h',toks:=tk })
  (k:∀h' tk,(∀b o,b∉wr→b≠S→s.heap.get? b=some o→h'.get? b=some o)→R (.ok (.ret (if t then vb else va))) { s with heap:=h',toks:=tk }):
  codeAny (model prog w) A (.builtin "max.loop" ⟨[.ref I,.none,.ref S],[]⟩) R s:=by
 have kC:S∉wr:=fun h=>mI (W.sub _ h)
 have nm:(toString "max"++toString ".loop":String)= "max.loop":=by decide
 refine codeAny_builtin F.entry_max_loop ?_
 rw[Around.under_plainId F.plain_max_loop _]
 refine(show wpAny _ A.in1 (seqItems? (.ref S) >>= _) _ _ s from ?_)
 refine wpAny_bind (wpAny_seqItems hS rfl ?_)
 refine(show wpAny _ A.in1 (tryCatch (pyNext (.ref I)) _ >>= _) _ _ s from ?_)
 refine wpAny_bind (wpAny_tryCatch (W.item 0 s _ _ (by decide) st fun v h1 tk pv ui hk=>?_))
 have lj:=hk S _ kC hS
 obtain rfl:=ND v pv
 refine(show wpAny _ A.in1 (updateSeq S (fun _=>#[v,v]) >>= _) _ _ _ from wpAny_bind ?_)
 refine wpAny_updateSeq lj rfl ?_
 rw[nm]
 have kk:∀b o,b∉wr→b≠S→s.heap.get? b=some o→(h1.update S (Obj.mapSeq fun _=>#[v,v])).get? b=some o:=fun b o n1 n2 e=>(Heap.get?_update_other _ _ (Ne.symm n2)).trans (hk b o n1 e)
 refine wpAny_pure ⟨plainId_quiet F.plain_max_loop _,Bs (t:=t) W mI (W.frame _ _ _ ui fun b bf o e=>?_) hP (Heap.get?_update_self _ lj rfl) (fun h2 nZ Q E k2 q=>hc h2 nZ Q E (fun b o n1 n2 e=>k2 b o n1 (kk b o n1 n2 e)) q) fun h2 nZ k2=>k h2 nZ fun b o n1 n2 e=>k2 b o n1 n2 (kk b o n1 n2 e)⟩
 exact(Heap.get?_update_other _ _ (fun z:S=b=>mI (by rw[z];exact bf))).trans e
theorem DV{a b:Value}{t:Bool}{E:Value→Shared→Prop}{s:Shared}{Q:Value→Shared→Prop}(hh:A.handled=none)
  (hc:∀h' tk (Q:Value→Shared→Prop) (E:Value→Shared→Prop),(∀c o,s.heap.get? c=some o→h'.get? c=some o)→Q (.bool t) { s with heap:=h',toks:=tk }→wpAny (model prog w) A.in1 (richCompare .Gt b a) Q E { s with heap:=h',toks:=tk })
  (k:∀h' tk,(∀c o,s.heap.get? c=some o→h'.get? c=some o)→Q (if t then b else a) { s with heap:=h',toks:=tk }):
  wpAny (model prog w) A (call (.builtin "max") [a,b]) Q E s:=by
 have nm:(toString "max"++toString ".loop":String)= "max.loop":=by decide
 have hT:(s.heap.push { cls:=.type "tuple",data:=.seq #[a,b] }).IsTuple s.heap.objs.size #[a,b]:=⟨_,Heap.get?_push_size _ rfl,rfl,0,rfl⟩
 have sz:(s.heap.push { cls:=.type "tuple",data:=.seq #[a,b] }).objs.size=s.heap.objs.size+1:=Heap.size_push ..
 refine call_function_tree F.kind_max F.plain_max F.entry_max (F.args_max2 _ _) ?_
 refine(show wpAny _ A.in1 (Builtin.Builtins.bindParams "max" ["key","default"] 0 ⟨[],[]⟩ >>= _) _ _ s from ?_)
 refine wpAny_bind (wpAny_of_eq (show Builtin.Builtins.bindParams "max" ["key","default"] 0 ⟨[],[]⟩=pure [none,none] from rfl) ?_)
 refine(show wpAny _ A.in1 (newTuple [a,b] >>= _) _ _ s from wpAny_bind (wpAny_newObj_type ?_))
 refine wpAny_bind (wpAny_pyIter_tuple hT ?_)
 refine wpAny_bind (wpAny_newObj_type ?_)
 rw[nm]
 have W:=Walks.tuple (prog:=prog) (w:=w) (A:=A.in1) hh (s.heap.push { cls:=.type "tuple",data:=.seq #[a,b] }).objs.size s.heap.objs.size (by rw[sz];exact Nat.ne_of_lt (Nat.lt_succ_self _)) #[a,b]
 have o6:((s.heap.push { cls:=.type "tuple",data:=.seq #[a,b] }).push { cls:=.type "tuple_iterator",data:=.fields #[.ref s.heap.objs.size,.int 0 0] }).objs.size=s.heap.objs.size+1+1:=by rw[Heap.size_push,sz]
 refine wpAny_pure ⟨plainId_quiet F.plain_max_loop _,zp (va:=a) (vb:=b) (t:=t) W ?_ ⟨⟨_,Heap.get?_push_of_some _ (Heap.get?_push_size _ rfl),rfl,rfl⟩,(hT.push _).push _⟩ (fun v h=>by simpa using h.symm) (fun v h=>by simpa using h.symm) (Heap.get?_push_size _ rfl) ?_ ?_⟩
 ·intro hm
  rcases List.mem_cons.mp hm with e|hm
  ·rw[sz,o6]at e;exact absurd e (Nat.ne_of_gt (Nat.lt_succ_self _))
  ·rcases List.mem_cons.mp hm with e|hm
   ·rw[o6]at e;exact absurd e (Nat.ne_of_gt (Nat.lt_succ_of_lt (Nat.lt_succ_self _)))
   ·cases hm
 ·intro h' tk Q' E' hk q
  refine hc h' tk Q' E' (fun c o e=>hk c o ?_ ?_ (Heap.get?_push_of_some _ (Heap.get?_push_of_some _ (Heap.get?_push_of_some _ e)))) q
  ·have:=Heap.lt_size e
   intro hm
   rw[List.mem_singleton.mp hm,sz]at this
   exact Nat.lt_irrefl _ (Nat.lt_of_succ_lt this)
  ·have:=Heap.lt_size e
   intro z
   rw[z,o6]at this
   exact Nat.lt_irrefl _ (Nat.lt_of_succ_lt (Nat.lt_of_succ_lt this))
 ·intro h' tk hk
  refine k h' tk (fun c o e=>hk c o ?_ ?_ (Heap.get?_push_of_some _ (Heap.get?_push_of_some _ (Heap.get?_push_of_some _ e))))
  ·have:=Heap.lt_size e
   intro hm
   rw[List.mem_singleton.mp hm,sz]at this
   exact Nat.lt_irrefl _ (Nat.lt_of_succ_lt this)
  ·have:=Heap.lt_size e
   intro z
   rw[z,o6]at this
   exact Nat.lt_irrefl _ (Nat.lt_of_succ_lt (Nat.lt_of_succ_lt this))
theorem vZ{I S:Addr}{vb:Value}{c:Nat}{fp wr:List Addr}{P:Nat→Value→Prop}{St:Nat→Heap→Prop}{R:Result→Shared→Prop}{s:Shared}(W:Walks prog w A.in1 I fp wr 2 P St)(kC:S∉wr)(st:St 2 s.heap)
  (hS:s.heap.get? S=some { cls:=.type "list",dict:=none,data:=.seq #[vb,vb] c,slots:=#[] })
  (k:∀h' tk,(∀b o,b∉wr→b≠S→s.heap.get? b=some o→h'.get? b=some o)→R (.ok (.ret vb)) { s with heap:=h',toks:=tk }):
  codeAny (model prog w) A (.builtin "min.loop" ⟨[.ref I,.none,.ref S],[]⟩) R s:=by
 refine codeAny_builtin F.entry_min_loop ?_
 rw[Around.under_plainId F.plain_min_loop _]
 refine(show wpAny _ A.in1 (seqItems? (.ref S) >>= _) _ _ s from ?_)
 refine wpAny_bind (wpAny_seqItems hS rfl ?_)
 refine(show wpAny _ A.in1 (tryCatch (pyNext (.ref I)) _ >>= _) _ _ s from ?_)
 refine wpAny_bind (wpAny_tryCatch (W.done s _ _ st fun h1 tk hk=>?_))
 have lj:=hk S _ kC hS
 refine(show wpAny _ A.in1 (updateSeq S (fun _=>#[]) >>= _) _ _ _ from wpAny_bind ?_)
 refine wpAny_updateSeq lj rfl (wpAny_bind (wpAny_letGo (wpAny_pure (k _ tk ?_))))
 exact fun b o n1 n2 e=>(Heap.get?_update_other _ _ (Ne.symm n2)).trans (hk b o n1 e)
theorem Bt{I S:Addr}{va vb:Value}{t:Bool}{c:Nat}{fp wr:List Addr}{P:Nat→Value→Prop}{St:Nat→Heap→Prop}{R:Result→Shared→Prop}{s:Shared}(W:Walks prog w A.in1 I fp wr 2 P St)(mI:S∉fp)(st:St 1 s.heap)(hP:∀v,P 1 v→v=vb)
  (hS:s.heap.get? S=some { cls:=.type "list",dict:=none,data:=.seq #[va,va] c,slots:=#[] })
  (hc:∀h' tk (Q:Value→Shared→Prop) (E:Value→Shared→Prop),(∀b o,b∉wr→s.heap.get? b=some o→h'.get? b=some o)→Q (.bool t) { s with heap:=h',toks:=tk }→wpAny (model prog w) A.in1 (richCompare .Lt vb va) Q E { s with heap:=h',toks:=tk })
  (k:∀h' tk,(∀b o,b∉wr→b≠S→s.heap.get? b=some o→h'.get? b=some o)→R (.ok (.ret (if t then vb else va))) { s with heap:=h',toks:=tk }):
  codeAny (model prog w) A (.builtin "min.loop" ⟨[.ref I,.none,.ref S],[]⟩) R s:=by
 have kC:S∉wr:=fun h=>mI (W.sub _ h)
 have nm:(toString "min"++toString ".loop":String)= "min.loop":=by decide
 refine codeAny_builtin F.entry_min_loop ?_
 rw[Around.under_plainId F.plain_min_loop _]
 refine(show wpAny _ A.in1 (seqItems? (.ref S) >>= _) _ _ s from ?_)
 refine wpAny_bind (wpAny_seqItems hS rfl ?_)
 refine(show wpAny _ A.in1 (tryCatch (pyNext (.ref I)) _ >>= _) _ _ s from ?_)
 refine wpAny_bind (wpAny_tryCatch (W.item 1 s _ _ (by decide) st fun v h1 tk pv ui hk=>?_))
 have lj:=hk S _ kC hS
 obtain rfl:=hP v pv
 refine(show wpAny _ A.in1 (tryCatch (holding [v,v] (richCompare .Lt v va >>= _)) _ >>= _) _ _ _ from ?_)
 refine wpAny_bind (wpAny_tryCatch (wpAny_holding (wpAny_bind (hc h1 tk _ _ hk ?_))))
 refine wpAny_bind (wpAny_holding (wpAny_truthy_bool (wpAny_bind (wpAny_letGo (wpAny_pure ?_)))))
 cases t with
 |true=>
  simp only[if_true]at k ⊢
  refine wpAny_bind (wpAny_updateSeq lj rfl (wpAny_bind (wpAny_letGo ?_)))
  rw[nm]
  refine wpAny_pure ⟨plainId_quiet F.plain_min_loop _,vZ W kC (W.frame _ _ _ ui fun b bf o e=>?_) (Heap.get?_update_self _ lj rfl) fun h2 nZ k2=>k h2 nZ fun b o n1 n2 e=>k2 b o n1 n2 ((Heap.get?_update_other _ _ (Ne.symm n2)).trans (hk b o n1 e))⟩
  exact(Heap.get?_update_other _ _ (fun z:S=b=>mI (by rw[z];exact bf))).trans e
 |false=>
  simp only[Bool.false_eq_true,if_false]at k ⊢
  refine wpAny_bind (wpAny_letGo ?_)
  rw[nm]
  exact wpAny_pure ⟨plainId_quiet F.plain_min_loop _,vZ W kC ui lj fun h2 nZ k2=>k h2 nZ fun b o n1 n2 e=>k2 b o n1 n2 (hk b o n1 e)⟩
theorem zq{I S:Addr}{va vb:Value}{t:Bool}{c:Nat}{fp wr:List Addr}{P:Nat→Value→Prop}{St:Nat→Heap→Prop}{R:Result→Shared→Prop}{s:Shared}(W:Walks prog w A.in1 I fp wr 2 P St)(mI:S∉fp)(st:St 0 s.heap)(ND:∀v,P 0 v→v=va)(hP:∀v,P 1 v→v=vb)
  (hS:s.heap.get? S=some { cls:=.type "list",dict:=none,data:=.seq #[] c,slots:=#[] })
  (hc:∀h' tk (Q:Value→Shared→Prop) (E:Value→Shared→Prop),(∀b o,b∉wr→b≠S→s.heap.get? b=some o→h'.get? b=some o)→Q (.bool t) { s with heap:=h',toks:=tk }→wpAny (model prog w) A.in1 (richCompare .Lt vb va) Q E { s with heap:=h',toks:=tk })
  (k:∀h' tk,(∀b o,b∉wr→b≠S→s.heap.get? b=some o→h'.get? b=some o)→R (.ok (.ret (if t then vb else va))) { s with heap:=h',toks:=tk }):
  codeAny (model prog w) A (.builtin "min.loop" ⟨[.ref I,.none,.ref S],[]⟩) R s:=by
 have kC:S∉wr:=fun h=>mI (W.sub _ h)
 have nm:(toString "min"++toString ".loop":String)= "min.loop":=by decide
 refine codeAny_builtin F.entry_min_loop ?_
 rw[Around.under_plainId F.plain_min_loop _]
 refine(show wpAny _ A.in1 (seqItems? (.ref S) >>= _) _ _ s from ?_)
 refine wpAny_bind (wpAny_seqItems hS rfl ?_)
 refine(show wpAny _ A.in1 (tryCatch (pyNext (.ref I)) _ >>= _) _ _ s from ?_)
 refine wpAny_bind (wpAny_tryCatch (W.item 0 s _ _ (by decide) st fun v h1 tk pv ui hk=>?_))
 have lj:=hk S _ kC hS
 obtain rfl:=ND v pv
 refine(show wpAny _ A.in1 (updateSeq S (fun _=>#[v,v]) >>= _) _ _ _ from wpAny_bind ?_)
 refine wpAny_updateSeq lj rfl ?_
 rw[nm]
 have kk:∀b o,b∉wr→b≠S→s.heap.get? b=some o→(h1.update S (Obj.mapSeq fun _=>#[v,v])).get? b=some o:=fun b o n1 n2 e=>(Heap.get?_update_other _ _ (Ne.symm n2)).trans (hk b o n1 e)
 refine wpAny_pure ⟨plainId_quiet F.plain_min_loop _,Bt (t:=t) W mI (W.frame _ _ _ ui fun b bf o e=>?_) hP (Heap.get?_update_self _ lj rfl) (fun h2 nZ Q E k2 q=>hc h2 nZ Q E (fun b o n1 n2 e=>k2 b o n1 (kk b o n1 n2 e)) q) fun h2 nZ k2=>k h2 nZ fun b o n1 n2 e=>k2 b o n1 n2 (kk b o n1 n2 e)⟩
 exact(Heap.get?_update_other _ _ (fun z:S=b=>mI (by rw[z];exact bf))).trans e
theorem DW{a b:Value}{t:Bool}{E:Value→Shared→Prop}{s:Shared}{Q:Value→Shared→Prop}(hh:A.handled=none)
  (hc:∀h' tk (Q:Value→Shared→Prop) (E:Value→Shared→Prop),(∀c o,s.heap.get? c=some o→h'.get? c=some o)→Q (.bool t) { s with heap:=h',toks:=tk }→wpAny (model prog w) A.in1 (richCompare .Lt b a) Q E { s with heap:=h',toks:=tk })
  (k:∀h' tk,(∀c o,s.heap.get? c=some o→h'.get? c=some o)→Q (if t then b else a) { s with heap:=h',toks:=tk }):
  wpAny (model prog w) A (call (.builtin "min") [a,b]) Q E s:=by
 have nm:(toString "min"++toString ".loop":String)= "min.loop":=by decide
 have hT:(s.heap.push { cls:=.type "tuple",data:=.seq #[a,b] }).IsTuple s.heap.objs.size #[a,b]:=⟨_,Heap.get?_push_size _ rfl,rfl,0,rfl⟩
 have sz:(s.heap.push { cls:=.type "tuple",data:=.seq #[a,b] }).objs.size=s.heap.objs.size+1:=Heap.size_push ..
 refine call_function_tree F.kind_min F.plain_min F.entry_min (F.args_min2 _ _) ?_
 refine(show wpAny _ A.in1 (Builtin.Builtins.bindParams "min" ["key","default"] 0 ⟨[],[]⟩ >>= _) _ _ s from ?_)
 refine wpAny_bind (wpAny_of_eq (show Builtin.Builtins.bindParams "min" ["key","default"] 0 ⟨[],[]⟩=pure [none,none] from rfl) ?_)
 refine(show wpAny _ A.in1 (newTuple [a,b] >>= _) _ _ s from wpAny_bind (wpAny_newObj_type ?_))
 refine wpAny_bind (wpAny_pyIter_tuple hT ?_)
 refine wpAny_bind (wpAny_newObj_type ?_)
 rw[nm]
 have W:=Walks.tuple (prog:=prog) (w:=w) (A:=A.in1) hh (s.heap.push { cls:=.type "tuple",data:=.seq #[a,b] }).objs.size s.heap.objs.size (by rw[sz];exact Nat.ne_of_lt (Nat.lt_succ_self _)) #[a,b]
 have o6:((s.heap.push { cls:=.type "tuple",data:=.seq #[a,b] }).push { cls:=.type "tuple_iterator",data:=.fields #[.ref s.heap.objs.size,.int 0 0] }).objs.size=s.heap.objs.size+1+1:=by rw[Heap.size_push,sz]
 refine wpAny_pure ⟨plainId_quiet F.plain_min_loop _,zq (va:=a) (vb:=b) (t:=t) W ?_ ⟨⟨_,Heap.get?_push_of_some _ (Heap.get?_push_size _ rfl),rfl,rfl⟩,(hT.push _).push _⟩ (fun v h=>by simpa using h.symm) (fun v h=>by simpa using h.symm) (Heap.get?_push_size _ rfl) ?_ ?_⟩
 ·intro hm
  rcases List.mem_cons.mp hm with e|hm
  ·rw[sz,o6]at e;exact absurd e (Nat.ne_of_gt (Nat.lt_succ_self _))
  ·rcases List.mem_cons.mp hm with e|hm
   ·rw[o6]at e;exact absurd e (Nat.ne_of_gt (Nat.lt_succ_of_lt (Nat.lt_succ_self _)))
   ·cases hm
 ·intro h' tk Q' E' hk q
  refine hc h' tk Q' E' (fun c o e=>hk c o ?_ ?_ (Heap.get?_push_of_some _ (Heap.get?_push_of_some _ (Heap.get?_push_of_some _ e)))) q
  ·have:=Heap.lt_size e
   intro hm
   rw[List.mem_singleton.mp hm,sz]at this
   exact Nat.lt_irrefl _ (Nat.lt_of_succ_lt this)
  ·have:=Heap.lt_size e
   intro z
   rw[z,o6]at this
   exact Nat.lt_irrefl _ (Nat.lt_of_succ_lt (Nat.lt_of_succ_lt this))
 ·intro h' tk hk
  refine k h' tk (fun c o e=>hk c o ?_ ?_ (Heap.get?_push_of_some _ (Heap.get?_push_of_some _ (Heap.get?_push_of_some _ e))))
  ·have:=Heap.lt_size e
   intro hm
   rw[List.mem_singleton.mp hm,sz]at this
   exact Nat.lt_irrefl _ (Nat.lt_of_succ_lt this)
  ·have:=Heap.lt_size e
   intro z
   rw[z,o6]at this
   exact Nat.lt_irrefl _ (Nat.lt_of_succ_lt (Nat.lt_of_succ_lt this))
end
section
variable{X:Cx}
theorem zr(hc:X.calm=true)(hu:X.A.units+64<cLine):gf X (.builtin "max") (fun xs H Q=>∃p q ns ms,xs=[.ref p,.ref q]∧bJ X.K H p (ns.map V.int)∧bJ X.K H q (ms.map V.int)∧Q (if cI ms ns then .ref q else .ref p) H):=by
 intro pins s σ H xs us Q I r h
 obtain⟨p,q,ns,ms,rfl,h1,h2,k⟩:=h
 obtain⟨u,w',rfl,e1,e2⟩:=vals2 r
 cases e1
 cases e2
 refine DV (t:=cI ms ns) (I.ok.hd hc) (fun h' tk Q' E' kp z=>?_) fun h' tk kp=>⟨_,H,I.kept kp,?_,k⟩
 ·have I1:=I.kept (t':=tk) kp
  obtain⟨GP,r1,t1,_⟩:=I1.tuple h1
  obtain⟨jI,r2,t2,_⟩:=I1.tuple h2
  exact vX t2 t1 (by simpa using ints_of r2) (by simpa using ints_of r1) (show X.A.units+1<cLine by omega) z
 ·split<;>rfl
theorem zt(hc:X.calm=true)(hu:X.A.units+64<cLine):gf X (.builtin "min") (fun xs H Q=>∃p q ns ms,xs=[.ref p,.ref q]∧bJ X.K H p (ns.map V.int)∧bJ X.K H q (ms.map V.int)∧Q (if cI ns ms then .ref q else .ref p) H):=by
 intro pins s σ H xs us Q I r h
 obtain⟨p,q,ns,ms,rfl,h1,h2,k⟩:=h
 obtain⟨u,w',rfl,e1,e2⟩:=vals2 r
 cases e1
 cases e2
 refine DW (t:=cI ns ms) (I.ok.hd hc) (fun h' tk Q' E' kp z=>?_) fun h' tk kp=>⟨_,H,I.kept kp,?_,k⟩
 ·have I1:=I.kept (t':=tk) kp
  obtain⟨GP,r1,t1,_⟩:=I1.tuple h1
  obtain⟨jI,r2,t2,_⟩:=I1.tuple h2
  exact DU t2 t1 (by simpa using ints_of r2) (by simpa using ints_of r1) (show X.A.units+1<cLine by omega) z
 ·split<;>rfl
end
end L2
namespace L2
open PySem PySem.Spec PyProof.Rows PySem.W
theorem DX{P:Program}{w:World}{H:Hp}{h:Heap}{a:Addr}{o:HO}(x:dq P w H h a o):∃u,h.get? a=some u:=by
 cases o with
 |lst xs=>obtain⟨_,_,_,_,e⟩:=x;exact⟨_,e⟩
 |tup xs=>obtain⟨_,_,_,ob,e,_⟩:=x;exact⟨_,e⟩
 |dK bq=>obtain⟨_,_,_,_,o,_,_,e,_⟩:=x;exact⟨_,e⟩
 |dT bq=>obtain⟨_,_,_,_,o,_,_,e,_⟩:=x;exact⟨_,e⟩
 |dU bq=>obtain⟨_,_,_,_,o,_,_,e,_⟩:=x;exact⟨_,e⟩
 |set S n=>obtain⟨o,_,_,_,e,_⟩:=x;exact⟨_,e⟩
 |ins C dx fs=>obtain⟨_,_,_,e,_⟩:=x;exact⟨_,e⟩
 |own y=>exact x
 |xd fs=>obtain⟨_,⟨_,_,_,e,_⟩,_⟩:=x;exact⟨_,e⟩
 |cM lo hi=>obtain⟨_,_,_,e⟩:=x;exact⟨_,e⟩
 |fS ob u=>obtain⟨e,_⟩:=x;exact⟨_,e⟩
 |wO ps=>exact⟨_,show h.get? a=some _ from x⟩
 |met f y=>exact⟨_,show h.get? a=some _ from x⟩
 |ext φ=>obtain⟨_,e,_⟩:=x;exact e
section
variable{X:Cx}{pins:List (Addr×Obj)}{σ:St}{H:Hp}{s:Shared}
theorem Inv.GR{h':Heap}{m:Str→Option Value}{D:Addr}{out:List Value}{xs:List V}{c:Nat}(I:Inv X pins σ H s)(hm:s.heap.Ns X.env.locals m)(F:Fr X.base X.env.locals h' m)
  (N:News X.base X.env.locals h' ((D,listOf out.toArray c)::jF X.base s.heap X.env.locals))(hD:∀q∈jF X.base s.heap X.env.locals,q.1<D)(r:Vals xs out)(hz:xs.length≤sizeLine):
  Inv X pins σ (upd H D (.lst xs)) { s with heap:=h' }∧H D=none:=by
 have d1:=N _ List.mem_cons_self
 have kp:∀b o,b≠X.env.locals→s.heap.get? b=some o→h'.get? b=some o:=fun b o hb e=>by
  cases q:X.base.get? b with
  |some u=>
   have:=I.bk b u q
   rw[e]at this;cases this
   exact F.keep b _ q
  |none=>exact(N (b,o) (List.mem_cons_of_mem _ (oo hb q e))).1
 have sD:s.heap.get? D=none:=by
  cases q:s.heap.get? D with
  |none=>rfl
  |some o=>exact absurd (hD (D,o) (oo d1.2.1 d1.2.2 q)) (Nat.lt_irrefl _)
 have DY:H D=none:=by
  cases q:H D with
  |none=>rfl
  |some u=>
   obtain⟨o,e⟩:=DX (I.bV D u q)
   rw[sD]at e;cases e
 refine⟨?_,DY⟩
 have ne:∀{b:Addr}{u:HO},H b=some u→b≠D:=fun q=>dR q DY
 refine I.step (ch:=[]) (fun b hb=>by cases hb) (fun b o h1 _ _ e _=>kp b o h1 e) (fun b o h1 _ _ e _=>⟨o.slots,kp b o h1 e⟩) (fun b o _ e q=>?_) (fun b o _ e=>?_) (fun b xs q=>by rw[bG (ne q)];exact q) (fun b o u q=>by rw[bG (ne q)];exact q) (fun b ps q=>⟨#[],by rw[bG (ne q),Array.append_empty];exact q⟩) (fun m' hn=>?_) ?_ I.bare
 ·rw[bG (fun z=>by rw[z,sD]at e;cases e)];exact q
 ·by_cases hb:b=X.env.locals
  ·obtain⟨o',_,_,ho,_⟩:=F.ns
   exact⟨o',by rw[hb];exact ho⟩
  ·exact⟨o,kp b o hb e⟩
 ·have:m'=m:=funext fun x=>hn.agree hm x
  rw[this];exact F.ns
 ·intro b u e
  by_cases hb:b=D
  ·subst hb;rw[du]at e;cases e
   exact⟨hz,out,c,r,d1.1⟩
  ·rw[bG hb]at e
   have nL:∀{b:Addr}{u:HO},H b=some u→b≠X.env.locals:=fun q=>dR q I.free
   refine(I.bV b u e).sU (fun d v hd q=>kp d v ?_ q) (fun d q=>by rw[bG (ne q)];exact q) fun d xs q=>by rw[bG (ne q)];exact q
   rcases hd with rfl|hd
   ·exact nL e
   ·exact nL hd
end
section
variable{prog:Program}{w:World}{A:Around}{s:Shared}{Q:Bool→Shared→Prop}
theorem o9{fin:Bool}:∀{xs ys:List Value}{x y:List Int} (i:Nat),IntsAre xs x→IntsAre ys y→(xs.length≠ys.length∨xs.length=ys.length→fin=decide (xs.length<ys.length))→Q (cI y x) s→KatLex prog w A true fin Q (xs.zip ys) i s
 |[],ys,_,y,i,.nil,hy,hf,h=>by
  refine(show Q fin s from ?_)
  rw[hf (by omega)]
  cases hy with
  |nil=>simpa[cI]using h
  |cons _ _ _=>simpa[cI]using h
 |_,_,_,_,i,.cons n t (vs:=vs) (ns:=ns) hx,.nil,hf,h=>by
  refine(show Q fin s from ?_)
  rw[hf (by omega)]
  simpa[cI]using h
 |_,_,_,_,i,.cons n t (vs:=vs) (ns:=ns) hx,.cons k u (vs:=ws) (ns:=ms) hy,hf,h=>by
  refine(show wpAny (model prog w) A (eqBool (.int n t) (.int k u)) _ _ s from wpAny_eqBool_int ?_)
  by_cases hk:n=k
  ·subst hk
   rw[beq_self_eq_true,if_pos rfl]
   refine o9 (i+1) hx hy (fun _=>?_) (by simpa[cI]using h)
   have:=hf (by omega)
   simpa using this
  ·rw[beq_eq_false_iff_ne.mpr hk,if_neg (by decide)]
   have e:cI (k::ms) (n::ns)=decide (n<k):=by simp[cI,Ne.symm hk]
   rw[e]at h
   cases hi:(i==0)with
   |true=>exact oneLt_int h
   |false=>exact kat_one _ _ (lt_int h)
theorem TK{cmp:Nat→Nat→(Bool→Shared→Prop)→Shared→Prop}{Q:Array Nat→Shared→Prop}:(kas_sort 2).kasWp cmp Q s=cmp 1 0 (fun b s'=>Q (if b=true then #[1,0] else #[0,1]) s') s:=by
 have e:kas_sort 2=KasT.ask 1 0 fun b=>.ret (if b=true then #[1,0] else #[0,1]):=by
  unfold kas_sort kas_count
  simp only[kas_asc,KasT.bind]
  refine congr (congr (congrArg KasT.ask rfl) rfl) (funext fun b=>?_)
  cases b
  ·rfl
  ·with_unfolding_all rfl
 rw[e];rfl
end
section
variable{X:Cx}
theorem v5{its:List Value}{n:Int}{ns:List Int}(h:IntsAre its (n::ns)):∃t,its.toArray[0]? =some (.int n t):=by
 cases h with
 |cons n t r=>exact⟨t,by simp⟩
theorem uj{M:Model}{h:Heap}{n:Int}{t:Tok}:Looks M h (typeOf (.int n t)) (.type "int"):=fun _ _ _ s _ q=>wpAny_pure q
theorem mT(hu:X.A.units+64<cLine):gf X (.builtin "sorted") (fun xs H Q=>∃l p q n ns k ms,xs=[.ref l]∧dI X.K H l [.ref p,.ref q]∧bJ X.K H p ((n::ns).map V.int)∧bJ X.K H q ((k::ms).map V.int)∧∀D,H D=none→Q (.ref D) (upd H D (.lst (if cI (n::ns) (k::ms)then [.ref q,.ref p] else [.ref p,.ref q])))):=by
 intro pins s σ H xs us Q I r h
 obtain⟨l,p,q,n,ns,k,ms,rfl,hl,hp,hq,kk⟩:=h
 obtain⟨u,rfl,e1⟩:=vals1 r
 cases e1
 obtain⟨its,rv,pl,_⟩:=I.list hl
 obtain⟨u1,u2,rfl,e1,e2⟩:=vals2 rv
 cases e1
 cases e2
 obtain⟨m,F⟩:=I.fr
 refine kat_sorted (vs:=[.ref p,.ref q]) F C6 pl.isList (Nat.le_refl 2) (Nat.le_of_ble_eq_true rfl) fun D e1 h' F' N' hD=>?_
 obtain⟨I1,DY⟩:=I.GR (out:=[]) (c:=e1) F.ns F' N' hD .nil (Nat.zero_le _)
 obtain⟨GP,r1,t1,_⟩:=I1.tuple ((fW DY).LJ hp)
 obtain⟨jI,r2,t2,_⟩:=I1.tuple ((fW DY).LJ hq)
 have i1:=ints_of r1
 have i2:=ints_of r2
 obtain⟨o1,g1,c1,m1,d1⟩:=t1
 obtain⟨o2,g2,c2,m2,d2⟩:=t2
 obtain⟨a1,z1⟩:=v5 i1
 obtain⟨a2,z2⟩:=v5 i2
 refine kat_kind (T:=.type "int") (fs:=[.int n a1,.int k a2]) (.cons g1 c1 d1 z1 (.cons g2 c2 d2 z2 .nil)) (Nat.le_of_ble_eq_true rfl) (fun v hv=>?_) (by decide) ?_
 ·rcases List.mem_cons.mp hv with rfl|hv
  ·exact uj
  ·rw[List.mem_singleton.mp hv];exact uj
 rw[show([Value.ref p,Value.ref q]:List Value).length=2 from rfl,TK]
 unfold kas_ask
 refine kat_lt g2 d2 g1 d1 ?_
 refine o9 0 (by simpa using i2) (by simpa using i1) (fun _=>by simp) ?_
 refine KasFin.intro F' N' (.head fun z hz=>Nat.ne_of_lt (hD z hz)) fun h2 c2 F2 N2=>?_
 have TL:Vals (if cI (n::ns) (k::ms)=true then [V.ref q,V.ref p] else [V.ref p,V.ref q]) (List.map (fun i=>[Value.ref p,Value.ref q].getD i Value.none) (if cI (n::ns) (k::ms)=true then #[1,0] else #[0,1]).toList):=by
  split
  ·exact .cons rfl (.cons rfl .nil)
  ·exact .cons rfl (.cons rfl .nil)
 obtain⟨I2,_⟩:=I.GR F.ns F2 N2 hD TL (by rw[sizeLine_eq];split<;>exact Nat.le_of_ble_eq_true rfl)
 exact⟨.ref D,_,I2,rfl,kk D DY⟩
end
end L2
namespace L2
open PySem PySem.Spec PyProof.Rows
section
variable{prog:Program}{w:World}{A:Around}{E:Value→Shared→Prop}
theorem GS{it l:Addr}{xs:Array Value}(ne:l≠it):∀(k i:Nat) (s:Shared) (Q:List Value→Shared→Prop),s.heap.IsListIter it l i→s.heap.IsList l xs→i+k≤xs.size→
  (∀h1,h1.IsListIter it l (i+k)→Heap.SameBut it s.heap h1→Q ((xs.toList.drop i).take k) { s with heap:=h1 })→wpAny (model prog w) A (draw (.ref it) k) Q E s
 |0,i,s,Q,w1,_,_,q=>wpAny_pure (by simpa using q s.heap w1 (Heap.SameBut.refl ..))
 |k+1,i,s,Q,w1,w2,le,q=>by
  have lt:i<xs.size:=by omega
  refine(show wpAny _ _ (pyNext (.ref it) >>= _) Q E s from wpAny_bind ?_)
  refine wpAny_pyNext_list_item w1 w2 (x:=xs[i]) (by simp[lt]) fun h1 w3 sb=>?_
  refine wpAny_bind (wpAny_holding (GS ne k (i+1) _ _ w3 (w2.extBut sb.extBut ne) (by omega) fun h2 w4 TM=>wpAny_pure ?_))
  have z:=q h2 (by rw[show i+(k+1)=i+1+k by omega];exact w4) (sb.trans TM)
  rw[show xs.toList.drop i=xs[i]::xs.toList.drop (i+1)by simp[List.drop_eq_getElem_cons,lt],List.take_succ_cons]at z
  exact z
theorem GU{l:Addr}{xs:Array Value}{s:Shared}{Q:List Value→Shared→Prop}(hh:A.handled=none)(w2:s.heap.IsList l xs)
  (q:∀h1,Heap.ExtBut s.heap.objs.size s.heap h1→Q xs.toList { s with heap:=h1 }):wpAny (model prog w) A (unpackItems (.ref l) xs.size none) Q E s:=by
 have ne:l≠s.heap.objs.size:=by obtain⟨o,e,_⟩:=w2;exact Nat.ne_of_lt (Heap.lt_size e)
 unfold unpackItems
 refine wpAny_bind ?_
 unfold notIterableAtAll
 refine wpAny_bind (wpAny_specialOf w2.typeIs slot_list_iter.lookup (wpAny_pure ?_))
 simp only[Bool.false_eq_true,if_false]
 refine wpAny_bind (wpAny_holding (wpAny_pyIter_list w2 ?_))
 refine wpAny_bind (wpAny_holding (GS ne xs.size 0 _ _ ⟨_,Heap.get?_push_size _ rfl,rfl,rfl⟩ (w2.push _) (by omega) fun h1 w3 sb=>?_))
 rw[show List.take xs.size (List.drop 0 xs.toList)=xs.toList by rw[List.drop_zero];exact List.take_of_length_le (by simp),if_neg (by simp)]
 have w4:h1.IsList l xs:=(w2.push _).extBut sb.extBut ne
 refine wpAny_bind (wpAny_holding (wpAny_pyNext_list_end hh w3 w4 (by simp) fun h2 eb=>?_))
 simp only[Option.isSome_none,Bool.false_eq_true,if_false]
 exact wpAny_pure (q h2 fun b o hb e=>eb b o hb (sb.extBut b o hb (Heap.get?_push_of_some _ e)))
end
section
variable{X:Cx}{pos:Pos}
def Q2(K:PySem.W.Frag)(n:Nat)(t:sX):TG:=fun v σ H Q=>∃a xs,v= .ref a∧dI K H a xs∧xs.length=n∧t xs σ H Q
theorem Kj{es:List Expr}{k:Nat}{t:sX}{n:Nat}(hc:X.calm=true)(h:wV X es t)
  (hn:(assignEach es X.env).length=n:=by rfl)(gd:(assignEach es X.env).findIdx? (·.1)=none:=by rfl):PG X (.Tuple es k pos) (Q2 X.K n t):=by
 intro pins s σ H v u Q I r hw
 obtain⟨a,xs,e1,hq,hl,hw⟩:=hw
 subst e1
 cases r
 obtain⟨its,rv,pl,_⟩:=I.list hq
 have el:(assignEach es X.env).length=its.toArray.size:=by simp[hn,←hl,rv.length]
 rw[assign_Tuple]
 refine wpAny_bind (wpAny_standAt ?_)
 unfold unpack
 rw[el,gd]
 refine wpAny_bind (wpAny_holding (GU (I.ok.hd hc) pl.isList fun h1 hx=>?_))
 have I1:Inv X pins σ H { s with heap:=h1 }:=I.kept (t':=s.toks) fun b o e=>hx b o (Nat.ne_of_lt (Heap.lt_size e)) e
 exact h pins _ σ H xs _ Q I1 (by simpa using rv) hw
end
end L2
namespace Qm
open PySem
noncomputable section
def cI:List Int→List Int→Bool
 |[],_=>false
 |_::_,[]=>true
 |a::r,b::t=>if a=b then cI r t else decide (a > b)
def nums(xs:List D):Option (List Int):=omap tS xs
def zw:G2:=fun x y c=>match x,y with
 |.tup xs,.tup ys=>(nums xs).bind fun ns=>(nums ys).bind fun ms=>some (.bl (cI ns ms),c)
 |_,_=>none
def o_:FN:=fun ds c=>match ds with
 |[.tup xs,.tup ys]=>(nums xs).bind fun ns=>(nums ys).bind fun ms=>some (if cI ms ns=true then .tup ys else .tup xs,c)
 |_=>none
def pf:FN:=fun ds c=>match ds with
 |[.tup xs,.tup ys]=>(nums xs).bind fun ns=>(nums ys).bind fun ms=>some (if cI ns ms=true then .tup ys else .tup xs,c)
 |_=>none
def xw(xs:List D):Option (List D×List D×List Int×List Int):=match xs with
 |[.tup xs,.tup ys]=>(nums xs).bind fun ns=>(nums ys).bind fun ms=>if ns≠[]∧ms≠[] then some (xs,ys,ns,ms)else none
 |_=>none
def fY:FN:=fun ds c=>match ds with
 |[.ref l]=>(cf (.ref l) c).bind fun zs=>(xw zs).bind fun q=>some (.ref c.length,c++[.lst (if cI q.2.2.1 q.2.2.2=true then [.tup q.2.1,.tup q.1] else [.tup q.1,.tup q.2.1])])
 |_=>none
def VV:G2:=fun x y c=>match x,y with
 |.bl b,.bl true=>some (.bl b,c)
 |_,_=>none
def Ct(n:Nat)(gs:rV):XG:=fun d σ c=>(cp d c).bind fun l=>if l.2.length=n then gs l.2 σ c else none
end
end Qm
namespace L2
open PySem PySem.Spec PyProof.Rows
theorem uk:bootBuiltins "sorted" =some (.builtin "sorted"):=by decide +kernel
theorem ph:∀x y:List Int,cI x y=Qm.cI x y
 |[],y=>by cases y<;>rfl
 |_::_,[]=>rfl
 |a::r,b::t=>by simp only[cI,Qm.cI];rw[ph r t]
section
variable{K:PySem.W.Frag}
theorem fI{ρ:Nat→Addr}{N:Nat}{H:Hp}:∀{xs:List Qm.D}{vs:List V}{ns:List Int},RA K ρ N H xs vs→Qm.nums xs=some ns→vs=ns.map V.int
 |[],_,ns,a,h=>by cases a;cases h;rfl
 |x::xs,_,ns,a,h=>by
  cases a with
  |cons r a=>
   obtain⟨i,h1,h⟩:=aM h
   obtain⟨ms,h2,h⟩:=aM h
   cases h
   rw[gk h1]at r
   cases r.fX
   rw[fI a h2]
   rfl
theorem Kk:gb K (LV K) Qm.zw:=by
 intro ρ c H x y d c' v u Q rs rx ry e k
 unfold Qm.zw at e
 split at e
 ·obtain⟨ns,e1,e⟩:=aM e
  obtain⟨ms,e2,e⟩:=aM e
  cases e
  obtain⟨p,vs,rfl,h1,a1⟩:=rx.eU
  obtain⟨q,us,rfl,h2,a2⟩:=ry.eU
  rw[fI a1 e1]at h1
  rw[fI a2 e2]at h2
  exact⟨p,q,ns,ms,rfl,rfl,bJ.of h1,bJ.of h2,by rw[ph];exact k ρ _ H (Nx.refl rs) (.bl _)⟩
 ·cases e
theorem DZ:ql K (fun xs H Q=>∃p q ns ms,xs=[.ref p,.ref q]∧bJ K H p (ns.map V.int)∧bJ K H q (ms.map V.int)∧Q (if cI ms ns then .ref q else .ref p) H) Qm.o_:=by
 intro ρ c H ds d c' vs Q rs ra e k
 unfold Qm.o_ at e
 split at e
 ·rename_i xs ys
  obtain⟨ns,e1,e⟩:=aM e
  obtain⟨ms,e2,e⟩:=aM e
  cases e
  obtain⟨v,u,rfl,rx,ry⟩:=ra.oU
  obtain⟨p,vs,rfl,h1,a1⟩:=rx.eU
  obtain⟨q,us,rfl,h2,a2⟩:=ry.eU
  have z1:=fI a1 e1
  have z2:=fI a2 e2
  refine⟨p,q,ns,ms,rfl,bJ.of (z1 ▸ h1),bJ.of (z2 ▸ h2),?_⟩
  rw[ph]
  by_cases g:Qm.cI ms ns=true
  ·rw[if_pos g]at k ⊢;exact k ρ _ H (Nx.refl rs) (.tup h2 a2)
  ·rw[if_neg g]at k ⊢;exact k ρ _ H (Nx.refl rs) (.tup h1 a1)
 ·cases e
theorem D0:ql K (fun xs H Q=>∃p q ns ms,xs=[.ref p,.ref q]∧bJ K H p (ns.map V.int)∧bJ K H q (ms.map V.int)∧Q (if cI ns ms then .ref q else .ref p) H) Qm.pf:=by
 intro ρ c H ds d c' vs Q rs ra e k
 unfold Qm.pf at e
 split at e
 ·rename_i xs ys
  obtain⟨ns,e1,e⟩:=aM e
  obtain⟨ms,e2,e⟩:=aM e
  cases e
  obtain⟨v,u,rfl,rx,ry⟩:=ra.oU
  obtain⟨p,vs,rfl,h1,a1⟩:=rx.eU
  obtain⟨q,us,rfl,h2,a2⟩:=ry.eU
  have z1:=fI a1 e1
  have z2:=fI a2 e2
  refine⟨p,q,ns,ms,rfl,bJ.of (z1 ▸ h1),bJ.of (z2 ▸ h2),?_⟩
  rw[ph]
  by_cases g:Qm.cI ns ms=true
  ·rw[if_pos g]at k ⊢;exact k ρ _ H (Nx.refl rs) (.tup h2 a2)
  ·rw[if_neg g]at k ⊢;exact k ρ _ H (Nx.refl rs) (.tup h1 a1)
 ·cases e
theorem qS:ql K (fun xs H Q=>∃l p q n ns k ms,xs=[.ref l]∧dI K H l [.ref p,.ref q]∧bJ K H p ((n::ns).map V.int)∧bJ K H q ((k::ms).map V.int)∧∀D,H D=none→Q (.ref D) (upd H D (.lst (if cI (n::ns) (k::ms)then [.ref q,.ref p] else [.ref p,.ref q])))) Qm.fY:=by
 intro ρ c H ds d c' vs Q rs ra e k
 unfold Qm.fY at e
 split at e
 ·rename_i l
  obtain⟨zs,e1,e⟩:=aM e
  obtain⟨⟨xs,ys,ns,ms⟩,e2,e⟩:=aM e
  cases e
  obtain⟨v,rfl,rx⟩:=ra.kW
  obtain⟨ws,rfl,hl,a⟩:=rs.Ci rx e1
  unfold Qm.xw at e2
  split at e2
  ·obtain⟨Wb,f1,e2⟩:=aM e2
   obtain⟨Wc,f2,e2⟩:=aM e2
   split at e2
   ·rename_i gH
    cases e2
    obtain⟨v1,v2,rfl,r1,r2⟩:=a.oU
    obtain⟨p,ps,rfl,h1,a1⟩:=r1.eU
    obtain⟨q,qs,rfl,h2,a2⟩:=r2.eU
    have z1:=fI a1 f1
    have z2:=fI a2 f2
    obtain⟨n,ns,rfl⟩:=List.exists_cons_of_ne_nil gH.1
    obtain⟨m,ms,rfl⟩:=List.exists_cons_of_ne_nil gH.2
    refine⟨_,p,q,n,ns,m,ms,rfl,hl,bJ.of (z1 ▸ h1),bJ.of (z2 ▸ h2),fun D hD=>?_⟩
    dsimp only at k ⊢
    rw[ph]
    by_cases g:Qm.cI (n::ns) (m::ms)=true
    ·rw[if_pos g]at k ⊢
     obtain⟨nn,r⟩:=Nx.alloc rs hD (show RA K ρ c.length H [.tup ys,.tup xs] [.ref q,.ref p] from .cons (.tup h2 a2) (.cons (.tup h1 a1) .nil))
     exact k _ _ _ nn r
    ·rw[if_neg g]at k ⊢
     obtain⟨nn,r⟩:=Nx.alloc rs hD (show RA K ρ c.length H [.tup xs,.tup ys] [.ref p,.ref q] from .cons (.tup h1 a1) (.cons (.tup h2 a2) .nil))
     exact k _ _ _ nn r
   ·cases e2
  ·cases e2
 ·cases e
end
section
variable{X:Cx}{pos:Pos}{es:List Expr}
theorem Kl{k0:Nat}{y9:Qm.rV}{n:Nat}(hc:X.calm=true)(h:Gb X es y9)(hn:(assignEach es X.env).length=n:=by rfl)(gd:(assignEach es X.env).findIdx? (·.1)=none:=by rfl):QG X (.Tuple es k0 pos) (Qm.Ct n y9):=(Kj hc h hn gd).imp <| by
 rintro v σ H Q ⟨ρ,env,c,d,cu,c',rs,re,rd,e,k⟩
 obtain⟨l,e1,e⟩:=aM e
 split at e
 ·rename_i hl
  obtain⟨_,hp,vs,rfl,h1,a1⟩:=rs.cp rd e1
  exact⟨_,vs,rfl,.inl (.inl h1),by rw[←a1.length];exact hl,ρ,env,c,l.2,cu,c',rs,re,a1,e,k⟩
 ·cases e
end
end L2
namespace Qm
open PySem
noncomputable section
end
end Qm
namespace PySem
open Sem (wp)
section
variable{prog:Program}{w:World}{K:Type}[DecidableEq K]{knd:KeyKind prog w K}{A:Around}{E:Value→Shared→Prop}{s:Shared}
end
end PySem
namespace L2
open PySem PySem.Spec PyProof.Rows
section
variable{K:PySem.W.Frag}{ρ aW:Nat→Addr}{N:Nat}{c c':Qm.Cells}{H H':Hp}
theorem RK.length:∀{ps:List (Str×Qm.D)}{us:List (Key×V)},RK K ρ N H ps us→ps.length=us.length
 |_,_,.nil=>rfl
 |_,_,.cons _ a=>congrArg (·+1) (RK.length a)
theorem RK.any:∀{ps:List (Str×Qm.D)}{us:List (Key×V)},RK K ρ N H ps us→∀k,(ps.any fun p=>decide (p.1=k))=us.any fun kv=>decide (kv.1= .inr k)
 |_,_,.nil,_=>rfl
 |_,_,.cons (k:=k') h a,k=>by
  rw[List.any_cons,List.any_cons,RK.any a k]
  congr 1
  by_cases e:k'=k
  ·subst e;simp
  ·have e':¬(Sum.inr k':Key)= .inr k:=fun z=>e (Sum.inr.inj z)
   simp[e]
end
section
variable{X:Cx}{a b e:Expr}{es:List Expr}{fa fb fc fe:Qm.XE}{pos apos gD:Pos}
end
end L2
namespace L2
open PySem PySem.Spec PyProof.Rows
section
variable{X:Cx}
end
section
variable{K:PySem.W.Frag}{ρ:Nat→Addr}{c:Qm.Cells}{H:Hp}
inductive PD(K:PySem.W.Frag)(H:Hp):List (Str×PyData)→List (Key×V)→Prop
 |nil:PD K H [] []
 |cons {k:Str}{d:PyData}{r:List (Str×PyData)}{v:V}{t:List (Key×V)}:jw K H v d→SeqAt.shaped d=true→nb d=true→PD K H r t→PD K H ((k,d)::r) ((.inr k,v)::t)
theorem PD.length:∀{ds:List (Str×PyData)}{us:List (Key×V)},PD K H ds us→ds.length=us.length
 |_,_,.nil=>rfl
 |_,_,.cons _ _ _ a=>congrArg (·+1) (PD.length a)
end
end L2
namespace L2
open PySem PySem.Spec PyProof.Rows
theorem bM.none{P:Program}{w:World}{K:PySem.W.Frag}{mg:Str→Option Value}{base:Heap}{k:Nat}{f:Addr}{fd:FuncData}{ps:List Str}{F:Qm.FN}(h:∀ds c,F ds c=Option.none):bM P w K mg base de k f fd ps (dr K F):=
 ⟨fun vs H Q E ⟨_,_,_,_,_,_,_,e,_⟩=>(by rw[h]at e;cases e),fun A outer s H args us vs Q E _ _ _ _ ⟨_,_,_,_,_,_,_,e,_⟩=>(by rw[h]at e;cases e)⟩
end L2
namespace L2
open PySem PySem.Spec PyProof.Rows
end L2
namespace L2
open PySem PySem.Spec PyProof.Rows
section
variable{X:Cx}{es:List Expr}{fr:Qm.XA}{p:Pos}
end
end L2
namespace L2
open PySem PySem.Spec PyProof.Rows
section
variable{X:Cx}{pins:List (Addr×Obj)}{σ:St}{H:Hp}{s:Shared}{h':Heap}
end
section
variable{X:Cx}{e1 e2:Expr}{p0 p1 p2 pos:Pos}{f:Qm.XA}{es:List Expr}{k0:Nat}
end
end L2
namespace Qm
open PySem
noncomputable section
end
end Qm
namespace L2
open PySem PySem.Spec PyProof.Rows
section
variable{K:PySem.W.Frag}
end
section
variable{X:Cx}{e1:Expr}{p0 p1 p2 pos:Pos}{f:Qm.XA}{es:List Expr}{k0:Nat}
end
end L2
namespace L2
open PySem PySem.Spec PyProof.Rows
section
variable{X:Cx}{pins:List (Addr×Obj)}{σ:St}{H:Hp}{s:Shared}{h':Heap}
end
section
variable{X:Cx}{tg l:Expr}{tl:TE}
end
section
variable{K:PySem.W.Frag}{ρ aW:Nat→Addr}{N:Nat}{c c':Qm.Cells}{H H':Hp}
theorem RK.at_:∀{ps:List (Str×Qm.D)}{us:List (Key×V)},RK K ρ N H ps us→∀{i:Nat}{p:Str×Qm.D},ps[i]? =some p→∃kv,us[i]? =some kv∧kv.1= .inr p.1
 |_,_,.nil,i,p,h=>by simp at h
 |_,_,.cons (k:=k') _ a,0,p,h=>by simp at h;subst h;exact⟨_,rfl,rfl⟩
 |_,_,.cons _ a,i+1,p,h=>by
  obtain⟨kv,h1,h2⟩:=RK.at_ a (i:=i) (p:=p) (by simpa using h)
  exact⟨kv,by simpa using h1,h2⟩
end
section
variable{X:Cx}{e a b tg:Expr}{fe fa fb:Qm.XE}{pos:Pos}
end
end L2
namespace L2
open PySem PySem.Spec PyProof.Rows
section
variable{X:Cx}{pins:List (Addr×Obj)}{σ:St}{H:Hp}{s:Shared}
end
end L2
namespace Qm
open PySem
noncomputable section
end
end Qm
namespace Qm
open PySem
noncomputable section
end
end Qm
namespace L2
open PySem PySem.Spec PyProof.Rows
section
variable{X:Cx}
end
section
variable{K:PySem.W.Frag}{ρ:Nat→Addr}{c:Qm.Cells}{H:Hp}
end
end L2
namespace PySem
open Sem (wp)
open AutoSeq1 (wpAny_loadPart')
open MeetsSeq MeetsSeq2 MeetsSeq3 SeqRoads2
section
variable{P:Program}{W:World}
variable{A:Around}{E:Value→Shared→Prop}{s:Shared}
end
end PySem
namespace L2
open PySem PySem.Spec PyProof.Rows
section
variable{X:Cx}
end
section
variable{K:PySem.W.Frag}{ρ:Nat→Addr}{c:Qm.Cells}{H:Hp}
end
end L2
namespace Qm
open PySem
noncomputable section
end
end Qm
namespace PySem
open Sem (wp)
section
variable{prog:Program}{w:World}{A:Around}{E:Value→Shared→Prop}{s:Shared}{I:Addr}{fp wr:List Addr}{G:Array GenState→Array GenState→Prop}{n:Nat}{P:Nat→Value→Prop}{St:Nat→Shared→Prop}
end
end PySem
namespace L2
open PySem PySem.Spec PyProof.Rows
section
variable{X:Cx}
end
end L2
namespace L2
open PySem PySem.Spec PyProof.Rows
section
variable{X:Cx}{e1 e2:Expr}{p0 p1 p2 pos:Pos}{f:Qm.XA}{es:List Expr}{k0:Nat}
end
end L2
namespace PySem
open Sem (wp)
open AutoSeq1 (wpAny_loadPart')
open MeetsSeq MeetsSeq2 MeetsSeq3 SeqRoads2
section
variable{P:Program}{W:World}
end
end PySem
namespace L2
open PySem PySem.Spec PyProof.Rows
section
variable{X:Cx}
end
end L2
namespace Qm
open PySem
noncomputable section
end
end Qm
namespace L2
open PySem PySem.Spec PyProof.Rows
section
variable{X:Cx}{e:Expr}{es:List Expr}{x:Str}{p pos:Pos}{fx:Qm.XA}{fe:Qm.XE}
end
section
variable{X:Cx}{tg:Expr}
end
end L2
namespace Qm
open PySem
noncomputable section
def k1(d:D):Option (List Int):=match d with
 |.tup xs=>nums xs
 |_=>none
def k2(d:D):Option (List (List Int)):=match d with
 |.tup xs=>omap k1 xs
 |_=>none
section
variable{κ α:Type}[DecidableEq κ]
end
end
end Qm
namespace L2
open PySem PySem.Spec PyProof.Rows
abbrev D3(k:List Int):List Key:=k.map Sum.inl
abbrev D4(k:List (List Int)):List (List Key):=k.map (List.map Sum.inl)
section
variable{K:PySem.W.Frag}{ρ aW:Nat→Addr}{N N':Nat}{H H':Hp}
theorem Cu{x y:List Int}(h:D3 x=D3 y):x=y:=(List.map_inj_right fun _ _ e=>Sum.inl.inj e).mp h
theorem kX.length:∀{ps:List (List Int×Qm.D)}{us:List (List Key×V)},kX K ρ N H ps us→ps.length=us.length
 |_,_,.nil=>rfl
 |_,_,.cons _ a=>congrArg (·+1) (kX.length a)
theorem kX.any:∀{ps:List (List Int×Qm.D)}{us:List (List Key×V)},kX K ρ N H ps us→∀k,(ps.any fun p=>decide (p.1=k))=us.any fun kv=>decide (kv.1=D3 k)
 |_,_,.nil,_=>rfl
 |_,_,.cons (k:=k0) r a,k=>by
  rw[List.any_cons,List.any_cons,kX.any a k]
  by_cases hk:k0=k
  ·subst hk;simp
  ·have NF:¬D3 k0=D3 k:=fun e=>hk (Cu e)
   simp[hk,NF]
theorem kX.at_:∀{ps:List (List Int×Qm.D)}{us:List (List Key×V)}{i:Nat}{p:List Int×Qm.D},kX K ρ N H ps us→ps[i]? =some p→∃v,us[i]? =some (D3 p.1,v)∧RD K ρ N H p.2 v
 |_,_,_,_,.nil,e=>by simp at e
 |_,_,0,_,.cons h _,e=>by simp at e;subst e;exact⟨_,rfl,h⟩
 |_,_,i+1,p,.cons _ a,e=>by
  obtain⟨v,h1,h2⟩:=kX.at_ (i:=i) (p:=p) a (by simpa using e)
  exact⟨v,by simpa using h1,h2⟩
end
section
variable{K:PySem.W.Frag}{ρ aW:Nat→Addr}{N N':Nat}{H H':Hp}
theorem Km{x y:List (List Int)}(h:D4 x=D4 y):x=y:=(List.map_inj_right fun _ _ e=>Cu e).mp h
theorem kz.length:∀{ps:List (List (List Int)×Qm.D)}{us:List (List (List Key)×V)},kz K ρ N H ps us→ps.length=us.length
 |_,_,.nil=>rfl
 |_,_,.cons _ a=>congrArg (·+1) (kz.length a)
theorem kz.any:∀{ps:List (List (List Int)×Qm.D)}{us:List (List (List Key)×V)},kz K ρ N H ps us→∀k,(ps.any fun p=>decide (p.1=k))=us.any fun kv=>decide (kv.1=D4 k)
 |_,_,.nil,_=>rfl
 |_,_,.cons (k:=k0) r a,k=>by
  rw[List.any_cons,List.any_cons,kz.any a k]
  by_cases hk:k0=k
  ·subst hk;simp
  ·have NF:¬D4 k0=D4 k:=fun e=>hk (Km e)
   simp[hk,NF]
theorem kz.at_:∀{ps:List (List (List Int)×Qm.D)}{us:List (List (List Key)×V)}{i:Nat}{p:List (List Int)×Qm.D},kz K ρ N H ps us→ps[i]? =some p→∃v,us[i]? =some (D4 p.1,v)∧RD K ρ N H p.2 v
 |_,_,_,_,.nil,e=>by simp at e
 |_,_,0,_,.cons h _,e=>by simp at e;subst e;exact⟨_,rfl,h⟩
 |_,_,i+1,p,.cons _ a,e=>by
  obtain⟨v,h1,h2⟩:=kz.at_ (i:=i) (p:=p) a (by simpa using e)
  exact⟨v,by simpa using h1,h2⟩
end
end L2
namespace L2
open PySem PySem.Spec PyProof.Rows
section
variable{K:PySem.W.Frag}{ρ:Nat→Addr}{N:Nat}{H:Hp}
end
section
variable{K:PySem.W.Frag}{ρ:Nat→Addr}{c:Qm.Cells}{H:Hp}
end
section
variable{X:Cx}{pos:Pos}
end
end L2
namespace L2
open PySem PySem.Spec PyProof.Rows
section
variable{P:Program}{w:World}{H:Hp}{h:Heap}{a:Addr}
abbrev KU(H:Hp)(bq:List (List (List Key)×V))(xs:List (List (List Key)×Addr×Value)):Prop:=Paired (fun(p:List (List Key)×V) (q:List (List Key)×Addr×Value)=>p.1=q.1∧yi H p.1 q.2.1∧RelV p.2 q.2.2) bq xs
theorem KU.length{bq:List (List (List Key)×V)}{xs:List (List (List Key)×Addr×Value)}(r:KU H bq xs):bq.length=xs.length:=by
 induction r with
 |nil=>rfl
 |cons _ _ ih=>simp[ih]
theorem KT.len{bq:List (List Key×V)}{xs:List (List Key×Addr×Value)}(r:KT H bq xs):bq.length=xs.length:=by
 induction r with
 |nil=>rfl
 |cons _ _ ih=>simp[ih]
end
section
variable{X:Cx}
end
end L2
namespace PySem
section
variable{prog:Program}{w:World}{K:Type}[DecidableEq K]{knd:HeapKind prog w K}{A:Around}{E:Value→Shared→Prop}{s:Shared}
end
end PySem
namespace L2
open PySem PySem.Spec PyProof.Rows
section
variable{K:Type}[DecidableEq K]
end
section
variable{X:Cx}{o i e f:Expr}{pos apos gD:Pos}{td ty tx:TE}
end
section
variable{X:Cx}{o i b:Expr}{pos apos gD p0 p1 p2 lp:Pos}{fo fb:Qm.XE}
end
end L2
namespace L2
open PySem PySem.Spec PyProof.Rows
section
variable{X:Cx}{o:Expr}{p0 pos apos gD:Pos}{td:TE}{fo:Qm.XE}
end
end L2
namespace PySem
set_option maxRecDepth 100000
end PySem
namespace L2
open PySem PySem.Spec PyProof.Rows
section
variable{X:Cx}{pins:List (Addr×Obj)}{σ:St}{H:Hp}{A:Around}{E:Value→Shared→Prop}
end
end L2
namespace L2
open PySem PySem.Spec PyProof.Rows
section
variable{X:Cx}
end
end L2
namespace PySem
set_option maxRecDepth 100000
section
variable{prog:Program}{w:World}{A:Around}{E:Value→Shared→Prop}{s:Shared}{z TI TO i1 i2:Addr}{f0 f1 x y a b:Value}
end
end PySem
namespace PySem
section
variable{prog:Program}{w:World}{A:Around}{E:Value→Shared→Prop}{s:Shared}{z TI TO:Addr}{f0 f1:Value}
end
end PySem
namespace L2
open PySem PySem.Spec PyProof.Rows
end L2
namespace PySem
section
variable{prog:Program}{w:World}{A:Around}{E:Value→Shared→Prop}{s:Shared}
end
end PySem
namespace L2
open PySem PySem.Spec PyProof.Rows
section
variable{X:Cx}{e1 e2 tg:Expr}{p1 p2:Pos}{f:Qm.XA}
end
end L2
namespace L2
open PySem PySem.Spec PyProof.Rows
section
variable{X:Cx}{e1 e2 tg:Expr}{p1 p2:Pos}{f:Qm.XA}
end
end L2
namespace Qm
open PySem
noncomputable section
end
end Qm
namespace Qm
open PySem
noncomputable section
end
end Qm
namespace PySem
open Sem (wp)
section
variable{prog:Program}{w:World}{A:Around}{E:Value→Shared→Prop}{s:Shared}
end
end PySem
namespace L2
open PySem PySem.Spec PyProof.Rows
section
variable{X:Cx}
end
end L2
namespace L2
open PySem PySem.Spec PyProof.Rows
def spT(K:PySem.W.Frag)(F:Nat→Nat→Qm.FN):Sp:=fun vs H Q E=>∀x y,x≠y→dr K (F x y) vs H Q E
end L2
namespace PySem
open Sem (wp)
open AutoSeq1 (wpAny_loadPart')
end PySem
namespace L2
open PySem PySem.Spec PyProof.Rows
section
variable{X:Cx}
end
end L2
namespace L2
open PySem
section
variable{X:Cx}{b e:Expr}{es:List Expr}{fb:Qm.XE}{pos p:Pos}
theorem qv(i:Nat){x:Str}(hN:X.N[i]? =some x:=by rfl)(hv:AG X.env.scope x:=by first|exact Or.inl rfl|exact Or.inr (Or.inl rfl)|exact Or.inr (Or.inr rfl))(hd:(x=="__debug__")=false:=by decide)(hc:(x=="__classdict__")=false:=by decide):QE X (.Name x pos) (Qm.eV i):=JO i (pv i hN hv hd hc)
theorem aU(i:Nat){x:Str}(hb:QE X b fb)(hN:X.N[i]? =some x:=by rfl)(hv:AG X.env.scope x:=by first|exact Or.inl rfl|exact Or.inr (Or.inl rfl)|exact Or.inr (Or.inr rfl))(hs:oD b:=by exact fun _ _=>rfl)(hd:(x=="__debug__")=false:=by decide)(hc:(x=="__classdict__")=false:=by decide):QE X (.Subscript (.Name x p) b pos) (Qm.e2 Qm.av (Qm.eV i) fb):=bD (qv i hN hv hd hc) hb hs
theorem Q3{k:Nat}{f:Addr}{fd:FuncData}{ps:List Str}{F:Qm.FN}{x:Str}{fx:Qm.XA}(G:bM X.prog X.w X.K X.mg X.base de k f fd ps (dr X.K F))(hm:X.mg x=some (.ref f))(hk:PySem.W.keepIn X.K (.ref f)=true)(hb:Binds X.K fd ps [])(hr:eT k X.A)(ha:QA X (e::es) fx)
  (hg:Gl X x:=by rfl)(hd:(x=="__debug__")=false:=by decide)(he:starEach (e::es) X.env=(false,eval e X.env)::starEach es X.env:=by rfl)(hp:(backTo pos (starEach es X.env)).any (·.1)=false:=by rfl):QE X (.Call (.Name x p) (e::es) [] pos) (Qm.ar F [] fx):=Ge [] G hr hg hm hk hb .nil (fun _ _ _=>.nil) ha hd he hp
theorem bR{fe:Qm.XE}(i:Nat){x:Str}{pos':Pos}(hN:X.N.Nodup)(he:QE X e fe)(hi:X.N[i]? =some x:=by rfl)(hx:Loc X.env.scope x:=by exact Or.inl rfl)(hs:swapsWith e (some (.Name x pos')) pos.line X.env=pure false:=by rfl)(hf:X.fn x=true∨X.env.scope.names.lookup x=some .local:=by first|exact .inl rfl|exact .inr rfl|assumption):
  QS X (.Assign [.Name x pos'] e pos) (Qm.az i fe):=j9 hN hi hx he hs hf
theorem n8(i:Nat){x:Str}(hN:X.N.Nodup)(hi:X.N[i]? =some x:=by rfl)(hx:Loc X.env.scope x:=by exact Or.inl rfl)(hf:X.fn x=true∨X.env.scope.names.lookup x=some .local:=by first|exact .inl rfl|exact .inr rfl|assumption):QG X (.Name x pos) (Qm.aD i):=jL hN hi hx hf
theorem dN{a:Expr}{fa:Qm.XE}{op:CmpOp}{r:R2}{g:Qm.G2}(ho:dB X (compareOp op) r)(hl:gb X.K r g)(ha:QE X a fa)(hb:QE X b fb)(h1:op≠.In:=by decide)(h2:op≠.NotIn:=by decide):QT X (.Compare a [op] [b] pos) (Qm.tV (Qm.e2 g fa fb)):=xp ho hl ha hb (i8 _ h1 h2)
theorem n_{fe:Qm.XE}(hm:X.mg "len" =none)(ha:QE X e fe)(hg:Gl X "len":=by rfl)(he:starEach [e] X.env=(false,eval e X.env)::starEach [] X.env:=by rfl):QE X (.Call (.Name "len" p) [e] [] pos) (Qm.eB Qm.cF (Qm.ag fe Qm.aj)):=dg vk JT hg hm JF (ah ha ak he) (by decide) (by decide) he rfl
end
end L2
namespace L2
open PySem PySem.W PyProof.Rows
def ev{α:Type}(lt:Nat→Nat→Bool):KasT α→α
 |.ret a=>a
 |.ask i j k=>ev lt (k (lt i j))
section
variable{lt:Nat→Nat→Bool}
def at_(p:Array Nat)(i:Nat):Nat:=p.getD i 0
end
end L2
namespace L2
open PySem PySem.W PySem.Spec PyProof.Rows
section
variable{prog:Program}{w:World}{A:Around}{E:Value→Shared→Prop}{s:Shared}
end
def D5{α:Type}(n:Nat)(t:KasT α)(LW:α→Prop):Prop:=match t with
 |.ret a=>LW a
 |.ask i j k=>i<n∧j<n∧∀b,D5 n (k b) LW
theorem D5.bind{α β:Type}{n:Nat}{f:α→KasT β}{P:α→Prop}{Q:β→Prop}:∀(t:KasT α),D5 n t P→(∀a,P a→D5 n (f a) Q)→D5 n (t.bind f) Q
 |.ret a,h,k=>k a h
 |.ask i j g,h,k=>⟨h.1,h.2.1,fun b=>D5.bind (g b) (h.2.2 b) k⟩
section
variable{n:Nat}{p q:Array Nat}
end
end L2
namespace L2
open PySem PySem.Spec PyProof.Rows PySem.W
theorem qT:∀{as:List Addr}{us:List Value},Vals (as.map V.ref) us→us=as.map Value.ref
 |[],_,.nil=>rfl
 |_::_,_,.cons r t=>by
  rw[qT t]
  have:_=Value.ref _:=r
  rw[this];rfl
theorem qU{α β:Type}{R:α→β→Prop}:∀{xs:List α}{ys:List β},Paired R xs ys→∀{i:Nat},i<xs.length→∃x y,xs[i]? =some x∧ys[i]? =some y∧R x y
 |_,_,.nil,i,h=>by simp at h
 |_,_,.cons r t,0,_=>⟨_,_,rfl,rfl,r⟩
 |_,_,.cons r t,i+1,h=>by
  obtain⟨x,y,h1,h2,h3⟩:=qU t (i:=i) (by simpa using h)
  exact⟨x,y,by simpa using h1,by simpa using h2,h3⟩
section
variable{X:Cx}{pins:List (Addr×Obj)}{σ:St}{H:Hp}{s:Shared}
theorem range_getD{α:Type}(d:α)(ts:List α):(List.range ts.length).map (fun i=>ts.getD i d)=ts:=by
 refine List.ext_getElem? fun i=>?_
 rw[List.getElem?_map]
 by_cases h:i<ts.length
 ·rw[List.getElem?_range h]
  simp[List.getD,h]
 ·rw[List.getElem?_eq_none (by simp;omega),List.getElem?_eq_none (by omega)];rfl
end
end L2
namespace Qm
open PySem
noncomputable section
def rowOf(d:D):Option (List Int):=match d with
 |.tup xs=>nums xs
 |_=>none
end
end Qm
namespace L2
open PySem PySem.Spec PyProof.Rows PySem.W
section
variable{K:PySem.W.Frag}{ρ:Nat→Addr}{N:Nat}{H:Hp}
theorem zx:∀{ds:List Qm.D}{ws:List V}{ts:List (List Int)},RA K ρ N H ds ws→Qm.omap Qm.rowOf ds=some ts→∃as:List Addr,ws=as.map V.ref∧Paired (fun(a:Addr) (t:List Int)=>H a=some (.tup (t.map V.int))) as ts
 |_,_,_,.nil,e=>by
  cases e
  exact⟨[],rfl,.nil⟩
 |_,_,_,.cons (d:=d) r t,e=>by
  simp only[Qm.omap]at e
  obtain⟨z,e1,e⟩:=aM e
  obtain⟨zs,e2,e⟩:=aM e
  cases e
  obtain⟨as,rfl,pr⟩:=zx t e2
  unfold Qm.rowOf at e1
  split at e1
  ·obtain⟨p,xs,rfl,h1,a1⟩:=r.eU
   rw[fI a1 e1]at h1
   exact⟨p::as,rfl,.cons h1 pr⟩
  ·cases e1
end
end L2
namespace PySem
namespace SetTable
theorem qt(xs:Array Nat)(j:Nat)(hr:xs.toList.Pairwise (·< ·)):∀(fuel lo hi:Nat),hi - lo≤fuel→lo≤hi→hi≤xs.size→
  (∀i x,i<lo→xs[i]? =some x→x<j)→(∀i x,hi≤i→xs[i]? =some x→j≤x)→
  ∃r,below.go xs j fuel lo hi=r∧r≤xs.size∧(∀i x,i<r→xs[i]? =some x→x<j)∧(∀i x,r≤i→xs[i]? =some x→j≤x)
 |0,lo,hi,hf,hl,hh,h1,h2=>by
  have e:lo=hi:=by omega
  subst e
  exact⟨lo,rfl,hh,h1,h2⟩
 |fuel+1,lo,hi,hf,hl,hh,h1,h2=>by
  unfold below.go
  by_cases eQ:lo<hi
  ·rw[if_pos eQ]
   have hm:(lo+hi) / 2<xs.size:=by omega
   have em:xs[(lo+hi) / 2]? =some (xs[(lo+hi) / 2]):=Array.getElem?_eq_getElem hm
   have eg:xs.getD ((lo+hi) / 2) j=xs[(lo+hi) / 2]:=by simp[Array.getD,hm]
   have ord:∀a b x y,a<b→xs[a]? =some x→xs[b]? =some y→x<y:=fun a b x y nI hx hy=>by
    have ha:a<xs.toList.length:=by have:=(Array.getElem?_eq_some_iff.mp hx).1;simpa using this
    have hb:b<xs.toList.length:=by have:=(Array.getElem?_eq_some_iff.mp hy).1;simpa using this
    have:=List.pairwise_iff_getElem.mp hr a b ha hb nI
    obtain⟨_,rfl⟩:=Array.getElem?_eq_some_iff.mp hx
    obtain⟨_,rfl⟩:=Array.getElem?_eq_some_iff.mp hy
    simpa using this
   simp only[eg]
   by_cases hc:xs[(lo+hi) / 2] <j
   ·rw[if_pos hc]
    refine qt xs j hr fuel _ _ (by omega) (by omega) hh (fun i x xr hx=>?_) h2
    by_cases e:i=(lo+hi) / 2
    ·subst e;rw[em]at hx;cases hx;exact hc
    ·exact Nat.lt_trans (ord i _ _ _ (by omega) hx em) hc
   ·rw[if_neg hc]
    refine qt xs j hr fuel _ _ (by omega) (by omega) (by omega) h1 (fun i x xr hx=>?_)
    by_cases e:i=(lo+hi) / 2
    ·subst e;rw[em]at hx;cases hx;omega
    ·have:=ord _ i _ _ (by omega) em hx;omega
  ·rw[if_neg eQ]
   have e:lo=hi:=by omega
   subst e
   exact⟨lo,rfl,hh,h1,h2⟩
theorem v7{xs:Array Nat}(hr:xs.toList.Pairwise (·< ·))(j:Nat):below xs j≤xs.size∧(∀i x,i<below xs j→xs[i]? =some x→x<j)∧(∀i x,below xs j≤i→xs[i]? =some x→j≤x):=by
 obtain⟨r,e,h⟩:=qt xs j hr xs.size 0 xs.size (by omega) (by omega) (Nat.le_refl _) (fun i x h=>by omega) (fun i x h hx=>by
  have:=(Array.getElem?_eq_some_iff.mp hx).1;omega)
 have e':below xs j=r:=e
 rw[e']
 exact h
theorem below_at{xs:Array Nat}(hr:xs.toList.Pairwise (·< ·)){i j:Nat}(h:xs[i]? =some j):below xs j=i:=by
 obtain⟨h0,h1,h2⟩:=v7 hr j
 rcases Nat.lt_trichotomy (below xs j) i with c|c|c
 ·exfalso
  have hb:below xs j<xs.size:=Nat.lt_trans c (Array.getElem?_eq_some_iff.mp h).1
  have e:=h2 _ _ (Nat.le_refl _) (Array.getElem?_eq_getElem hb)
  have:=List.pairwise_iff_getElem.mp hr (below xs j) i (by simpa using hb) (by simpa using(Array.getElem?_eq_some_iff.mp h).1) c
  obtain⟨_,e2⟩:=Array.getElem?_eq_some_iff.mp h
  simp only[Array.getElem_toList]at this
  omega
 ·exact c
 ·have:=h1 i j c h;omega
def Bu(m:Nat)(p:Probe):Probe:=if p.more > 0 then { p with j:=p.j+1,more:=p.more - 1 } else
 { p with j:=(leap m p.i p.perturb).1,more:=runEnd m (leap m p.i p.perturb).1 - (leap m p.i p.perturb).1,i:=(leap m p.i p.perturb).1,perturb:=(leap m p.i p.perturb).2 }
def ru(m i pe:Nat):Probe:={ j:=i,more:=runEnd m i - i,i:=i,perturb:=pe,dummy:=none }
def pt(m:Nat)(h:Int):Nat→Probe
 |0=>ru m (bits h % (m+1)) (bits h)
 |n+1=>Bu m (pt m h n)
def rn(m:Nat)(h:Int):Nat→Nat×Nat
 |0=>(bits h % (m+1),bits h)
 |k+1=>leap m (rn m h k).1 (rn m h k).2
theorem iI(m i:Nat):i≤runEnd m i∧runEnd m i - i≤9∧(i≤m→runEnd m i≤m):=by
 unfold runEnd
 split<;>omega
theorem xx(m:Nat)(h:Int)(n i pe:Nat)(e:pt m h n=ru m i pe):∀r,r≤runEnd m i - i→pt m h (n+r)= { ru m i pe with j:=i+r,more:=runEnd m i - i - r }
 |0,_=>by simpa[ru]using e
 |r+1,hr=>by
  have ih:=xx m h n i pe e r (by omega)
  show Bu m (pt m h (n+r))=_
  rw[ih]
  unfold Bu
  rw[if_pos (show runEnd m i - i - r > 0 by omega)]
  simp only[ru,Probe.mk.injEq,and_true,true_and]
  omega
theorem D6(m:Nat)(h:Int)(n i pe:Nat)(e:pt m h n=ru m i pe):pt m h (n+(runEnd m i - i)+1)=ru m (leap m i pe).1 (leap m i pe).2:=by
 have:=xx m h n i pe e (runEnd m i - i) (Nat.le_refl _)
 show Bu m (pt m h (n+(runEnd m i - i)))=_
 rw[this]
 unfold Bu
 rw[if_neg (by simp)]
 rfl
def nr(m:Nat)(h:Int):Nat→Nat
 |0=>0
 |k+1=>nr m h k+(runEnd m (rn m h k).1 - (rn m h k).1)+1
theorem xy(m:Nat)(h:Int):∀k,pt m h (nr m h k)=ru m (rn m h k).1 (rn m h k).2
 |0=>rfl
 |k+1=>D6 m h _ _ _ (xy m h k)
theorem GV(m:Nat)(h:Int):∀k,nr m h k≤10*k
 |0=>by simp[nr]
 |k+1=>by have:=(iI m (rn m h k).1).2.1;have:=GV m h k;simp only[nr];omega
theorem GW(m:Nat)(h:Int):∀{a b:Nat},a<b→nr m h a<nr m h b
 |a,b+1,nI=>by
  rcases Nat.lt_or_eq_of_le (Nat.le_of_lt_succ nI)with c|c
  ·have:=GW m h c;simp only[nr];omega
  ·subst c;simp only[nr];omega
theorem GX(m:Nat)(h:Int):∀k,(rn m h k).2=bits h / 32 ^ k
 |0=>by simp[rn]
 |k+1=>by
  show(rn m h k).2 / 32=_
  rw[GX m h k,Nat.div_div_eq_div_mul,Nat.pow_succ]
theorem GY(h:Int):bits h<2 ^ 64:=by unfold bits;omega
theorem GZ(m:Nat)(h:Int)(k:Nat)(hk: 13≤k):(rn m h k).2=0:=by
 rw[GX]
 refine Nat.div_eq_of_lt (Nat.lt_of_lt_of_le (GY h) ?_)
 calc 2 ^ 64≤32 ^ 13:=by decide
  _≤32 ^ k:=Nat.pow_le_pow_right (by decide) hk
def lc(m i:Nat):Nat:=(i*5+1) % (m+1)
def lcs(m:Nat):Nat→Nat→Nat
 |0,i=>i
 |k+1,i=>lc m (lcs m k i)
theorem zy(m:Nat)(h:Int):∀k,(rn m h (13+k)).1=lcs m k (rn m h 13).1
 |0=>rfl
 |k+1=>by
  show(leap m (rn m h (13+k)).1 (rn m h (13+k)).2).1=_
  rw[GZ m h (13+k) (by omega)]
  unfold leap
  simp only[Nat.zero_div,Nat.add_zero]
  rw[zy m h k]
  rfl
theorem G0(m:Nat)(h:Int):∀k,(rn m h k).1≤m
 |0=>Nat.le_of_lt_succ (Nat.mod_lt (bits h) (Nat.succ_pos m))
 |k+1=>Nat.le_of_lt_succ (Nat.mod_lt ((rn m h k).1*5+1+(rn m h k).2 / 32) (Nat.succ_pos m))
def Full(m:Nat):Prop:=∀i j,i≤m→j≤m→∃k,k≤m∧lcs m k i=j
def Bv(m:Nat):Nat→Nat→List Nat
 |0,_=>[]
 |k+1,i=>i::Bv m k (lc m i)
theorem v8(m:Nat):∀k i,lcs m (k+1) i=lcs m k (lc m i)
 |0,i=>rfl
 |k+1,i=>by
  show lc m (lcs m (k+1) i)=lc m (lcs m k (lc m i))
  rw[v8 m k i]
theorem zF(m:Nat):∀n i k,k<n→(Bv m n i)[k]? =some (lcs m k i)
 |0,_,_,h=>by omega
 |n+1,i,0,_=>rfl
 |n+1,i,k+1,h=>by
  show(Bv m n (lc m i))[k]? =_
  rw[zF m n _ k (by omega),v8]
theorem zG(m:Nat):∀n i,(Bv m n i).length=n
 |0,_=>rfl
 |n+1,i=>by simp[Bv,zG m n]
theorem pj(m:Nat):∀a b i,lcs m (a+b) i=lcs m a (lcs m b i)
 |0,b,i=>by simp[lcs]
 |a+1,b,i=>by
  rw[Nat.add_right_comm]
  show lc m (lcs m (a+b) i)=lc m (lcs m a (lcs m b i))
  rw[pj m a b i]
theorem um{m:Nat}(h1:(List.range (m+1)).all (fun j=>(Bv m (m+1) 0).contains j)=true)(h2:lcs m (m+1) 0=0):Full m:=by
 have ex:∀j,j≤m→∃k,k≤m∧lcs m k 0=j:=fun j hj=>by
  have:=List.all_eq_true.mp h1 j (List.mem_range.mpr (by omega))
  have hm:j∈Bv m (m+1) 0:=by simpa using this
  obtain⟨k,hk⟩:=List.getElem?_of_mem hm
  have TN:k<m+1:=by
   have:=(List.getElem?_eq_some_iff.mp hk).1
   rwa[zG]at this
  rw[zF m _ _ k TN]at hk
  exact⟨k,by omega,by injection hk⟩
 intro i j hi hj
 obtain⟨a,ha,rfl⟩:=ex i hi
 obtain⟨b,hb,rfl⟩:=ex j hj
 by_cases c:a≤b
 ·exact⟨b - a,by omega,by rw[←pj];congr 1;omega⟩
 ·refine⟨b+(m+1) - a,by omega,?_⟩
  rw[←pj,show b+(m+1) - a+a=b+(m+1)by omega,pj,h2]
theorem NG:Full 7:=um (by decide +kernel) (by decide +kernel)
theorem Kn:Full 31:=um (by decide +kernel) (by decide +kernel)
theorem G3:Full 127:=um (by decide +kernel) (by decide +kernel)
theorem Cv{m:Nat}(F:Full m)(h:Int){j:Nat}(hj:j≤m):∃k,k<m+14∧(rn m h k).1=j:=by
 obtain⟨k,hk,e⟩:=F (rn m h 13).1 j (G0 m h 13) hj
 exact⟨13+k,by omega,by rw[zy,e]⟩
theorem Bw{m:Nat}(F:Full m)(h:Int){j:Nat}(hj:j≤m):∃n,n<10*(m+14)∧(pt m h n).j=j:=by
 obtain⟨k,hk,e⟩:=Cv F h hj
 exact⟨nr m h k,by have:=GV m h k;omega,by rw[xy,e];rfl⟩
theorem oe(m:Nat)(h:Int):∀n,(pt m h n).j≤m∧(pt m h n).j+(pt m h n).more=runEnd m (pt m h n).i∧(pt m h n).i≤m∧(pt m h n).dummy=none
 |0=>by
  have h1:=G0 m h 0
  have h2:=iI m (rn m h 0).1
  refine⟨h1,?_,h1,rfl⟩
  show(rn m h 0).1+(runEnd m (rn m h 0).1 - (rn m h 0).1)=runEnd m (rn m h 0).1
  omega
 |n+1=>by
  obtain⟨h1,h2,h3,h4⟩:=oe m h n
  have e:pt m h (n+1)=Bu m (pt m h n):=rfl
  rw[e]
  unfold Bu
  have h5:=iI m (pt m h n).i
  split
  ·dsimp only
   exact⟨by omega,by omega,h3,h4⟩
  ·dsimp only
   have h6:(leap m (pt m h n).i (pt m h n).perturb).1≤m:=Nat.le_of_lt_succ (Nat.mod_lt _ (Nat.succ_pos m))
   have h7:=iI m (leap m (pt m h n).i (pt m h n).perturb).1
   exact⟨h6,by omega,h6,h4⟩
end SetTable
end PySem
namespace PySem
namespace SetTable
theorem least{p:Nat→Prop}:∀n,p n→∃m,m≤n∧p m∧∀k<m,¬p k:=by
 intro n
 induction n using Nat.strongRecOn with
 |_ n ih=>
  intro h
  by_cases c:∃k,k<n∧p k
  ·obtain⟨k,hk,pk⟩:=c
   obtain⟨m,h1,h2,h3⟩:=ih k hk pk
   exact⟨m,by omega,h2,h3⟩
  ·exact⟨n,Nat.le_refl _,h,fun k hk pk=>c ⟨k,hk,pk⟩⟩
theorem Bx{l:List Nat}{m:Nat}(hl:l.length≤m):∃j,j≤m∧j∉l:=by
 refine Classical.byContradiction fun c=>?_
 have hs:List.range (m+1) ⊆ l:=fun j hj=>Classical.byContradiction fun h=>c ⟨j,by have:=List.mem_range.mp hj;omega,h⟩
 have:=(List.nodup_range (n:=m+1)).length_le_of_subset hs
 rw[List.length_range]at this
 omega
structure qu(t:SetTable)(hs:List Int):Prop where
 G4:t.dummies= #[]
 len:t.place.size=hs.length
 uo:t.place.toList.Pairwise (·< ·)
 le:∀j∈t.place.toList,j≤t.mask
 Q4:Full t.mask
 odd:t.mask % 2=1
 room:hs.length≤t.mask
 way:∀q∈t.place.toList.zip hs,∃n,(pt t.mask q.2 n).j=q.1∧∀k<n,(pt t.mask q.2 k).j∈t.place.toList
theorem uq{t:SetTable}(hr:t.place.toList.Pairwise (·< ·)){i j:Nat}(h:t.place[i]? =some j):t.slot j= .live i:=by
 unfold slot
 simp only[below_at hr h,h,beq_self_eq_true,if_true]
theorem zH{t:SetTable}(hd:t.dummies= #[]){j:Nat}(h:j∉t.place.toList):t.slot j= .empty:=by
 unfold slot
 have h1:(t.place[below t.place j]?==some j)=false:=by
  refine Bool.eq_false_iff.mpr fun e=>h ?_
  have:=eq_of_beq e
  rw[←Array.getElem?_toList]at this
  exact List.mem_of_getElem? this
 simp[h1,hd,has]
theorem qu.first{t:SetTable}{hs:List Int}(T:qu t hs)(h:Int):∃N,N<10*(t.mask+14)∧(pt t.mask h N).j∉t.place.toList∧∀k<N,(pt t.mask h k).j∈t.place.toList:=by
 obtain⟨j,hj,hn⟩:=Bx (l:=t.place.toList) (m:=t.mask) (by rw[Array.length_toList,T.len];exact T.room)
 obtain⟨n,Wd,MQ⟩:=Bw T.Q4 h hj
 obtain⟨N,h1,h2,h3⟩:=least (p:=fun n=>(pt t.mask h n).j∉t.place.toList) n (by rw[MQ];exact hn)
 exact⟨N,by omega,h2,fun k hk=>Classical.byContradiction fun c=>h3 k hk c⟩
theorem fits_of{t:SetTable}{hs:List Int}(T:qu t hs):t.fits hs.length=true:=by
 unfold fits fill
 rw[T.G4,T.len]
 simp[T.room]
theorem lr{α β:Type}(a:α)(b:β):∀(p:Nat) (xs:List α) (ys:List β),xs.length=ys.length→(xs.take p++a::xs.drop p).zip (ys.take p++b::ys.drop p)=(xs.zip ys).take p++(a,b)::(xs.zip ys).drop p
 |0,xs,ys,_=>by simp
 |p+1,[],[],_=>by simp
 |p+1,[],_::_,h=>by simp at h
 |p+1,_::_,[],h=>by simp at h
 |p+1,x::xs,y::ys,h=>by simp[lr a b p xs ys (by simpa using h)]
theorem qu.put{t:SetTable}{hs:List Int}(T:qu t hs){h:Int}{N:Nat}(hN:(pt t.mask h N).j∉t.place.toList)(hb:∀k<N,(pt t.mask h k).j∈t.place.toList)(NH:hs.length+1≤t.mask):
  qu (t.put (pt t.mask h N).j).1 (hs.take (below t.place (pt t.mask h N).j)++h::hs.drop (below t.place (pt t.mask h N).j)):=by
 generalize hj:(pt t.mask h N).j=j at*
 obtain⟨b0,b1,b2⟩:=v7 T.uo j
 have ep:(t.put j).1.place.toList=t.place.toList.take (below t.place j)++j::t.place.toList.drop (below t.place j):=by
  unfold SetTable.put
  exact toList_insertAt ..
 have em:(t.put j).1.mask=t.mask:=rfl
 have ed:(t.put j).1.dummies= #[]:=by
  unfold SetTable.put
  simp[T.G4,has]
 have el:(t.put j).1.place.size=hs.length+1:=by
  rw[←Array.length_toList,ep]
  have:=T.len
  simp only[List.length_append,List.length_take,List.length_cons,List.length_drop,Array.length_toList]
  omega
 have ua:∀x,x∈t.place.toList→x∈(t.put j).1.place.toList:=fun x hx=>by
  rw[ep]
  rw[←List.take_append_drop (below t.place j) t.place.toList]at hx
  rcases List.mem_append.mp hx with h|h
  ·exact List.mem_append_left _ h
  ·exact List.mem_append_right _ (List.mem_cons_of_mem _ h)
 have sub:∀x,x∈(t.put j).1.place.toList→x=j∨x∈t.place.toList:=fun x hx=>by
  rw[ep]at hx
  rcases List.mem_append.mp hx with h|h
  ·exact .inr (List.mem_of_mem_take h)
  ·rcases List.mem_cons.mp h with h|h
   ·exact .inl h
   ·exact .inr (List.mem_of_mem_drop h)
 have LX:∀x∈t.place.toList.take (below t.place j),x<j:=fun x hx=>by
  obtain⟨i,hi⟩:=List.getElem?_of_mem hx
  rw[List.getElem?_take]at hi
  split at hi
  ·exact b1 i x (by assumption) (by rw[←Array.getElem?_toList];exact hi)
  ·cases hi
 have G5:∀x∈t.place.toList.drop (below t.place j),j<x:=fun x hx=>by
  obtain⟨i,hi⟩:=List.getElem?_of_mem hx
  rw[List.getElem?_drop]at hi
  have:=b2 _ x (Nat.le_add_right _ i) (by rw[←Array.getElem?_toList];exact hi)
  have gH:x≠j:=fun e=>hN (by rw[←e];exact List.mem_of_getElem? hi)
  omega
 refine⟨ed,?_,?_,?_,T.Q4,T.odd,?_,?_⟩
 ·rw[el]
  simp only[List.length_append,List.length_take,List.length_cons,List.length_drop]
  omega
 ·rw[ep,List.pairwise_append]
  refine⟨T.uo.sublist (List.take_sublist ..),?_,fun x hx y hy=>?_⟩
  ·rw[List.pairwise_cons]
   exact⟨G5,T.uo.sublist (List.drop_sublist ..)⟩
  ·rcases List.mem_cons.mp hy with rfl|hy
   ·exact LX x hx
   ·exact Nat.lt_trans (LX x hx) (G5 y hy)
 ·intro x hx
  rcases sub x hx with rfl|hx
  ·rw[em,←hj];exact(oe t.mask h N).1
  ·exact T.le x hx
 ·show _≤t.mask
  simp only[List.length_append,List.length_take,List.length_cons,List.length_drop]
  omega
 ·intro q hq
  rw[ep,lr j h _ _ _ (by rw[Array.length_toList,T.len])]at hq
  rw[em]
  have old:q∈t.place.toList.zip hs→∃n,(pt t.mask q.2 n).j=q.1∧∀k<n,(pt t.mask q.2 k).j∈(t.put j).1.place.toList:=fun hq=>by
   obtain⟨n,h1,h2⟩:=T.way q hq
   exact⟨n,h1,fun k hk=>ua _ (h2 k hk)⟩
  rcases List.mem_append.mp hq with hq|hq
  ·exact old (List.mem_of_mem_take hq)
  ·rcases List.mem_cons.mp hq with rfl|hq
   ·exact⟨N,hj,fun k hk=>ua _ (hb k hk)⟩
   ·exact old (List.mem_of_mem_drop hq)
theorem qu.v9{t:SetTable}{hs:List Int}(T:qu t hs)(at':Nat→Int)(h:Int){N:Nat}(hN:(pt t.mask h N).j∉t.place.toList)(hb:∀k<N,(pt t.mask h k).j∈t.place.toList):
  ∀(fuel a:Nat),a≤N→N - a<fuel→∃b,a≤b∧b≤N∧(∀k,a≤k→k<b→∃i,t.place[i]? =some (pt t.mask h k).j∧at' i≠h)∧
   ((b=N∧probe.go t at' h fuel (pt t.mask h a)=some (.empty (pt t.mask h N).j none))∨
    (b<N∧∃i,t.place[i]? =some (pt t.mask h b).j∧at' i=h∧probe.go t at' h fuel (pt t.mask h a)=some (.candidate (pt t.mask h b).j i (pt t.mask h (b+1)))))
 |0,a,_,hf=>by omega
 |fuel+1,a,ha,hf=>by
  rcases Nat.lt_or_eq_of_le ha with c|c
  ·obtain⟨i,hi⟩:=List.getElem?_of_mem (hb a c)
   rw[Array.getElem?_toList]at hi
   have es:=uq T.uo hi
   by_cases e:at' i=h
   ·refine⟨a,Nat.le_refl _,ha,fun k h1 h2=>by omega,.inr ⟨c,i,hi,e,?_⟩⟩
    unfold probe.go
    rw[es]
    simp only[e,beq_self_eq_true,if_true]
    rfl
   ·obtain⟨b,h1,h2,h3,h4⟩:=T.v9 at' h hN hb fuel (a+1) (by omega) (by omega)
    have eg:probe.go t at' h (fuel+1) (pt t.mask h a)=probe.go t at' h fuel (pt t.mask h (a+1)):=by
     conv=>lhs;unfold probe.go
     rw[es]
     have:(at' i==h)=false:=by simpa using e
     simp only[this,Bool.false_eq_true,if_false]
     rfl
    rw[eg]
    refine⟨b,by omega,h2,fun k g1 g2=>?_,h4⟩
    rcases Nat.lt_or_eq_of_le g1 with g|g
    ·exact h3 k g g2
    ·subst g;exact⟨i,hi,e⟩
  ·subst c
   refine⟨a,Nat.le_refl _,Nat.le_refl _,fun k h1 h2=>by omega,.inl ⟨rfl,?_⟩⟩
   unfold probe.go
   rw[zH T.G4 hN]
   simp only[(oe t.mask h a).2.2.2]
end SetTable
end PySem
namespace PySem
namespace SetTable
def mJ(ow:Array (Option Nat))(j:Nat):Prop:=(ow.getD j (some 0)).isNone=false
structure qw(m:Nat)(ow:Array (Option Nat))(hs:List Int):Prop where
 size:ow.size=m+1
 val:∀j k:Nat,ow[j]? =some (some k)→∃h,hs[k]? =some h∧∃n,(pt m h n).j=j∧∀i<n,mJ ow (pt m h i).j
 ex:∀k,k<hs.length→∃j:Nat,ow[j]? =some (some k)
 inj:∀j j' k:Nat,ow[j]? =some (some k)→ow[j']? =some (some k)→j=j'
theorem lx{ow:Array (Option Nat)}{j:Nat}(hj:j<ow.size):mJ ow j↔∃k,ow[j]? =some (some k):=by
 unfold mJ
 have e:ow[j]? =some ow[j]:=Array.getElem?_eq_getElem hj
 have e2:ow.getD j (some 0)=ow[j]:=by simp[Array.getD,hj]
 rw[e2,e]
 cases ow[j]<;>simp
theorem G6{ow:Array (Option Nat)}{j:Nat}(hj:j<ow.size)(h:¬mJ ow j):ow[j]? =some none:=by
 have e:ow[j]? =some ow[j]:=Array.getElem?_eq_getElem hj
 cases h':ow[j] with
 |none=>rw[e,h']
 |some k=>exact absurd ((lx hj).mpr ⟨k,by rw[e,h']⟩) h
theorem qw.free{m:Nat}{ow:Array (Option Nat)}{hs:List Int}(O:qw m ow hs)(hr:hs.length≤m):∃j,j≤m∧¬mJ ow j:=by
 refine Classical.byContradiction fun c=>?_
 have all:∀j,j≤m→∃k,ow[j]? =some (some k):=fun j hj=>(lx (by rw[O.size];omega)).mp (Classical.byContradiction fun h=>c ⟨j,hj,h⟩)
 let f:Nat→Nat:=fun j=>(ow.getD j none).getD 0
 have fv:∀j k:Nat,ow[j]? =some (some k)→f j=k:=fun j k h=>by
  obtain⟨hj,e⟩:=Array.getElem?_eq_some_iff.mp h
  simp[f,Array.getD,hj,e]
 have nd:((List.range (m+1)).map f).Nodup:=by
  rw[List.nodup_iff_pairwise_ne,List.pairwise_map]
  refine(List.nodup_iff_pairwise_ne.mp (List.nodup_range (n:=m+1))).imp_of_mem fun {a b} ha hb nI e=>nI ?_
  obtain⟨k,hk⟩:=all a (by have:=List.mem_range.mp ha;omega)
  obtain⟨k',lz⟩:=all b (by have:=List.mem_range.mp hb;omega)
  have e:f a=f b:=e
  rw[fv a k hk,fv b k' lz]at e
  subst e
  exact O.inj a b k hk lz
 have sb:(List.range (m+1)).map f ⊆ List.range hs.length:=fun x hx=>by
  obtain⟨j,hj,rfl⟩:=List.mem_map.mp hx
  obtain⟨k,hk⟩:=all j (by have:=List.mem_range.mp hj;omega)
  rw[fv j k hk]
  obtain⟨h,e,_⟩:=O.val j k hk
  exact List.mem_range.mpr (List.getElem?_eq_some_iff.mp e).1
 have:=nd.length_le_of_subset sb
 simp at this
 omega
theorem zI{m:Nat}(F:Full m)(h:Int){ow:Array (Option Nat)}(hz:ow.size=m+1){j0:Nat}(Ko:j0≤m)(Kq:¬mJ ow j0):
  ∀(fuel r:Nat),r+fuel=m+15→(∀k<nr m h r,mJ ow (pt m h k).j)→∃N,layClean.free m ow fuel (rn m h r).1 (rn m h r).2=some (pt m h N).j∧¬mJ ow (pt m h N).j∧∀k<N,mJ ow (pt m h k).j
 |0,r,hf,hb=>by
  exfalso
  obtain⟨k,hk,e⟩:=Cv F h Ko
  have:=hb (nr m h k) (GW m h (by omega))
  rw[xy,e]at this
  exact Kq this
 |fuel+1,r,hf,hb=>by
  have run:∀k,k≤runEnd m (rn m h r).1 - (rn m h r).1→(pt m h (nr m h r+k)).j=(rn m h r).1+k:=fun k hk=>by
   rw[xx m h _ _ _ (xy m h r) k hk]
  have hle:=iI m (rn m h r).1
  unfold layClean.free
  cases ur:(List.range (runEnd m (rn m h r).1+1 - (rn m h r).1)).find? fun k=>(ow.getD ((rn m h r).1+k) (some 0)).isNone with
  |some k=>
   have hp:=List.find?_some ur
   have hm:=List.mem_range.mp (List.mem_of_find?_eq_some ur)
   refine⟨nr m h r+k,?_,?_,fun i hi=>?_⟩
   ·simp only
    rw[run k (by omega)]
   ·rw[run k (by omega)]
    unfold mJ
    rw[hp]
    simp
   ·by_cases c:i<nr m h r
    ·exact hb i c
    ·obtain⟨d,rfl⟩:∃d,i=nr m h r+d:=⟨i - nr m h r,by omega⟩
     rw[run d (by omega)]
     rw[List.find?_range_eq_some]at ur
     have:=ur.2.2 d (by omega)
     unfold mJ
     simpa using this
  |none=>
   have ig:=List.find?_eq_none.mp ur
   refine zI F h hz Ko Kq fuel (r+1) (by omega) fun i hi=>?_
   by_cases c:i<nr m h r
   ·exact hb i c
   ·obtain⟨d,rfl⟩:∃d,i=nr m h r+d:=⟨i - nr m h r,by omega⟩
    simp only[nr]at hi
    rw[run d (by omega)]
    have:=ig d (List.mem_range.mpr (by omega))
    unfold mJ
    exact Bool.eq_false_iff.mpr this
theorem qw.step{m:Nat}{ow:Array (Option Nat)}{hs:List Int}(O:qw m ow hs){h:Int}{N:Nat}(hn:¬mJ ow (pt m h N).j)(hb:∀k<N,mJ ow (pt m h k).j):
  qw m (ow.setIfInBounds (pt m h N).j (some hs.length)) (hs++[h]):=by
 have hj:(pt m h N).j<ow.size:=by rw[O.size];have:=(oe m h N).1;omega
 have Dj:=G6 hj hn
 have get:∀i:Nat,(ow.setIfInBounds (pt m h N).j (some hs.length))[i]? =if (pt m h N).j=i then some (some hs.length)else ow[i]? :=fun i=>by
  rw[Array.getElem?_setIfInBounds]
  split
  ·rename_i e;subst e;first|rw[if_pos hj]|rfl
  ·rfl
 have sz:(ow.setIfInBounds (pt m h N).j (some hs.length)).size=m+1:=by rw[Array.size_setIfInBounds,O.size]
 have Q5:∀i,i≤m→mJ ow i→mJ (ow.setIfInBounds (pt m h N).j (some hs.length)) i:=fun i hi h'=>by
  refine(lx (by rw[sz];omega)).mpr ?_
  obtain⟨k,hk⟩:=(lx (by rw[O.size];omega)).mp h'
  rw[get]
  split
  ·exact⟨_,rfl⟩
  ·exact⟨k,hk⟩
 refine⟨sz,fun j k hk=>?_,fun k hk=>?_,fun j j' k hk lz=>?_⟩
 ·rw[get]at hk
  split at hk
  ·rename_i e
   injection hk with hk;injection hk with hk
   subst hk
   exact⟨h,by simp,N,e,fun i hi=>Q5 _ (oe m h i).1 (hb i hi)⟩
  ·obtain⟨h',e,n,e1,e2⟩:=O.val j k hk
   refine⟨h',?_,n,e1,fun i hi=>Q5 _ (oe m h' i).1 (e2 i hi)⟩
   rw[List.getElem?_append_left (List.getElem?_eq_some_iff.mp e).1]
   exact e
 ·rw[List.length_append,List.length_singleton]at hk
  by_cases c:k=hs.length
  ·subst c
   exact⟨(pt m h N).j,by rw[get,if_pos rfl]⟩
  ·obtain⟨j,NI⟩:=O.ex k (by omega)
   refine⟨j,?_⟩
   rw[get,if_neg]
   ·exact NI
   ·intro e;subst e;rw[Dj]at NI;cases NI
 ·rw[get]at hk lz
  have lt:∀j:Nat,ow[j]? =some (some hs.length)→False:=fun j hj=>by
   obtain⟨_,e,_⟩:=O.val j _ hj
   have:=(List.getElem?_eq_some_iff.mp e).1
   omega
  split at hk<;>split at lz
  ·omega
  ·injection hk with hk;injection hk with hk
   subst hk
   exact(lt _ lz).elim
  ·injection lz with lz;injection lz with lz
   subst lz
   exact(lt _ hk).elim
  ·exact O.inj j j' k hk lz
theorem v_{m:Nat}(F:Full m):∀(rest:List Int) (hs:List Int) (ow:Array (Option Nat)),qw m ow hs→hs.length+rest.length≤m→
  ∃Kr,rest.foldl (init:=some (ow,hs.length)) (fun(acc:Option (Array (Option Nat)×Nat)) h=>do
   let (owner,k) ←acc
   let j ←layClean.free m owner (turns m) (bits h % (m+1)) (bits h)
   pure (owner.setIfInBounds j (some k),k+1))=some (Kr,hs.length+rest.length)∧qw m Kr (hs++rest)
 |[],hs,ow,O,_=>⟨ow,rfl,by simpa using O⟩
 |h::rest,hs,ow,O,hl=>by
  simp only[List.length_cons]at hl
  obtain⟨j0,Ko,Kq⟩:=O.free (by omega)
  obtain⟨N,e,hn,hb⟩:=zI F h O.size Ko Kq (turns m) 0 (by simp[turns]) (fun k hk=>by simp[nr]at hk)
  have e':layClean.free m ow (turns m) (bits h % (m+1)) (bits h)=some (pt m h N).j:=e
  rw[List.foldl_cons]
  simp only[Option.bind_eq_bind,Option.bind_some,e']
  have O':=O.step hn hb
  obtain⟨Kr,e1,O1⟩:=v_ F rest (hs++[h]) _ O' (by simp;omega)
  rw[List.length_append,List.length_singleton]at e1
  refine⟨Kr,?_,by simpa using O1⟩
  rw[List.length_cons,show hs.length+(rest.length+1)=hs.length+1+rest.length by omega,←e1]
  rfl
theorem qw.nil(m:Nat):qw m (Array.replicate (m+1) none) []:=by
 have g:∀(j k:Nat),(Array.replicate (m+1) (none:Option Nat))[j]? =some (some k)→False:=fun j k h=>by
  rw[Array.getElem?_replicate]at h
  split at h<;>simp at h
 exact⟨by simp,fun j k h=>(g j k h).elim,fun k hk=>by simp at hk,fun j j' k h=>(g j k h).elim⟩
theorem xA{m:Nat}(F:Full m)(hs:Array Int)(hl:hs.size≤m):∃ow,layClean m hs=some ow∧qw m ow hs.toList:=by
 obtain⟨ow,e,O⟩:=v_ F hs.toList [] _ (qw.nil m) (by simpa using hl)
 refine⟨ow,?_,by simpa using O⟩
 unfold layClean
 rw[←Array.foldl_toList]
 have:hs.toList.foldl (init:=some (Array.replicate (m+1) none,0)) (fun(acc:Option (Array (Option Nat)×Nat)) h=>do
   let (owner,k) ←acc
   let j ←layClean.free m owner (turns m) (bits h % (m+1)) (bits h)
   pure (owner.setIfInBounds j (some k),k+1))=some (ow,hs.toList.length):=by simpa using e
 rw[this]
 rfl
def lives(m:Nat)(ow:Array (Option Nat)):List (Nat×Nat):=(List.range (m+1)).filterMap fun j=>(ow.getD j none).map (j,·)
theorem fU{m:Nat}{ow:Array (Option Nat)}(hz:ow.size=m+1)(q:Nat×Nat):q∈lives m ow↔ow[q.1]? =some (some q.2):=by
 unfold lives
 rw[List.mem_filterMap]
 constructor
 ·rintro⟨j,hj,e⟩
  have hj:=List.mem_range.mp hj
  have e2:ow.getD j none=ow[j]:=by simp[Array.getD,hz,hj]
  rw[e2]at e
  cases h':ow[j] with
  |none=>rw[h']at e;cases e
  |some k=>
   rw[h']at e
   injection e with e
   subst e
   show ow[j]? =some (some k)
   rw[Array.getElem?_eq_getElem (by omega),h']
 ·intro e
  obtain⟨hj,e'⟩:=Array.getElem?_eq_some_iff.mp e
  refine⟨q.1,List.mem_range.mpr (by omega),?_⟩
  simp[Array.getD,hj,e']
theorem uu(m:Nat)(ow:Array (Option Nat)):((lives m ow).map (·.1)).Pairwise (·< ·):=by
 rw[List.pairwise_map]
 unfold lives
 rw[List.pairwise_filterMap]
 refine(List.pairwise_lt_range (n:=m+1)).imp fun {a b} nI x hx y hy=>?_
 cases h1:ow.getD a none with
 |none=>rw[h1]at hx;cases hx
 |some k=>
  cases h2:ow.getD b none with
  |none=>rw[h2]at hy;cases hy
  |some k'=>
   rw[h1]at hx;rw[h2]at hy
   cases hx;cases hy
   exact nI
theorem qw.perm{m:Nat}{ow:Array (Option Nat)}{hs:List Int}(O:qw m ow hs):((lives m ow).map (·.2)).Perm (List.range hs.length):=by
 have nd:((lives m ow).map (·.2)).Nodup:=by
  rw[List.nodup_iff_pairwise_ne,List.pairwise_map]
  have h1:=uu m ow
  rw[List.pairwise_map]at h1
  refine h1.imp_of_mem fun {a b} ha hb nI e=>?_
  have ha:=(fU O.size a).mp ha
  have hb:=(fU O.size b).mp hb
  rw[e]at ha
  have:=O.inj _ _ _ ha hb
  omega
 refine(List.perm_ext_iff_of_nodup nd (List.nodup_range)).mpr fun k=>?_
 rw[List.mem_map,List.mem_range]
 constructor
 ·rintro⟨q,hq,rfl⟩
  obtain⟨h,e,_⟩:=O.val _ _ ((fU O.size q).mp hq)
  exact(List.getElem?_eq_some_iff.mp e).1
 ·intro hk
  obtain⟨j,hj⟩:=O.ex k hk
  exact⟨(j,k),(fU O.size (j,k)).mpr hj,rfl⟩
theorem lA{β:Type}(es:Array β):∀(l:List (Nat×Nat)),(∀q∈l,q.2<es.size)→∃ys:List β,(l.map (·.2)).filterMap (fun i=>es[i]?)=ys∧ys.length=l.length∧∀p∈(l.map (·.1)).zip ys,∃q∈l,q.1=p.1∧es[q.2]? =some p.2
 |[],_=>⟨[],rfl,rfl,fun p hp=>by simp at hp⟩
 |q::l,h=>by
  obtain⟨ys,e,h1,h2⟩:=lA es l fun q hq=>h q (List.mem_cons_of_mem _ hq)
  have hq:q.2<es.size:=h q List.mem_cons_self
  have eq:es[q.2]? =some es[q.2]:=Array.getElem?_eq_getElem hq
  refine⟨es[q.2]::ys,?_,by simp[h1],fun p hp=>?_⟩
  ·rw[List.map_cons,List.filterMap_cons_some eq,e]
  ·rw[List.map_cons,List.zip_cons_cons]at hp
   rcases List.mem_cons.mp hp with rfl|hp
   ·exact⟨q,List.mem_cons_self,rfl,eq⟩
   ·obtain⟨q',h3,h4⟩:=h2 p hp
    exact⟨q',List.mem_cons_of_mem _ h3,h4⟩
theorem By{β:Type}(t:SetTable)(es:Array (Int×β))(wanted:Nat){m:Nat}(hm:sizeAbove wanted - 1=m)(F:Full m)(G7:m % 2=1)(hl:es.size≤m):
  ∃t' order,t.relaid (es.map (·.1)) wanted=some (t',order)∧t'.mask=m∧t'.led=t.led∧t'.plain=t.plain∧(order.filterMap (es[·]?)).toList.Perm es.toList∧qu t' ((order.filterMap (es[·]?)).toList.map (·.1)):=by
 obtain⟨ow,e,O⟩:=xA F (es.map (·.1)) (by simpa using hl)
 have rY:=O.perm
 have hlen:((es.map (·.1)).toList).length=es.size:=by simp
 rw[hlen]at rY
 have eQ:∀q∈lives m ow,q.2<es.size:=fun q hq=>by
  have:=rY.mem_iff.mp (List.mem_map_of_mem hq)
  exact List.mem_range.mp this
 obtain⟨ys,ey,ly,hy⟩:=lA es (lives m ow) eQ
 have el:(lives m ow).length=es.size:=by
  have:=rY.length_eq
  simpa using this
 refine⟨{ mask:=m,place:=((lives m ow).map (·.1)).toArray,dummies:=#[],finger:=t.finger,led:=t.led,moves:=t.movedTo m,plain:=t.plain },((lives m ow).map (·.2)).toArray,?_,rfl,rfl,rfl,?_,?_⟩
 ·unfold relaid laid
  rw[hm,e]
  rfl
 ·rw[Array.toList_filterMap]
  refine(rY.filterMap _).trans ?_
  rw[filterMap_getElem?_range]
 ·rw[Array.toList_filterMap]
  show qu _ (List.map _ (List.filterMap _ ((lives m ow).map (·.2))))
  rw[ey]
  refine⟨rfl,by simp[ly],by simpa using uu m ow,fun j hj=>?_,F,G7,by simp only[List.length_map];omega,fun q hq=>?_⟩
  ·have hj:j∈(lives m ow).map (·.1):=by simpa using hj
   obtain⟨q,hq,rfl⟩:=List.mem_map.mp hj
   have:=(Array.getElem?_eq_some_iff.mp ((fU O.size q).mp hq)).1
   have:=O.size
   show q.1≤m
   omega
  ·have hq:q∈((lives m ow).map (·.1)).zip (ys.map (·.1)):=by simpa using hq
   rw[List.zip_map_right]at hq
   obtain⟨p,hp,rfl⟩:=List.mem_map.mp hq
   obtain⟨q',xB,e1,e2⟩:=hy p hp
   have h1:=(fU O.size q').mp xB
   obtain⟨h,eh,n,en,hb⟩:=O.val _ _ h1
   have e3:h=p.2.1:=by
    simp only[Array.toList_map,List.getElem?_map,Array.getElem?_toList,e2]at eh
    simpa using eh.symm
   subst e3
   refine⟨n,by show _=p.1;rw[←e1];exact en,fun k hk=>?_⟩
   obtain⟨kk,TR⟩:=(lx (by rw[O.size];have:=(oe m p.2.1 k).1;omega)).mp (hb k hk)
   show _∈(List.map _ (lives m ow)).toArray.toList
   rw[List.toList_toArray]
   exact List.mem_map.mpr ⟨(_,kk),(fU O.size (_,kk)).mpr TR,rfl⟩
end SetTable
end PySem
namespace PySem
open Sem (wp)
namespace SetTable
section
variable{prog:Program}{w:World}{A:Around}{E:Value→Shared→Prop}{s:Shared}
abbrev IsT(prog:Program)(w:World)(h:Heap)(k:List Int)(a:Addr):Prop:=IsTupleKey (intKind prog w) h k a
theorem qV{k:List Int}{vs:List Value}(h:ItemsAre (intKind prog w) k vs):∀v∈vs,∃i t,v=Value.int i t:=by
 induction h with
 |nil=>intro v hv;cases hv
 |cons h1 _ ih=>
  intro v hv
  rcases List.mem_cons.mp hv with rfl|hv
  ·obtain⟨t,e⟩:=Value.isInt_shape h1
   exact⟨_,t,e⟩
  ·exact ih v hv
theorem qx{k:List Int}{a:Addr}{Q:Bool→Shared→Prop}(hk:IsT prog w s.heap k a)(h:Q true s):wpAny (model prog w) A (hashByValue 8 (.ref a)) Q E s:=by
 have ty:=hk.typeIs
 obtain⟨o,items,n,ho,_,hd,hi⟩:=hk
 unfold hashByValue
 refine wpAny_bind (wpAny_specialOf ty F.slot_tuple_hash.lookup ?_)
 show wpAny _ _ (seqItems? (.ref a) >>= _) _ _ s
 refine wpAny_bind (wpAny_seqItems ho hd ?_)
 refine wpAny_bind ?_
 show wpAny _ _ (forIn items _ _) _ _ s
 rw[←Array.forIn_toList]
 refine wpAny_forIn_list _ (fun rest r s'=>r.1=none∧s'=s∧∀v∈rest,∃i t,v=Value.int i t) _ ?_ ?_ _ _ ⟨rfl,rfl,qV hi⟩
 ·rintro v rest r s' ⟨hr,rfl,ig⟩
  obtain⟨i,t,rfl⟩:=ig v List.mem_cons_self
  rw[show hashByValue 7 (Value.int i t)=pure true from by simp[hashByValue]]
  refine wpAny_bind (wpAny_pure ?_)
  simp only[Bool.not_true,Bool.false_eq_true,if_false]
  exact wpAny_pure ⟨rfl,rfl,fun u wM=>ig u (List.mem_cons_of_mem _ wM)⟩
 ·rintro⟨r1,r2⟩ s' ⟨hr,rfl,_⟩
  simp only at hr
  subst hr
  exact wpAny_pure h
theorem mU{k:List Int}{a:Addr}{Q:Bool→Shared→Prop}(hk:IsT prog w s.heap k a)(h:Q false s):wpAny (model prog w) A (ofAClassStatement 8 (.ref a)) Q E s:=by
 have ty:=hk.typeIs
 obtain⟨o,items,n,ho,_,hd,hi⟩:=hk
 unfold ofAClassStatement
 refine wpAny_bind (wpAny_typeOf ty ?_)
 simp only[beq_self_eq_true,if_true]
 refine wpAny_bind (wpAny_pure ?_)
 simp only[Bool.not_true,Bool.false_eq_true,if_false]
 refine wpAny_bind (wpAny_seqItems ho hd ?_)
 show wpAny _ _ (forIn items _ _ >>= _) _ _ s
 refine wpAny_bind ?_
 rw[←Array.forIn_toList]
 refine wpAny_forIn_list _ (fun rest r s'=>r.1=none∧s'=s∧∀v∈rest,∃i t,v=Value.int i t) _ ?_ ?_ _ _ ⟨rfl,rfl,qV hi⟩
 ·rintro v rest r s' ⟨hr,rfl,ig⟩
  obtain⟨i,t,rfl⟩:=ig v List.mem_cons_self
  rw[show ofAClassStatement 7 (Value.int i t)=pure false from by simp[ofAClassStatement]]
  refine wpAny_bind (wpAny_pure ?_)
  simp only[Bool.false_eq_true,if_false]
  exact wpAny_pure ⟨rfl,rfl,fun u wM=>ig u (List.mem_cons_of_mem _ wM)⟩
 ·rintro⟨r1,r2⟩ s' ⟨hr,rfl,_⟩
  simp only at hr
  subst hr
  exact wpAny_pure h
theorem D7{k:List Int}{a:Addr}{vs:List Value}{Q:Bool→Shared→Prop}(hk:IsT prog w s.heap k a)(hv:∀v∈vs,∃k' b,v= .ref b∧IsT prog w s.heap k' b)(h:Q false s):wpAny (model prog w) A (searchCouldBeSeen (.ref a) vs) Q E s:=by
 unfold searchCouldBeSeen
 refine wpAny_bind ?_
 refine wpAny_forIn_list _ (fun rest r s'=>r.1=none∧s'=s∧∀v∈rest,∃k' b,v= .ref b∧IsT prog w s.heap k' b) _ ?_ ?_ _ _ ⟨rfl,rfl,hv⟩
 ·rintro v rest r s' ⟨hr,rfl,ig⟩
  obtain⟨k',b,rfl,hb⟩:=ig v List.mem_cons_self
  simp only
  split
  ·exact wpAny_pure ⟨rfl,rfl,fun u wM=>ig u (List.mem_cons_of_mem _ wM)⟩
  ·refine wpAny_bind (wpAny_eqIsQuiet_tuple hk ?_)
   simp only[Bool.not_true,Bool.false_eq_true,if_false]
   refine wpAny_bind (wpAny_eqIsQuiet_tuple hb ?_)
   simp only[Bool.not_true,Bool.false_eq_true,if_false]
   refine wpAny_bind (mU hk ?_)
   simp only[Bool.false_eq_true,if_false]
   refine wpAny_bind (mU hb ?_)
   simp only[Bool.false_eq_true,if_false]
   exact wpAny_pure ⟨rfl,rfl,fun u wM=>ig u (List.mem_cons_of_mem _ wM)⟩
 ·rintro⟨r1,r2⟩ s' ⟨hr,rfl,_⟩
  simp only at hr
  subst hr
  exact wpAny_pure h
end
end SetTable
end PySem
namespace PySem
open Sem (wp)
namespace SetTable
section
variable{prog:Program}{w:World}{A:Around}{E:Value→Shared→Prop}{s:Shared}
def iJ(prog:Program)(w:World)(x:List Int×Addr):Int×Value:=(tupleKeyHash (intKind prog w) x.1,.ref x.2)
theorem xC{xs:List (List Int×Addr)}{es:Array (Int×Value)}(he:es.toList=xs.map (iJ prog w))(hk:∀x∈xs,IsT prog w s.heap x.1 x.2)(h:Int):
  ∀v∈(es.filter (·.1==h)).toList.map (·.2),∃k' b,v= .ref b∧IsT prog w s.heap k' b:=by
 intro v hv
 obtain⟨e,Kb,rfl⟩:=List.mem_map.mp hv
 rw[Array.toList_filter]at Kb
 have:=(List.mem_filter.mp Kb).1
 rw[he]at this
 obtain⟨x,hx,rfl⟩:=List.mem_map.mp this
 exact⟨x.1,x.2,rfl,hk x hx⟩
theorem pA{a:Addr}{o:Obj}{es:Array (Int×Value)}{ep:Nat}{t:SetTable}{xs:List (List Int×Addr)}{x:Addr}{k:List Int}{Cw:Bool}{Q:SetFound→Shared→Prop}
  (hu:A.units<cLine)(ho:s.heap.get? a=some o)(hd:o.data= .set es ep t)(he:es.toList=xs.map (iJ prog w))(hk:∀x∈xs,IsT prog w s.heap x.1 x.2)
  (T:qu t (xs.map fun x=>tupleKeyHash (intKind prog w) x.1))(hx:IsT prog w s.heap k x){N:Nat}(hN:(pt t.mask (tupleKeyHash (intKind prog w) k) N).j∉t.place.toList)
  (hb:∀i<N,(pt t.mask (tupleKeyHash (intKind prog w) k) i).j∈t.place.toList)(NJ:N<10*(t.mask+14))
  (h1:k∈xs.map (·.1)→∀r,Q (.there r) s)(h2:k∉xs.map (·.1)→Q (.free (pt t.mask (tupleKeyHash (intKind prog w) k) N).j false) s):
  ∀(fuel p:Nat) (Bz:Option Probe),p≤N→N - p<fuel→Bz.getD (t.probeStart (tupleKeyHash (intKind prog w) k))=pt t.mask (tupleKeyHash (intKind prog w) k) p→
   (∀n<p,∀(i:Nat) q,t.place[i]? =some (pt t.mask (tupleKeyHash (intKind prog w) k) n).j→xs[i]? =some q→q.1≠k)→
   wpAny (model prog w) A (setSearchFrom a (.ref x) (tupleKeyHash (intKind prog w) k) Cw fuel Bz) Q E s
 |0,p,_,_,hf,_,_=>by omega
 |fuel+1,p,Bz,hp,hf,gd,Dj=>by
  have gE:t.fits es.size=true:=by
   have:=fits_of T
   rwa[List.length_map,←List.length_map (f:=iJ prog w),←he,Array.length_toList]at this
  have gl:∀i:Nat,es[i]? =(xs[i]?).map (iJ prog w):=fun i=>by rw[←Array.getElem?_toList,he,List.getElem?_map]
  unfold setSearchFrom
  refine wpAny_bind (wpAny_setState_of ho hd gE ?_)
  dsimp only
  have TU:t.gaveWay=false:=by unfold gaveWay;rw[T.odd];rfl
  simp only[TU,Bool.false_eq_true,if_false]
  rw[gd]
  obtain⟨b,g1,g2,g3,g4⟩:=T.v9 (fun i=>(es[i]?.map (·.1)).getD 0) (tupleKeyHash (intKind prog w) k) hN hb (10*turns t.mask) p hp (by unfold turns;omega)
  have G8:∀n,p≤n→n<b→∀(i:Nat) q,t.place[i]? =some (pt t.mask (tupleKeyHash (intKind prog w) k) n).j→xs[i]? =some q→q.1≠k:=fun n n1 n2 i q e1 e2 e3=>by
   obtain⟨i',e4,e5⟩:=g3 n n1 n2
   have e6:i'=i:=by rw[←below_at T.uo e4,←below_at T.uo e1]
   subst e6
   rw[gl,e2]at e5
   exact e5 (by show tupleKeyHash (intKind prog w) q.1=_;rw[e3])
  generalize TV:t.probe _ (tupleKeyHash (intKind prog w) k) (pt t.mask (tupleKeyHash (intKind prog w) k) p)=M
  have Cy:probe.go t (fun i=>(es[i]?.map (·.1)).getD 0) (tupleKeyHash (intKind prog w) k) (10*turns t.mask) (pt t.mask (tupleKeyHash (intKind prog w) k) p)=M:=TV
  rcases g4 with⟨rfl,e⟩|⟨g5,i,e1,e2,e⟩
  ·rw[e]at Cy
   subst Cy
   dsimp only
   refine wpAny_pure (h2 fun hm=>?_)
   obtain⟨q,hq,e3⟩:=List.mem_map.mp hm
   obtain⟨i,hi⟩:=List.getElem?_of_mem hq
   have zJ:i<t.place.size:=by rw[T.len,List.length_map];exact(List.getElem?_eq_some_iff.mp hi).1
   have ej:t.place[i]? =some t.place[i]:=Array.getElem?_eq_getElem zJ
   have hz:(t.place[i],tupleKeyHash (intKind prog w) k)∈t.place.toList.zip (xs.map fun x=>tupleKeyHash (intKind prog w) x.1):=by
    refine List.mem_of_getElem? (i:=i) ?_
    rw[List.getElem?_zip_eq_some]
    exact⟨by rw[Array.getElem?_toList];exact ej,by rw[List.getElem?_map,hi];simp[e3]⟩
   obtain⟨n,n1,n2⟩:=T.way _ hz
   dsimp only at n1 n2
   have TX:n<b:=by
    rcases Nat.lt_trichotomy n b with c|c|c
    ·exact c
    ·subst c
     exact absurd (by rw[n1,←Array.getElem_toList];exact List.getElem_mem _) hN
    ·exact absurd (n2 b c) hN
   by_cases c:n<p
   ·exact Dj n c i q (by rw[n1];exact ej) hi e3
   ·exact G8 n (by omega) TX i q (by rw[n1];exact ej) hi e3
  ·rw[e]at Cy
   subst Cy
   dsimp only
   have zJ:i<xs.length:=by
    have:=(Array.getElem?_eq_some_iff.mp e1).1
    rwa[T.len,List.length_map]at this
   have Q6:xs[i]? =some xs[i]:=List.getElem?_eq_getElem zJ
   have Q7:es[i]? =some (iJ prog w xs[i]):=by rw[gl,Q6];rfl
   have TY:IsT prog w s.heap xs[i].1 xs[i].2:=hk _ (List.getElem_mem zJ)
   have NK:t.slot (pt t.mask (tupleKeyHash (intKind prog w) k) b).j= .live i:=uq T.uo e1
   have TZ:t.sameMemory t.moves t.mask=some true:=by unfold sameMemory;simp
   split
   all_goals try (refine wpAny_bind (D7 hx (xC he hk _) ?_);simp only[Bool.false_eq_true,if_false])
   all_goals
    rw[Q7]
    dsimp only[iJ]
    refine wpAny_bind (wpAny_holding (wpAny_eqBool_tuple hu TY hx ?_))
    refine wpAny_bind (wpAny_setState_of ho hd gE ?_)
    dsimp only
    rw[TZ,NK]
    simp only[if_true]
    rw[Q7]
    dsimp only[iJ]
    have NL:isSame (.ref xs[i].2) (.ref xs[i].2)=pure true:=by simp[isSame]
    rw[NL]
    by_cases c:xs[i].1=k
    ·have hm:k∈xs.map (·.1):=List.mem_map.mpr ⟨xs[i],List.getElem_mem zJ,c⟩
     rw[decide_eq_true c]
     cases Cw
     ·simp only[Bool.false_and,Bool.false_eq_true,if_false]
      refine wpAny_bind (wpAny_pure (wpAny_bind (wpAny_pure ?_)))
      simp only[if_true]
      exact wpAny_pure (h1 hm _)
     ·simp only[Bool.and_self,if_true]
      exact wpAny_pure (h1 hm _)
    ·rw[decide_eq_false c]
     simp only[Bool.and_false,Bool.false_eq_true,if_false]
     refine wpAny_bind (wpAny_pure (wpAny_bind (wpAny_pure ?_)))
     simp only[if_true]
     refine pA hu ho hd he hk T hx hN hb NJ h1 h2 fuel (b+1) _ (by omega) (by omega) rfl fun n hn i' q e3 e4=>?_
     by_cases d1:n<p
     ·exact Dj n d1 i' q e3 e4
     by_cases d2:n<b
     ·exact G8 n (by omega) d2 i' q e3 e4
     ·have d3:n=b:=by omega
      subst d3
      have e6:i'=i:=by rw[←below_at T.uo e3,←below_at T.uo e1]
      subst e6
      rw[Q6]at e4
      cases e4
      exact c
end
end SetTable
end PySem
namespace PySem
open Sem (wp)
namespace SetTable
section
variable{prog:Program}{w:World}{A:Around}{E:Value→Shared→Prop}{s:Shared}
structure G9(prog:Program)(w:World)(ld:Bool)(o:Obj)(xs:List (List Int×Addr))(es:Array (Int×Value))(ep:Nat)(t:SetTable):Prop where
 ex:o.ExactSet
 dat:o.data= .set es ep t
 ents:es.toList=xs.map (iJ prog w)
 nd:(xs.map (·.1)).Nodup
 ok:qu t (xs.map fun x=>tupleKeyHash (intKind prog w) x.1)
 qy:xs.length*5<t.mask*3
 NM:t.mask=7∨t.mask=31∨t.mask=127
 led:t.led=ld
 pl:t.plain=true
def mV(prog:Program)(w:World)(ld:Bool)(h:Heap)(a:Addr)(xs:List (List Int×Addr)):Prop:=
 ∃o es ep t,h.get? a=some o∧G9 prog w ld o xs es ep t∧∀x∈xs,IsT prog w h x.1 x.2
theorem jM{h h':Heap}{k:List Int}{b:Addr}(x:IsT prog w h k b)(e:∀o,h.get? b=some o→h'.get? b=some o):IsT prog w h' k b:=by
 obtain⟨o,its,n,ho,r⟩:=x
 exact⟨o,its,n,e o ho,r⟩
theorem Ks{h:Heap}{k:List Int}{a b:Addr}{o:Obj}(x:IsT prog w h k b)(ho:h.get? a=some o)(hex:o.ExactSet):b≠a:=by
 obtain⟨o',its,n,mE,hc,_⟩:=x
 intro e
 subst e
 rw[ho]at mE
 cases mE
 rw[hex.1]at hc
 injection hc with hc
 exact absurd hc (by decide)
theorem G9.size{ld:Bool}{o:Obj}{xs:List (List Int×Addr)}{es:Array (Int×Value)}{ep:Nat}{t:SetTable}(S:G9 prog w ld o xs es ep t):es.size=xs.length:=by
 rw[←Array.length_toList,S.ents,List.length_map]
theorem G9.fits{ld:Bool}{o:Obj}{xs:List (List Int×Addr)}{es:Array (Int×Value)}{ep:Nat}{t:SetTable}(S:G9 prog w ld o xs es ep t):t.fits es.size=true:=by
 have:=fits_of S.ok
 rwa[List.length_map,←S.size]at this
theorem zK(x:Addr)(es:Array (Int×Value)):byScan (.ref x) es=false:=by simp[byScan,Value.scannable]
theorem D8{xs:List (List Int×Addr)}{es:Array (Int×Value)}(he:es.toList=xs.map (iJ prog w))(p:Nat)(k:List Int)(x:Addr):
  (insertAt es p (tupleKeyHash (intKind prog w) k,Value.ref x)).toList=(xs.take p++(k,x)::xs.drop p).map (iJ prog w):=by
 rw[toList_insertAt,he]
 simp[iJ,List.map_take,List.map_drop]
theorem D9{α:Type}(p:Nat)(y:α)(xs:List α):(xs.take p++y::xs.drop p).Perm (y::xs):=by
 refine List.perm_middle.trans ?_
 rw[List.take_append_drop]
theorem xD:sizeAbove (grown 5) - 1=31:=by decide
theorem xE:sizeAbove (grown 19) - 1=127:=by decide
theorem BA{xs:List (List Int×Addr)}{l:List (Int×Value)}(p:l.Perm (xs.map (iJ prog w))):∃ys:List (List Int×Addr),ys.Perm xs∧l=ys.map (iJ prog w):=by
 have:∀{a b:List (Int×Value)},a.Perm b→∀xs:List (List Int×Addr),b=xs.map (iJ prog w)→∃ys:List (List Int×Addr),ys.Perm xs∧a=ys.map (iJ prog w):=by
  intro a b pp
  induction pp with
  |nil=>intro xs e;exact⟨[],by rw[List.map_eq_nil_iff.mp e.symm],rfl⟩
  |@cons x l1 l2 _ ih=>
   intro xs e
   cases xs with
   |nil=>cases e
   |cons y ys=>
    rw[List.map_cons]at e
    injection e with e1 e2
    obtain⟨zs,h1,h2⟩:=ih ys e2
    exact⟨y::zs,h1.cons y,by rw[List.map_cons,e1,h2]⟩
  |swap x y l=>
   intro xs e
   match xs,e with
   |u::v::r,e=>
    simp only[List.map_cons]at e
    injection e with e1 e2
    injection e2 with e2 e3
    exact⟨v::u::r,List.Perm.swap u v r,by simp only[List.map_cons];rw[e1,e2,e3]⟩
  |trans _ _ T4 T5=>
   intro xs e
   obtain⟨ys,h1,h2⟩:=T5 xs e
   obtain⟨zs,h3,h4⟩:=T4 ys h2
   exact⟨zs,h3.trans h1,h4⟩
 exact this p xs rfl
theorem G_{ld:Bool}{a:Addr}{xs:List (List Int×Addr)}{k:List Int}{x:Addr}{Q:Bool→Shared→Prop}(hu:A.units<cLine)(hx:IsT prog w s.heap k x)(hS:mV prog w ld s.heap a xs)(NH:xs.length+1≤76)
  (h:∀(b:Bool) h' ys,Heap.SameBut a s.heap h'→mV prog w ld h' a ys→ys.Perm (if k∈xs.map (·.1)then xs else(k,x)::xs)→Q b { s with heap:=h' }):
  wpAny (model prog w) A (setAddHashed a (.ref x) (tupleKeyHash (intKind prog w) k)) Q E s:=by
 obtain⟨o,es,ep,t,ho,S,hk⟩:=hS
 unfold setAddHashed setAddHashedIn
 refine wpAny_holding (wpAny_bind (wpAny_setState_of ho S.dat S.fits ?_))
 dsimp only
 rw[zK]
 simp only[Bool.false_eq_true,if_false]
 obtain⟨N,NJ,hN,hb⟩:=S.ok.first (tupleKeyHash (intKind prog w) k)
 unfold setSearch
 refine wpAny_bind (pA hu ho S.dat S.ents hk S.ok hx hN hb NJ (fun hm r=>?_) (fun hm=>?_) 100000 0 none (Nat.zero_le _) (by have:=S.NM;omega) rfl (fun n hn=>by omega))
 ·dsimp only
  refine wpAny_pure ?_
  have e:s= { s with heap:=s.heap }:=by cases s;rfl
  rw[e]
  exact h false s.heap xs (Heap.SameBut.refl a s.heap) ⟨o,es,ep,t,ho,S,hk⟩ (by rw[if_pos hm])
 ·dsimp only
  refine wpAny_bind (wpAny_setState_of ho S.dat S.fits ?_)
  dsimp only
  have T1:=S.ok.put hN hb (by rw[List.length_map];have:=S.qy;have:=S.NM;omega)
  have B0:=S.qy
  have Q8:=S.NM
  rw[show(t.put (pt t.mask (tupleKeyHash (intKind prog w) k) N).j).2=below t.place (pt t.mask (tupleKeyHash (intKind prog w) k) N).j from rfl]
  generalize hj:(pt t.mask (tupleKeyHash (intKind prog w) k) N).j=j at*
  generalize hp:below t.place j=p at*
  have NO:(t.put j).1.plain=true:=S.pl
  have Q9:(t.put j).1.led=ld:=S.led
  have Kt:(t.put j).1.mask=t.mask:=rfl
  generalize We:(t.put j).1=t1 at*
  rw[if_pos NO]
  refine wpAny_bind (qx hx ?_)
  simp only[if_true]
  have BB:=D8 (prog:=prog) (w:=w) S.ents p k x
  generalize Wf:insertAt es p (tupleKeyHash (intKind prog w) k,Value.ref x)=iZ at*
  have pm:(xs.take p++(k,x)::xs.drop p).Perm ((k,x)::xs):=D9 p (k,x) xs
  have uv:(xs.take p++(k,x)::xs.drop p).length=xs.length+1:=by rw[pm.length_eq];rfl
  have D_:qu t1 ((xs.take p++(k,x)::xs.drop p).map fun x=>tupleKeyHash (intKind prog w) x.1):=by
   rw[List.map_append,List.map_cons,List.map_take,List.map_drop];exact T1
  generalize Wg:xs.take p++(k,x)::xs.drop p=Ku at*
  have NP:iZ.size=xs.length+1:=by rw[←Array.length_toList,BB,List.length_map,uv]
  have Q_:iZ.size≤sizeLine:=by rw[NP,sizeLine_eq];omega
  refine wpAny_bind (wpAny_storeSet_of ho S.dat ?_ Q_)
  have Kv:(s.heap.update a (Obj.putSet iZ t1)).get? a=some { o with data:=.set iZ (ep+1) t1 }:=by
   have:=Heap.get?_update_self (Obj.putSet iZ t1) ho (by rw[putSet_of iZ t1 S.dat];rfl)
   rw[putSet_of iZ t1 S.dat]at this;exact this
  have Ha:=Heap.SameBut.update s.heap a (Obj.putSet iZ t1)
  have Ra:(Ku.map (·.1)).Nodup:=((pm.map (·.1)).nodup_iff).mpr (by rw[List.map_cons,List.nodup_cons];exact⟨hm,S.nd⟩)
  have pk:Ku.Perm (if k∈xs.map (·.1)then xs else(k,x)::xs):=by rw[if_neg hm];exact pm
  have keep:∀{h':Heap},Heap.SameBut a s.heap h'→∀q∈Ku,IsT prog w h' q.1 q.2:=fun {h'} hs q hq=>by
   have xB:IsT prog w s.heap q.1 q.2:=by
    rcases List.mem_cons.mp (pm.mem_iff.mp hq)with rfl|hq
    ·exact hx
    ·exact hk q hq
   exact jM xB fun o' e=>(hs.2 _ (Ks xB ho S.ex)).trans e
  split
  ·rename_i iK
   have iK:t1.tooFull=true:=by simpa using iK
   unfold tooFull fill at iK
   rw[D_.G4,D_.len,List.length_map,uv,Kt]at iK
   simp only[List.size_toArray,List.length_nil,Nat.add_zero,ge_iff_le,decide_eq_true_eq]at iK
   have NQ:(xs.length+1=5∧t.mask=7)∨(xs.length+1=19∧t.mask=31):=by omega
   have T6:es.size+1=xs.length+1:=by rw[S.size]
   rw[T6]
   obtain⟨m,T7,F,G7,T8,T9,Rb⟩:∃m,sizeAbove (grown (xs.length+1)) - 1=m∧Full m∧m % 2=1∧iZ.size≤m∧(xs.length+1)*5<m*3∧(m=7∨m=31∨m=127):=by
    rcases NQ with⟨e,_⟩|⟨e,_⟩
    ·exact⟨31,by rw[e];exact xD,Kn,rfl,by omega,by omega,by omega⟩
    ·exact⟨127,by rw[e];exact xE,G3,rfl,by omega,by omega,by omega⟩
   obtain⟨t2,order,Rc,Rf,Kw,T_,Rg,T2⟩:=By t1 iZ (grown (xs.length+1)) T7 F G7 T8
   generalize Rh:order.filterMap (iZ[·]?)=Ea at*
   rw[BB]at Rg
   obtain⟨ys,py,ey⟩:=BA Rg
   have o6:Ea.size=iZ.size:=by rw[←Array.length_toList,ey,List.length_map,py.length_eq,uv,NP]
   refine wpAny_bind ?_
   unfold setRelay
   have Ri:t1.fits iZ.size=true:=by
    have:=fits_of D_
    rwa[List.length_map,uv,←NP]at this
   refine wpAny_bind (wpAny_setState_of (s:={ s with heap:=s.heap.update a (Obj.putSet iZ t1) }) Kv rfl Ri ?_)
   dsimp only
   have NK:¬(sizeAbove (grown (xs.length+1)) > sizeLine):=by rw[sizeLine_eq];omega
   rw[if_neg NK,Rc]
   refine wpAny_bind ?_
   show wpAny _ _ (if ((order.filterMap (fun i=>iZ[i]?)).size != iZ.size)=true then(unsupported "internal:set-table-lost-an-element" >>= fun(_:Unit)=>pure (order.filterMap (fun i=>iZ[i]?),t2))else pure (order.filterMap (fun i=>iZ[i]?),t2)) _ _ _
   rw[Rh,o6]
   simp only[bne_self_eq_false,Bool.false_eq_true,if_false]
   refine wpAny_pure ?_
   refine wpAny_storeSet_of (s:={ s with heap:=s.heap.update a (Obj.putSet iZ t1) }) Kv rfl ?_ (by rw[o6];exact Q_)
   have qp:((s.heap.update a (Obj.putSet iZ t1)).update a (Obj.putSet Ea t2)).get? a=some { o with data:=.set Ea (ep+1+1) t2 }:=
    Heap.get?_update_self (Obj.putSet Ea t2) Kv rfl
   have LY:=Ha.trans (Heap.SameBut.update (s.heap.update a (Obj.putSet iZ t1)) a (Obj.putSet Ea t2))
   refine wpAny_pure (h true _ ys LY ⟨_,Ea,ep+1+1,t2,qp,⟨S.ex,rfl,ey,((py.map (·.1)).nodup_iff).mpr Ra,?_,?_,?_,by rw[Kw,Q9],by rw[T_,NO]⟩,fun q hq=>keep LY q (py.mem_iff.mp hq)⟩ (py.trans pk))
   ·rw[ey,List.map_map]at T2
    exact T2
   ·rw[py.length_eq,uv,Rf];exact T9
   ·rw[Rf];exact Rb
  ·rename_i iK
   have iK:¬(t1.tooFull=true):=by simpa using iK
   unfold tooFull fill at iK
   rw[D_.G4,D_.len,List.length_map,uv,Kt]at iK
   simp only[List.size_toArray,List.length_nil,Nat.add_zero,ge_iff_le,decide_eq_true_eq]at iK
   exact wpAny_pure (h true _ Ku Ha ⟨_,iZ,ep+1,t1,Kv,⟨S.ex,rfl,BB,Ra,D_,by rw[uv,Kt];omega,by rw[Kt];exact Q8,Q9,NO⟩,fun q hq=>keep Ha q hq⟩ pk)
end
end SetTable
end PySem
namespace PySem
open Sem (wp)
open PyProof.Rows
set_option maxRecDepth 100000
namespace SetTable
def iL(ks:List (List Int)):List (List Int):=ks.foldl (fun acc k=>if k∈acc then acc else k::acc) []
theorem BC(ks:List (List Int))(k:List Int):iL (ks++[k])=if k∈iL ks then iL ks else k::iL ks:=by
 unfold iL
 rw[List.foldl_append]
 rfl
theorem uw:∀(ks acc:List (List Int)),(ks.foldl (fun acc k=>if k∈acc then acc else k::acc) acc).length≤acc.length+ks.length
 |[],acc=>by simp
 |k::ks,acc=>by
  rw[List.foldl_cons]
  have:=uw ks (if k∈acc then acc else k::acc)
  split at this
  ·rw[if_pos (by assumption)];simp only[List.length_cons];omega
  ·rw[if_neg (by assumption)];simp only[List.length_cons]at this ⊢;omega
theorem wa(ks:List (List Int)):(iL ks).length≤ks.length:=by have:=uw ks [];simpa[iL]using this
section
variable{prog:Program}{w:World}{A:Around}{R:Result→Shared→Prop}{I:Addr}{fp wr:List Addr}{G:Array GenState→Array GenState→Prop}{n:Nat}{P:Nat→Value→Prop}{St:Nat→Shared→Prop}{ld:Bool}
theorem mV.move{h h':Heap}{a:Addr}{xs:List (List Int×Addr)}(S:mV prog w ld h a xs)(e:∀b o,(b=a∨∃x∈xs,x.2=b)→h.get? b=some o→h'.get? b=some o):mV prog w ld h' a xs:=by
 obtain⟨o,es,ep,t,ho,S,hk⟩:=S
 exact⟨o,es,ep,t,e a o (.inl rfl) ho,S,fun x hx=>jM (hk x hx) fun o'=>e _ o' (.inr ⟨x,hx,rfl⟩)⟩
theorem vy(hu:A.units+2<cLine)(W:WalksS prog w A.in1 I fp wr G n P St)(S:Addr)(mI:S∉fp)(as:Nat→Addr)(ks:Nat→List Int)(hP:∀i v,P i v→v= .ref (as i))(hb:n≤75)
  (Kx:∀i,i<n→as i∉wr∧as i≠S):
  ∀(m i:Nat) (s:Shared) (xs:List (List Int×Addr)),n - i=m→i≤n→St i s→(∀j,j<n→IsT prog w s.heap (ks j) (as j))→mV prog w ld s.heap S xs→(∀x∈xs,∃j,j<n∧x=(ks j,as j))→
   (xs.map (·.1)).Perm (iL ((List.range i).map ks))→
   (∀s' ys,Moved (S::wr) G s s'→mV prog w ld s'.heap S ys→(ys.map (·.1)).Perm (iL ((List.range n).map ks))→(∀x∈ys,∃j,j<n∧x=(ks j,as j))→R (.ok (.ret .none)) s')→
   codeAny (model prog w) A (.builtin "set.update.loop" ⟨[.ref S,.ref I],[]⟩) R s:=by
 have kC:S∉wr:=fun h=>mI (W.sub _ h)
 have ua:∀b∈wr,b∈S::wr:=fun b hb=>List.mem_cons_of_mem _ hb
 intro m
 induction m with
 |zero=>
  intro i s xs hk hi gd hT hS Eb rY hR
  have NR:∀x∈xs,x.2∉wr∧x.2≠S:=fun x hx=>by obtain⟨j,hj,rfl⟩:=Eb x hx;exact Kx j hj
  have Ua:i=n:=by omega
  subst Ua
  refine codeAny_builtin F.entry_set_update_loop ?_
  rw[Around.under_plainId F.plain_set_update_loop _]
  show wpAny _ A.in1 (pyNext (.ref I) >>= _) _ _ s
  refine wpAny_bind (W.done s _ _ gd fun s' hm=>?_)
  show wpAny _ A.in1 (ret Value.none) _ _ s'
  exact wpAny_pure (hR s' xs (hm.mono ua) (hS.move fun b o hb e=>hm.heap b o (by
   rcases hb with rfl|⟨x,hx,rfl⟩
   ·exact kC
   ·exact(NR x hx).1) e) rY Eb)
 |succ m ih=>
  intro i s xs hk hi gd hT hS Eb rY hR
  have NR:∀x∈xs,x.2∉wr∧x.2≠S:=fun x hx=>by obtain⟨j,hj,rfl⟩:=Eb x hx;exact Kx j hj
  have eQ:i<n:=by omega
  refine codeAny_builtin F.entry_set_update_loop ?_
  rw[Around.under_plainId F.plain_set_update_loop _]
  show wpAny _ A.in1 (pyNext (.ref I) >>= _) _ _ s
  refine wpAny_bind (W.item i s _ _ eQ gd fun v s' hv Rj hm=>?_)
  obtain rfl:=hP i v hv
  have Gs:mV prog w ld s'.heap S xs:=hS.move fun b o hb e=>hm.heap b o (by
   rcases hb with rfl|⟨x,hx,rfl⟩
   ·exact kC
   ·exact(NR x hx).1) e
  have NS:∀j,j<n→IsT prog w s'.heap (ks j) (as j):=fun j hj=>jM (hT j hj) fun o e=>hm.heap _ o (Kx j hj).1 e
  show wpAny _ A.in1 (holding [Value.ref (as i)] (setAdd S (.ref (as i))) >>= _) _ _ s'
  refine wpAny_bind (wpAny_holding ?_)
  unfold setAdd
  refine wpAny_holding ?_
  refine wpAny_bind (wpAny_pyHash_tuple (knd:=intKind prog w) (by show A.units+1<cLine;omega) (NS i eQ) ?_)
  have Wi:xs.length≤i:=by
   have h1:=rY.length_eq
   have h2:=wa ((List.range i).map ks)
   simp at h1 h2
   omega
  refine G_ (ld:=ld) (s:={ s' with toks:=s'.toks+((ks i).length+1) }) (by show A.units+1<cLine;omega) (NS i eQ) Gs (by omega) fun b h' ys NT Gu Rk=>?_
  have Rl:(ys.map (·.1)).Perm (iL ((List.range (i+1)).map ks)):=by
   rw[List.range_succ,List.map_append,List.map_singleton,BC]
   refine(Rk.map (·.1)).trans ?_
   by_cases c:ks i∈xs.map (·.1)
   ·rw[if_pos c,if_pos (rY.mem_iff.mp c)];exact rY
   ·rw[if_neg c,if_neg (fun h=>c (rY.mem_iff.mpr h))];exact rY.cons _
  have Ub:∀x∈ys,∃j,j<n∧x=(ks j,as j):=fun x hx=>by
   have:=Rk.mem_iff.mp hx
   split at this
   ·exact Eb x this
   ·rcases List.mem_cons.mp this with rfl|h
    ·exact⟨i,eQ,rfl⟩
    ·exact Eb x h
  refine wpAny_pure ⟨plainId_quiet F.plain_set_update_loop _,ih (i+1) _ ys (by omega) eQ (W.frame _ s' _ _ Rj (Nat.le_add_right _ _) fun b hb o e=>?_) (fun j hj=>?_) Gu Ub Rl fun Fv zs Rm Rn hz Uc=>?_⟩
  ·rw[NT.2 b (fun h:b=S=>mI (by rw[←h];exact hb))];exact e
  ·exact jM (NS j hj) fun o e=>(NT.2 _ (Kx j hj).2).trans e
  ·refine hR Fv zs (Moved.trans W.gtrans ((hm.mono ua).then_heap (Nat.le_add_right _ _) fun b o hb e=>?_) Rm) Rn hz Uc
   rw[NT.2 b (fun h:b=S=>hb (by rw[h];exact List.mem_cons_self))];exact e
end
end SetTable
end PySem
namespace PySem
open Sem (wp)
open PyProof.Rows
set_option maxRecDepth 100000
namespace SetTable
abbrev jz(w:World):Obj:=⟨.type "set",none,.set #[] 0 (.fresh 0 0 (!w.params.followText "set-order")),#[]⟩
section
variable{prog:Program}{w:World}{A:Around}{E:Value→Shared→Prop}{s:Shared}
theorem zL(x:Value):codeAny (model prog w) A (.call (.builtin "set.__new__") ⟨[.type "set",x],[]⟩)
  (wants (fun v s'=>v= .ref s.heap.objs.size∧s'=⟨s.heap.push (jz w),s.gens,s.drawn,s.toks,s.os⟩) E) s:=by
 refine codeAny_call_builtin F.plain_set_new F.entry_set_new (wpAny_of_eq (F.newCall_set_1 x) ?_)
 have ss:=sub_set_self
 rcases s with⟨h0,g0,d0,t0,o0⟩
 unfold Builtin.«set.__new__» Builtin.Frozenset.newClass
 dsimp only
 wp_walk
 exact wpAny_askSetting (wpAny_pure (by dsimp only[newObj];exact wpAny_bind (wpAny_alloc (wpAny_pure (wpAny_pure ⟨rfl,rfl⟩)))))
theorem wc{Q E:Value→Shared→Prop}{R:Result→Shared→Prop}(he:∀e s,E e s→R (.error e) s)(hr:∀v s,Q v s→R (.ok (.ret v)) s):∀r s,wants Q E r s→R r s:=by
 intro r s h
 rcases r with e|f
 ·exact he _ _ h
 ·cases f<;>first|exact hr _ _ h|exact h.elim
set_option maxHeartbeats 3200000 in
theorem zM{x:Value}{Q:Value→Shared→Prop}
  (fill:wpAny (model prog w) A.in1.in1 (Builtin.«set.__init__» ⟨[.ref s.heap.objs.size,x],[]⟩)
   (fun fin s'=>match fin with
    |.done f=>wants (fun r i5=>r= .none∧Q (.ref s.heap.objs.size) i5) E (.ok f) s'
    |.again c'=>c'.quiet=true∧codeAny (model prog w) A.in1 c' (wants (fun r i5=>r= .none∧Q (.ref s.heap.objs.size) i5) E) s')
   (fun e s'=>wants (fun r i5=>r= .none∧Q (.ref s.heap.objs.size) i5) E (.error e) s') ⟨s.heap.push (jz w),s.gens,s.drawn,s.toks,s.os⟩):
  wpAny (model prog w) A (call (.type "set") [x]) Q E s:=by
 rcases F.called_set with⟨nt,cc,⟨m0,ms,mr⟩,md,-,sb,NU⟩
 have ck:=F.typeCall_set_1 x
 have lk:=NU.lookup
 refine wpAny_call (codeAny_of_tree (show wpAny _ _ (callAny (.type "set") _) _ _ _ from wpAny_pure ⟨Code.quiet_builtin _ (by decide +kernel),codeAny_builtin F.entry_type_call ?_⟩))
 rw[Around.under_plain (weight_type_call_type _ [x] []) rfl]
 repeat (any_goals (first|wp_step|assumption))
 refine codeAny_mono (zL x) (wc (fun _ _ z=>z) ?_)
 rintro _ _ ⟨rfl,rfl⟩
 have ty:(⟨s.heap.push (jz w),s.gens,s.drawn,s.toks,s.os⟩:Shared).TypeIs (.ref s.heap.objs.size) "set":=⟨_,Heap.get?_push_size _ rfl,rfl⟩
 have bd:=NU.bind (.ref s.heap.objs.size)
 repeat (any_goals (first|wp_step|assumption))
 refine codeAny_mono (codeAny_call_builtin NU.plain F.entry_set_init (check_set_init_1 ty fill)) (wc (fun _ _ z=>z) ?_)
 rintro _ _ ⟨rfl,z⟩
 repeat (any_goals (first|wp_step|exact z))
set_option maxHeartbeats 3200000 in
theorem Ec{l:Addr}{T:String}{ol io:Obj}{as:Nat→Addr}{ks:Nat→List Int}{n:Nat}{P:Nat→Value→Prop}{St:Addr→Nat→Heap→Prop}{Q:Value→Shared→Prop}(hu:A.units+16<cLine)
  (ho:s.heap.get? l=some ol)(hc:ol.cls= .type T)(n1:isSubtype (.type T) (.type "set")=pure false)(n2:isSubtype (.type T) (.type "frozenset")=pure false)(n3:(Value.type T==Value.type "dict")=false)
  (hit:∀{B:Around}{s1:Shared}{R:Value→Shared→Prop}{F:Value→Shared→Prop},s1.heap.get? l=some ol→R (.ref s1.heap.objs.size) ⟨s1.heap.push io,s1.gens,s1.drawn,s1.toks,s1.os⟩→wpAny (model prog w) B (pyIter (.ref l)) R F s1)
  (W:∀I,l≠I→Walks prog w A.in1.in1.in1 I [I,l] [I] n P (St I))(W0:∀h:Heap,h.get? l=some ol→St h.objs.size 0 (h.push io))
  (hi:∀i v,P i v→v= .ref (as i))(hT:∀j,j<n→IsT prog w s.heap (ks j) (as j))(hb:n≤75)
  (h:∀(h':Heap) (tk:Nat) (ys:List (List Int×Addr)),mV prog w (!w.params.followText "set-order") h' s.heap.objs.size ys→(ys.map (·.1)).Perm (iL ((List.range n).map ks))→
   (∀b o,b<s.heap.objs.size→s.heap.get? b=some o→h'.get? b=some o)→(∀x∈ys,∃i,i<n∧x=(ks i,as i))→Q (.ref s.heap.objs.size) { s with heap:=h',toks:=tk }):
  wpAny (model prog w) A (call (.type "set") [.ref l]) Q E s:=by
 refine zM ?_
 have below:∀b o,s.heap.get? b=some o→b<s.heap.objs.size:=fun b o e=>Heap.lt_size e
 have lb:=below l ol ho
 have up1:∀b o,s.heap.get? b=some o→(s.heap.push (jz w)).get? b=some o:=fun b o e=>Heap.get?_push_of_some _ e
 have own:(s.heap.push (jz w)).get? s.heap.objs.size=some (jz w):=Heap.get?_push_size _ rfl
 have sz:(s.heap.push (jz w)).objs.size=s.heap.objs.size+1:=by rw[Heap.size_push]
 have tl:(⟨s.heap.push (jz w),s.gens,s.drawn,s.toks,s.os⟩:Shared).TypeIs (.ref l) T:=⟨ol,up1 l ol ho,hc⟩
 unfold Builtin.«set.__init__» noKeywords Builtin.Frozenset.updateFrom
 generalize gi:pyIter=PI
 wp_walk
 subst gi
 refine hit (up1 l ol ho) (wpAny_bind (wpAny_runValue ?_))
 have ne:l≠(s.heap.push (jz w)).objs.size:=by intro e;rw[sz]at e;exact absurd lb (by rw[e];exact Nat.not_lt.mpr (Nat.le_succ _))
 refine vy (ld:=!w.params.followText "set-order") (n:=n) (I:=(s.heap.push (jz w)).objs.size) (by show A.units+1+1+2<cLine;omega) (W _ ne).toS s.heap.objs.size
  (fun m=>?_) as ks hi hb (fun j hj=>?_) n 0 _ [] rfl (Nat.zero_le _) (W0 _ (up1 l ol ho)) (fun j hj=>?_) ?_ (fun x hx=>nomatch hx) (List.Perm.refl _) fun s2 ys mv st pm ya=>?_
 ·rcases List.mem_cons.mp m with e|m
  ·rw[sz]at e;exact absurd e (Nat.ne_of_lt (Nat.lt_succ_self _))
  ·cases List.mem_singleton.mp m;exact absurd lb (Nat.lt_irrefl _)
 ·obtain⟨o,_,_,e,_⟩:=hT j hj
  have:=below _ _ e
  exact⟨fun m=>by rw[List.mem_singleton.mp m,sz]at this;exact absurd this (Nat.not_lt.mpr (Nat.le_succ _)),Nat.ne_of_lt this⟩
 ·exact jM (hT j hj) fun o e=>Heap.get?_push_of_some _ (up1 _ o e)
 ·exact⟨_,#[],0,_,Heap.get?_push_of_some _ own,⟨⟨rfl,rfl,rfl⟩,rfl,rfl,List.nodup_nil,⟨rfl,rfl,List.Pairwise.nil,fun j hj=>by simp[SetTable.fresh]at hj,NG,(show 7 % 2=1 from rfl),Nat.zero_le _,fun q hq=>by simp[SetTable.fresh]at hq⟩,(show 0*5<7*3 by decide),.inl rfl,rfl,rfl⟩,fun x hx=>nomatch hx⟩
 ·have e:s2=⟨s2.heap,s.gens,s.drawn,s2.toks,s.os⟩:=by
   rcases s2 with⟨h2,g2,d2,t2,o2⟩
   cases (show g2=s.gens from mv.gens);cases (show d2=s.drawn from mv.drawn);cases (show o2=s.os from mv.os)
   rfl
  rw[e]
  exact wpAny_pure (wpAny_pure ⟨rfl,h _ _ ys st pm (fun b o hb eb=>mv.heap b o (fun m=>by
   rcases List.mem_cons.mp m with e|m
   ·exact absurd hb (by rw[e];exact Nat.lt_irrefl _)
   ·rw[List.mem_singleton.mp m,sz]at hb;exact absurd hb (Nat.not_lt.mpr (Nat.le_succ _))) (Heap.get?_push_of_some _ (up1 b o eb))) ya⟩)
theorem qz{l:Addr}{items:Array Value}{as:Nat→Addr}{ks:Nat→List Int}{Q:Value→Shared→Prop}(hu:A.units+16<cLine)
  (hh:A.handled=none)(hl:s.heap.IsTuple l items)(hi:∀(i:Nat) v,items[i]? =some v→v= .ref (as i))(hT:∀j,j<items.size→IsT prog w s.heap (ks j) (as j))(hb:items.size≤75)
  (h:∀(h':Heap) (tk:Nat) (ys:List (List Int×Addr)),mV prog w (!w.params.followText "set-order") h' s.heap.objs.size ys→(ys.map (·.1)).Perm (iL ((List.range items.size).map ks))→
   (∀b o,b<s.heap.objs.size→s.heap.get? b=some o→h'.get? b=some o)→(∀x∈ys,∃i,i<items.size∧x=(ks i,as i))→Q (.ref s.heap.objs.size) { s with heap:=h',toks:=tk }):
  wpAny (model prog w) A (call (.type "set") [.ref l]) Q E s:=by
 obtain⟨o,ho,q⟩:=hl
 exact Ec hu ho q.1 F.sub_tuple_set F.sub_tuple_frozenset (by decide) (fun {_ _ _ _} e r=>wpAny_pyIter_tuple ⟨o,e,q⟩ r) (fun I ne=>Walks.tuple (by simp[hh]) I l ne items)
  (fun g e=>⟨⟨_,Heap.get?_push_size _ rfl,rfl,rfl⟩,o,Heap.get?_push_of_some _ e,q⟩) hi hT hb h
end
end SetTable
end PySem
namespace L2
open PySem PySem.Spec PyProof.Rows PySem.W
theorem Cz{P:Program}{w:World}:∀{t:List Int}{its:List Value},Vals (t.map V.int) its→ItemsAre (intKind P w) t its
 |[],_,.nil=>.nil
 |_::_,_,.cons r t=>.cons (by
   obtain⟨tk,e⟩:=r
   rw[e]
   exact intKind_is _ _ _ _) (Cz t)
def Hb(K:PySem.W.Frag)(t:TA):TE:=fun σ H Q=>t σ H fun vs H1=>∃(a:Addr) (as:List Addr) (ks:List (List Int)),vs=[.ref a]∧bJ K H1 a (as.map V.ref)∧Paired (fun(a:Addr) (t:List Int)=>H1 a=some (.tup (t.map V.int))) as ks∧as.length≤75∧Q (.int (SetTable.iL ks).length) H1
section
variable{X:Cx}
theorem BD{p0 p1 p2 pos:Pos}{e:Expr}{f:TA}(hc:X.calm=true)(hu:X.A.units+64<cLine)(hg:Gl X "len")(hm:X.mg "len" =none)(qp:Gl X "set")(iw:X.mg "set" =none)(ha:PA X [e] f)
  (hs:starEach [.Call (.Name "set" p1) [e] [] p2] X.env=[(false,eval (.Call (.Name "set" p1) [e] [] p2) X.env)]:=by rfl)
  (mF:starEach [e] X.env=(false,eval e X.env)::starEach [] X.env:=by rfl)(ip:(backTo p2 (starEach [] X.env)).any (·.1)=false:=by rfl):
  PE X (.Call (.Name "len" p0) [.Call (.Name "set" p1) [e] [] p2] [] pos) (Hb X.K f):=by
 intro pins s σ H Q I h
 refine wpAny_Call_Name_kw (gc I hg hm (u:=.builtin "len") (by decide +kernel) ?_)
 refine PyProof.Rows.callWith_builtin1 ?_ hs rfl
 rw[hs]
 show wpAny _ _ (spliced [(false,eval (.Call (.Name "set" p1) [e] [] p2) X.env)]) _ _ _
 refine Calls.spliced_cons ?_
 refine wpAny_Call_Name_kw (gc I qp iw (u:=.type "set") (by decide +kernel) ?_)
 refine PyProof.Rows.callWith_type1 (bK (ha p2 pins s σ H _ I h) fun us s1 bh=>?_) mF ip
 obtain⟨vs,H1,I1,r1,q1⟩:=bh
 obtain⟨t,as,ks,rfl,ht,pr,hz,q⟩:=q1
 obtain⟨u1,rfl,ra⟩:=vals1 r1
 cases (show u1=Value.ref t from ra)
 obtain⟨its,hv,tt,_⟩:=I1.tuple ht
 cases qT hv
 have Ud:as.length=ks.length:=Paired.length pr
 have NV:(as.map Value.ref).toArray.size=as.length:=by simp
 refine SetTable.qz (as:=fun i=>as.getD i 0) (ks:=fun i=>ks.getD i []) (by omega) (I.ok.hd hc) tt (fun i v hv=>?_) (fun j hj=>?_) (by rw[NV];exact hz) fun h' tk ys S pm hk _=>?_
 ·simp at hv
  obtain⟨a,ha,rfl⟩:=hv
  simp[List.getD,ha]
 ·rw[NV]at hj
  obtain⟨a,t',ea,et,ra⟩:=qU pr hj
  obtain⟨GP,r1,⟨o1,g1,c1,m1,d1⟩,_⟩:=I1.tuple (bJ.of ra)
  have e1:as.getD j 0=a:=by simp[List.getD,ea]
  have e2:ks.getD j []=t':=by simp[List.getD,et]
  show IsTupleKey _ _ (ks.getD j []) (as.getD j 0)
  rw[e1,e2]
  exact⟨o1,_,_,g1,c1,d1,by simpa using Cz r1⟩
 ·refine Calls.spliced_nil ?_
  have I2:Inv X pins σ H1 { s1 with heap:=h',toks:=tk }:=I1.kept (t':=tk) fun b o e=>hk b o (Heap.lt_size e) e
  obtain⟨o,es,ep,tb,ho,S,_⟩:=S
  have nP:es.size=(SetTable.iL ks).length:=by
   rw[S.size,←List.length_map (f:=(·.1)),pm.length_eq,NV,Ud,range_getD]
  refine call_len_set (s:={ s1 with heap:=h',toks:=tk }) ho S.ex S.dat S.fits ?_ ?_
  ·rw[nP]
   have:=SetTable.wa ks
   omega
  ·rw[nP]
   exact⟨.int (SetTable.iL ks).length,H1,I2.tok _,⟨_,rfl⟩,q⟩
end
end L2
namespace Qm
open PySem
noncomputable section
def we(ks:List (List Int)):List (List Int):=ks.foldl (fun acc k=>if k∈acc then acc else k::acc) []
def lB:FN:=fun ds c=>match ds with
 |[.tup xs]=>(omap rowOf xs).bind fun rs=>if rs.length≤75 then some (.int (we rs).length,c)else none
 |_=>none
end
end Qm
namespace L2
open PySem PySem.Spec PyProof.Rows PySem.W
section
variable{X:Cx}{e1:Expr}{p0 p1 p2 pos:Pos}{f:Qm.XA}
theorem uz(hg:Gl X "len")(hm:X.mg "len" =none)(qp:Gl X "set")(iw:X.mg "set" =none)(hu:X.A.units+64<cLine)(ha:QA X [e1] f)(hc:X.calm=true:=by rfl)
  (hs:starEach [.Call (.Name "set" p1) [e1] [] p2] X.env=[(false,eval (.Call (.Name "set" p1) [e1] [] p2) X.env)]:=by rfl)
  (mF:starEach [e1] X.env=(false,eval e1 X.env)::starEach [] X.env:=by rfl)(ip:(backTo p2 (starEach [] X.env)).any (·.1)=false:=by rfl):
  QE X (.Call (.Name "len" p0) [.Call (.Name "set" p1) [e1] [] p2] [] pos) (Qm.eB Qm.lB f):=(BD hc hu hg hm qp iw ha hs mF ip).imp <| by
 rintro σ H Q ⟨ρ,env,c,d,c',rs,re,e,k⟩
 obtain⟨p,ea,e⟩:=aM e
 refine⟨ρ,env,c,p.1,p.2,rs,re,ea,fun aS vs H1 n1 r1=>?_⟩
 unfold Qm.lB at e
 split at e
 ·rename_i xs hp
  obtain⟨ts,e2,e⟩:=aM e
  split at e
  ·rename_i hz
   cases e
   rw[hp]at r1
   obtain⟨v,rfl,rx⟩:=r1.kW
   obtain⟨a,va,rfl,Bh,aa⟩:=rx.eU
   obtain⟨as,rfl,pr⟩:=zx aa e2
   exact⟨a,as,ts,rfl,bJ.of Bh,pr,by rw[Paired.length pr];exact hz,k _ _ _ n1 (.int _)⟩
  ·cases e
 ·cases e
end
end L2
namespace Qm
open PySem
def cS{α:Type}(k:Nat)(xs:List α):List α:=((List.range ((xs.length+k - 1) / k)).map (k* ·)).filterMap fun i=>xs[i]?
def zN(k:Nat)(a:XE):XE:=fun σ c=>(a σ c).bind fun p=>(cp p.1 p.2).bind fun l=>some (.ref p.2.length,p.2++[.lst (cS k l.2)])
def uA:G2:=fun x y c=>match x,y with
 |.bl b,.bl true=>some (.bl (!b),c)
 |_,_=>none
def qA:G2:=fun x y c=>match x,y with
 |.bl b,.bl false=>some (.bl b,c)
 |_,_=>none
end Qm
namespace Qm
open PySem
noncomputable def qB:G2:=fun x y c=>match x,y with
 |.tup xs,.tup ys=>if xs.length+ys.length≤dk then some (.tup (xs++ys),c)else none
 |_,_=>none
end Qm
namespace L2
open PySem PySem.Spec PyProof.Rows PySem.W
section
variable{X:Cx}{e:Expr}{te:TE}{fe:Qm.XE}{pos p2:Pos}
theorem Hc:dB X (compareOp .IsNot) (fun x y H Q=>∃b,x= .bl b∧y= .bl true∧Q (.bl (!b)) H):=by
 intro pins s σ H x y v u Q I rx ry h
 obtain⟨b,rfl,rfl,q⟩:=h
 cases rx
 cases ry
 refine wpAny_isNot_plain (by cases b<;>rfl) ⟨.bl (!b),H,I,?_,q⟩
 cases b<;>rfl
theorem Hd:dB X (compareOp .IsNot) (fun x y H Q=>∃b,x= .bl b∧y= .bl false∧Q (.bl b) H):=by
 intro pins s σ H x y v u Q I rx ry h
 obtain⟨b,rfl,rfl,q⟩:=h
 cases rx
 cases ry
 refine wpAny_isNot_plain (by cases b<;>rfl) ⟨.bl b,H,I,?_,q⟩
 cases b<;>rfl
theorem He{K:PySem.W.Frag}:gb K (fun x y H Q=>∃b,x= .bl b∧y= .bl true∧Q (.bl (!b)) H) Qm.uA:=by
 intro ρ c H x y d c' v u Q rs rx ry e k
 unfold Qm.uA at e
 split at e
 ·cases e
  cases rx.nX;cases ry.nX
  exact⟨_,rfl,rfl,k ρ _ H (Nx.refl rs) (.bl _)⟩
 ·cases e
theorem Hf{K:PySem.W.Frag}:gb K (fun x y H Q=>∃b,x= .bl b∧y= .bl false∧Q (.bl b) H) Qm.qA:=by
 intro ρ c H x y d c' v u Q rs rx ry e k
 unfold Qm.qA at e
 split at e
 ·cases e
  cases rx.nX;cases ry.nX
  exact⟨_,rfl,rfl,k ρ _ H (Nx.refl rs) (.bl _)⟩
 ·cases e
theorem BE{α:Type}(k:Nat)(xs:List α)(hk: 0<k):(Qm.cS k xs).length≤xs.length:=by
 unfold Qm.cS
 refine Nat.le_trans (List.length_filterMap_le ..) ?_
 rw[List.length_map,List.length_range]
 by_cases h:xs.length=0
 ·rw[h,Nat.div_eq_of_lt (by omega)];omega
 ·refine Nat.div_le_of_le_mul ?_
  obtain⟨m,rfl⟩:∃m,k=m+1:=⟨k - 1,by omega⟩
  obtain⟨n,hn⟩:∃n,xs.length=n+1:=⟨xs.length - 1,by omega⟩
  rw[hn]
  have:(m+1)*(n+1)=m*n+m+n+1:=by rw[Nat.add_mul,Nat.mul_add];omega
  omega
theorem Ed{xs:List V}{us:List Value}(r:Vals xs us):∀i:Nat,(xs[i]? =none∧us[i]? =none)∨∃x u,xs[i]? =some x∧us[i]? =some u∧RelV x u:=by
 induction r with
 |nil=>intro i;exact .inl ⟨by simp,by simp⟩
 |cons h t ih=>
  intro i
  cases i with
  |zero=>exact .inr ⟨_,_,rfl,rfl,h⟩
  |succ i=>simpa using ih i
theorem og{xs:List V}{us:List Value}(r:Vals xs us):∀l:List Nat,Vals (l.filterMap fun i=>xs[i]?) (l.filterMap fun i=>us[i]?)
 |[]=>.nil
 |i::l=>by
  rcases Ed r i with⟨h1,h2⟩|⟨x,u,h1,h2,h3⟩
  ·rw[List.filterMap_cons_none h1,List.filterMap_cons_none h2];exact og r l
  ·rw[List.filterMap_cons_some h1,List.filterMap_cons_some h2];exact .cons h3 (og r l)
theorem rZ(us:List Value)(k:Nat)(hk: 0<k):slicePick us.toArray none none (some (k:Int))=(Qm.cS k us).toArray:=by
 unfold slicePick sliceBounds sliceRange Qm.cS
 have h1:((some (k:Int)).getD 1) > 0:=by simp;omega
 simp only[h1,if_true,Option.getD_some,List.size_toArray]
 congr 1
 have e:((if (0:Int)<(us.length:Int)then((us.length:Int) - 0+(k:Int) - 1) / (k:Int)else 0)).toNat=(us.length+k - 1) / k:=by
  split
  ·rename_i h
   have:(us.length:Int) - 0+(k:Int) - 1=((us.length+k - 1:Nat):Int):=by omega
   rw[this]
   exact Int.toNat_natCast _
  ·rename_i h
   have h:us.length=0:=by omega
   rw[h,Nat.div_eq_of_lt (by omega)]
   rfl
 have h2:(k:Int) > 0:=by omega
 simp only[h2,if_true]
 rw[e,List.filterMap_map,List.filterMap_map]
 congr 1
 funext i
 have:(0+(k:Int)*(i:Int)).toNat=k*i:=by
  rw[Int.zero_add,←Int.natCast_mul];exact Int.toNat_natCast _
 simp only[Function.comp,this,List.getElem?_toArray]
def Ro(K:PySem.W.Frag)(k:Nat)(t:TE):TE:=fun σ H Q=>t σ H fun x H1=>∃a xs,x= .ref a∧dI K H1 a xs∧∀p,H1 p=none→Q (.ref p) (upd H1 p (.lst (Qm.cS k xs)))
theorem Hg{k:Nat}{j:Nat}{p3:Pos}(hk: 0<k)(he:PE X e te):PE X (.Subscript e (.Slice none none (some (.Constant (.int (k:Int)) j p3)) p2) pos) (Ro X.K k te):=by
 intro pins s σ H Q I h
 refine Subscript_ (bK (he pins s σ H _ I h) fun v s1 bh=>?_)
 obtain⟨x,H1,I1,r1,q1⟩:=bh
 refine wpAny_Slice ?_
 rw[evalPart_none]
 refine wpAny_pure (wpAny_pure ?_)
 rw[evalPart_some]
 refine bK (BX (X:=X) pins s1 σ H1 (fun x H'=>x= .int k∧H'=H1) I1 ⟨rfl,rfl⟩) fun vs s2 bh=>?_
 obtain⟨y,H2,I2,r2,e1,e2⟩:=bh
 subst e1 e2
 obtain⟨tk,rfl⟩:=r2
 obtain⟨a,xs,rfl,hx,q⟩:=q1
 cases (show v=Value.ref a from r1)
 have I4:Inv X pins σ H2 { s2 with heap:=s2.heap.push { cls:=.type "slice",data:=.fields #[.none,.none,.int k tk] } }:=I2.kept (t':=s2.toks) fun b ob q=>Heap.get?_push_of_some _ q
 obtain⟨its,r,ht,hz⟩:=I4.list hx
 have hlen:=r.length
 show wpAny (model X.prog X.w) X.A (subscriptTail e (.Slice none none (some (.Constant (.int (k:Int)) j p3)) p2) (.ref a) (.ref s2.heap.objs.size)) (EP X pins σ Q) X.xe { s2 with heap:=s2.heap.push { cls:=.type "slice",data:=.fields #[.none,.none,.int k tk] } }
 refine tail_any (ops:=[.ref a,.ref s2.heap.objs.size]) ht.isList.typeIs slot_list_getitem.lookup ?_ (by with_unfolding_all rfl)
 refine wpAny_getItem_list_slice ht.isList (Heap.IsSliceOf.new ..) .none .none (.int k tk) (by intro z;injection z with z;omega) ?_ (by rw[List.size_toArray]<;>omega)
 rw[rZ its k hk]
 refine⟨.ref _,_,I4.laid (t':=s2.toks) (o:=.lst (Qm.cS k xs)) (fun b ob q=>Heap.get?_push_of_some _ q) (Nat.le_refl _) ?_,rfl,q _ (I4.bV.fresh (Nat.le_refl _))⟩
 refine⟨Nat.le_trans (BE k xs hk) hz,_,0,?_,Heap.get?_push_size _ rfl⟩
 unfold Qm.cS
 rw[←hlen]
 exact og r _
theorem CA{K:PySem.W.Frag}{ρ:Nat→Addr}{N:Nat}{H:Hp}:∀{xs:List Qm.D}{us:List V},RA K ρ N H xs us→∀i:Nat,(xs[i]? =none∧us[i]? =none)∨∃x u,xs[i]? =some x∧us[i]? =some u∧RD K ρ N H x u
 |_,_,.nil,i=>.inl ⟨by simp,by simp⟩
 |_,_,.cons h _,0=>.inr ⟨_,_,rfl,rfl,h⟩
 |_,_,.cons _ t,i+1=>by simpa using CA t i
theorem uB{K:PySem.W.Frag}{ρ:Nat→Addr}{N:Nat}{H:Hp}{xs:List Qm.D}{us:List V}(r:RA K ρ N H xs us):∀l:List Nat,RA K ρ N H (l.filterMap fun i=>xs[i]?) (l.filterMap fun i=>us[i]?)
 |[]=>.nil
 |i::l=>by
  rcases CA r i with⟨h1,h2⟩|⟨x,u,h1,h2,h3⟩
  ·rw[List.filterMap_cons_none h1,List.filterMap_cons_none h2];exact uB r l
  ·rw[List.filterMap_cons_some h1,List.filterMap_cons_some h2];exact .cons h3 (uB r l)
theorem Hh{k:Nat}{j:Nat}{p3:Pos}(hk: 0<k)(he:QE X e fe):QE X (.Subscript e (.Slice none none (some (.Constant (.int (k:Int)) j p3)) p2) pos) (Qm.zN k fe):=(Hg hk he).imp <| by
 rintro σ H Q ⟨ρ,env,c,d,c',rs,re,e,kk⟩
 obtain⟨p,e1,e⟩:=aM e
 refine⟨ρ,env,c,p.1,p.2,rs,re,e1,fun aS v H1 n1 r1=>?_⟩
 obtain⟨l,e2,e⟩:=aM e
 cases e
 obtain⟨_,hc,ws,rfl,h1,a1⟩:=n1.rs.cp r1 e2
 have hl:l.2.length=ws.length:=a1.length
 refine⟨_,ws,rfl,dI.of h1,fun D hD=>?_⟩
 have a2:RA X.K aS p.2.length H1 (Qm.cS k l.2) (Qm.cS k ws):=by
  unfold Qm.cS
  rw[←hl]
  exact uB a1 _
 obtain⟨n,r⟩:=Nx.alloc n1.rs hD a2
 exact kk _ _ _ (n1.trans n) r
end
end L2
namespace L2
open PySem PySem.Spec PyProof.Rows PySem.W
section
variable{X:Cx}
def BF(K:PySem.W.Frag):R2:=fun x y H Q=>∃a b ys,x= .ref a∧y= .ref b∧bJ K H a []∧bJ K H b ys∧Q (.ref b) H
theorem Hi:dB X (binaryOp .Add) (BF X.K):=by
 intro pins s σ H x y v u Q I rx ry h
 obtain⟨a,b,ys,rfl,rfl,ha,hb,q⟩:=h
 cases rx
 cases ry
 obtain⟨its,r1,p1,_⟩:=I.tuple ha
 obtain⟨jI,r2,p2,_⟩:=I.tuple hb
 cases r1
 obtain⟨⟨cls,dd,data,sl⟩,ho,hc,n,hd⟩:=id p1
 obtain⟨⟨PZ,Jk,data2,Jl⟩,wL,kL,n2,hd2⟩:=id p2
 simp only at hc hd kL hd2
 subst hc hd kL hd2
 exact concat_meets ⟨_,ho,rfl⟩ ⟨_,wL,rfl⟩ noFill_tuple_add seq_tuple_add PySem.F.slot_tuple_add PySem.F.entry_tuple_add (PySem.F.args_tuple_add_2 _ _)
   (tuple_addW0 a b [].toArray jI.toArray n n2 dd Jk sl Jl (by simp)) ⟨ho,wL,⟨.ref b,H,I,rfl,q⟩⟩
theorem Hj:dB X (binaryOp .Add) (fun x y H Q=>BF X.K x y H Q∨tq X.K x y H Q):=Hi.or yB
theorem Hk{K:PySem.W.Frag}:gb K (fun x y H Q=>BF K x y H Q∨tq K x y H Q) Qm.qB:=by
 intro ρ c H x y d c' v u Q rs rx ry e k
 unfold Qm.qB at e
 split at e
 ·rename_i xs ys
  split at e
  ·rename_i h
   cases e
   obtain⟨p,vs,rfl,h1,a1⟩:=rx.eU
   obtain⟨q,us,rfl,h2,a2⟩:=ry.eU
   have l1:=a1.length
   have l2:=a2.length
   by_cases hx:vs=[]
   ·subst hx
    have:xs=[]:=List.length_eq_zero_iff.mp (by simpa using l1)
    subst this
    exact .inl ⟨p,q,us,rfl,rfl,bJ.of h1,bJ.of h2,k ρ _ H (Nx.refl rs) (.tup h2 (by simpa using a2))⟩
   refine .inr ⟨p,q,vs,us,rfl,rfl,bJ.of h1,bJ.of h2,hx,kU (by omega),fun z=>?_,fun _ l hl=>?_⟩
   ·subst z
    have:ys=[]:=List.length_eq_zero_iff.mp (by simpa using l2)
    subst this
    rw[List.append_nil]at k
    exact k ρ _ H (Nx.refl rs) (.tup h1 a1)
   ·have n:=Nx.same rs (fW (z:=.tup (vs++us)) hl)
    exact k ρ _ _ n (.tup du ((a1.append a2).up n.up))
  ·cases e
 ·cases e
end
end L2
namespace My
abbrev T3:=Int×Int×Int
def aB(p:T3):Prop:=yK p.1 p.2.1 p.2.2
def bj(p q:T3):Bool:=j4 p.1 p.2.1 p.2.2 q.1 q.2.1 q.2.2
theorem Hl{a b c d e f:Int}(hb: 0<b)(hd: 0<d)(hf: 0<f)(h1:a*d<c*b)(h2:c*f<e*d):a*f<e*b:=by
 have a1:a*d*f<c*b*f:=Int.mul_lt_mul_of_pos_right h1 hf
 have a2:c*f*b<e*d*b:=Int.mul_lt_mul_of_pos_right h2 hb
 have e1:a*d*f=(a*f)*d:=by grind
 have e2:c*b*f=c*f*b:=by grind
 have e3:e*d*b=(e*b)*d:=by grind
 have:(a*f)*d<(e*b)*d:=by omega
 exact Int.lt_of_mul_lt_mul_right this (Int.le_of_lt hd)
theorem NW{a b c d e f:Int}(hd: 0<d)(h1:a*d=c*b)(h2:c*f=e*d):a*f=e*b:=by
 have:(a*f)*d=(e*b)*d:=by grind
 exact Int.eq_of_mul_eq_mul_right (by omega) this
theorem Ky{a b c d e f:Int}(hb: 0<b)(hd: 0<d)(hf: 0<f)(h1:a*d<c*b)(h2:c*f=e*d):a*f<e*b:=by
 have a1:a*d*f<c*b*f:=Int.mul_lt_mul_of_pos_right h1 hf
 have e1:a*d*f=(a*f)*d:=by grind
 have e2:c*b*f=(e*b)*d:=by
  rw[show c*b*f=(c*f)*b by grind,h2];grind
 have:(a*f)*d<(e*b)*d:=by omega
 exact Int.lt_of_mul_lt_mul_right this (Int.le_of_lt hd)
theorem Kz{a b c d e f:Int}(hb: 0<b)(hd: 0<d)(h1:a*d=c*b)(h2:c*f<e*d):a*f<e*b:=by
 have a1:c*f*b<e*d*b:=Int.mul_lt_mul_of_pos_right h2 hb
 have e1:c*f*b=(a*f)*d:=by
  rw[show c*f*b=(c*b)*f by grind,←h1];grind
 have e2:e*d*b=(e*b)*d:=by grind
 have:(a*f)*d<(e*b)*d:=by omega
 exact Int.lt_of_mul_lt_mul_right this (Int.le_of_lt hd)
theorem g8{p q:T3}:bj p q=true↔p.1*q.2.2<q.1*p.2.2∨(p.1*q.2.2=q.1*p.2.2∧p.2.1*q.2.2<q.2.1*p.2.2):=by
 unfold bj j4
 split
 ·rename_i h
  simp only[decide_eq_true_eq]
  constructor
  ·exact fun z=>.inr ⟨h,z⟩
  ·rintro(z|z)
   ·omega
   ·exact z.2
 ·rename_i h
  simp only[decide_eq_true_eq]
  constructor
  ·exact fun z=>.inl z
  ·rintro(z|z)
   ·exact z
   ·exact absurd z.1 h
theorem zO(p:T3):bj p p=false:=by
 cases h:bj p p with
 |false=>rfl
 |true=>
  rcases g8.mp h with z|z
  ·omega
  ·omega
theorem BG{p q r:T3}(hp:aB p)(hq:aB q)(hr:aB r)(h1:bj p q=true)(h2:bj q r=true):bj p r=true:=by
 have p0:=hp.pos;have q0:=hq.pos;have r0:=hr.pos
 rw[g8]at h1 h2 ⊢
 rcases h1 with h1|⟨e1,h1⟩<;>rcases h2 with h2|⟨e2,h2⟩
 ·exact .inl (Hl p0 q0 r0 h1 h2)
 ·exact .inl (Ky p0 q0 r0 h1 e2)
 ·exact .inl (Kz p0 q0 e1 h2)
 ·exact .inr ⟨NW q0 e1 e2,Hl p0 q0 r0 h1 h2⟩
theorem dh{p q:T3}(h:bj p q=true):bj q p=false:=by
 cases h2:bj q p with
 |false=>rfl
 |true=>
  rw[g8]at h h2
  rcases h with h|h<;>rcases h2 with h2|h2<;>omega
theorem zP{p q:T3}(hp:aB p)(hq:aB q)(h1:bj p q=false)(h2:bj q p=false):p=q:=by
 have n1:¬(bj p q=true):=by rw[h1];decide
 have n2:¬(bj q p=true):=by rw[h2];decide
 rw[g8]at n1 n2
 have e1:p.1*q.2.2=q.1*p.2.2:=by omega
 have e2:p.2.1*q.2.2=q.2.1*p.2.2:=by omega
 obtain⟨a,b,c⟩:=gX hp hq e1 e2
 obtain⟨x,y,w⟩:=p
 obtain⟨x',y',w'⟩:=q
 dsimp only at a b c
 subst a b c
 rfl
def Rp:List T3→List T3→Bool
 |p::l,q::m=>if p=q then Rp l m else bj p q
 |_,_=>false
def mn:List T3→List (List T3)→List T3
 |b,[]=>b
 |b,r::rs=>mn (if Rp r b=true then r else b) rs
def fk(l:List T3)(k:Nat):List T3:=l.drop k++l.take k
theorem lC{l:List T3}{k:Nat}:(fk l k).length=l.length:=by
 simp only[fk,List.length_append,List.length_drop,List.length_take];omega
theorem Hn{l:List T3}{k:Nat}{p:T3}(h:p∈fk l k):p∈l:=by
 rcases List.mem_append.mp h with h|h
 ·exact List.mem_of_mem_drop h
 ·exact List.mem_of_mem_take h
theorem Ho{l:List T3}{k j:Nat}(hk:k≤l.length)(hj:j≤l.length):fk (fk l k) j=if k+j≤l.length then fk l (k+j)else fk l (k+j - l.length):=by
 have hd:(l.drop k).length=l.length - k:=List.length_drop
 have ht:(l.take k).length=k:=by rw[List.length_take];omega
 unfold fk
 rw[List.drop_append,List.take_append,hd]
 split
 ·rename_i h
  have e:j - (l.length - k)=0:=by omega
  rw[e,List.drop_zero,List.take_zero,List.append_nil,List.drop_drop,List.append_assoc,←List.take_add]
 ·rename_i h
  have hle:(l.drop k).length≤j:=by omega
  rw[List.drop_eq_nil_of_le hle,List.take_of_length_le hle,List.nil_append]
  have e:k+j - l.length=j - (l.length - k):=by omega
  rw[e]
  generalize NX:j - (l.length - k)=t
  have Je:t≤k:=by omega
  have e2:l.drop t=(l.take k).drop t++l.drop k:=by
   have:=List.drop_append (l₁:=l.take k) (l₂:=l.drop k) (i:=t)
   rw[List.take_append_drop,ht,show t - k=0 by omega,List.drop_zero]at this
   exact this
  rw[e2,List.take_take,Nat.min_eq_left Je,List.append_assoc]
theorem away{α:Type}[DecidableEq α]:∀(l:List α) (f:Nat→α),(∀i j,f i=f j→i=j)→∃i,i≤l.length∧f i∉l
 |[],f,_=>⟨0,Nat.le_refl _,by simp⟩
 |a::l,f,hf=>by
  by_cases h:∃j,j≤l.length+1∧f j=a
  ·obtain⟨j,hj,e⟩:=h
   obtain⟨i,hi,hn⟩:=away l (fun i=>if i<j then f i else f (i+1)) (fun i k e=>by
    split at e<;>split at e
    ·exact hf _ _ e
    ·have:=hf _ _ e;omega
    ·have:=hf _ _ e;omega
    ·have:=hf _ _ e;omega)
   split at hn
   ·rename_i nK
    refine⟨i,by simp;omega,fun z=>?_⟩
    rcases List.mem_cons.mp z with z|z
    ·have:=hf _ _ (z.trans e.symm);omega
    ·exact hn z
   ·rename_i nK
    refine⟨i+1,by simp;omega,fun z=>?_⟩
    rcases List.mem_cons.mp z with z|z
    ·have:=hf _ _ (z.trans e.symm);omega
    ·exact hn z
  ·obtain⟨i,hi,hn⟩:=away l f hf
   refine⟨i,by simp;omega,fun z=>?_⟩
   rcases List.mem_cons.mp z with z|z
   ·exact h ⟨i,by omega,z⟩
   ·exact hn z
end My
namespace My
abbrev P2:=Int×Int
def cr(a b:P2):Int:=a.1*b.2 - b.1*a.2
def ch:List P2→Int
 |a::b::l=>cr a b+ch (b::l)
 |_=>0
def cz:List (P2×P2)→Int
 |[]=>0
 |z::l=>cr z.1 z.2+cz l
end My
set_option maxHeartbeats 2000000
namespace My
def dQ(p q:T3):P2:=(q.1*p.2.2 - p.1*q.2.2,q.2.1*p.2.2 - p.2.1*q.2.2)
def aF(a b:P2):Int:=a.1*b.2 - a.2*b.1
def Ee(a b:P2):Bool:=decide (aF a b=0)&&(decide (a.1*b.1≤0)&&decide (a.2*b.2≤0))
def rI(y v k:Int):Int:=if decide (y<0)=decide (v<0)then 0 else if 0<k then(if y<0 then 1 else 0)else(if y<0 then 0 else -1)
def Ue(a b:P2):Int:=rI a.2 b.2 (aF a b)
structure Sg(x y z:Int):Prop where
 pp: 0<x→0<y→0<z
 nn:x<0→y<0→0<z
 pn: 0<x→y<0→z<0
 np:x<0→0<y→z<0
 z1:x=0→z=0
 z2:y=0→z=0
theorem Hq(x y:Int):Sg x y (x*y):=⟨Int.mul_pos,Int.mul_pos_of_neg_of_neg,Int.mul_neg_of_pos_of_neg,Int.mul_neg_of_neg_of_pos,fun h=>by rw[h,Int.zero_mul],fun h=>by rw[h,Int.mul_zero]⟩
theorem lD{a b:P2}:Ee a b=true↔aF a b=0∧a.1*b.1≤0∧a.2*b.2≤0:=by
 unfold Ee
 simp only[Bool.and_eq_true,decide_eq_true_eq]
theorem fC(z:Int): 0<z∨z=0∨z<0:=by omega
theorem wg(a b:P2):aF b a= - aF a b:=by unfold aF;rw[Int.mul_comm b.1,Int.mul_comm b.2];omega
theorem Hr(p a b:T3):aF (dQ p a) (dQ p b)=p.2.2*det a.1 a.2.1 a.2.2 b.1 b.2.1 b.2.2 p.1 p.2.1 p.2.2:=by
 obtain⟨p0,p1,p2⟩:=p
 obtain⟨a0,a1,a2⟩:=a
 obtain⟨b0,b1,b2⟩:=b
 simp only[aF,dQ,det];grind
theorem zQ{p0 p1 p2 q0 q1 q2:Int}:j4 p0 p1 p2 q0 q1 q2=true↔p0*q2<q0*p2∨(p0*q2=q0*p2∧p1*q2<q1*p2):=g8 (p:=(p0,p1,p2)) (q:=(q0,q1,q2))
theorem ef{p s e:Int}(hp: 0<p)(h:p*s=e):(0<s→0<e)∧(s=0→e=0)∧(s<0→e<0):=by
 subst h
 exact⟨Int.mul_pos hp,fun h=>by rw[h,Int.mul_zero],Int.mul_neg_of_pos_of_neg hp⟩
theorem Ug{y v k n1 n2 t:Int}(s2:Sg y v k)(e3:(0<y→0<n1)∧(y=0→n1=0)∧(y<0→n1<0))(e4:(0<v→0<n2)∧(v=0→n2=0)∧(v<0→n2<0))(f2:(0<t→0<n1 - n2)∧(t=0→n1 - n2=0)∧(t<0→n1 - n2<0)):
  (if t<0 then ¬0<y∧¬v<0 else ¬0<v∧¬y<0)↔k≤0:=by
 obtain⟨p1,p2,p3,p4,p5,p6⟩:=s2
 rcases fC y with hy|hy|hy<;>rcases fC v with hv|hv|hv
 ·have:=p1 hy hv;clear e3 e4 f2;split<;>omega
 ·have:=p6 hv;have:=e3.1 hy;have:=e4.2.1 hv;have:=f2.2.2;clear e3 e4 f2;split<;>omega
 ·have:=p3 hy hv;have:=e3.1 hy;have:=e4.2.2 hv;have:=f2.2.2;clear e3 e4 f2;split<;>omega
 ·have:=p5 hy;have:=e3.2.1 hy;have:=e4.1 hv;have:=f2.1;have:=f2.2.1;clear e3 e4 f2;split<;>omega
 ·have:=p5 hy;clear e3 e4 f2;split<;>omega
 ·have:=p5 hy;have:=e3.2.1 hy;have:=e4.2.2 hv;have:=f2.2.2;clear e3 e4 f2;split<;>omega
 ·have:=p4 hy hv;have:=e3.2.2 hy;have:=e4.1 hv;have:=f2.1;have:=f2.2.1;clear e3 e4 f2;split<;>omega
 ·have:=p6 hv;have:=e3.2.2 hy;have:=e4.2.1 hv;have:=f2.1;have:=f2.2.1;clear e3 e4 f2;split<;>omega
 ·have:=p2 hy hv;clear e3 e4 f2;split<;>omega
theorem Rq{x y u v k2 k3 k4:Int}(s2:Sg y v k2)(s3:Sg x v k3)(s4:Sg y u k4)(c:k3 - k4=0)(h:(0<x∧u<0)∨(x<0∧0<u)):k2≤0:=by
 rcases fC v with hv|hv|hv
 ·rcases fC y with hy|hy|hy
  ·exfalso
   rcases h with h|h
   ·have:=s3.pp h.1 hv;have:=s4.pn hy h.2;omega
   ·have:=s3.np h.1 hv;have:=s4.pp hy h.2;omega
  ·exact Int.le_of_eq (s2.z1 hy)
  ·exact Int.le_of_lt (s2.np hy hv)
 ·exact Int.le_of_eq (s2.z2 hv)
 ·rcases fC y with hy|hy|hy
  ·exact Int.le_of_lt (s2.pn hy hv)
  ·exact Int.le_of_eq (s2.z1 hy)
  ·exfalso
   rcases h with h|h
   ·have:=s3.pn h.1 hv;have:=s4.nn hy h.2;omega
   ·have:=s3.nn h.1 hv;have:=s4.np hy h.2;omega
theorem NY{x v k:Int}(s:Sg x v k)(h:x≠0)(e:k=0):v=0:=by
 rcases fC v with hv|hv|hv
 ·rcases fC x with hx|hx|hx
  ·have:=s.pp hx hv;omega
  ·exact absurd hx h
  ·have:=s.np hx hv;omega
 ·exact hv
 ·rcases fC x with hx|hx|hx
  ·have:=s.pn hx hv;omega
  ·exact absurd hx h
  ·have:=s.nn hx hv;omega
theorem LZ{x v k:Int}(s:Sg x v k)(h:v≠0)(e:k=0):x=0:=NY ⟨fun a b=>s.pp b a,fun a b=>s.nn b a,fun a b=>s.np b a,fun a b=>s.pn b a,s.z2,s.z1⟩ h e
theorem NZ{s t x y u v k1 k2:Int}(hs: 0<s)(hu:¬(0<u∨(u=0∧0<v)))(hx:¬(x<0∨(x=0∧y<0)))(h1:k1≤0)(h2:k2≤0):(if s<0∨(s=0∧t<0)then ¬(0<x∨(x=0∧0<y))∧¬(u<0∨(u=0∧v<0))else ¬(0<u∨(u=0∧0<v))∧¬(x<0∨(x=0∧y<0)))↔k1≤0∧k2≤0:=by
 rw[if_neg (by clear hu hx h1 h2;omega)]
 exact⟨fun _=>⟨h1,h2⟩,fun _=>⟨hu,hx⟩⟩
theorem N1{s t x y u v k1 k2:Int}(hs:s<0)(hx:¬(0<x∨(x=0∧0<y)))(hu:¬(u<0∨(u=0∧v<0)))(h1:k1≤0)(h2:k2≤0):(if s<0∨(s=0∧t<0)then ¬(0<x∨(x=0∧0<y))∧¬(u<0∨(u=0∧v<0))else ¬(0<u∨(u=0∧0<v))∧¬(x<0∨(x=0∧y<0)))↔k1≤0∧k2≤0:=by
 rw[if_pos (.inl hs)]
 exact⟨fun _=>⟨h1,h2⟩,fun _=>⟨hx,hu⟩⟩
theorem N3{s m n:Int}(f:(0<s→0<m - n)∧(s=0→m - n=0)∧(s<0→m - n<0))(h:n<m): 0<s:=by
 rcases fC s with z|z|z
 ·exact z
 ·have:=f.2.1 z;clear f;omega
 ·have:=f.2.2 z;clear f;omega
theorem N4{s m n:Int}(f:(0<s→0<m - n)∧(s=0→m - n=0)∧(s<0→m - n<0))(h:m<n):s<0:=by
 rcases fC s with z|z|z
 ·have:=f.1 z;clear f;omega
 ·have:=f.2.1 z;clear f;omega
 ·exact z
theorem nq{p q:Prop}(h:¬p)(g:¬q):¬(p∨q):=fun z=>z.elim h g
theorem ltN{a b:Int}(h:a<b):¬b<a:=Int.not_lt.mpr (Int.le_of_lt h)
theorem KA{a:Int}(h:a=0):¬0<a:=by omega
theorem mG{a:Int}(h:a=0):¬a<0:=by omega
theorem Uh{x y u v k1 k2 k3 k4 m1 m2 n1 n2 s t:Int}(s1:Sg x u k1)(s2:Sg y v k2)(s3:Sg x v k3)(s4:Sg y u k4)(c:k3 - k4=0)(e1:(0<x→0<m1)∧(x=0→m1=0)∧(x<0→m1<0))(e2:(0<u→0<m2)∧(u=0→m2=0)∧(u<0→m2<0))(e3:(0<y→0<n1)∧(y=0→n1=0)∧(y<0→n1<0))(e4:(0<v→0<n2)∧(v=0→n2=0)∧(v<0→n2<0))
  (f1:(0<s→0<m1 - m2)∧(s=0→m1 - m2=0)∧(s<0→m1 - m2<0))(f2:(0<t→0<n1 - n2)∧(t=0→n1 - n2=0)∧(t<0→n1 - n2<0)):
  (if s<0∨(s=0∧t<0)then ¬(0<x∨(x=0∧0<y))∧¬(u<0∨(u=0∧v<0))else ¬(0<u∨(u=0∧0<v))∧¬(x<0∨(x=0∧y<0)))↔k1≤0∧k2≤0:=by
 rcases fC x with hx|hx|hx<;>rcases fC u with hu|hu|hu
 ·have:=s1.pp hx hu
  split
  ·exact⟨fun h=>absurd (.inl hx) h.1,fun h=>absurd h.1 (Int.not_le.mpr this)⟩
  ·exact⟨fun h=>absurd (.inl hu) h.1,fun h=>absurd h.1 (Int.not_le.mpr this)⟩
 ·have k4:=s4.z2 hu
  have hv:=NY s3 (Int.ne_of_gt hx) (by clear s1 s2 s3 s4 e1 e2 e3 e4 f1 f2;omega)
  have q:=e1.1 hx
  exact NZ (N3 f1 (by rw[e2.2.1 hu];exact q)) (nq (KA hu) fun z=>KA hv z.2) (nq (ltN hx) fun z=>Int.ne_of_gt hx z.1) (Int.le_of_eq (s1.z2 hu)) (Int.le_of_eq (s2.z2 hv))
 ·exact NZ (N3 f1 (Int.lt_trans (e2.2.2 hu) (e1.1 hx))) (nq (ltN hu) fun z=>Int.ne_of_lt hu z.1) (nq (ltN hx) fun z=>Int.ne_of_gt hx z.1) (Int.le_of_lt (s1.pn hx hu)) (Rq s2 s3 s4 c (.inl ⟨hx,hu⟩))
 ·have Ui:=s3.z1 hx
  have hy:=LZ s4 (Int.ne_of_gt hu) (by clear s1 s2 s3 s4 e1 e2 e3 e4 f1 f2;omega)
  have q:=e2.1 hu
  exact N1 (N4 f1 (by rw[e1.2.1 hx];exact q)) (nq (KA hx) fun z=>KA hy z.2) (nq (ltN hu) fun z=>Int.ne_of_gt hu z.1) (Int.le_of_eq (s1.z1 hx)) (Int.le_of_eq (s2.z1 hy))
 ·have hs:s=0:=by
   have h1:=e1.2.1 hx
   have h2:=e2.2.1 hu
   rcases fC s with z|z|z
   ·have:=f1.1 z;clear s1 s2 s3 s4 e1 e2 e3 e4 f1 f2;omega
   ·exact z
   ·have:=f1.2.2 z;clear s1 s2 s3 s4 e1 e2 e3 e4 f1 f2;omega
  have:=s1.z1 hx
  have k:=Ug s2 e3 e4 f2
  subst hx hu hs
  simp only[Int.lt_irrefl,false_or,true_and]
  rw[k]
  exact⟨fun z=>⟨Int.le_of_eq this,z⟩,fun z=>z.2⟩
 ·have Ui:=s3.z1 hx
  have hy:=LZ s4 (Int.ne_of_lt hu) (by clear s1 s2 s3 s4 e1 e2 e3 e4 f1 f2;omega)
  have q:=e2.2.2 hu
  exact NZ (N3 f1 (by rw[e1.2.1 hx];exact q)) (nq (ltN hu) fun z=>Int.ne_of_lt hu z.1) (nq (mG hx) fun z=>mG hy z.2) (Int.le_of_eq (s1.z1 hx)) (Int.le_of_eq (s2.z1 hy))
 ·exact N1 (N4 f1 (Int.lt_trans (e1.2.2 hx) (e2.1 hu))) (nq (ltN hx) fun z=>Int.ne_of_lt hx z.1) (nq (ltN hu) fun z=>Int.ne_of_gt hu z.1) (Int.le_of_lt (s1.np hx hu)) (Rq s2 s3 s4 c (.inr ⟨hx,hu⟩))
 ·have k4:=s4.z2 hu
  have hv:=NY s3 (Int.ne_of_lt hx) (by clear s1 s2 s3 s4 e1 e2 e3 e4 f1 f2;omega)
  have q:=e1.2.2 hx
  exact N1 (N4 f1 (by rw[e2.2.1 hu];exact q)) (nq (ltN hx) fun z=>Int.ne_of_lt hx z.1) (nq (mG hu) fun z=>mG hv z.2) (Int.le_of_eq (s1.z2 hu)) (Int.le_of_eq (s2.z2 hv))
 ·have:=s1.nn hx hu
  split
  ·exact⟨fun h=>absurd (.inl hu) h.2,fun h=>absurd h.1 (Int.not_le.mpr this)⟩
  ·exact⟨fun h=>absurd (.inl hx) h.2,fun h=>absurd h.1 (Int.not_le.mpr this)⟩
theorem BH{p0 p1 p2 q0 q1 q2:Int}:j4 p0 p1 p2 q0 q1 q2=true↔p0*q2 - q0*p2<0∨(p0*q2 - q0*p2=0∧p1*q2 - q1*p2<0):=by rw[zQ];omega
theorem Hs{p0 p1 p2 q0 q1 q2:Int}:j4 p0 p1 p2 q0 q1 q2=true↔0<q0*p2 - p0*q2∨(q0*p2 - p0*q2=0∧0<q1*p2 - p1*q2):=by rw[zQ];omega
theorem pB{p a b:T3}(hp: 0<p.2.2)(ha: 0<a.2.2)(hb: 0<b.2.2):A6 p.1 p.2.1 p.2.2 a.1 a.2.1 a.2.2 b.1 b.2.1 b.2.2=Ee (dQ p a) (dQ p b):=by
 have cd:=Hr p a b
 obtain⟨p0,p1,p2⟩:=p
 obtain⟨a0,a1,a2⟩:=a
 obtain⟨b0,b1,b2⟩:=b
 dsimp only at*
 have hd:det a0 a1 a2 b0 b1 b2 p0 p1 p2=0↔aF (dQ (p0,p1,p2) (a0,a1,a2)) (dQ (p0,p1,p2) (b0,b1,b2))=0:=by
  rw[cd]
  exact⟨fun h=>by rw[h,Int.mul_zero],fun h=>(Int.mul_eq_zero.mp h).resolve_left (by omega)⟩
 have key:A6 p0 p1 p2 a0 a1 a2 b0 b1 b2=true↔Ee (dQ (p0,p1,p2) (a0,a1,a2)) (dQ (p0,p1,p2) (b0,b1,b2))=true:=by
  rw[lD]
  unfold A6
  by_cases h:det a0 a1 a2 b0 b1 b2 p0 p1 p2=0
  ·rw[if_pos h,←hd]
   simp only[h,true_and]
   have h':=hd.mp h
   have e:∀x y:Bool,(!x&&!y)=true↔¬x=true∧¬y=true:=by decide
   have k:=Uh (x:=a0*p2 - p0*a2) (y:=a1*p2 - p1*a2) (u:=b0*p2 - p0*b2) (v:=b1*p2 - p1*b2) (s:=a0*b2 - b0*a2) (t:=a1*b2 - b1*a2) (m1:=b2*(a0*p2 - p0*a2)) (m2:=a2*(b0*p2 - p0*b2)) (n1:=b2*(a1*p2 - p1*a2)) (n2:=a2*(b1*p2 - p1*b2)) (Hq _ _) (Hq _ _) (Hq _ _) (Hq _ _) h' (ef hb rfl) (ef ha rfl) (ef hb rfl) (ef ha rfl) (ef hp (by grind)) (ef hp (by grind))
   simp only[dQ]
   rw[←k]
   have w1:j4 a0 a1 a2 b0 b1 b2=true↔a0*b2 - b0*a2<0∨(a0*b2 - b0*a2=0∧a1*b2 - b1*a2<0):=BH
   have w2:j4 p0 p1 p2 a0 a1 a2=true↔0<a0*p2 - p0*a2∨(a0*p2 - p0*a2=0∧0<a1*p2 - p1*a2):=Hs
   have w3:j4 b0 b1 b2 p0 p1 p2=true↔b0*p2 - p0*b2<0∨(b0*p2 - p0*b2=0∧b1*p2 - p1*b2<0):=BH
   have w4:j4 p0 p1 p2 b0 b1 b2=true↔0<b0*p2 - p0*b2∨(b0*p2 - p0*b2=0∧0<b1*p2 - p1*b2):=Hs
   have w5:j4 a0 a1 a2 p0 p1 p2=true↔a0*p2 - p0*a2<0∨(a0*p2 - p0*a2=0∧a1*p2 - p1*a2<0):=BH
   by_cases hw:j4 a0 a1 a2 b0 b1 b2=true
   ·rw[if_pos hw,if_pos (w1.mp hw),←w2,←w3];exact e _ _
   ·rw[if_neg hw,if_neg (fun g=>hw (w1.mpr g)),←w4,←w5];exact e _ _
  ·rw[if_neg h]
   simp only[Bool.false_eq_true,false_iff,not_and]
   exact fun h2=>absurd (hd.mpr h2) h
 cases h1:A6 p0 p1 p2 a0 a1 a2 b0 b1 b2<;>cases h2:Ee (dQ (p0,p1,p2) (a0,a1,a2)) (dQ (p0,p1,p2) (b0,b1,b2))<;>simp_all
def sm(f:T3→T3→Int):List (T3×T3)→Int
 |[]=>0
 |z::zs=>f z.1 z.2+sm f zs
def an(f:T3→T3→Bool)(zs:List (T3×T3)):Bool:=zs.any fun z=>f z.1 z.2
theorem CB{l:List T3}(h:l≠[]):∃a t z m,l=a::t∧l=m++[z]∧m.length=t.length∧l.zip (fk l 1)=m.zip t++[(z,a)]∧(fk l (l.length - 1)).zip l=(z,a)::m.zip t:=by
 obtain⟨m,z,e⟩:=(List.eq_nil_or_concat l).resolve_left h
 rw[List.concat_eq_append]at e
 cases l with
 |nil=>exact absurd rfl h
 |cons a t=>
  have hl:m.length=t.length:=by have:=congrArg List.length e;simp at this;omega
  refine⟨a,t,z,m,rfl,e,hl,?_,?_⟩
  ·have:fk (a::t) 1=t++[a]:=rfl
   rw[this,e,List.zip_append hl];rfl
  ·have:fk (a::t) ((a::t).length - 1)=z::m:=by
    rw[e];unfold fk;simp
   rw[this];rfl
def Rr(p a b:T3):Bool:=Ee (dQ p a) (dQ p b)
def Rt(p a b:T3):Int:=Ue (dQ p a) (dQ p b)
def wh(l:List T3)(p:T3):Int:=if an (Rr p) (l.zip (fk l 1))=true then 0 else if sm (Rt p) (l.zip (fk l 1))=0 then -1 else 1
end My
set_option maxHeartbeats 2000000
namespace My
inductive qC where
 |none|dm(p:T3)|eG(p q:T3)
 deriving DecidableEq
def aI(a b c:T3):Int:=det a.1 a.2.1 a.2.2 b.1 b.2.1 b.2.2 c.1 c.2.1 c.2.2
def mK(p a b:T3):Bool:=A6 p.1 p.2.1 p.2.2 a.1 a.2.1 a.2.2 b.1 b.2.1 b.2.2
def fw(a b:T3):T3×T3:=if bj a b=true then(a,b)else(b,a)
def g9(l r:T3×T3):qC:=
 let p:=if bj l.1 r.1=true then r.1 else l.1
 let q:=if bj l.2 r.2=true then l.2 else r.2
 if p=q then .dm p else if bj p q=true then .eG p q else .none
def mX(a b c d:T3):Int:=m0 a.1 a.2.1 a.2.2 b.1 b.2.1 b.2.2 c.1 c.2.1 c.2.2 d.1 d.2.1 d.2.2
def mY(a b c d:T3):Int:=m1 a.1 a.2.1 a.2.2 b.1 b.2.1 b.2.2 c.1 c.2.1 c.2.2 d.1 d.2.1 d.2.2
def mW(a b c d:T3):Int:=m2 a.1 a.2.1 a.2.2 b.1 b.2.1 b.2.2 c.1 c.2.1 c.2.2 d.1 d.2.1 d.2.2
def spT(x y w:Int):T3:=(sx x y w,sy x y w,sw x y w)
def cm(a b c d:T3):qC:=
 if sgn (aI a b c)=0∧sgn (aI a b d)=0 then g9 (fw a b) (fw c d)
 else if 0<sgn (aI a b c)*sgn (aI a b d)∨0<sgn (aI c d a)*sgn (aI c d b)then .none
 else .dm (spT (mX a b c d) (mY a b c d) (mW a b c d))
theorem lE{p q:T3}(hp:aB p)(hq:aB q):bj p q=true∨p=q∨bj q p=true:=by
 cases h1:bj p q
 ·cases h2:bj q p
  ·exact .inr (.inl (zP hp hq h1 h2))
  ·exact .inr (.inr rfl)
 ·exact .inl rfl
theorem Ht{a b:T3}(ha:aB a)(hb:aB b)(h:a≠b):fw b a=fw a b:=by
 unfold fw
 rcases lE ha hb with h1|h1|h1
 ·rw[if_pos h1,if_neg (by rw[dh h1];decide)]
 ·exact absurd h1 h
 ·rw[if_pos h1,if_neg (by rw[dh h1];decide)]
theorem gN{a b:T3}(ha:aB a)(hb:aB b):aB (fw a b).1∧aB (fw a b).2:=by
 unfold fw;split
 ·exact⟨ha,hb⟩
 ·exact⟨hb,ha⟩
theorem BI{l r:T3×T3}(l1:aB l.1)(l2:aB l.2)(r1:aB r.1)(r2:aB r.2):g9 r l=g9 l r:=by
 have e1:(if bj r.1 l.1=true then l.1 else r.1)=(if bj l.1 r.1=true then r.1 else l.1):=by
  rcases lE l1 r1 with h|h|h
  ·rw[if_pos h,if_neg (by rw[dh h];decide)]
  ·rw[h]
  ·rw[if_pos h,if_neg (by rw[dh h];decide)]
 have e2:(if bj r.2 l.2=true then r.2 else l.2)=(if bj l.2 r.2=true then l.2 else r.2):=by
  rcases lE l2 r2 with h|h|h
  ·rw[if_pos h,if_neg (by rw[dh h];decide)]
  ·rw[h]
  ·rw[if_pos h,if_neg (by rw[dh h];decide)]
 unfold g9
 dsimp only
 rw[e1,e2]
theorem gn{n:Int}:sgn n=0↔n=0:=⟨qh,fun h=>by rw[h];rfl⟩
theorem Hu(n:Int):(0<n∧sgn n=1)∨(n=0∧sgn n=0)∨(n<0∧sgn n= -1):=by
 unfold sgn
 split
 ·omega
 ·split<;>omega
theorem gq(x y:Int): 0<sgn x*sgn y↔(0<x∧0<y)∨(x<0∧y<0):=by
 rcases Hu x with⟨h1,e1⟩|⟨h1,e1⟩|⟨h1,e1⟩<;>rcases Hu y with⟨h2,e2⟩|⟨h2,e2⟩|⟨h2,e2⟩<;>rw[e1,e2]<;>omega
theorem tQ(a b c d:T3):c.2.2*aI a b d - d.2.2*aI a b c=mW a b c d:=MZ ..
theorem bQ(a b c d:T3):b.2.2*aI c d a - a.2.2*aI c d b=mW a b c d:=M0 ..
theorem zR(a b c:T3):aI b a c= - aI a b c:=Dt ..
theorem zS(a b c d:T3):mX c d a b= - mX a b c d∧mY c d a b= - mY a b c d∧mW c d a b= - mW a b c d:=JB ..
theorem Hv(a b c d:T3):mX b a c d= - mX a b c d∧mY b a c d= - mY a b c d∧mW b a c d= - mW a b c d:=JC ..
theorem qD{a b c d:T3}(ha: 0<a.2.2)(hb: 0<b.2.2)(gH:(dQ a b).1≠0∨(dQ a b).2≠0)(h1:aI a b c=0)(h2:aI a b d=0):aI c d a=0∧aI c d b=0:=by
 have e:mW a b c d=0:=by rw[←tQ,h1,h2];omega
 have k:=bQ a b c d
 rw[e]at k
 -- det(c,d,a) times nM way from a to b
 have z1:aI c d a*(dQ a b).1=0:=by
  have:aI c d a*(dQ a b).1=aI a b c*(a.1*d.2.2 - d.1*a.2.2)*1+aI a b d*(c.1*a.2.2 - a.1*c.2.2):=by
   unfold aI det dQ;dsimp only;grind
  rw[this,h1,h2];omega
 have z2:aI c d a*(dQ a b).2=0:=by
  have:aI c d a*(dQ a b).2=aI a b c*(a.2.1*d.2.2 - d.2.1*a.2.2)+aI a b d*(c.2.1*a.2.2 - a.2.1*c.2.2):=by
   unfold aI det dQ;dsimp only;grind
  rw[this,h1,h2];omega
 have r0:aI c d a=0:=by
  rcases gH with g|g
  ·exact(Int.mul_eq_zero.mp z1).resolve_right g
  ·exact(Int.mul_eq_zero.mp z2).resolve_right g
 refine⟨r0,?_⟩
 rw[r0]at k
 have:a.2.2*aI c d b=0:=by omega
 exact(Int.mul_eq_zero.mp this).resolve_left (by omega)
theorem xF{a b:T3}(ha:aB a)(hb:aB b)(h:a≠b):(dQ a b).1≠0∨(dQ a b).2≠0:=by
 by_cases h1:(dQ a b).1=0
 ·by_cases h2:(dQ a b).2=0
  ·exfalso
   refine h (zP ha hb ?_ ?_)
   ·rw[←Bool.not_eq_true,g8]
    simp only[dQ]at h1 h2;omega
   ·rw[←Bool.not_eq_true,g8]
    simp only[dQ]at h1 h2;omega
  ·exact .inr h2
 ·exact .inl h1
theorem uC{c d P Q M:Int}(hc: 0<c)(hd: 0<d)(e:c*Q - d*P=M):(M=0→¬((0<P∧0<Q)∨(P<0∧Q<0))→P=0∧Q=0)∧(0<M→¬((0<P∧0<Q)∨(P<0∧Q<0))→P≤0∧0≤Q)∧(M<0→¬((0<P∧0<Q)∨(P<0∧Q<0))→0≤P∧Q≤0):=by
 have s1:=ef (s:=Q) hc rfl
 have s2:=ef (s:=P) hd rfl
 rw[←e]
 generalize c*Q=x at*
 generalize d*P=y at*
 clear e hc hd
 rcases fC P with h1|h1|h1<;>rcases fC Q with h2|h2|h2<;>refine⟨fun _ k=>?_,fun _ k=>?_,fun _ k=>?_⟩<;>first|exact(k (.inl ⟨h1,h2⟩)).elim|exact(k (.inr ⟨h1,h2⟩)).elim|exact⟨h1,h2⟩|exact⟨Int.le_of_eq h1,Int.le_of_eq h2.symm⟩|exact⟨Int.le_of_eq h1.symm,Int.le_of_eq h2⟩|(clear k;(first|replace s1:=s1.1 h2|replace s1:=s1.2.1 h2|replace s1:=s1.2.2 h2);(first|replace s2:=s2.1 h1|replace s2:=s2.2.1 h1|replace s2:=s2.2.2 h1);omega)
theorem jN{a b c d:T3}(hc: 0<c.2.2)(hd: 0<d.2.2)(h1:¬(sgn (aI a b c)=0∧sgn (aI a b d)=0))(h2:¬0<sgn (aI a b c)*sgn (aI a b d)):mW a b c d≠0:=by
 intro e
 rw[gq]at h2
 rw[gn,gn]at h1
 exact h1 ((uC hc hd (tQ a b c d)).1 e h2)
theorem uD{x y w:Int}(h:w≠0):spT (-x) (-y) (-w)=spT x y w:=by
 obtain⟨e1,e2,e3⟩:=Dv (x:=x) (y:=y) h
 unfold spT;rw[e1,e2,e3]
theorem lF{a b c d:T3}(ha:aB a)(hb:aB b)(hc:aB c)(hd:aB d)(h1:a≠b)(h2:c≠d):cm c d a b=cm a b c d:=by
 have Ru:(sgn (aI c d a)=0∧sgn (aI c d b)=0)↔(sgn (aI a b c)=0∧sgn (aI a b d)=0):=by
  simp only[gn]
  exact⟨fun h=>qD hc.pos hd.pos (xF hc hd h2) h.1 h.2,fun h=>qD ha.pos hb.pos (xF ha hb h1) h.1 h.2⟩
 unfold cm
 by_cases g:sgn (aI a b c)=0∧sgn (aI a b d)=0
 ·rw[if_pos g,if_pos (Ru.mpr g)]
  exact BI (gN ha hb).1 (gN ha hb).2 (gN hc hd).1 (gN hc hd).2
 ·rw[if_neg g,if_neg (fun z=>g (Ru.mp z))]
  by_cases k: 0<sgn (aI a b c)*sgn (aI a b d)∨0<sgn (aI c d a)*sgn (aI c d b)
  ·rw[if_pos k,if_pos (Or.comm.mp k)]
  ·rw[if_neg k,if_neg (fun z=>k (Or.comm.mp z))]
   obtain⟨e1,e2,e3⟩:=zS a b c d
   rw[e1,e2,e3,uD (jN hc.pos hd.pos g (fun z=>k (.inl z)))]
theorem zT{a b c d:T3}(ha:aB a)(hb:aB b)(hc:aB c)(hd:aB d)(h1:a≠b):cm b a c d=cm a b c d:=by
 unfold cm
 rw[zR a b c,zR a b d,yI,yI,Ht ha hb h1]
 by_cases g:sgn (aI a b c)=0∧sgn (aI a b d)=0
 ·rw[if_pos g,if_pos (by omega)]
 ·rw[if_neg g,if_neg (by omega)]
  have ep:∀x y:Int,(0 - x)*(0 - y)=x*y:=fun x y=>by grind
  rw[ep]
  by_cases k: 0<sgn (aI a b c)*sgn (aI a b d)∨0<sgn (aI c d a)*sgn (aI c d b)
  ·rw[if_pos k,if_pos (by rw[Int.mul_comm (sgn (aI c d b))];exact k)]
  ·rw[if_neg k,if_neg (by rw[Int.mul_comm (sgn (aI c d b))];exact k)]
   obtain⟨e1,e2,e3⟩:=Hv a b c d
   rw[e1,e2,e3,uD (jN hc.pos hd.pos g (fun z=>k (.inl z)))]
theorem Ef{a b c d:T3}(ha:aB a)(hb:aB b)(hc:aB c)(hd:aB d)(h1:a≠b)(h2:c≠d):cm a b d c=cm a b c d:=by
 rw[←lF ha hb hd hc h1 (Ne.symm h2),zT hc hd ha hb h2,lF ha hb hc hd h1 h2]
theorem wj{a b c d:T3}(ha: 0<a.2.2)(hb: 0<b.2.2)(hm:mW a b c d≠0)(hR:¬((0<aI c d a∧0<aI c d b)∨(aI c d a<0∧aI c d b<0))):mK (spT (mX a b c d) (mY a b c d) (mW a b c d)) a b=true:=by
 have pw:=sw_pos (x:=mX a b c d) (y:=mY a b c d) hm
 unfold mK
 rw[pB (p:=spT (mX a b c d) (mY a b c d) (mW a b c d)) pw ha hb]
 -- in Uj of nM turns
 have x1:=sj (mX a b c d) (mY a b c d) (mW a b c d)
 have x2:=sk (mX a b c d) (mY a b c d) (mW a b c d)
 have x3:=l6 (mX a b c d) (mY a b c d) (mW a b c d)
 have g0:=oE (x:=mX a b c d) (y:=mY a b c d) hm
 have cx:mX a b c d=aI c d a*b.1 - aI c d b*a.1:=(FT ..).symm
 have Uk:mY a b c d=aI c d a*b.2.1 - aI c d b*a.2.1:=(FU ..).symm
 have cw:mW a b c d=aI c d a*b.2.2 - aI c d b*a.2.2:=(FV ..).symm
 unfold spT
 generalize sx (mX a b c d) (mY a b c d) (mW a b c d)=X at*
 generalize sy (mX a b c d) (mY a b c d) (mW a b c d)=Y at*
 generalize sw (mX a b c d) (mY a b c d) (mW a b c d)=W at*
 generalize h9 (mX a b c d) (mY a b c d) (mW a b c d)=g at*
 rw[cx]at x1
 rw[Uk]at x2
 rw[cw]at x3 hm
 generalize aI c d a=R at*
 generalize aI c d b=S at*
 rw[lD]
 obtain⟨a0,a1,A⟩:=a
 obtain⟨b0,b1,B⟩:=b
 dsimp only[dQ]at*
 -- times g
 have u0:g*(a0*W - X*A)=R*(a0*B - b0*A):=by
  have:g*(a0*W - X*A)=a0*(g*W) - (g*X)*A:=by grind
  rw[this,x1,x3];grind
 have u1:g*(a1*W - Y*A)=R*(a1*B - b1*A):=by
  have:g*(a1*W - Y*A)=a1*(g*W) - (g*Y)*A:=by grind
  rw[this,x2,x3];grind
 have v0:g*(b0*W - X*B)=S*(a0*B - b0*A):=by
  have:g*(b0*W - X*B)=b0*(g*W) - (g*X)*B:=by grind
  rw[this,x1,x3];grind
 have v1:g*(b1*W - Y*B)=S*(a1*B - b1*A):=by
  have:g*(b1*W - Y*B)=b1*(g*W) - (g*Y)*B:=by grind
  rw[this,x2,x3];grind
 have gg: 0<g*g:=by
  rcases fC g with h|h|h
  ·exact Int.mul_pos h h
  ·exact absurd h g0
  ·exact Int.mul_pos_of_neg_of_neg h h
 have rs:R*S≤0:=by
  obtain⟨p1,p2,p3,p4,p5,p6⟩:=Hq R S
  rcases fC R with h|h|h<;>rcases fC S with h'|h'|h'<;>first|exact(hR (.inl ⟨h,h'⟩)).elim|exact(hR (.inr ⟨h,h'⟩)).elim|exact Int.le_of_lt (p3 h h')|exact Int.le_of_lt (p4 h h')|exact Int.le_of_eq (p5 h)|exact Int.le_of_eq (p6 h')
 have Eg:∀z:Int,0≤z*z:=fun z=>by
  rcases fC z with h|h|h
  ·exact Int.le_of_lt (Int.mul_pos h h)
  ·rw[h];decide
  ·exact Int.le_of_lt (Int.mul_pos_of_neg_of_neg h h)
 refine⟨?_,?_,?_⟩
 ·have e:g*g*aF (a0*W - X*A,a1*W - Y*A) (b0*W - X*B,b1*W - Y*B)=0:=by
   have:g*g*aF (a0*W - X*A,a1*W - Y*A) (b0*W - X*B,b1*W - Y*B)=(g*(a0*W - X*A))*(g*(b1*W - Y*B)) - (g*(a1*W - Y*A))*(g*(b0*W - X*B)):=by unfold aF;grind
   rw[this,u0,u1,v0,v1];grind
  exact(Int.mul_eq_zero.mp e).resolve_left (Int.ne_of_gt gg)
 ·have e:g*g*((a0*W - X*A)*(b0*W - X*B))=R*S*((a0*B - b0*A)*(a0*B - b0*A)):=by
   have:g*g*((a0*W - X*A)*(b0*W - X*B))=(g*(a0*W - X*A))*(g*(b0*W - X*B)):=by grind
   rw[this,u0,v0];grind
  have n:R*S*((a0*B - b0*A)*(a0*B - b0*A))≤0:=Int.mul_nonpos_of_nonpos_of_nonneg rs (Eg _)
  exact Int.not_lt.mp fun h=>absurd ((ef gg e).1 h) (Int.not_lt.mpr n)
 ·have e:g*g*((a1*W - Y*A)*(b1*W - Y*B))=R*S*((a1*B - b1*A)*(a1*B - b1*A)):=by
   have:g*g*((a1*W - Y*A)*(b1*W - Y*B))=(g*(a1*W - Y*A))*(g*(b1*W - Y*B)):=by grind
   rw[this,u1,v1];grind
  have n:R*S*((a1*B - b1*A)*(a1*B - b1*A))≤0:=Int.mul_nonpos_of_nonpos_of_nonneg rs (Eg _)
  exact Int.not_lt.mp fun h=>absurd ((ef gg e).1 h) (Int.not_lt.mpr n)
theorem xG(a b:T3):aI a b a=0:=by unfold aI det;grind
theorem xH(a b:T3):aI a b b=0:=by unfold aI det;grind
def le(p q:T3):Prop:=bj q p=false
theorem le_trans{p q r:T3}(hp:aB p)(hq:aB q)(hr:aB r)(h1:le p q)(h2:le q r):le p r:=by
 unfold le at*
 cases h:bj r p
 ·rfl
 ·rcases lE hq hr with g|g|g
  ·have:=BG hq hr hp g h;rw[h1]at this;cases this
  ·rw[g]at h1;rw[h1]at h;cases h
  ·rw[h2]at g;cases g
theorem qE{p q:T3}(h:bj p q=true):le p q:=dh h
theorem le_refl(p:T3):le p p:=zO p
theorem jO{p a b:T3}(h:aI a b p=0):mK p a b=true↔le (fw a b).1 p∧le p (fw a b).2:=by
 have h':det a.1 a.2.1 a.2.2 b.1 b.2.1 b.2.2 p.1 p.2.1 p.2.2=0:=h
 unfold mK A6
 rw[if_pos h']
 unfold fw le
 have e:∀x y:Bool,(!x&&!y)=true↔x=false∧y=false:=by decide
 by_cases g:bj a b=true
 ·rw[if_pos g,if_pos (show j4 a.1 a.2.1 a.2.2 b.1 b.2.1 b.2.2=true from g)];exact e _ _
 ·rw[if_neg g,if_neg (show ¬j4 a.1 a.2.1 a.2.2 b.1 b.2.1 b.2.2=true from g)];exact e _ _
theorem Ul{l r:T3}(hl:aB l)(hr:aB r):le l (if bj l r=true then r else l)∧le r (if bj l r=true then r else l)∧((if bj l r=true then r else l)=l∨(if bj l r=true then r else l)=r):=by
 by_cases h:bj l r=true
 ·rw[if_pos h];exact⟨qE h,le_refl _,.inr rfl⟩
 ·rw[if_neg h];exact⟨le_refl _,by unfold le;simpa using h,.inl rfl⟩
theorem Um{l r:T3}(hl:aB l)(hr:aB r):le (if bj l r=true then l else r) l∧le (if bj l r=true then l else r) r∧((if bj l r=true then l else r)=l∨(if bj l r=true then l else r)=r):=by
 by_cases h:bj l r=true
 ·rw[if_pos h];exact⟨le_refl _,qE h,.inl rfl⟩
 ·rw[if_neg h];exact⟨by unfold le;simpa using h,le_refl _,.inr rfl⟩
theorem me(a b:T3):((fw a b).1=a∨(fw a b).1=b)∧((fw a b).2=a∨(fw a b).2=b):=by
 unfold fw;split
 ·exact⟨.inl rfl,.inr rfl⟩
 ·exact⟨.inr rfl,.inl rfl⟩
def Told(a b c d p:T3):Prop:=aB p∧mK p a b=true∧mK p c d=true
theorem Eh{a b c d:T3}(ha:aB a)(hb:aB b)(hc:aB c)(hd:aB d)(h1:a≠b)(h2:c≠d)(g1:aI a b c=0)(g2:aI a b d=0):
  (∀p,g9 (fw a b) (fw c d)= .dm p→Told a b c d p)∧(∀p q,g9 (fw a b) (fw c d)= .eG p q→Told a b c d p∧Told a b c d q):=by
 obtain⟨g3,g4⟩:=qD ha.pos hb.pos (xF ha hb h1) g1 g2
 obtain⟨l1,l2⟩:=gN ha hb
 obtain⟨r1,r2⟩:=gN hc hd
 obtain⟨m1,m2,m3⟩:=Ul l1 r1
 obtain⟨n1,n2,n3⟩:=Um l2 r2
 obtain⟨f1,f2⟩:=me a b
 obtain⟨e1,e2⟩:=me c d
 have rowOf:∀p,(p=a∨p=b)∨(p=c∨p=d)→aI a b p=0∧aI c d p=0∧aB p:=by
  rintro p ((rfl|rfl)|(rfl|rfl))
  ·exact⟨xG _ _,g3,ha⟩
  ·exact⟨xH _ _,g4,hb⟩
  ·exact⟨g1,xG _ _,hc⟩
  ·exact⟨g2,xH _ _,hd⟩
 unfold g9
 dsimp only
 generalize (if bj (fw a b).1 (fw c d).1=true then(fw c d).1 else(fw a b).1)=P at*
 generalize (if bj (fw a b).2 (fw c d).2=true then(fw a b).2 else(fw c d).2)=Q at*
 have rp:=rowOf P (by rcases m3 with z|z<;>rw[z];exact .inl f1;exact .inr e1)
 have rq:=rowOf Q (by rcases n3 with z|z<;>rw[z];exact .inl f2;exact .inr e2)
 have key:le P Q→Told a b c d P∧Told a b c d Q:=fun h=>by
  refine⟨⟨rp.2.2,(jO rp.1).mpr ⟨m1,le_trans rp.2.2 rq.2.2 l2 h n1⟩,(jO rp.2.1).mpr ⟨m2,le_trans rp.2.2 rq.2.2 r2 h n2⟩⟩,⟨rq.2.2,(jO rq.1).mpr ⟨le_trans l1 rp.2.2 rq.2.2 m1 h,n1⟩,(jO rq.2.1).mpr ⟨le_trans r1 rp.2.2 rq.2.2 m2 h,n2⟩⟩⟩
 refine⟨fun p hp=>?_,fun p q hp=>?_⟩
 ·split at hp
  ·rename_i h
   cases hp
   exact(key (by rw[h];exact le_refl _)).1
  ·split at hp<;>cases hp
 ·split at hp
  ·cases hp
  ·split at hp
   ·rename_i h
    cases hp
    exact key (qE h)
   ·cases hp
theorem zU{a b c d:T3}(ha:aB a)(hb:aB b)(hc:aB c)(hd:aB d)(h1:a≠b)(h2:c≠d):
  (∀p,cm a b c d= .dm p→Told a b c d p)∧(∀p q,cm a b c d= .eG p q→Told a b c d p∧Told a b c d q):=by
 unfold cm
 by_cases g:sgn (aI a b c)=0∧sgn (aI a b d)=0
 ·rw[if_pos g]
  exact Eh ha hb hc hd h1 h2 (qh g.1) (qh g.2)
 ·rw[if_neg g]
  by_cases k: 0<sgn (aI a b c)*sgn (aI a b d)∨0<sgn (aI c d a)*sgn (aI c d b)
  ·rw[if_pos k]
   exact⟨fun p h=>(by cases h),fun p q h=>(by cases h)⟩
  ·rw[if_neg k]
   have nz:=jN hc.pos hd.pos g (fun z=>k (.inl z))
   refine⟨fun p h=>?_,fun p q h=>by cases h⟩
   cases h
   refine⟨jJ nz,wj ha.pos hb.pos nz (fun z=>k (.inr ((gq _ _).mpr z))),?_⟩
   obtain⟨e1,e2,e3⟩:=zS a b c d
   have:=wj (a:=c) (b:=d) (c:=a) (d:=b) hc.pos hd.pos (by rw[e3];omega) (fun z=>k (.inl ((gq _ _).mpr z)))
   rw[e1,e2,e3,uD nz]at this
   exact this
def mL(u v:P2):Bool:=if u.1=v.1 then(if u.2=v.2 then false else decide (u.2 > v.2))else decide (u.1 > v.1)
def ie(u v:P2):P2×P2:=if mL u v=true then(v,u)else(u,v)
def wk(l r:P2×P2)(W:Int):qC:=
 let lo:=if mL r.1 l.1=true then r.1 else l.1
 let hi:=if mL l.2 r.2=true then r.2 else l.2
 if mL lo hi=true then .none else if lo=hi then .dm (spT lo.1 lo.2 W)else .eG (spT lo.1 lo.2 W) (spT hi.1 hi.2 W)
def sc(k:Int)(p:T3):P2:=(p.1*k,p.2.1*k)
theorem Hw{p s e:Int}(hp: 0<p)(h:p*s=e):(e<0↔s<0)∧(e=0↔s=0):=by
 have:=ef hp h
 rcases fC s with x|x|x
 ·have:=this.1 x;omega
 ·have:=this.2.1 x;omega
 ·have:=this.2.2 x;omega
theorem xI{W k j x y m n:Int}(hW: 0<W)(hm: 0<m)(hn: 0<n)(e1:k*m=W)(e2:j*n=W):(x*k<y*j↔x*n<y*m)∧(x*k=y*j↔x*n=y*m):=by
 have mn:=Int.mul_pos hm hn
 have z1:m*n*(x*k - y*j)=W*(x*n - y*m):=by
  have:m*n*(x*k - y*j)=(k*m)*(x*n) - (j*n)*(y*m):=by grind
  rw[this,e1,e2];grind
 have s1:=Hw (s:=x*k - y*j) mn z1
 have s2:=Hw (s:=x*n - y*m) hW rfl
 have u1:=s1.1.symm.trans s2.1
 have u2:=s1.2.symm.trans s2.2
 clear s1 s2 z1 mn e1 e2
 omega
theorem sE{W k j:Int}{p q:T3}(hW: 0<W)(hp: 0<p.2.2)(hq: 0<q.2.2)(e1:k*p.2.2=W)(e2:j*q.2.2=W):mL (sc k p) (sc j q)=bj q p:=by
 have a1:=xI (x:=q.1) (y:=p.1) hW hq hp e2 e1
 have a2:=xI (x:=q.2.1) (y:=p.2.1) hW hq hp e2 e1
 have:mL (sc k p) (sc j q)=true↔bj q p=true:=by
  rw[g8,←a1.1,←a1.2,←a2.1]
  unfold mL sc
  dsimp only
  clear a1 a2 e1 e2 hW hp hq
  generalize p.1*k=P
  generalize q.1*j=Q
  generalize p.2.1*k=R
  generalize q.2.1*j=S
  by_cases h1:P=Q
  ·rw[if_pos h1]
   by_cases h2:R=S
   ·rw[if_pos h2]
    simp only[Bool.false_eq_true,false_iff];omega
   ·rw[if_neg h2,decide_eq_true_eq];omega
  ·rw[if_neg h1,decide_eq_true_eq];omega
 cases g1:mL (sc k p) (sc j q)<;>cases g2:bj q p<;>simp_all
theorem N5{W k j:Int}{p q:T3}(hW: 0<W)(hp:aB p)(hq:aB q)(e1:k*p.2.2=W)(e2:j*q.2.2=W):sc k p=sc j q↔p=q:=by
 constructor
 ·intro h
  have h1:p.1*k=q.1*j:=congrArg Prod.fst h
  have h2:p.2.1*k=q.2.1*j:=congrArg Prod.snd h
  have a1:=(xI (x:=p.1) (y:=q.1) hW hp.pos hq.pos e1 e2).2.mp h1
  have a2:=(xI (x:=p.2.1) (y:=q.2.1) hW hp.pos hq.pos e1 e2).2.mp h2
  obtain⟨z1,z2,z3⟩:=gX hp hq a1 a2
  exact Prod.ext z1 (Prod.ext z2 z3)
 ·intro h
  subst h
  have:k=j:=Int.eq_of_mul_eq_mul_right (by have:=hp.pos;omega) (e1.trans e2.symm)
  rw[this]
theorem jP{W k:Int}{p:T3}(hW: 0<W)(hp:aB p)(e1:k*p.2.2=W):spT (sc k p).1 (sc k p).2 W=p:=by
 unfold sc spT
 dsimp only
 have pp:=hp.pos
 obtain⟨z1,z2,z3⟩:=kO (x:=p.1*k) (y:=p.2.1*k) (w:=W) (x':=p.1) (y':=p.2.1) (w':=p.2.2) (by omega) (by omega) (by rw[←e1];grind) (by rw[←e1];grind)
 obtain⟨y1,y2,y3⟩:=yM hp
 rw[z1,z2,z3,y1,y2,y3]
theorem Hx{W:Int}{f:T3→Int}{l r:T3×T3}(hW: 0<W)(l1:aB l.1)(l2:aB l.2)(r1:aB r.1)(r2:aB r.2)(Rv:f l.1*l.1.2.2=W)(Kw:f l.2*l.2.2.2=W)(Rw:f r.1*r.1.2.2=W)(Rx:f r.2*r.2.2.2=W):
  wk (sc (f l.1) l.1,sc (f l.2) l.2) (sc (f r.1) r.1,sc (f r.2) r.2) W=g9 l r:=by
 unfold wk g9
 dsimp only
 rw[sE hW r1.pos l1.pos Rw Rv,sE hW l2.pos r2.pos Kw Rx]
 have e1:(if bj l.1 r.1=true then sc (f r.1) r.1 else sc (f l.1) l.1)=sc (f (if bj l.1 r.1=true then r.1 else l.1)) (if bj l.1 r.1=true then r.1 else l.1):=by split<;>rfl
 have e2:(if bj r.2 l.2=true then sc (f r.2) r.2 else sc (f l.2) l.2)=sc (f (if bj l.2 r.2=true then l.2 else r.2)) (if bj l.2 r.2=true then l.2 else r.2):=by
  rcases lE l2 r2 with h|h|h
  ·rw[if_pos h,if_neg (by rw[dh h];decide)]
  ·rw[h];split<;>rfl
  ·rw[if_pos h,if_neg (by rw[dh h];decide)]
 rw[e1,e2]
 have q1:aB (if bj l.1 r.1=true then r.1 else l.1)∧f (if bj l.1 r.1=true then r.1 else l.1)*(if bj l.1 r.1=true then r.1 else l.1).2.2=W:=by
  split
  ·exact⟨r1,Rw⟩
  ·exact⟨l1,Rv⟩
 have q2:aB (if bj l.2 r.2=true then l.2 else r.2)∧f (if bj l.2 r.2=true then l.2 else r.2)*(if bj l.2 r.2=true then l.2 else r.2).2.2=W:=by
  split
  ·exact⟨l2,Kw⟩
  ·exact⟨r2,Rx⟩
 generalize (if bj l.1 r.1=true then r.1 else l.1)=P at*
 generalize (if bj l.2 r.2=true then l.2 else r.2)=Q at*
 rw[sE hW q1.1.pos q2.1.pos q1.2 q2.2,jP hW q1.1 q1.2,jP hW q2.1 q2.2]
 have es:=N5 hW q1.1 q2.1 q1.2 q2.2
 by_cases h:P=Q
 ·rw[if_pos h,if_pos (es.mpr h),if_neg (by rw[h,zO];decide)]
 ·rw[if_neg h,if_neg (fun z=>h (es.mp z))]
  rcases lE q1.1 q2.1 with g|g|g
  ·rw[if_pos g,if_neg (by rw[dh g];decide)]
  ·exact absurd g h
  ·rw[if_pos g,if_neg (by rw[dh g];decide)]
def wN(a b c d:T3):Int:=a.2.2*b.2.2*c.2.2*d.2.2
def bU(W:Int)(p:T3):P2:=sc (W / p.2.2) p
def aR(u v:P2):P2:=(u.1 - v.1,u.2 - v.2)
def eR(a b c d:T3):Int:=aF (aR (bU (wN a b c d) b) (bU (wN a b c d) a)) (aR (bU (wN a b c d) d) (bU (wN a b c d) c))
def uE(a b c d:T3):Int:=aF (aR (bU (wN a b c d) c) (bU (wN a b c d) a)) (aR (bU (wN a b c d) d) (bU (wN a b c d) c))
def r8(a b c d:T3):Int:=aF (aR (bU (wN a b c d) c) (bU (wN a b c d) a)) (aR (bU (wN a b c d) b) (bU (wN a b c d) a))
def fJ(t x:Int):Int:=if t<0 then 0 - x else x
def share(a b c d:T3):qC:=
 if eR a b c d=0∧r8 a b c d=0 then wk (ie (bU (wN a b c d) a) (bU (wN a b c d) b)) (ie (bU (wN a b c d) c) (bU (wN a b c d) d)) (wN a b c d)
 else if fJ (eR a b c d) (eR a b c d)=0∨¬(0≤fJ (eR a b c d) (uE a b c d)∧fJ (eR a b c d) (uE a b c d)≤fJ (eR a b c d) (eR a b c d))∨¬(0≤fJ (eR a b c d) (r8 a b c d)∧fJ (eR a b c d) (r8 a b c d)≤fJ (eR a b c d) (eR a b c d))then .none
 else .dm (spT ((bU (wN a b c d) a).1*fJ (eR a b c d) (eR a b c d)+(aR (bU (wN a b c d) b) (bU (wN a b c d) a)).1*fJ (eR a b c d) (uE a b c d)) ((bU (wN a b c d) a).2*fJ (eR a b c d) (eR a b c d)+(aR (bU (wN a b c d) b) (bU (wN a b c d) a)).2*fJ (eR a b c d) (uE a b c d)) (wN a b c d*fJ (eR a b c d) (eR a b c d)))
theorem CD{W:Int}{a b:T3}(hW: 0<W)(ha:aB a)(hb:aB b)(h:a≠b)(e1:(W / a.2.2)*a.2.2=W)(e2:(W / b.2.2)*b.2.2=W):ie (bU W a) (bU W b)=(bU W (fw a b).1,bU W (fw a b).2):=by
 unfold ie bU
 rw[sE hW ha.pos hb.pos e1 e2]
 unfold fw
 rcases lE ha hb with g|g|g
 ·rw[if_pos g,if_neg (by rw[dh g];decide)]
 ·exact absurd g h
 ·rw[if_pos g,if_neg (by rw[dh g];decide)]
theorem BJ{p s e:Int}(hp: 0<p)(h:p*s=e):(0≤e↔0≤s)∧(e≤0↔s≤0):=by
 have:=ef hp h
 rcases fC s with x|x|x
 ·have:=this.1 x;omega
 ·have:=this.2.1 x;omega
 ·have:=this.2.2 x;omega
theorem Hy{p s e:Int}(hp: 0<p)(h: -(p*s)=e):(0≤e↔s≤0)∧(e≤0↔0≤s):=by
 have:=BJ (s:=s) hp rfl;omega
theorem Ry{a b c d:Prop}(h:(a∧b)∨(c∧d)):(b∧a)∨(d∧c):=h.imp And.symm And.symm
theorem Uo{m t h P Q R S:Int}(z: 0<m)(sP:(0≤t↔P≤0)∧(t≤0↔0≤P))(sQ:(0≤m - t↔0≤Q)∧(m - t≤0↔Q≤0))(sR:(0≤h↔0≤R)∧(h≤0↔R≤0))(sS:(0≤m - h↔S≤0)∧(m - h≤0↔0≤S))(l:¬((0<P∧0<Q)∨(P<0∧Q<0))→P≤0∧0≤Q)(r:¬((0<R∧0<S)∨(R<0∧S<0))→0≤R∧S≤0):(m=0∨¬(0≤h∧h≤m)∨¬(0≤t∧t≤m))↔(((0<P∧0<Q)∨(P<0∧Q<0))∨((0<R∧0<S)∨(R<0∧S<0))):=by
 have e1:(0≤t∧t≤m)↔(P≤0∧0≤Q):=by rw[←sP.1,←sQ.1];clear l r sP sQ sR sS;omega
 have e2:(0≤h∧h≤m)↔(0≤R∧S≤0):=by rw[←sR.1,←sS.1];clear l r sP sQ sR sS e1;omega
 rw[e1,e2]
 clear e1 e2 sP sQ sR sS
 constructor
 ·rintro(x|x|x)
  ·omega
  ·exact .inr (Classical.byContradiction fun k=>x (r k))
  ·exact .inl (Classical.byContradiction fun k=>x (l k))
 ·clear l r
  rintro((x|x)|(x|x))<;>omega
theorem Rz{m t h P Q R S:Int}(z:m<0)(sP:(0≤t↔P≤0)∧(t≤0↔0≤P))(sQ:(0≤m - t↔0≤Q)∧(m - t≤0↔Q≤0))(sR:(0≤h↔0≤R)∧(h≤0↔R≤0))(sS:(0≤m - h↔S≤0)∧(m - h≤0↔0≤S))(l:¬((0<P∧0<Q)∨(P<0∧Q<0))→0≤P∧Q≤0)(r:¬((0<R∧0<S)∨(R<0∧S<0))→R≤0∧0≤S):(0 - m=0∨¬(0≤0 - h∧0 - h≤0 - m)∨¬(0≤0 - t∧0 - t≤0 - m))↔(((0<P∧0<Q)∨(P<0∧Q<0))∨((0<R∧0<S)∨(R<0∧S<0))):=by
 have e1:(0≤0 - t∧0 - t≤0 - m)↔(0≤P∧Q≤0):=by rw[←sP.2,←sQ.2];clear l r sP sQ sR sS;omega
 have e2:(0≤0 - h∧0 - h≤0 - m)↔(R≤0∧0≤S):=by rw[←sR.2,←sS.2];clear l r sP sQ sR sS e1;omega
 rw[e1,e2]
 clear e1 e2 sP sQ sR sS
 constructor
 ·rintro(x|x|x)
  ·omega
  ·exact .inr (Classical.byContradiction fun k=>x (r k))
  ·exact .inl (Classical.byContradiction fun k=>x (l k))
 ·clear l r
  rintro((x|x)|(x|x))<;>omega
theorem Ei{a b c d:T3}(ha:aB a)(hb:aB b)(hc:aB c)(hd:aB d)(h1:a≠b)(h2:c≠d):share a b c d=cm a b c d:=by
 have pa:=ha.pos;have pb:=hb.pos;have pc:=hc.pos;have pd:=hd.pos
 have hW: 0<wN a b c d:=Int.mul_pos (Int.mul_pos (Int.mul_pos pa pb) pc) pd
 have da:wN a b c d / a.2.2=b.2.2*c.2.2*d.2.2:=Int.ediv_eq_of_eq_mul_right (by omega) (by unfold wN;grind)
 have db:wN a b c d / b.2.2=a.2.2*c.2.2*d.2.2:=Int.ediv_eq_of_eq_mul_right (by omega) (by unfold wN;grind)
 have dc:wN a b c d / c.2.2=a.2.2*b.2.2*d.2.2:=Int.ediv_eq_of_eq_mul_right (by omega) (by unfold wN;grind)
 have dd:wN a b c d / d.2.2=a.2.2*b.2.2*c.2.2:=Int.ediv_eq_of_eq_mul_right (by omega) (by unfold wN;grind)
 have fa:wN a b c d / a.2.2*a.2.2=wN a b c d:=by rw[da];unfold wN;grind
 have fb:wN a b c d / b.2.2*b.2.2=wN a b c d:=by rw[db];unfold wN;grind
 have fc:wN a b c d / c.2.2*c.2.2=wN a b c d:=by rw[dc];unfold wN;grind
 have fd:wN a b c d / d.2.2*d.2.2=wN a b c d:=by rw[dd];unfold wN;grind
 have ew:eR a b c d=wN a b c d*mW a b c d:=by
  unfold eR aR bU sc;rw[da,db,dc,dd];exact Du ..
 have et:r8 a b c d= - ((wN a b c d*d.2.2)*aI a b c):=by
  have: -(r8 a b c d)=(wN a b c d*d.2.2)*aI a b c:=by
   unfold r8 aR bU sc;rw[da,db,dc];exact MX ..
  omega
 have em:uE a b c d=(wN a b c d*b.2.2)*aI c d a:=by
  unfold uE aR bU sc;rw[da,dc,dd];exact MY ..
 have ex:(bU (wN a b c d) a).1*(wN a b c d*mW a b c d)+(aR (bU (wN a b c d) b) (bU (wN a b c d) a)).1*((wN a b c d*b.2.2)*aI c d a)=wN a b c d*wN a b c d*mX a b c d:=by
  unfold aR bU sc;rw[da,db];exact w_ ..
 have ey:(bU (wN a b c d) a).2*(wN a b c d*mW a b c d)+(aR (bU (wN a b c d) b) (bU (wN a b c d) a)).2*((wN a b c d*b.2.2)*aI c d a)=wN a b c d*wN a b c d*mY a b c d:=by
  unfold aR bU sc;rw[da,db];exact xa ..
 have q1:=tQ a b c d
 have q2:=bQ a b c d
 have wd:=Int.mul_pos hW pd
 have wb:=Int.mul_pos hW pb
 have L0:(eR a b c d=0∧r8 a b c d=0)↔(sgn (aI a b c)=0∧sgn (aI a b d)=0):=by
  rw[gn,gn,ew,et]
  have s1:=ef (s:=mW a b c d) hW rfl
  have s2:=ef (s:=aI a b c) wd rfl
  constructor
  ·intro⟨x1,x2⟩
   have y1:mW a b c d=0:=by omega
   have y2:aI a b c=0:=by omega
   refine⟨y2,?_⟩
   rw[y1,y2]at q1
   have:c.2.2*aI a b d=0:=by omega
   exact(Int.mul_eq_zero.mp this).resolve_left (by omega)
  ·intro⟨x1,x2⟩
   rw[x1,x2]at q1
   have y1:mW a b c d=0:=by omega
   exact⟨s1.2.1 y1,by rw[s2.2.1 x1];rfl⟩
 unfold share cm
 by_cases g:sgn (aI a b c)=0∧sgn (aI a b d)=0
 ·rw[if_pos g,if_pos (L0.mpr g),CD hW ha hb h1 fa fb,CD hW hc hd h2 fc fd]
  have m1:=gN ha hb
  have m2:=gN hc hd
  have z:∀p,(p=a∨p=b)∨(p=c∨p=d)→wN a b c d / p.2.2*p.2.2=wN a b c d:=by
   rintro p ((rfl|rfl)|(rfl|rfl))<;>assumption
  exact Hx (f:=fun p=>wN a b c d / p.2.2) hW m1.1 m1.2 m2.1 m2.2 (z _ (.inl (me a b).1)) (z _ (.inl (me a b).2)) (z _ (.inr (me c d).1)) (z _ (.inr (me c d).2))
 ·rw[if_neg g,if_neg (fun x=>g (L0.mp x))]
  rw[gn,gn]at g
  -- nM three,over signs
  have w1:eR a b c d - r8 a b c d=(wN a b c d*c.2.2)*aI a b d:=by
   rw[ew,et,←q1];grind
  have w2:eR a b c d - uE a b c d= - ((wN a b c d*a.2.2)*aI c d b):=by
   rw[ew,em,←q2];grind
  have sM:=ef (s:=mW a b c d) hW ew.symm
  have lp:=uC pc pd q1
  have lq:=uC (P:=aI c d b) (Q:=aI c d a) pb pa q2
  have cond:(fJ (eR a b c d) (eR a b c d)=0∨¬(0≤fJ (eR a b c d) (uE a b c d)∧fJ (eR a b c d) (uE a b c d)≤fJ (eR a b c d) (eR a b c d))∨¬(0≤fJ (eR a b c d) (r8 a b c d)∧fJ (eR a b c d) (r8 a b c d)≤fJ (eR a b c d) (eR a b c d)))↔(0<sgn (aI a b c)*sgn (aI a b d)∨0<sgn (aI c d a)*sgn (aI c d b)):=by
   rw[gq,gq]
   have sP:=Hy (s:=aI a b c) wd et.symm
   have sQ:=BJ (s:=aI a b d) (Int.mul_pos hW pc) w1.symm
   have sR:=BJ (s:=aI c d a) wb em.symm
   have sS:=Hy (s:=aI c d b) (Int.mul_pos hW pa) w2.symm
   unfold fJ
   rcases fC (mW a b c d)with hM|hM|hM
   ·have uF:=sM.1 hM
    rw[if_neg (Int.not_lt.mpr (Int.le_of_lt uF)),if_neg (Int.not_lt.mpr (Int.le_of_lt uF)),if_neg (Int.not_lt.mpr (Int.le_of_lt uF))]
    exact Uo uF sP sQ sR sS (lp.2.1 hM) (fun k=>(lq.2.1 hM (fun j=>k (Ry j))).symm)
   ·have uF:=sM.2.1 hM
    rw[uF]
    refine⟨fun _=>?_,fun _=>.inl rfl⟩
    rcases Decidable.em ((0<aI a b c∧0<aI a b d)∨(aI a b c<0∧aI a b d<0))with k|k
    ·exact .inl k
    ·exact absurd (lp.1 hM k) g
   ·have uF:=sM.2.2 hM
    rw[if_pos uF,if_pos uF,if_pos uF]
    exact Rz uF sP sQ sR sS (lp.2.2 hM) (fun k=>(lq.2.2 hM (fun j=>k (Ry j))).symm)
  by_cases k: 0<sgn (aI a b c)*sgn (aI a b d)∨0<sgn (aI c d a)*sgn (aI c d b)
  ·rw[if_pos k,if_pos (cond.mpr k)]
  ·rw[if_neg k,if_neg (fun x=>k (cond.mp x))]
   have nz:=jN pc pd (by rw[gn,gn];exact g) (fun z=>k (.inl z))
   congr 1
   have Wj:=Int.mul_pos hW hW
   rw[em,ew]
   unfold fJ spT
   by_cases CF:wN a b c d*mW a b c d<0
   ·rw[if_pos CF,if_pos CF]
    have t1:(bU (wN a b c d) a).1*(0 - wN a b c d*mW a b c d)+(aR (bU (wN a b c d) b) (bU (wN a b c d) a)).1*(0 - wN a b c d*b.2.2*aI c d a)= - (wN a b c d*wN a b c d*mX a b c d):=by rw[←ex];grind
    have t2:(bU (wN a b c d) a).2*(0 - wN a b c d*mW a b c d)+(aR (bU (wN a b c d) b) (bU (wN a b c d) a)).2*(0 - wN a b c d*b.2.2*aI c d a)= - (wN a b c d*wN a b c d*mY a b c d):=by rw[←ey];grind
    have t3:wN a b c d*(0 - wN a b c d*mW a b c d)= - (wN a b c d*wN a b c d*mW a b c d):=by grind
    rw[t1,t2,t3]
    have N6: -(wN a b c d*wN a b c d*mW a b c d)≠0:=by
     have:=Int.mul_ne_zero (show wN a b c d*wN a b c d≠0 by omega) nz
     omega
    obtain⟨y1,y2,y3⟩:=kO (x:=-(wN a b c d*wN a b c d*mX a b c d)) (y:=-(wN a b c d*wN a b c d*mY a b c d)) (x':=mX a b c d) (y':=mY a b c d) N6 nz (by grind) (by grind)
    rw[y1,y2,y3]
   ·rw[if_neg CF,if_neg CF,ex,ey]
    have t3:wN a b c d*(wN a b c d*mW a b c d)=wN a b c d*wN a b c d*mW a b c d:=by grind
    rw[t3]
    have N6:=Int.mul_ne_zero (show wN a b c d*wN a b c d≠0 by omega) nz
    obtain⟨y1,y2,y3⟩:=kO (x:=wN a b c d*wN a b c d*mX a b c d) (y:=wN a b c d*wN a b c d*mY a b c d) (x':=mX a b c d) (y':=mY a b c d) N6 nz (by grind) (by grind)
    rw[y1,y2,y3]
end My
namespace My
def aV(l:List T3)(i:Nat):T3:=l.getD (i % l.length) (0,0,1)
def fm(l:List T3)(j k:Nat):qC:=cm (aV l j) (aV l (j+1)) (aV l k) (aV l (k+1))
def lG(l:List T3)(j k:Nat):qC:=if (j+1) % l.length=k then .dm (aV l k)else if (k+1) % l.length=j then .dm (aV l j)else .none
structure Simp(l:List T3):Prop where
 qy: 3≤l.length
 nd:l.Nodup
 ap:∀j k,j<l.length→k<l.length→j≠k→fm l j k=lG l j k
theorem kd{l:List T3}{i:Nat}(h:i<l.length):aV l i=l[i]:=by
 unfold aV
 rw[Nat.mod_eq_of_lt h]
 simp[h]
theorem lH{l:List T3}{i:Nat}(h:i<l.length):l[i]? =some (aV l i):=by rw[kd h];exact List.getElem?_eq_getElem h
theorem iM{l:List T3}(h: 0<l.length)(i:Nat):aV l i∈l:=by
 have:=Nat.mod_lt i h
 unfold aV
 simp[this]
theorem eW(l:List T3)(i:Nat):aV l (i % l.length)=aV l i:=by unfold aV;rw[Nat.mod_mod]
theorem wm(l:List T3)(i:Nat):aV l (i % l.length+1)=aV l (i+1):=by unfold aV;rw[Nat.mod_add_mod]
theorem KC{l:List T3}(nd:l.Nodup){i j:Nat}(hi:i<l.length)(hj:j<l.length)(h:i≠j):aV l i≠aV l j:=by
 rw[kd hi,kd hj]
 exact fun e=>h ((List.getElem_inj nd).mp e)
theorem ko{n j:Nat}(h:j<n):(j+1) % n=if j+1<n then j+1 else 0:=by
 split
 ·rename_i g;exact Nat.mod_eq_of_lt g
 ·rw[show j+1=n by omega];exact Nat.mod_self n
theorem zV{n j s:Nat}(h:j<n)(hs:s<n):(j+s) % n=if j+s<n then j+s else j+s - n:=by
 split
 ·rename_i g;exact Nat.mod_eq_of_lt g
 ·rw[Nat.mod_eq_sub_mod (by omega)];exact Nat.mod_eq_of_lt (by omega)
theorem eH{l:List T3}(nd:l.Nodup)(h2: 2≤l.length){j:Nat}(hj:j<l.length):aV l j≠aV l (j+1):=by
 rw[←eW l (j+1)]
 refine KC nd hj (Nat.mod_lt _ (by omega)) ?_
 rw[ko hj]
 split<;>omega
theorem lI{l:List T3}{s:Nat}(hs:s<l.length)(i:Nat):aV (fk l s) i=aV l (i+s):=by
 have hl:=(lC (l:=l) (k:=s))
 have hr:i % l.length<l.length:=Nat.mod_lt i (by omega)
 have e1:aV (fk l s) i=(fk l s).getD (i % l.length) (0,0,1):=by unfold aV;rw[hl]
 have e2:(i+s) % l.length=(i % l.length+s) % l.length:=(Nat.mod_add_mod i l.length s).symm
 have e3:aV l (i+s)=l.getD ((i % l.length+s) % l.length) (0,0,1):=by unfold aV;rw[e2]
 rw[e1,e3,zV hr hs]
 generalize i % l.length=r at*
 unfold fk
 rw[List.getD_eq_getElem?_getD,List.getD_eq_getElem?_getD]
 congr 1
 by_cases g:r+s<l.length
 ·rw[if_pos g,List.getElem?_append_left (by rw[List.length_drop];omega),List.getElem?_drop,Nat.add_comm]
 ·rw[if_neg g,List.getElem?_append_right (by rw[List.length_drop];omega),List.length_drop,List.getElem?_take_of_lt (by omega)]
  congr 1;omega
theorem Ej(l:List T3)(s:Nat):(fk l s).Perm l:=by
 unfold fk
 exact List.perm_append_comm.trans (by rw[List.take_append_drop])
theorem zW{n j k s:Nat}(hs:s<n)(hj:j<n)(hk:k<n):((j+s) % n+1) % n=(k+s) % n↔(j+1) % n=k:=by
 rw[ko (Nat.mod_lt _ (by omega)),zV hj hs,zV hk hs,ko hj]
 (repeat' split)<;>omega
theorem uG{l:List T3}{s:Nat}(hs:s<l.length)(S:Simp l):Simp (fk l s):=by
 have hl:=(lC (l:=l) (k:=s))
 refine⟨by rw[hl];exact S.qy,(Ej l s).nodup_iff.mpr S.nd,fun j k hj hk j5=>?_⟩
 rw[hl]at hj hk
 have hn: 0<l.length:=by omega
 have a1:=S.ap ((j+s) % l.length) ((k+s) % l.length) (Nat.mod_lt _ hn) (Nat.mod_lt _ hn) (by
  rw[zV hj hs,zV hk hs]
  split<;>split<;>omega)
 unfold fm lG at a1 ⊢
 rw[lI hs,lI hs,lI hs,lI hs,hl,show j+1+s=j+s+1 by omega,show k+1+s=k+s+1 by omega]
 rw[eW,eW,wm,wm]at a1
 rw[a1]
 have c1:=zW hs hj hk
 have c2:=zW hs hk hj
 simp only[c1,c2]
theorem Ek{l:List T3}{s:Nat}(hs:s≤l.length):fk (fk l s) (l.length - s)=l:=by
 rw[Ho hs (by omega),if_pos (by omega),show s+(l.length - s)=l.length by omega]
 simp[fk]
theorem El{l:List T3}{s:Nat}(hs:s<l.length):Simp (fk l s)↔Simp l:=by
 refine⟨fun S=>?_,uG hs⟩
 by_cases h0:s=0
 ·subst h0
  have:fk l 0=l:=by simp[fk]
  rwa[this]at S
 have:=uG (l:=fk l s) (s:=l.length - s) (by rw[(lC (l:=l) (k:=s))];omega) S
 rwa[Ek (Nat.le_of_lt hs)]at this
def eb(n j:Nat):Nat:=if j+1<n then n - 2 - j else n - 1
theorem zX{l:List T3}{i:Nat}(h:i<l.length):aV l.reverse i=aV l (l.length - 1 - i):=by
 rw[kd (by simpa using h),kd (by omega)]
 simp
theorem wo{l:List T3}{j:Nat}(hj:j<l.length):aV l.reverse j=aV l (eb l.length j+1)∧aV l.reverse (j+1)=aV l (eb l.length j):=by
 have e2:aV l.reverse (j+1)=aV l.reverse ((j+1) % l.length):=by
  have:=eW l.reverse (j+1)
  rw[List.length_reverse]at this
  exact this.symm
 rw[e2,zX hj,zX (Nat.mod_lt _ (by omega)),ko hj]
 unfold eb
 by_cases h:j+1<l.length
 ·rw[if_pos h,if_pos h]
  exact⟨by congr 1;omega,by congr 1;omega⟩
 ·rw[if_neg h,if_neg h]
  refine⟨?_,by congr 1⟩
  rw[show l.length - 1 - j=0 by omega,show l.length - 1+1=l.length by omega]
  have:=eW l l.length
  rw[Nat.mod_self]at this
  exact this
theorem BK{n j:Nat}(h: 3≤n)(hj:j<n):eb n j<n:=by unfold eb;split<;>omega
theorem N7{n j k:Nat}(h: 3≤n)(hj:j<n)(hk:k<n)(e:j≠k):eb n j≠eb n k:=by unfold eb;split<;>split<;>omega
theorem CG{n j k:Nat}(h: 3≤n)(hj:j<n)(hk:k<n):(eb n j+1) % n=eb n k↔(k+1) % n=j:=by
 rw[ko (BK h hj),ko hk]
 unfold eb
 (repeat' split)<;>omega
theorem uH{n j k:Nat}(h: 3≤n)(hj:j<n)(hk:k<n)(e:(j+1) % n=k):¬(k+1) % n=j:=by
 rw[ko hj]at e;rw[ko hk]
 split at e<;>split<;>omega
theorem uI{l:List T3}(low:∀p∈l,aB p)(S:Simp l):Simp l.reverse:=by
 refine⟨by simpa using S.qy,(List.reverse_perm l).nodup_iff.mpr S.nd,fun j k hj hk j5=>?_⟩
 have h3:=S.qy
 rw[List.length_reverse]at hj hk
 have lw:∀i,aB (aV l i):=fun i=>low _ (iM (by omega) i)
 have RB:=BK h3 hj
 have RC:=BK h3 hk
 have a1:=S.ap (eb l.length j) (eb l.length k) RB RC (N7 h3 hj hk j5)
 obtain⟨b1,b2⟩:=wo hj
 obtain⟨b3,b4⟩:=wo hk
 have n1:=eH S.nd (by omega) RB
 have n2:=eH S.nd (by omega) RC
 unfold fm lG at a1 ⊢
 rw[b1,b2,b3,b4,zT (lw _) (lw _) (lw _) (lw _) n1,Ef (lw _) (lw _) (lw _) (lw _) n1 n2,a1,List.length_reverse]
 have c1:=CG h3 hj hk
 have c2:=CG h3 hk hj
 by_cases g1:(j+1) % l.length=k
 ·have g2:¬(k+1) % l.length=j:=uH h3 hj hk g1
  rw[if_neg (fun z=>g2 (c1.mp z)),if_pos (c2.mpr g1),if_pos g1]
  rw[←c2.mpr g1,eW]
 ·rw[if_neg g1]
  by_cases g2:(k+1) % l.length=j
  ·rw[if_pos (c1.mpr g2),if_pos g2,←c1.mpr g2,eW]
  ·rw[if_neg (fun z=>g2 (c1.mp z)),if_neg (fun z=>g1 (c2.mp z)),if_neg g2]
theorem Em{l:List T3}(low:∀p∈l,aB p):Simp l.reverse↔Simp l:=by
 refine⟨fun S=>?_,uI low⟩
 have:=uI (l:=l.reverse) (fun p hp=>low p (by simpa using hp)) S
 rwa[List.reverse_reverse]at this
end My
namespace My
theorem Hz{p a b:T3}(h:mK p a b=true):aI a b p=0:=by
 unfold mK A6 at h
 unfold aI
 split at h
 ·assumption
 ·cases h
theorem En{l r:T3×T3}{p:T3}(l1:aB l.1)(l2:aB l.2)(r1:aB r.1)(r2:aB r.2)(hp:aB p)(h1:le l.1 p)(h2:le p l.2)(h3:le r.1 p)(h4:le p r.2):g9 l r≠.none:=by
 unfold g9
 dsimp only
 have a1:aB (if bj l.1 r.1=true then r.1 else l.1)∧le (if bj l.1 r.1=true then r.1 else l.1) p:=by split;exact⟨r1,h3⟩;exact⟨l1,h1⟩
 have a2:aB (if bj l.2 r.2=true then l.2 else r.2)∧le p (if bj l.2 r.2=true then l.2 else r.2):=by split;exact⟨l2,h2⟩;exact⟨r2,h4⟩
 generalize (if bj l.1 r.1=true then r.1 else l.1)=u at*
 generalize (if bj l.2 r.2=true then l.2 else r.2)=v at*
 have a3:bj v u=false:=le_trans a1.1 hp a2.1 a1.2 a2.2
 rcases lE a1.1 a2.1 with h|h|h
 ·by_cases g:u=v
  ·rw[if_pos g];exact nofun
  ·rw[if_neg g,if_pos h];exact nofun
 ·rw[if_pos h];exact nofun
 ·rw[a3]at h;cases h
theorem zY{a b c d p:T3}(ha:aB a)(hb:aB b)(hc:aB c)(hd:aB d)(hp:aB p)(z1:aI a b c=0∨aI a b d=0)(z2:aI c d a=0∨aI c d b=0)(o1:mK p a b=true)(o2:mK p c d=true):cm a b c d≠.none:=by
 unfold cm
 split
 ·obtain⟨f1,f2⟩:=gN ha hb
  obtain⟨f3,f4⟩:=gN hc hd
  obtain⟨g1,g2⟩:=(jO (Hz o1)).mp o1
  obtain⟨g3,g4⟩:=(jO (Hz o2)).mp o2
  exact En f1 f2 f3 f4 hp g1 g2 g3 g4
 ·have e1:sgn (aI a b c)*sgn (aI a b d)=0:=by
   rcases z1 with z|z<;>rw[z]<;>simp[sgn]
  have e2:sgn (aI c d a)*sgn (aI c d b)=0:=by
   rcases z2 with z|z<;>rw[z]<;>simp[sgn]
  rw[e1,e2,if_neg (by simp)]
  simp
theorem zZ{a b c d p q:T3}(h:cm a b c d= .eG p q):p≠q:=by
 unfold cm at h
 split at h
 ·unfold g9 at h
  dsimp only at h
  generalize (if bj (fw a b).1 (fw c d).1=true then(fw c d).1 else(fw a b).1)=u at*
  generalize (if bj (fw a b).2 (fw c d).2=true then(fw a b).2 else(fw c d).2)=v at*
  split at h
  ·cases h
  ·rename_i g
   split at h
   ·cases h;exact g
   ·cases h
 ·split at h<;>cases h
theorem z_{a b c d z:T3}(ha:aB a)(hb:aB b)(hc:aB c)(hd:aB d)(h1:a≠b)(h2:c≠d)(hs:cm a b c d≠.none)(u:∀p,Told a b c d p→p=z):cm a b c d= .dm z:=by
 obtain⟨t1,t2⟩:=zU ha hb hc hd h1 h2
 cases e:cm a b c d with
 |none=>exact absurd e hs
 |dm p=>rw[u p (t1 p e)]
 |eG p q=>
  obtain⟨x,y⟩:=t2 p q e
  exact absurd ((u p x).trans (u q y).symm) (zZ e)
theorem HA{a b c d:T3}(ha:aB a)(hb:aB b)(hc:aB c)(hd:aB d)(h1:a≠b)(h2:c≠d)(u:∀p,¬Told a b c d p):cm a b c d= .none:=by
 obtain⟨t1,t2⟩:=zU ha hb hc hd h1 h2
 cases e:cm a b c d with
 |none=>rfl
 |dm p=>exact absurd (t1 p e) (u p)
 |eG p q=>exact absurd (t2 p q e).1 (u p)
theorem sF{a b:T3}(ha:aB a)(hb:aB b):mK a a b=true∧mK b a b=true:=by
 unfold mK
 rw[pB ha.pos ha.pos hb.pos,pB hb.pos ha.pos hb.pos,lD,lD]
 have z:∀p:T3,dQ p p=(0,0):=fun p=>by unfold dQ;simp
 rw[z,z]
 unfold aF
 simp
def qv(x y:Int)(p:T3):P2:=(p.1 - x*p.2.2,p.2.1 - y*p.2.2)
def dH(u v:P2):Int:=u.1*v.1+u.2*v.2
theorem CH(x y:Int)(p a:T3):dQ p a=(p.2.2*(qv x y a).1 - a.2.2*(qv x y p).1,p.2.2*(qv x y a).2 - a.2.2*(qv x y p).2):=by
 unfold dQ qv
 refine Prod.ext ?_ ?_
 ·dsimp only;grind
 ·dsimp only;grind
theorem KD(x:Int): 0≤x*x:=by
 rcases Int.le_total 0 x with h|h
 ·exact Int.mul_nonneg h h
 ·exact Int.mul_nonneg_of_nonpos_of_nonpos h h
theorem RF{x:Int}(h:x*x=0):x=0:=by
 rcases Int.mul_eq_zero.mp h with z|z<;>exact z
theorem Uq{w k X m Y:Int}(h:k*(w*X)=m*(-(w*Y))):w*(k*X)=w*((-m)*Y):=by grind
theorem Ur{w k X m Y:Int}(h:k*(-(w*Y))=m*(w*X)):w*(k*Y)=w*((-m)*X):=by grind
theorem RG{u:P2}(h:dH u u=0):u.1=0∧u.2=0:=by
 unfold dH at h
 have h1: 0≤u.1*u.1:=KD u.1
 have h2: 0≤u.2*u.2:=KD u.2
 exact⟨RF (by omega),RF (by omega)⟩
theorem Eg(u:P2): 0≤dH u u:=by
 unfold dH
 have h1: 0≤u.1*u.1:=KD u.1
 have h2: 0≤u.2*u.2:=KD u.2
 omega
theorem L1(u v q:P2)(h:aF u v=0):dH v v*aF u q=dH u v*aF v q:=by
 unfold aF at h
 unfold dH aF
 grind
theorem Aa{p b:T3}(hp:aB p)(hb:aB b)(h1:(dQ p b).1=0)(h2:(dQ p b).2=0):p=b:=by
 unfold dQ at h1 h2
 dsimp only at h1 h2
 obtain⟨e1,e2,e3⟩:=gX hp hb (by omega) (by omega)
 exact Prod.ext e1 (Prod.ext e2 e3)
theorem seg{x y:Int}{a b p:T3}(ha:aB a)(hb:aB b)(hp:aB p)(h:mK p a b=true)(hc: 0<aF (qv x y a) (qv x y b)):
  0≤aF (qv x y a) (qv x y p)∧0≤aF (qv x y p) (qv x y b)∧(aF (qv x y a) (qv x y p)≠0∨aF (qv x y p) (qv x y b)≠0)∧(aF (qv x y p) (qv x y b)=0→p=b):=by
 unfold mK at h
 rw[pB hp.pos ha.pos hb.pos,lD]at h
 obtain⟨c0,d1,d2⟩:=h
 have lb:=fun z1 z2=>Aa hp hb z1 z2
 have la:=fun z1 z2=>Aa hp ha z1 z2
 have pa:=ha.pos;have pb:=hb.pos;have pp:=hp.pos
 have eu:=CH x y p a
 have ev:=CH x y p b
 generalize dQ p a=u at*
 generalize dQ p b=v at*
 generalize qv x y a=A at*
 generalize qv x y b=B at*
 generalize qv x y p=q at*
 have u1:u.1=p.2.2*A.1 - a.2.2*q.1:=by rw[eu]
 have u2:u.2=p.2.2*A.2 - a.2.2*q.2:=by rw[eu]
 have v1:v.1=p.2.2*B.1 - b.2.2*q.1:=by rw[ev]
 have v2:v.2=p.2.2*B.2 - b.2.2*q.2:=by rw[ev]
 have dn: 0≤- dH u v:=by unfold dH;omega
 have f1:=L1 u v q c0
 have RH:aF v u=0:=by rw[wg];omega
 have f2:=L1 v u q RH
 have e1:aF u q=p.2.2*aF A q:=by unfold aF;rw[u1,u2];grind
 have e2:aF v q= - (p.2.2*aF q B):=by unfold aF;rw[v1,v2];grind
 have e3:p.2.2*(p.2.2*aF A B)=p.2.2*(b.2.2*aF A q+a.2.2*aF q B):=by
  have:aF u v=p.2.2*(p.2.2*aF A B) - p.2.2*(b.2.2*aF A q+a.2.2*aF q B):=by unfold aF;rw[u1,u2,v1,v2];grind
  omega
 have e4:=Int.eq_of_mul_eq_mul_left (by omega) e3
 have e5: 0<p.2.2*aF A B:=Int.mul_pos pp hc
 have sv:=Eg v
 have su:=Eg u
 have zv:=@RG v
 have zu:=@RG u
 have dv:dH v u=dH u v:=by unfold dH;grind
 rw[dv]at f2
 rw[e1,e2]at f1 f2
 have g1:dH v v*aF A q=(- dH u v)*aF q B:=Int.eq_of_mul_eq_mul_left (a:=p.2.2) (by omega) (Uq f1)
 have g2:dH u u*aF q B=(- dH u v)*aF A q:=Int.eq_of_mul_eq_mul_left (a:=p.2.2) (by omega) (Ur f2)
 clear f1 f2 e3 eu ev u1 u2 v1 v2 c0 RH d1 d2 dv
 generalize - dH u v=dd at*
 have kB:v.1=0→v.2=0→aF v q=0:=fun z1 z2=>by unfold aF;rw[z1,z2];simp
 have kA:u.1=0→u.2=0→aF u q=0:=fun z1 z2=>by unfold aF;rw[z1,z2];simp
 generalize aF A q=X at*
 generalize aF q B=Y at*
 have hX: 0≤X:=by
  refine Int.not_lt.mp fun hx=>?_
  have m1:b.2.2*X<0:=Int.mul_neg_of_pos_of_neg pb hx
  have m2: 0<a.2.2*Y:=by omega
  have hy: 0<Y:=Int.pos_of_mul_pos_right m2 pa
  have m3: 0≤dd*Y:=Int.mul_nonneg dn (by omega)
  have m4:dH v v=0:=by
   refine Classical.byContradiction fun hn=>?_
   have:=Int.mul_neg_of_pos_of_neg (show 0<dH v v by omega) hx
   omega
  have m5:=kB (zv m4).1 (zv m4).2
  have:=Int.mul_pos pp hy
  omega
 have hY: 0≤Y:=by
  refine Int.not_lt.mp fun hx=>?_
  have m1:a.2.2*Y<0:=Int.mul_neg_of_pos_of_neg pa hx
  have m2: 0<b.2.2*X:=by omega
  have hy: 0<X:=Int.pos_of_mul_pos_right m2 pb
  have m3: 0≤dd*X:=Int.mul_nonneg dn (by omega)
  have m4:dH u u=0:=by
   refine Classical.byContradiction fun hn=>?_
   have:=Int.mul_neg_of_pos_of_neg (show 0<dH u u by omega) hx
   omega
  have m5:=kA (zu m4).1 (zu m4).2
  have:=Int.mul_pos pp hy
  omega
 refine⟨hX,hY,?_,fun hz=>?_⟩
 ·by_cases z:X=0
  ·refine .inr fun z2=>?_
   rw[z,z2]at e4
   simp at e4
   omega
  ·exact .inl z
 ·rw[hz]at g1 e4
  have hx:X≠0:=fun z=>by rw[z]at e4;simp at e4;omega
  have:dH v v=0:=by
   rcases Int.mul_eq_zero.mp (show dH v v*X=0 by rw[g1];simp)with z|z
   ·exact z
   ·exact absurd z hx
  exact lb (zv this).1 (zv this).2
theorem sG{a b c d q:P2}(jt: 0<aF c d)(w2: 0≤aF q b)(w3: 0≤aF c q)(w4: 0≤aF q d)(nz:aF c q≠0∨aF q d≠0)(bc: 0≤aF b c)(bd: 0≤aF b d):
  aF q b=0∧(0<aF b c→aF b d=0∧aF q d=0∧0<aF c q):=by
 have e:aF c d*aF q b= - (aF q d*aF b c+aF c q*aF b d):=by unfold aF;grind
 have m1:=Int.mul_nonneg (Int.le_of_lt jt) w2
 have m2:=Int.mul_nonneg w4 bc
 have m3:=Int.mul_nonneg w3 bd
 have z1:aF q d*aF b c=0:=by omega
 have z2:aF c q*aF b d=0:=by omega
 refine⟨?_,fun h=>?_⟩
 ·rcases Int.mul_eq_zero.mp (show aF c d*aF q b=0 by omega)with z|z
  ·omega
  ·exact z
 ·have y1:aF q d=0:=by
   rcases Int.mul_eq_zero.mp z1 with z|z
   ·exact z
   ·omega
  have y2:aF c q≠0:=fun z=>nz.elim (fun n=>n z) (fun n=>n y1)
  refine⟨?_,y1,by omega⟩
  rcases Int.mul_eq_zero.mp z2 with z|z
  ·exact absurd z y2
  ·exact z
theorem KG{a c d q:P2}(jt: 0<aF c d)(w1: 0≤aF a q)(y:aF q d=0)(cq: 0<aF c q)(ad:aF a d<0):False:=by
 have e:aF c d*aF a q=aF q d*aF a c+aF c q*aF a d:=by unfold aF;grind
 rw[y]at e
 have m1:=Int.mul_nonneg (Int.le_of_lt jt) w1
 have m2:=Int.mul_neg_of_pos_of_neg cq ad
 omega
end My
namespace My
def cK:List P2:=[(4,0),(7,1),(3,1),(1,1),(2,3),(1,4),(0,5),(-1,6),(-1,3),(-1,1),(-3,2),(-5,1),(-4,0),(-4,-1),(-3,-2),(-1,-1),(-1,-4),(0,-5),(1,-3),(2,-3),(2,-2),(3,-1),(5,-1),(9,-1)]
def V(i:Nat):P2:=cK.getD (i % 24) (0,0)
theorem ei{n:Nat}{f:Nat→Bool}(h:(List.range n).all f=true){i:Nat}(hi:i<n):f i=true:=List.all_eq_true.mp h i (List.mem_range.mpr hi)
theorem W1{a b:Nat}(h1:a<b)(h2:b≤a+8)(ha:a<24): 0<aF (V a) (V b):=by
 have:(List.range 24).all (fun a=>(List.range 8).all fun k=>decide (0<aF (V a) (V (a+k+1))))=true:=by decide +kernel
 have:=of_decide_eq_true (ei (ei this ha) (show b - a - 1<8 by omega))
 rwa[show a+(b - a - 1)+1=b by omega]at this
theorem W2{b c d:Nat}(h0: 0<b)(h1:b<c)(h2:c<d)(h3:d≤24)(h: 0≤aF (V b) (V d)): 0<aF (V b) (V c):=by
 have:(List.range 25).all (fun b=>(List.range 25).all fun c=>(List.range 25).all fun d=>!(decide (0<b)&&decide (b<c)&&decide (c<d)&&decide (0≤aF (V b) (V d)))||decide (0<aF (V b) (V c)))=true:=by decide +kernel
 have:=ei (ei (ei this (show b<25 by omega)) (show c<25 by omega)) (show d<25 by omega)
 simpa[h0,h1,h2,h]using this
theorem W3{a b d:Nat}(h1:a<b)(h2:b<d)(h3:d≤24)(h:aF (V b) (V d)<0): 0<aF (V d) (V a)∨(a=0∧d=24):=by
 have:(List.range 25).all (fun a=>(List.range 25).all fun b=>(List.range 25).all fun d=>!(decide (a<b)&&decide (b<d)&&decide (aF (V b) (V d)<0))||(decide (0<aF (V d) (V a))||(decide (a=0)&&decide (d=24))))=true:=by decide +kernel
 have:=ei (ei (ei this (show a<25 by omega)) (show b<25 by omega)) (show d<25 by omega)
 simpa[h1,h2,h]using this
theorem W4{a b d:Nat}(h1:a<b)(h2:b<d)(h3:d≤24)(h4:b≤a+8)(h:aF (V b) (V d)=0):aF (V a) (V d)<0:=by
 have:(List.range 25).all (fun a=>(List.range 25).all fun b=>(List.range 25).all fun d=>!(decide (a<b)&&decide (b<d)&&decide (b≤a+8)&&decide (aF (V b) (V d)=0))||decide (aF (V a) (V d)<0))=true:=by decide +kernel
 have:=ei (ei (ei this (show a<25 by omega)) (show b<25 by omega)) (show d<25 by omega)
 simpa[h1,h2,h4,h]using this
theorem W5{a c:Nat}(h1:a<c)(h2:c<24):aF (V a) (V c)≠0∨dH (V a) (V c)<0:=by
 have:(List.range 24).all (fun a=>(List.range 24).all fun c=>!(decide (a<c))||(decide (aF (V a) (V c)≠0)||decide (dH (V a) (V c)<0)))=true:=by decide +kernel
 have:=ei (ei this (show a<24 by omega)) h2
 simpa[h1]using this
structure fK(x y:Int)(K:List Nat)(l:List T3):Prop where
 len:l.length=K.length
 ks:K.Sublist (List.range 24)
 k0: 0∈K
 k8: 8∈K
 RI: 16∈K
 low:∀p∈l,aB p
 at_:∀(m:Nat) p k,l[m]? =some p→K[m]? =some k→∃g f:Int,0<g∧0<f∧g*(qv x y p).1=f*(V k).1∧g*(qv x y p).2=f*(V k).2
def kx(K:List Nat)(m:Nat):Nat:=K.getD m 24
section
variable{x y:Int}{K:List Nat}{l:List T3}(S:fK x y K l)
include S
theorem fK.uo:K.Pairwise (·< ·):=List.pairwise_lt_range.sublist S.ks
theorem fK.lt{k:Nat}(h:k∈K):k<24:=List.mem_range.mp (S.ks.subset h)
theorem fK.ke{m:Nat}(h:m<K.length):kx K m<24∧kx K m∈K∧K[m]? =some (kx K m):=by
 have e:kx K m=K[m]:=by unfold kx;simp[h]
 have hm:K[m]∈K:=List.getElem_mem h
 rw[e]
 exact⟨S.lt hm,hm,List.getElem?_eq_getElem h⟩
theorem fK.xJ{m:Nat}(h:K.length≤m):kx K m=24:=by unfold kx;simp[List.getElem?_eq_none h]
theorem fK.mono{m m':Nat}(h:m<m')(h':m'≤K.length):kx K m<kx K m':=by
 by_cases c:m'<K.length
 ·have e:kx K m=K[m]:=by unfold kx;simp[show m<K.length by omega]
  have e':kx K m'=K[m']:=by unfold kx;simp[c]
  rw[e,e']
  exact List.pairwise_iff_getElem.mp S.uo m m' (by omega) c h
 ·rw[S.xJ (show K.length≤m' by omega)]
  exact(S.ke (show m<K.length by omega)).1
theorem fK.xK{m m':Nat}(h:m≤m')(h':m'≤K.length):kx K m≤kx K m':=by
 rcases Nat.lt_or_eq_of_le h with c|c
 ·exact Nat.le_of_lt (S.mono c h')
 ·rw[c];exact Nat.le_refl _
theorem fK.idx{k:Nat}(h:k∈K):∃m,m<K.length∧kx K m=k:=by
 obtain⟨m,hm⟩:=List.getElem?_of_mem h
 refine⟨m,(List.getElem?_eq_some_iff.mp hm).1,?_⟩
 unfold kx
 rw[List.getD_eq_getElem?_getD,hm];rfl
theorem fK.gap{k m:Nat}(h:k∈K)(hm:m<K.length):k≤kx K m∨kx K (m+1)≤k:=by
 obtain⟨i,hi,rfl⟩:=S.idx h
 by_cases c:i≤m
 ·exact .inl (S.xK c (by omega))
 ·exact .inr (S.xK (by omega) (by omega))
theorem fK.step{m:Nat}(hm:m<K.length):kx K m<kx K (m+1)∧kx K (m+1)≤kx K m+8∧kx K (m+1)≤24:=by
 have h1:=S.mono (Nat.lt_succ_self m) (show m+1≤K.length by omega)
 have h2:kx K (m+1)≤24:=by
  by_cases c:m+1<K.length
  ·have:=(S.ke c).1;omega
  ·rw[S.xJ (by omega)];exact Nat.le_refl _
 have g1:=S.gap S.k8 hm
 have g2:=S.gap S.RI hm
 exact⟨h1,by omega,h2⟩
theorem fK.zero:kx K 0=0:=by
 obtain⟨i,hi,e⟩:=S.idx S.k0
 have:=S.xK (Nat.zero_le i) (by omega)
 omega
theorem fK.qy: 3≤K.length:=by
 obtain⟨i,hi,e1⟩:=S.idx S.k0
 obtain⟨j,hj,e2⟩:=S.idx S.k8
 obtain⟨k,hk,e3⟩:=S.idx S.RI
 have a1:i≠j:=fun z=>by rw[z]at e1;omega
 have a2:i≠k:=fun z=>by rw[z]at e1;omega
 have a3:j≠k:=fun z=>by rw[z]at e2;omega
 omega
theorem fK.dir{m:Nat}(hm:m≤K.length):∃g f:Int,0<g∧0<f∧g*(qv x y (aV l m)).1=f*(V (kx K m)).1∧g*(qv x y (aV l m)).2=f*(V (kx K m)).2:=by
 have h3:=S.qy
 have hl:=S.len
 rcases Nat.lt_or_eq_of_le hm with c|c
 ·exact S.at_ m _ _ (lH (by omega)) (S.ke c).2.2
 ·have e1:aV l m=aV l 0:=by
   have:=eW l m
   rw[hl,c,Nat.mod_self]at this
   rw[c];exact this.symm
  have e2:V (kx K m)=V (kx K 0):=by rw[S.xJ (by omega),S.zero];rfl
  rw[e1,e2]
  exact S.at_ 0 _ _ (lH (by omega)) (S.ke (by omega)).2.2
theorem fK.cL(m:Nat):aB (aV l m):=S.low _ (iM (by have:=S.qy;have:=S.len;omega) m)
omit S in
theorem pC{g f:Int}{q u v:P2}(hg: 0<g)(hf: 0<f)(e1:g*q.1=f*v.1)(e2:g*q.2=f*v.2):(0≤aF q u↔0≤aF v u)∧(aF q u=0↔aF v u=0)∧(0<aF q u↔0<aF v u):=by
 have e:g*aF q u=f*aF v u:=by
  unfold aF
  have a1:g*(q.1*u.2 - q.2*u.1)=(g*q.1)*u.2 - (g*q.2)*u.1:=by grind
  rw[a1,e1,e2];grind
 generalize aF q u=X at*
 generalize aF v u=Y at*
 have s1: 0<X→0<g*X:=fun h=>Int.mul_pos hg h
 have s2:X<0→g*X<0:=fun h=>Int.mul_neg_of_pos_of_neg hg h
 have s3: 0<Y→0<f*Y:=fun h=>Int.mul_pos hf h
 have s4:Y<0→f*Y<0:=fun h=>Int.mul_neg_of_pos_of_neg hf h
 have s5:X=0→g*X=0:=fun h=>by rw[h];simp
 have s6:Y=0→f*Y=0:=fun h=>by rw[h];simp
 omega
omit S in
theorem qF{g f:Int}{q u v:P2}(hg: 0<g)(hf: 0<f)(e1:g*q.1=f*v.1)(e2:g*q.2=f*v.2):(0≤aF u q↔0≤aF u v)∧(aF u q=0↔aF u v=0)∧(0<aF u q↔0<aF u v):=by
 obtain⟨h1,h2,h3⟩:=pC (u:=(-u.1,-u.2)) hg hf e1 e2
 have e:∀z:P2,aF z (-u.1,-u.2)=aF u z:=fun z=>by unfold aF;grind
 rw[e,e]at h1 h2 h3
 exact⟨h1,h2,h3⟩
theorem fK.seg{m:Nat}(hm:m<K.length){p:T3}(hp:aB p)(h:mK p (aV l m) (aV l (m+1))=true):
  0≤aF (V (kx K m)) (qv x y p)∧0≤aF (qv x y p) (V (kx K (m+1)))∧(aF (V (kx K m)) (qv x y p)≠0∨aF (qv x y p) (V (kx K (m+1)))≠0)∧(aF (qv x y p) (V (kx K (m+1)))=0→p=aV l (m+1)):=by
 obtain⟨g,f,hg,hf,e1,e2⟩:=S.dir (Nat.le_of_lt hm)
 obtain⟨g',f',HB,ur,HC,oN⟩:=S.dir (show m+1≤K.length by omega)
 obtain⟨s1,s2,s3⟩:=S.step hm
 have t:=W1 s1 s2 (S.ke hm).1
 have c1: 0<aF (qv x y (aV l m)) (qv x y (aV l (m+1))):=(pC hg hf e1 e2).2.2.mpr ((qF HB ur HC oN).2.2.mpr t)
 obtain⟨r1,r2,r3,r4⟩:=My.seg (S.cL m) (S.cL (m+1)) hp h c1
 have d1:=pC (u:=qv x y p) hg hf e1 e2
 have d2:=qF (u:=qv x y p) HB ur HC oN
 refine⟨d1.1.mp r1,d2.1.mp r2,?_,fun z=>r4 (d2.2.1.mpr z)⟩
 rcases r3 with z|z
 ·exact .inl fun w=>z (d1.2.1.mpr w)
 ·exact .inr fun w=>z (d2.2.1.mpr w)
theorem fK.two{m m':Nat}(h:m<m')(h':m'<K.length){p:T3}(T:Told (aV l m) (aV l (m+1)) (aV l m') (aV l (m'+1)) p):
  (m'=m+1∧p=aV l m')∨(m=0∧m'+1=K.length∧p=aV l 0):=by
 obtain⟨hp,o1,o2⟩:=T
 obtain⟨a1,a2,a3,a4⟩:=S.seg (show m<K.length by omega) hp o1
 obtain⟨b1,b2,b3,b4⟩:=S.seg h' hp o2
 obtain⟨s1,s2,s3⟩:=S.step (show m<K.length by omega)
 obtain⟨t1,t2,t3⟩:=S.step h'
 have jt:=W1 t1 t2 (S.ke h').1
 have nI:=W1 s1 s2 (S.ke (show m<K.length by omega)).1
 have Wk:=S.xK (show m+1≤m' by omega) (show m'≤K.length by omega)
 by_cases bd: 0≤aF (V (kx K (m+1))) (V (kx K (m'+1)))
 ·by_cases e:m'=m+1
  ·left
   refine⟨e,?_⟩
   subst e
   have:=sG (a:=V (kx K m)) jt a2 b1 b2 b3 (show 0≤aF (V (kx K (m+1))) (V (kx K (m+1)))by unfold aF;grind) bd
   exact a4 this.1
  ·exfalso
   have eQ:=S.mono (show m+1<m' by omega) (show m'≤K.length by omega)
   have t:=W2 (by omega) eQ t1 t3 bd
   obtain⟨_,w⟩:=sG (a:=V (kx K m)) jt a2 b1 b2 b3 (Int.le_of_lt t) bd
   obtain⟨w1,w2,w3⟩:=w t
   exact KG jt a1 w2 w3 (W4 s1 (by omega) t3 s2 w1)
 ·have Ut:aF (V (kx K (m+1))) (V (kx K (m'+1)))<0:=by omega
  have db: 0<aF (V (kx K (m'+1))) (V (kx K (m+1))):=by rw[wg];omega
  rcases W3 s1 (by omega) t3 Ut with t|⟨z1,z2⟩
  ·exfalso
   obtain⟨_,w⟩:=sG (a:=V (kx K m')) nI b2 a1 a2 a3 (Int.le_of_lt t) (Int.le_of_lt db)
   have:=(w t).1
   omega
  ·have m0:m=0:=by
    refine Classical.byContradiction fun c=>?_
    have:=S.mono (show 0<m by omega) (show m≤K.length by omega)
    omega
   have m1:m'+1=K.length:=by
    refine Classical.byContradiction fun c=>?_
    have:=(S.ke (show m'+1<K.length by omega)).1
    omega
   right
   refine⟨m0,m1,?_⟩
   have ez:V (kx K (m'+1))=V (kx K m):=by rw[z1,z2];rfl
   have w:=(sG (a:=V (kx K m')) nI b2 a1 a2 a3 (by rw[ez];unfold aF;grind) (Int.le_of_lt db)).1
   rw[b4 w]
   have:=eW l (m'+1)
   rw[S.len,m1,Nat.mod_self]at this
   rw[m1];exact this.symm
theorem fK.ne{m m':Nat}(h:m<m')(h':m'<K.length):aV l m≠aV l m':=by
 intro e
 obtain⟨g,f,hg,hf,e1,e2⟩:=S.dir (show m≤K.length by omega)
 obtain⟨g',f',HB,ur,HC,oN⟩:=S.dir (Nat.le_of_lt h')
 rw[e]at e1 e2
 have t:=W5 (S.mono h (Nat.le_of_lt h')) (S.ke h').1
 generalize V (kx K m)=u at*
 generalize V (kx K m')=v at*
 generalize qv x y (aV l m')=q at*
 have c1:aF u v=0:=by
  have a1:=(pC (u:=v) hg hf e1 e2).2.1
  have a2:=(qF (u:=q) HB ur HC oN).2.1
  exact a1.mp (a2.mp (by unfold aF;grind))
 rcases t with t|t
 ·exact t c1
 ·have k:(f*f')*dH u v=(g*g')*dH q q:=by
   unfold dH
   have:(f*f')*(u.1*v.1+u.2*v.2)=(f*u.1)*(f'*v.1)+(f*u.2)*(f'*v.2):=by grind
   rw[this,←e1,←e2,←HC,←oN];grind
  have p1:=Int.mul_neg_of_pos_of_neg (Int.mul_pos hf ur) t
  have p2:=Int.mul_nonneg (Int.le_of_lt (Int.mul_pos hg HB)) (Eg q)
  omega
theorem fK.nodup:l.Nodup:=by
 rw[List.nodup_iff_pairwise_ne,List.pairwise_iff_getElem]
 intro i j hi hj nK
 have:=S.ne nK (by rw[←S.len];exact hj)
 rwa[kd hi,kd hj]at this
theorem fK.simp:Simp l:=by
 have h3:=S.qy
 have hl:=S.len
 have nd:=S.nodup
 have key:∀j k,j<k→k<l.length→fm l j k=lG l j k:=fun j k j5 hk=>by
  have hj:j<l.length:=by omega
  have n1:=eH nd (by omega) hj
  have n2:=eH nd (by omega) hk
  unfold fm lG
  rw[ko hj,ko hk]
  by_cases g1:k=j+1
  ·subst g1
   rw[if_pos (by rw[if_pos (by omega)])]
   refine z_ (S.cL _) (S.cL _) (S.cL _) (S.cL _) n1 n2 (zY (p:=aV l (j+1)) (S.cL _) (S.cL _) (S.cL _) (S.cL _) (S.cL _) (.inl (xH ..)) (.inr (xG ..)) (sF (S.cL _) (S.cL _)).2 (sF (S.cL _) (S.cL _)).1) fun p T=>?_
   rcases S.two j5 (by omega) T with⟨_,e⟩|⟨e1,e2,_⟩
   ·exact e
   ·omega
  ·rw[if_neg (by rw[if_pos (by omega)];omega)]
   by_cases g2:j=0∧k+1=l.length
   ·obtain⟨rfl,g2⟩:=g2
    rw[if_pos (by rw[if_neg (by omega)])]
    have e0:aV l (k+1)=aV l 0:=by
     have:=eW l (k+1)
     rw[g2,Nat.mod_self]at this
     rw[g2];exact this.symm
    rw[e0]at n2 ⊢
    refine z_ (S.cL _) (S.cL _) (S.cL _) (S.cL _) n1 n2 (zY (p:=aV l 0) (S.cL _) (S.cL _) (S.cL _) (S.cL _) (S.cL _) (.inr (xG ..)) (.inl (xH ..)) (sF (S.cL _) (S.cL _)).1 (sF (S.cL _) (S.cL _)).2) fun p T=>?_
    have T:Told (aV l 0) (aV l (0+1)) (aV l k) (aV l (k+1)) p:=by rw[e0];exact T
    rcases S.two j5 (by omega) T with⟨e,_⟩|⟨_,_,e⟩
    ·omega
    ·exact e
   ·rw[if_neg (by split<;>omega)]
    refine HA (S.cL _) (S.cL _) (S.cL _) (S.cL _) n1 n2 fun p T=>?_
    rcases S.two j5 (by omega) T with⟨e,_⟩|⟨e1,e2,_⟩
    ·exact g1 e
    ·exact g2 ⟨e1,by omega⟩
 refine⟨by omega,nd,fun j k hj hk gH=>?_⟩
 rcases Nat.lt_or_gt_of_ne gH with c|c
 ·exact key j k c hk
 ·have:=key k j c hj
  unfold fm lG at this ⊢
  rw[lF (S.cL _) (S.cL _) (S.cL _) (S.cL _) (eH nd (by omega) hk) (eH nd (by omega) hj),this]
  by_cases g:(k+1) % l.length=j
  ·have:=uH (by omega) hk hj g
   rw[if_pos g,if_neg this,if_pos g]
  ·rw[if_neg g,if_neg g]
end
end My
namespace My
theorem pD{l:List T3}{j k:Nat}(h3: 3≤l.length)(j5:j<k)(hk:k<l.length):lG l j k=if j=0∧k+1=l.length then .dm (aV l 0)else if k=j+1 then .dm (aV l k)else .none:=by
 unfold lG
 rw[ko (show j<l.length by omega),ko hk,if_pos (show j+1<l.length by omega)]
 by_cases g1:j+1=k
 ·rw[if_pos g1,if_neg (by omega),if_pos g1.symm]
 ·rw[if_neg g1]
  by_cases g2:j=0∧k+1=l.length
  ·obtain⟨rfl,g2⟩:=g2
   rw[if_pos (by rw[if_neg (by omega)]),if_pos ⟨rfl,g2⟩]
  ·rw[if_neg g2,if_neg (show ¬(if k+1<l.length then k+1 else 0)=j by split<;>omega),if_neg (fun z=>g1 z.symm)]
theorem Ab{l:List T3}(low:∀p∈l,aB p)(h3: 3≤l.length)(nd:l.Nodup)(key:∀j k,j<k→k<l.length→fm l j k=lG l j k):Simp l:=by
 have lw:∀i,aB (aV l i):=fun i=>low _ (iM (by omega) i)
 refine⟨h3,nd,fun j k hj hk gH=>?_⟩
 rcases Nat.lt_or_gt_of_ne gH with c|c
 ·exact key j k c hk
 ·have:=key k j c hj
  unfold fm lG at this ⊢
  rw[lF (lw _) (lw _) (lw _) (lw _) (eH nd (by omega) hk) (eH nd (by omega) hj),this]
  by_cases g:(k+1) % l.length=j
  ·have:=uH (by omega) hk hj g
   rw[if_pos g,if_neg this,if_pos g]
  ·rw[if_neg g,if_neg g]
def pk(n k:Nat):Nat:=if k=0 then n - 1 else k - 1
def KH(l:List T3)(k:Nat):Prop:=fm l (pk l.length k) k= .dm (aV l k)∧∀j,(if k+1=l.length then 1 else 0)≤j→j+1<k→fm l j k= .none
theorem BL{l:List T3}(low:∀p∈l,aB p)(h3: 3≤l.length)(nd:l.Nodup):(∀k,k<l.length→KH l k)↔Simp l:=by
 have lw:∀i,aB (aV l i):=fun i=>low _ (iM (by omega) i)
 constructor
 ·intro h
  refine Ab low h3 nd fun j k j5 hk=>?_
  rw[pD h3 j5 hk]
  obtain⟨a1,a2⟩:=h k hk
  by_cases g2:j=0∧k+1=l.length
  ·rw[if_pos g2]
   obtain⟨rfl,g2⟩:=g2
   have b:=(h 0 (by omega)).1
   unfold pk at b
   rw[if_pos rfl,show l.length - 1=k by omega]at b
   unfold fm at b ⊢
   rw[lF (lw _) (lw _) (lw _) (lw _) (eH nd (by omega) hk) (eH nd (by omega) (by omega))]
   exact b
  ·rw[if_neg g2]
   by_cases g1:k=j+1
   ·rw[if_pos g1]
    unfold pk at a1
    rw[if_neg (by omega),show k - 1=j by omega]at a1
    exact a1
   ·rw[if_neg g1]
    exact a2 j (by split<;>omega) (by omega)
 ·intro S k hk
  refine⟨?_,fun j h1 h2=>?_⟩
  ·unfold pk
   by_cases h0:k=0
   ·subst h0
    rw[if_pos rfl,S.ap _ _ (by omega) hk (by omega)]
    unfold lG
    rw[if_pos (by rw[show l.length - 1+1=l.length by omega];exact Nat.mod_self _)]
   ·rw[if_neg h0,S.ap _ _ (by omega) hk (by omega),pD h3 (by omega) hk,if_neg (by omega),if_pos (by omega)]
  ·rw[S.ap j k (by omega) hk (by omega),pD h3 (by omega) hk,if_neg (by split at h1<;>omega),if_neg (by omega)]
theorem Eo{l:List T3}(low:∀p∈l,aB p)(h3: 3≤l.length)(nd:l.Nodup):(∀k,k<l.length→∀j,j<k→fm l j k=if j=0∧k+1=l.length then .dm (aV l 0)else if k=j+1 then .dm (aV l k)else .none)↔Simp l:=by
 constructor
 ·exact fun h=>Ab low h3 nd fun j k j5 hk=>by rw[pD h3 j5 hk];exact h k hk j j5
 ·exact fun S k hk j j5=>by rw[←pD h3 j5 hk];exact S.ap j k (by omega) hk (by omega)
end My
namespace Qm
open PySem
section
variable{σ:Env}{c c':Cells}{d:D}{i j:Int}{b:Bool}{xs ys:List D}
@[simp] theorem RJ:eC d σ c=some (d,c):=rfl
@[simp] theorem N8{k:Nat}:eV k σ c=(σ[k]?.join).bind fun d=>some (d,c):=rfl
@[simp] theorem Uu{g:G1}{a:XE}:e1 g a σ c=(a σ c).bind fun p=>g p.1 p.2:=rfl
@[simp] theorem RL{g:G2}{a b:XE}:e2 g a b σ c=(a σ c).bind fun p=>(b σ p.2).bind fun q=>g p.1 q.1 q.2:=rfl
@[simp] theorem L3:kT (.bl b)=some b:=rfl
@[simp] theorem RM:tS (.int i)=some i:=rfl
@[simp] theorem N9{a b:XE}:F9 a b σ c=(a σ c).bind fun p=>(kT p.1).bind fun k=>if k=true then b σ p.2 else some (.bl false,p.2):=rfl
@[simp] theorem RN{a b:XE}:S9 a b σ c=(a σ c).bind fun p=>(kT p.1).bind fun k=>if k=true then some (.bl true,p.2)else b σ p.2:=rfl
@[simp] theorem N_{a:XE}:Qs a σ c=(a σ c).bind fun p=>(kT p.1).bind fun k=>some (.bl (!k),p.2):=rfl
@[simp] theorem RO{t:XT}{a b:XE}:rW t a b σ c=(t σ c).bind fun p=>if p.1=true then a σ p.2 else b σ p.2:=rfl
@[simp] theorem Oa:aj σ c=some ([],c):=rfl
@[simp] theorem KI{a:XE}{r:XA}:ag a r σ c=(a σ c).bind fun p=>(r σ p.2).bind fun q=>some (p.1::q.1,q.2):=rfl
@[simp] theorem Ob{a:XA}:aA a σ c=(a σ c).bind fun p=>if p.1.length≤dk then some (.tup p.1,p.2)else none:=rfl
@[simp] theorem Oc{a:XA}:cZ a σ c=(a σ c).bind fun p=>if p.1.length≤dk then some (.ref p.2.length,p.2++[.lst p.1])else none:=rfl
@[simp] theorem KJ{F:FN}{ds:List D}{a:XA}:ar F ds a σ c=(a σ c).bind fun p=>F (p.1++ds) p.2:=rfl
@[simp] theorem Uv{F:FN}{a:XA}:eB F a σ c=(a σ c).bind fun p=>F p.1 p.2:=rfl
@[simp] theorem Uw{g:D→FN}{o:XE}{a:XA}:eM g o a σ c=(o σ c).bind fun p=>(cp p.1 p.2).bind fun _=>(a σ p.2).bind fun q=>g p.1 q.1 q.2:=rfl
@[simp] theorem KL:dC σ c=some (none,c):=rfl
@[simp] theorem RP{g}{a:XE}{lo hi:XO}:ic g a lo hi σ c=(a σ c).bind fun p=>(lo σ p.2).bind fun l=>(hi σ l.2).bind fun h=>g p.1 l.1 h.1 h.2:=rfl
@[simp] theorem Ux{a:XE}:tV a σ c=(a σ c).bind fun p=>(kT p.1).bind fun k=>some (k,p.2):=rfl
@[simp] theorem Od{a b:XT}:ot a b σ c=(a σ c).bind fun p=>if p.1=true then b σ p.2 else some (false,p.2):=rfl
@[simp] theorem RQ{a b:XT}:ku a b σ c=(a σ c).bind fun p=>if p.1=true then some (true,p.2)else b σ p.2:=rfl
@[simp] theorem Oe{a:XT}:km a σ c=(a σ c).bind fun p=>some (!p.1,p.2):=rfl
@[simp] theorem Of:gY σ c=some (true,c):=rfl
@[simp] theorem HD{g h:G2}{a b e:XE}:j6 g h a b e σ c=(a σ c).bind fun p=>(b σ p.2).bind fun q=>(g p.1 q.1 q.2).bind fun z=>(kT z.1).bind fun k=>if k=true then(e σ z.2).bind fun u=>h q.1 u.1 u.2 else some (.bl false,z.2):=rfl
@[simp] theorem Og:br σ c=some (.nx,σ,c):=rfl
@[simp] theorem HE{k:Nat}{e:XE}:az k e σ c=(e σ c).bind fun p=>some (.nx,σ.set k (some p.1),p.2):=rfl
@[simp] theorem Oh{e:XE}{g:XG}:tR e g σ c=(e σ c).bind fun p=>(g p.1 σ p.2).bind fun q=>some (.nx,q.1,q.2):=rfl
@[simp] theorem Oi{is:List Nat}{a:XA}:mQ is a σ c=(a σ c).bind fun p=>if p.1.length=is.length then some (.nx,(is.zip p.1).foldl (fun σ q=>σ.set q.1 (some q.2)) σ,p.2)else none:=rfl
@[simp] theorem RT{t:XT}{a b:XS}:cH t a b σ c=(t σ c).bind fun p=>if p.1=true then a σ p.2 else b σ p.2:=rfl
@[simp] theorem Oj{e:XE}:aT e σ c=(e σ c).bind fun p=>some (.rt p.1,σ,p.2):=rfl
@[simp] theorem KN{e:XE}:nW e σ c=(e σ c).bind fun p=>some (.nx,σ,p.2):=rfl
@[simp] theorem mf{k:Nat}:aD k d σ c=some (σ.set k (some d),c):=rfl
@[simp] theorem Ol:ou [] σ c=some (σ,c):=rfl
@[simp] theorem KO{g:XG}{r:rV}:eS g r (d::xs) σ c=(g d σ c).bind fun p=>r xs p.1 p.2:=rfl
@[simp] theorem Om{n:Nat}{g:rV}:sY n g (.tup xs) σ c=if xs.length=n then g xs σ c else none:=rfl
def sq(b:XS)(p:Fl×Env×Cells):Option (Fl×Env×Cells):=match p.1 with
 |.nx=>b p.2.1 p.2.2
 |_=>some p
@[simp] theorem lJ{a b:XS}:au a b σ c=(a σ c).bind (sq b):=rfl
@[simp] theorem BM{b:XS}:sq b (.nx,σ,c)=b σ c:=rfl
@[simp] theorem Oo{b:XS}:sq b (.rt d,σ,c)=some (.rt d,σ,c):=rfl
def fin(p:Fl×Env×Cells):Option (D×Cells):=match p.1 with
 |.rt d=>some (d,p.2.2)
 |.nx=>some (.bC,p.2.2)
 |_=>none
theorem iN{n N:Nat}{b:XS}{ds:List D}:eF n N b ds c=if ds.length=n then(b (ds.map some++List.replicate (N - n) none) c).bind fin else none:=rfl
@[simp] theorem KP:fin (.rt d,σ,c)=some (d,c):=rfl
@[simp] theorem KQ:fin (.nx,σ,c)=some (.bC,c):=rfl
theorem Ep{f:Int→Int→Option D}:ii f (.int i) (.int j) c=(f i j).bind fun d=>some (d,c):=rfl
@[simp] theorem Oq:a_ (.int i) (.int j) c=some (.int (i - j),c):=rfl
@[simp] theorem HF:aK (.int i) (.int j) c=some (.int (i+j),c):=rfl
@[simp] theorem RU:oO (.int i) (.int j) c=some (.bl (decide (i<j)),c):=rfl
@[simp] theorem RV:vo (.int i) (.int j) c=some (.bl (decide (i≤j)),c):=rfl
@[simp] theorem RW:vp (.int i) (.int j) c=some (.bl (decide (j<i)),c):=rfl
@[simp] theorem RX:S_ (.int i) (.int j) c=some (.bl (decide (j≤i)),c):=rfl
@[simp] theorem Ot:aZ (.int i) c=some (.int (-i),c):=rfl
theorem mulL(h:i.natAbs<2 ^ 64):MulOk i j:=Or.inr (Or.inl ⟨h⟩)
theorem mulR(h:j.natAbs<2 ^ 64):MulOk i j:=Or.inr (Or.inr ⟨h⟩)
theorem wq(h:My.Bd 90000 i)(g:My.Bd 90000 j):MulOk i j:=Or.inl ⟨h,g⟩
theorem qW(h:i.natAbs<2 ^ 64):My.Bd 64 i:=⟨h⟩
theorem bL(h:MulOk i j):aJ (.int i) (.int j) c=some (.int (i*j),c):=by unfold aJ;rw[Ep,if_pos h];rfl
theorem pE(h: 0<j)(hb:My.Bd 8900 j):di (.int i) (.int j) c=some (.int (i / j),c):=by
 unfold di;rw[Ep,if_pos ⟨by omega,hb⟩,Int.fdiv_eq_ediv_of_nonneg i (Int.le_of_lt h)];rfl
theorem qG(h: 0<j):dS (.int i) (.int j) c=some (.int (i % j),c):=by
 unfold dS;rw[Ep,if_pos (by omega),Int.fmod_eq_emod_of_nonneg i (Int.le_of_lt h)];rfl
@[simp] theorem wt{k:Nat}:data c (k+1) (.int i)=some (.int i):=by simp[data]
theorem Ac:mG (.int i) (.int j) c=some (decide (i=j)):=by
 have:mG (.int i) (.int j) c=(data c 6 (.int i)).bind fun d=>(data c 6 (.int j)).bind fun e=>some (@decide (d=e) (Classical.propDecidable _)):=rfl
 rw[this,wt,wt]
 simp
@[simp] theorem HG:df (.int i) (.int j) c=some (.bl (decide (i=j)),c):=by unfold df;rw[Ac];rfl
@[simp] theorem HH:jx (.int i) (.int j) c=some (.bl (!decide (i=j)),c):=by unfold jx;rw[Ac];rfl
@[simp] theorem KR{k:Bool}:df (.bl b) (.bl k) c=some (.bl (b==k),c):=rfl
@[simp] theorem KS{k:Bool}:jx (.bl b) (.bl k) c=some (.bl (!(b==k)),c):=rfl
@[simp] theorem uJ:cf (.tup xs) c=some xs:=rfl
theorem bE{n:Nat}(h:c[n]? =some (.lst xs)):cf (.ref n) c=some xs:=by simp[cf,h]
theorem wu{n:Nat}(h:c[n]? =some (.ro xs)):cf (.ref n) c=some xs:=by simp[cf,h]
theorem dj{n:Nat}(h:c[n]? =some (.lst xs)):cp (.ref n) c=some (n,xs):=by simp[cp,h]
theorem lK{x:D}:av x (.int i) c=(cf x c).bind fun xs=>(jK xs i).bind fun d=>some (d,c):=rfl
@[simp] theorem uK:av (.tup xs) (.int i) c=(jK xs i).bind fun d=>some (d,c):=rfl
@[simp] theorem Ou{α:Type}{x:α}{xs:List α}:jK (x::xs) 0=some x:=by simp[jK,tT]
@[simp] theorem Ov{α:Type}{x y:α}{xs:List α}:jK (x::y::xs) 1=some y:=by
 have h:(1:Int)<((x::y::xs).length:Int):=by simp only[List.length_cons];omega
 unfold jK tT
 rw[if_pos (by decide),if_pos h];rfl
@[simp] theorem Ow{α:Type}{x y z:α}{xs:List α}:jK (x::y::z::xs) 2=some z:=by
 have h:(2:Int)<((x::y::z::xs).length:Int):=by simp only[List.length_cons];omega
 unfold jK tT
 rw[if_pos (by decide),if_pos h];rfl
theorem Ad{α:Type}{xs:List α}{n:Nat}{x:α}(h:xs[n]? =some x):jK xs (n:Int)=some x:=by
 have hl:n<xs.length:=(List.getElem?_eq_some_iff.mp h).1
 unfold jK tT
 rw[if_pos (by omega),if_pos (by omega)]
 simpa using h
@[simp] theorem Ox:tU [.int i] c=some (.int (if i<0 then -i else i),c):=rfl
@[simp] theorem HI:tW [.bl b] c=some (.int (if b then 1 else 0),c):=rfl
theorem kf{x:D}:cF [x] c=(cf x c).bind fun xs=>some (.int xs.length,c):=rfl
theorem Ae{x:D}:oR [x] c=(cf x c).bind fun xs=>some (.tup xs,c):=rfl
@[simp] theorem KW:qi [.int i,.int j] c=some (.int (if j > i then j else i),c):=rfl
@[simp] theorem KY:Nc [.int i,.int j] c=some (.int (if j<i then j else i),c):=rfl
theorem cg{n:Nat}(h:n≤10000):n≤dk:=Nat.le_trans h (by rw[tP];decide)
@[simp] theorem Oy: 1≤dk:=cg (by decide)
@[simp] theorem Oz: 2≤dk:=cg (by decide)
@[simp] theorem OA: 3≤dk:=cg (by decide)
@[simp] theorem OB: 4≤dk:=cg (by decide)
@[simp] theorem OC: 5≤dk:=cg (by decide)
@[simp] theorem OD: 6≤dk:=cg (by decide)
@[simp] theorem OE: 7≤dk:=cg (by decide)
@[simp] theorem OF: 8≤dk:=cg (by decide)
theorem CI{a:XA}(h:a σ c=some ([.int i,.int j],c'))(h1:i.natAbs<2 ^ 61)(h2:j.natAbs<2 ^ 61):hZ a σ c=some (⟨cM i (j - i).toNat,[]⟩,c'):=by
 unfold hZ
 rw[h,Option.bind_some]
 dsimp only
 rw[if_pos ⟨⟨by omega,by omega⟩,by omega,by omega⟩]
theorem kg{a:XA}(h:a σ c=some ([.int j],c'))(h2:j.natAbs<2 ^ 61):b_ a σ c=some (⟨cM 0 j.toNat,[]⟩,c'):=by
 unfold b_
 rw[h,Option.bind_some]
 dsimp only
 rw[if_pos ⟨by omega,by omega⟩]
theorem dE:stays [] c:=fun _ h=>nomatch h
end
theorem fV{ks:List (Nat×Cell)}{g:XG}{body:XS}(P:Nat→Env→Cells→Prop):
  ∀(ds:List D) (k:Nat) (σ:Env) (c:Cells),(∀i σ c,P i σ c→stays ks c)→(∀i d σ c,ds[i]? =some d→P (k+i) σ c→∃σ1 c1 qd c2,g d σ c=some (σ1,c1)∧body σ1 c1=some (.nx,qd,c2)∧P (k+i+1) qd c2)→
   P k σ c→∃σ' c',d_ ks g body ds σ c=some (.nx,σ',c')∧P (k+ds.length) σ' c'
 |[],k,σ,c,hs,_,h=>⟨σ,c,by unfold d_;rw[if_pos (hs k σ c h)],h⟩
 |d::ds,k,σ,c,hs,ht,h=>by
  obtain⟨σ1,c1,qd,c2,h1,h2,h3⟩:=ht 0 d σ c rfl h
  obtain⟨σ',c',h4,h5⟩:=fV P ds (k+1) qd c2 hs (fun i d' σ c hd hp=>by
   have:=ht (i+1) d' σ c (by simpa using hd) (by rw[show k+(i+1)=k+1+i by omega];exact hp)
   rwa[show k+(i+1)+1=k+1+i+1 by omega]at this) h3
  refine⟨σ',c',?_,by rw[show k+(d::ds).length=k+1+ds.length by simp only[List.length_cons];omega];exact h5⟩
  unfold d_
  rw[if_pos (hs k σ c h),h1]
  simp only[Option.bind_some,h2,h4]
end Qm
namespace dJ
open PySem Qm
noncomputable section
def kh:XS:=(au (fR (tV (e2 jx (eV 1) (eC (.int 0)))) (au (az 2 (e2 dS (eV 0) (eV 1)))
   (au (az 0 (eV 1))
   (az 1 (eV 2)))))
   (aT (eB tU (ag (eV 0) aj))))
def iO:FN:=eF 2 3 kh
def pF:XS:=(au (az 3 (ar iO [] (ag (ar iO [] (ag (eV 0) (ag (eV 2) aj))) (ag (eV 1) aj))))
   (au (cH (tV (e2 oO (eV 2) (eC (.int 0))))
   (az 3 (e1 aZ (eV 3)))
   br)
   (aT (aA (ag (e2 di (eV 0) (eV 3)) (ag (e2 di (eV 1) (eV 3)) (ag (e2 di (eV 2) (eV 3)) aj)))))))
def pG:FN:=eF 3 4 pF
def je:XS:=(aT (e2 oO (e2 aJ (e2 av (eV 0) (eC (.int 1))) (e2 av (eV 1) (eC (.int 2)))) (e2 aJ (e2 av (eV 1) (eC (.int 1))) (e2 av (eV 0) (eC (.int 2))))))
def jf:FN:=eF 2 2 je
def lL:XS:=(au (az 2 (e2 aJ (e2 av (eV 0) (eC (.int 0))) (e2 av (eV 1) (eC (.int 2)))))
   (au (az 3 (e2 aJ (e2 av (eV 1) (eC (.int 0))) (e2 av (eV 0) (eC (.int 2)))))
   (au (cH (tV (e2 df (eV 2) (eV 3)))
   (aT (ar jf [] (ag (eV 0) (ag (eV 1) aj))))
   br)
   (aT (e2 oO (eV 2) (eV 3))))))
def eI:FN:=eF 2 4 lL
def iP:XS:=(aT (aA (ag (e2 a_ (e2 aJ (e2 av (eV 0) (eC (.int 1))) (e2 av (eV 1) (eC (.int 2)))) (e2 aJ (e2 av (eV 0) (eC (.int 2))) (e2 av (eV 1) (eC (.int 1))))) (ag (e2 a_ (e2 aJ (e2 av (eV 0) (eC (.int 2))) (e2 av (eV 1) (eC (.int 0)))) (e2 aJ (e2 av (eV 0) (eC (.int 0))) (e2 av (eV 1) (eC (.int 2))))) (ag (e2 a_ (e2 aJ (e2 av (eV 0) (eC (.int 0))) (e2 av (eV 1) (eC (.int 1)))) (e2 aJ (e2 av (eV 0) (eC (.int 1))) (e2 av (eV 1) (eC (.int 0))))) aj)))))
def er:FN:=eF 2 2 iP
def mh:XS:=(au (cH (tV (e2 vp (eV 0) (eC (.int 0))))
   (aT (eC (.int 1)))
   br)
   (au (cH (tV (e2 oO (eV 0) (eC (.int 0))))
   (aT (e1 aZ (eC (.int 1))))
   br)
   (aT (eC (.int 0)))))
def mj:FN:=eF 1 1 mh
def sH:XS:=(au (az 3 (ar er [] (ag (eV 0) (ag (eV 1) aj))))
   (aT (ar mj [] (ag (e2 aK (e2 aK (e2 aJ (e2 av (eV 3) (eC (.int 0))) (e2 av (eV 2) (eC (.int 0)))) (e2 aJ (e2 av (eV 3) (eC (.int 1))) (e2 av (eV 2) (eC (.int 1))))) (e2 aJ (e2 av (eV 3) (eC (.int 2))) (e2 av (eV 2) (eC (.int 2))))) aj))))
def mq:FN:=eF 3 4 sH
def iQ:XS:=(au (cH (tV (ar eI [] (ag (e2 av (eV 0) (eC (.int 0))) (ag (e2 av (eV 0) (eC (.int 1))) aj))))
   (aT (eV 0))
   br)
   (aT (aA (ag (e2 av (eV 0) (eC (.int 1))) (ag (e2 av (eV 0) (eC (.int 0))) aj)))))
def gK:FN:=eF 1 1 iQ
def jg:XS:=(aT (dD (mN (eV 1)) [none,some 0] (aD 0) gY (ar mq [] (ag (e2 av (eV 1) (eC (.int 0))) (ag (e2 av (eV 1) (eC (.int 1))) (ag (eV 0) aj))))))
def g_:FN:=eF 2 2 jg
def fq:XS:=(au (az 2 (ar gK [] (ag (eV 0) aj)))
   (au (az 3 (ar gK [] (ag (eV 1) aj)))
   (au (az 4 (rW (tV (ar eI [] (ag (e2 av (eV 2) (eC (.int 0))) (ag (e2 av (eV 3) (eC (.int 0))) aj)))) (e2 av (eV 3) (eC (.int 0))) (e2 av (eV 2) (eC (.int 0)))))
   (au (az 5 (rW (tV (ar eI [] (ag (e2 av (eV 2) (eC (.int 1))) (ag (e2 av (eV 3) (eC (.int 1))) aj)))) (e2 av (eV 2) (eC (.int 1))) (e2 av (eV 3) (eC (.int 1)))))
   (au (cH (tV (e2 df (eV 4) (eV 5)))
   (aT (aA (ag (eC (.str "spot")) (ag (eV 4) aj))))
   br)
   (aT (rW (tV (ar eI [] (ag (eV 4) (ag (eV 5) aj)))) (aA (ag (eC (.str "stretch")) (ag (eV 4) (ag (eV 5) aj)))) (eC .bC))))))))
def fy:FN:=eF 2 6 fq
def jh:XS:=(au (az 2 (ar er [] (ag (ar er [] (ag (e2 av (eV 0) (eC (.int 0))) (ag (e2 av (eV 0) (eC (.int 1))) aj))) (ag (ar er [] (ag (e2 av (eV 1) (eC (.int 0))) (ag (e2 av (eV 1) (eC (.int 1))) aj))) aj))))
   (aT (ar pG [] (ag (e2 av (eV 2) (eC (.int 0))) (ag (e2 av (eV 2) (eC (.int 1))) (ag (e2 av (eV 2) (eC (.int 2))) aj))))))
def ji:FN:=eF 2 3 jh
def gL:XS:=(au (az 2 (ar g_ [] (ag (eV 0) (ag (eV 1) aj))))
   (au (cH (tV (e2 df (eV 2) (cZ (ag (eC (.int 0)) (ag (eC (.int 0)) aj)))))
   (aT (ar fy [] (ag (eV 0) (ag (eV 1) aj))))
   br)
   (au (az 3 (ar g_ [] (ag (eV 1) (ag (eV 0) aj))))
   (au (cH (ku (tV (e2 vp (e2 aJ (e2 av (eV 2) (eC (.int 0))) (e2 av (eV 2) (eC (.int 1)))) (eC (.int 0)))) (tV (e2 vp (e2 aJ (e2 av (eV 3) (eC (.int 0))) (e2 av (eV 3) (eC (.int 1)))) (eC (.int 0)))))
   (aT (eC .bC))
   br)
   (aT (aA (ag (eC (.str "spot")) (ag (ar ji [] (ag (eV 0) (ag (eV 1) aj))) aj))))))))
def dw:FN:=eF 2 4 gL
def jj:XS:=(aT (eB qj (ag (eV 0) (ag (e2 aK (ic c_ (eV 0) (cE (eC (.int 1))) dC) (ic c_ (eV 0) dC (cE (eC (.int 1))))) aj))))
def jk:FN:=eF 1 1 jj
def gr:XS:=(au (az 2 (rW (tV (e2 df (eV 1) (e2 a_ (eB cF (ag (eV 0) aj)) (eC (.int 1))))) (eC (.int 1)) (eC (.int 0))))
   (aT (eB Cg (ag (dD (hZ (ag (eV 2) (ag (e2 a_ (eV 1) (eC (.int 1))) aj))) [none,some 0,some 1] (aD 0) gY (e2 vQ (ar dw [] (ag (e2 av (eV 1) (eV 0)) (ag (e2 av (eV 1) (eV 2)) aj))) (eC .bC))) aj))))
def eX:FN:=eF 2 3 gr
def eA:XS:=(au (cH (ku (tV (e2 oO (eB cF (ag (eV 0) aj)) (eC (.int 3)))) (tV (e2 jx (eB lB (ag (eV 0) aj)) (eB cF (ag (eV 0) aj)))))
   (aT (eC (.bl false)))
   br)
   (au (az 1 (ar jk [] (ag (eV 0) aj)))
   (au (cR (b_ (ag (eB cF (ag (eV 1) aj)) aj)) (aD 2)
   (cH (ku (tV (e2 jx (ar dw [] (ag (e2 av (eV 1) (e2 a_ (eV 2) (eC (.int 1)))) (ag (e2 av (eV 1) (eV 2)) aj))) (aA (ag (eC (.str "spot")) (ag (e2 av (e2 av (eV 1) (eV 2)) (eC (.int 0))) aj))))) (km (tV (ar eX [] (ag (eV 1) (ag (eV 2) aj))))))
   (aT (eC (.bl false)))
   br))
   (aT (eC (.bl true))))))
def ba:FN:=eF 1 3 eA
def fZ:XS:=(au (az 2 (eC (.int 0)))
   (au (cH (tV (e2 oO (eV 1) (eB cF (ag (eV 0) aj))))
   (az 2 (e2 av (eV 0) (eV 1)))
   br)
   (au (az 3 (e2 aK (e2 aK (e2 dS (eB tU (ag (eV 2) aj)) (eC (.int 2305843009213693951))) (e2 aJ (eC (.int 7919)) (eV 1))) (eC (.int 5))))
   (au (az 4 (eC (.int 0)))
   (au (cR (b_ (ag (eC (.int 12)) aj)) (aD 5)
   (au (az 3 (e2 aK (e2 aJ (eV 3) (eC (.int 6364136223846793005))) (e2 aJ (eC (.int 1442695040888963407)) (e2 aK (e2 aK (eV 1) (eV 5)) (eC (.int 1))))))
   (au (az 3 (e2 dS (eV 3) (eC (.int 2305843009213693951))))
   (au (az 6 (e2 aJ (e2 di (eV 3) (eC (.int 1024))) (e2 aK (e2 aK (e2 dS (eV 3) (eC (.int 1000003))) (e2 aJ (eC (.int 7919)) (eV 5))) (eC (.int 1)))))
   (az 4 (e2 aK (e2 aJ (eV 4) (eC (.int 1099511627776))) (e2 dS (eV 6) (eC (.int 1099511627776)))))))))
   (au (az 7 (e2 aJ (eB tU (ag (eV 2) aj)) (eB tW (ag (F9 (e2 vp (eB cF (ag (eV 0) aj)) (eC (.int 0))) (e2 df (e2 dS (e2 av (eV 0) (eC (.int 0))) (eC (.int 2))) (eC (.int 1)))) aj))))
   (aT (cZ (ag (eV 7) (ag (eV 4) aj))))))))))
def eY:FN:=eF 2 8 fZ
def gv:XS:=(au (az 2 (eB tW (ag (e2 df (e2 av (eV 0) (eC (.int 0))) (eC (.int 0))) aj)))
   (au (az 3 (e2 dS (e2 av (eV 0) (eV 2)) (eV 1)))
   (au (tR (e2 di (e2 av (eV 0) (eV 2)) (eV 1)) (Ce (eV 0) (eV 2)))
   (aT (eV 3)))))
def ax:FN:=eF 2 4 gv
def eD:XS:=(au (az 1 (ar ax [] (ag (eV 0) (ag (eC (.int 5)) aj))))
   (au (cH (tV (e2 oO (eV 1) (eC (.int 2))))
   (aT (e2 a_ (ar ax [] (ag (eV 0) (ag (eC (.int 9)) aj))) (eC (.int 4))))
   br)
   (au (cH (tV (e2 df (eV 1) (eC (.int 2))))
   (aT (e2 a_ (ar ax [] (ag (eV 0) (ag (eC (.int 1999999)) aj))) (eC (.int 999999))))
   br)
   (au (cH (tV (e2 df (eV 1) (eC (.int 3))))
   (aT (e2 aJ (e2 a_ (eC (.int 999999)) (ar ax [] (ag (eV 0) (ag (eC (.int 3)) aj)))) (e2 a_ (eC (.int 1)) (e2 aJ (eC (.int 2)) (ar ax [] (ag (eV 0) (ag (eC (.int 2)) aj)))))))
   br)
   (aT (e2 a_ (ar ax [] (ag (eV 0) (ag (e2 aK (e2 aJ (eC (.int 2)) (e2 vP (eC (.int 10)) (eC (.int 9)))) (eC (.int 1))) aj))) (e2 vP (eC (.int 10)) (eC (.int 9)))))))))
def dz:FN:=eF 1 2 eD
def ix:XS:=(au (az 1 (ar ax [] (ag (eV 0) (ag (eC (.int 5)) aj))))
   (aT (e2 aK (eC (.int 1)) (ar ax [] (ag (eV 0) (ag (e2 av (cZ (ag (eC (.int 1)) (ag (eC (.int 1)) (ag (eC (.int 9)) (ag (eC (.int 999999)) (ag (e2 vP (eC (.int 10)) (eC (.int 9))) aj)))))) (eV 1)) aj))))))
def gx:FN:=eF 1 2 ix
def gQ:XS:=(au (az 0 (eB tU (ag (eV 0) aj)))
   (au (az 1 (eB tU (ag (eV 1) aj)))
   (au (fR (tV (e2 vp (eV 1) (eC (.int 0)))) (mQ [0,1] (ag (eV 1) (ag (e2 dS (eV 0) (eV 1)) aj))))
   (aT (eV 0)))))
def fL:FN:=eF 2 2 gQ
def fM:XS:=(au (cH (tV (e2 oO (eV 2) (eC (.int 0))))
   (mQ [0,1,2] (ag (e2 a_ (eC (.int 0)) (eV 0)) (ag (e2 a_ (eC (.int 0)) (eV 1)) (ag (e2 a_ (eC (.int 0)) (eV 2)) aj))))
   br)
   (au (az 3 (ar fL [] (ag (ar fL [] (ag (eV 0) (ag (eV 1) aj))) (ag (eV 2) aj))))
   (aT (aA (ag (e2 di (eV 0) (eV 3)) (ag (e2 di (eV 1) (eV 3)) (ag (e2 di (eV 2) (eV 3)) aj)))))))
def bg:FN:=eF 3 4 fM
def hG:XS:=(au (az 1 (ar ax [] (ag (eV 0) (ag (eC (.int 3)) aj))))
   (au (cH (tV (e2 df (eV 1) (eC (.int 0))))
   (aT (ar bg [] (ag (ar dz [] (ag (eV 0) aj)) (ag (ar dz [] (ag (eV 0) aj)) (ag (ar gx [] (ag (eV 0) aj)) aj)))))
   br)
   (aT (ar bg [] (ag (ar ax [] (ag (eV 0) (ag (e2 aK (eC (.int 5)) (e2 aJ (eC (.int 4)) (eV 1))) aj))) (ag (ar ax [] (ag (eV 0) (ag (e2 aK (eC (.int 5)) (e2 aJ (eC (.int 4)) (eV 1))) aj))) (ag (e2 av (cZ (ag (eC (.int 1)) (ag (eC (.int 1)) (ag (eC (.int 2)) aj)))) (ar ax [] (ag (eV 0) (ag (eC (.int 3)) aj)))) aj)))))))
def cy:FN:=eF 1 2 hG
def gR:XS:=(au (cR (b_ (ag (e2 aK (eB cF (ag (eV 1) aj)) (eC (.int 1))) aj)) (aD 2)
   (cH (tV (e2 vq (eV 0) (eV 1)))
   (az 0 (ar bg [] (ag (e2 aK (e2 av (eV 0) (eC (.int 0))) (e2 av (eV 0) (eC (.int 2)))) (ag (e2 av (eV 0) (eC (.int 1))) (ag (e2 av (eV 0) (eC (.int 2))) aj)))))
   br))
   (aT (eV 0)))
def cO:FN:=eF 2 3 gR
def gy:XS:=(au (az 3 (e2 a_ (ar ax [] (ag (eV 0) (ag (eC (.int 7)) aj))) (eC (.int 1))))
   (au (az 4 (e2 aK (eC (.int 1)) (ar ax [] (ag (eV 0) (ag (eC (.int 5)) aj)))))
   (au (az 5 (e2 aK (e2 aJ (e2 aJ (e2 av (eV 1) (eC (.int 0))) (e2 av (eV 2) (eC (.int 2)))) (e2 a_ (eV 4) (eV 3))) (e2 aJ (e2 aJ (e2 av (eV 2) (eC (.int 0))) (e2 av (eV 1) (eC (.int 2)))) (eV 3))))
   (au (az 6 (e2 aK (e2 aJ (e2 aJ (e2 av (eV 1) (eC (.int 1))) (e2 av (eV 2) (eC (.int 2)))) (e2 a_ (eV 4) (eV 3))) (e2 aJ (e2 aJ (e2 av (eV 2) (eC (.int 1))) (e2 av (eV 1) (eC (.int 2)))) (eV 3))))
   (aT (ar bg [] (ag (eV 5) (ag (eV 6) (ag (e2 aJ (e2 aJ (e2 av (eV 1) (eC (.int 2))) (e2 av (eV 2) (eC (.int 2)))) (eV 4)) aj)))))))))
def dO:FN:=eF 3 7 gy
def jl:XS:=(au (az 2 (cZ (ag (ar cy [] (ag (eV 0) aj)) aj)))
   (au (az 3 (e2 aK (eC (.int 3)) (ar ax [] (ag (eV 0) (ag (e2 a_ (eV 1) (eC (.int 2))) aj)))))
   (au (cR (hZ (ag (eC (.int 1)) (ag (eV 3) aj))) (aD 4)
   (nW (eM gj (eV 2) (ag (ar cO [] (ag (ar cy [] (ag (eV 0) aj)) (ag (e2 aK (cZ (ag (e2 av (eV 2) (e1 aZ (eC (.int 1)))) aj)) (ic c_ (eV 2) dC (cE (eB tW (ag (e2 df (e2 aK (eV 4) (eC (.int 1))) (eV 3)) aj))))) aj))) aj))))
   (aT (eB oR (ag (eV 2) aj))))))
def hJ:FN:=eF 2 5 jl
def jm:XS:=(aT (aA (ag (eC (.str "spot")) (ag (ar bg [] (ag (eV 0) (ag (eV 1) (ag (eV 2) aj)))) aj))))
def eZ:FN:=eF 3 3 jm
def eL:XS:=(au (az 3 (eB o_ (ag (e2 av (eV 0) (eC (.int 0))) (ag (e2 av (eV 1) (eC (.int 0))) aj))))
   (au (az 4 (eB pf (ag (e2 av (eV 0) (eC (.int 1))) (ag (e2 av (eV 1) (eC (.int 1))) aj))))
   (au (cH (tV (e2 zw (eV 3) (eV 4)))
   (aT (eC .bC))
   br)
   (au (cH (tV (e2 df (eV 3) (eV 4)))
   (aT (ar eZ [] (ag (e2 av (eV 3) (eC (.int 0))) (ag (e2 av (eV 3) (eC (.int 1))) (ag (eV 2) aj)))))
   br)
   (aT (aA (ag (eC (.str "stretch")) (ag (ar bg [] (ag (e2 av (eV 3) (eC (.int 0))) (ag (e2 av (eV 3) (eC (.int 1))) (ag (eV 2) aj)))) (ag (ar bg [] (ag (e2 av (eV 4) (eC (.int 0))) (ag (e2 av (eV 4) (eC (.int 1))) (ag (eV 2) aj)))) aj)))))))))
def dF:FN:=eF 3 5 eL
def gS:XS:=(aT (e2 a_ (e2 aJ (e2 av (eV 0) (eC (.int 0))) (e2 av (eV 1) (eC (.int 1)))) (e2 aJ (e2 av (eV 0) (eC (.int 1))) (e2 av (eV 1) (eC (.int 0))))))
def bP:FN:=eF 2 2 gS
def gT:XS:=(au (az 2 (e2 aJ (e2 aJ (e2 aJ (e2 av (e2 av (eV 0) (eC (.int 0))) (eC (.int 2))) (e2 av (e2 av (eV 0) (eC (.int 1))) (eC (.int 2)))) (e2 av (e2 av (eV 1) (eC (.int 0))) (eC (.int 2)))) (e2 av (e2 av (eV 1) (eC (.int 1))) (eC (.int 2)))))
   (au (tR (dD (mN (e2 aK (eV 0) (eV 1))) [none,some 2] (aD 0) gY (aA (ag (e2 aJ (e2 av (eV 0) (eC (.int 0))) (e2 di (eV 1) (e2 av (eV 0) (eC (.int 2))))) (ag (e2 aJ (e2 av (eV 0) (eC (.int 1))) (e2 di (eV 1) (e2 av (eV 0) (eC (.int 2))))) aj)))) (Ct 4 (eS (aD 3) (eS (aD 4) (eS (aD 5) (eS (aD 6) ou))))))
   (au (az 7 (aA (ag (e2 a_ (e2 av (eV 4) (eC (.int 0))) (e2 av (eV 3) (eC (.int 0)))) (ag (e2 a_ (e2 av (eV 4) (eC (.int 1))) (e2 av (eV 3) (eC (.int 1)))) aj))))
   (au (az 8 (aA (ag (e2 a_ (e2 av (eV 6) (eC (.int 0))) (e2 av (eV 5) (eC (.int 0)))) (ag (e2 a_ (e2 av (eV 6) (eC (.int 1))) (e2 av (eV 5) (eC (.int 1)))) aj))))
   (au (az 9 (aA (ag (e2 a_ (e2 av (eV 5) (eC (.int 0))) (e2 av (eV 3) (eC (.int 0)))) (ag (e2 a_ (e2 av (eV 5) (eC (.int 1))) (e2 av (eV 3) (eC (.int 1)))) aj))))
   (au (az 10 (ar bP [] (ag (eV 7) (ag (eV 8) aj))))
   (au (az 11 (ar bP [] (ag (eV 9) (ag (eV 8) aj))))
   (au (az 12 (ar bP [] (ag (eV 9) (ag (eV 7) aj))))
   (au (cH (ot (tV (e2 df (eV 10) (eC (.int 0)))) (tV (e2 df (eV 12) (eC (.int 0)))))
   (aT (ar dF [] (ag (eB fY (ag (cZ (ag (eV 3) (ag (eV 4) aj))) aj)) (ag (eB fY (ag (cZ (ag (eV 5) (ag (eV 6) aj))) aj)) (ag (eV 2) aj)))))
   br)
   (au (cH (tV (e2 oO (eV 10) (eC (.int 0))))
   (mQ [10,11,12] (ag (e2 a_ (eC (.int 0)) (eV 10)) (ag (e2 a_ (eC (.int 0)) (eV 11)) (ag (e2 a_ (eC (.int 0)) (eV 12)) aj))))
   br)
   (au (cH (ku (tV (e2 df (eV 10) (eC (.int 0)))) (ku (km (tV (j6 vo vo (eC (.int 0)) (eV 11) (eV 10)))) (km (tV (j6 vo vo (eC (.int 0)) (eV 12) (eV 10))))))
   (aT (eC .bC))
   br)
   (aT (ar eZ [] (ag (e2 aK (e2 aJ (e2 av (eV 3) (eC (.int 0))) (eV 10)) (e2 aJ (e2 av (eV 7) (eC (.int 0))) (eV 11))) (ag (e2 aK (e2 aJ (e2 av (eV 3) (eC (.int 1))) (eV 10)) (e2 aJ (e2 av (eV 7) (eC (.int 1))) (eV 11))) (ag (e2 aJ (eV 2) (eV 10)) aj))))))))))))))))
def dG:FN:=eF 2 13 gT
def dP:XS:=(au (cH (tV (e2 jx (eB lB (ag (eV 0) aj)) (eB cF (ag (eV 0) aj))))
   (aT (eC (.bl false)))
   br)
   (au (az 1 (eB cF (ag (eV 0) aj)))
   (au (az 2 (dD (b_ (ag (eV 1) aj)) [none,some 0,some 1] (aD 0) gY (aA (ag (e2 av (eV 1) (eV 0)) (ag (e2 av (eV 1) (e2 dS (e2 aK (eV 0) (eC (.int 1))) (eV 2))) aj)))))
   (au (cR (b_ (ag (eV 1) aj)) (aD 3)
   (cR (b_ (ag (eV 3) aj)) (aD 4)
   (au (az 5 (eC .bC))
   (au (cH (tV (e2 df (e2 a_ (eV 3) (eV 4)) (eC (.int 1))))
   (az 5 (aA (ag (eC (.str "spot")) (ag (e2 av (eV 0) (eV 3)) aj))))
   br)
   (au (cH (ot (tV (e2 df (eV 4) (eC (.int 0)))) (tV (e2 df (eV 3) (e2 a_ (eV 1) (eC (.int 1))))))
   (az 5 (aA (ag (eC (.str "spot")) (ag (e2 av (eV 0) (eC (.int 0))) aj))))
   br)
   (cH (tV (e2 jx (ar dG [] (ag (e2 av (eV 2) (eV 4)) (ag (e2 av (eV 2) (eV 3)) aj))) (eV 5)))
   (aT (eC (.bl false)))
   br))))))
   (aT (eC (.bl true)))))))
def cA:FN:=eF 1 6 dP
def iy:XS:=(au (az 1 (cZ (ag (aA (ag (eC (.int 4)) (ag (eC (.int 0)) aj))) (ag (aA (ag (eC (.int 7)) (ag (eC (.int 1)) aj))) (ag (aA (ag (eC (.int 3)) (ag (eC (.int 1)) aj))) (ag (aA (ag (eC (.int 1)) (ag (eC (.int 1)) aj))) (ag (aA (ag (eC (.int 2)) (ag (eC (.int 3)) aj))) (ag (aA (ag (eC (.int 1)) (ag (eC (.int 4)) aj))) (ag (aA (ag (eC (.int 0)) (ag (eC (.int 5)) aj))) (ag (aA (ag (e1 aZ (eC (.int 1))) (ag (eC (.int 6)) aj))) (ag (aA (ag (e1 aZ (eC (.int 1))) (ag (eC (.int 3)) aj))) (ag (aA (ag (e1 aZ (eC (.int 1))) (ag (eC (.int 1)) aj))) (ag (aA (ag (e1 aZ (eC (.int 3))) (ag (eC (.int 2)) aj))) (ag (aA (ag (e1 aZ (eC (.int 5))) (ag (eC (.int 1)) aj))) aj))))))))))))))
   (au (az 1 (e2 aK (eV 1) (cZ (ag (aA (ag (e1 aZ (eC (.int 4))) (ag (eC (.int 0)) aj))) (ag (aA (ag (e1 aZ (eC (.int 4))) (ag (e1 aZ (eC (.int 1))) aj))) (ag (aA (ag (e1 aZ (eC (.int 3))) (ag (e1 aZ (eC (.int 2))) aj))) (ag (aA (ag (e1 aZ (eC (.int 1))) (ag (e1 aZ (eC (.int 1))) aj))) (ag (aA (ag (e1 aZ (eC (.int 1))) (ag (e1 aZ (eC (.int 4))) aj))) (ag (aA (ag (eC (.int 0)) (ag (e1 aZ (eC (.int 5))) aj))) (ag (aA (ag (eC (.int 1)) (ag (e1 aZ (eC (.int 3))) aj))) (ag (aA (ag (eC (.int 2)) (ag (e1 aZ (eC (.int 3))) aj))) (ag (aA (ag (eC (.int 2)) (ag (e1 aZ (eC (.int 2))) aj))) (ag (aA (ag (eC (.int 3)) (ag (e1 aZ (eC (.int 1))) aj))) aj)))))))))))))
   (au (az 1 (e2 aK (eV 1) (cZ (ag (aA (ag (eC (.int 5)) (ag (e1 aZ (eC (.int 1))) aj))) (ag (aA (ag (eC (.int 9)) (ag (e1 aZ (eC (.int 1))) aj))) aj)))))
   (au (mQ [2,3] (ag (e2 a_ (ar ax [] (ag (eV 0) (ag (eC (.int 2000)) aj))) (eC (.int 1000))) (ag (e2 a_ (ar ax [] (ag (eV 0) (ag (eC (.int 2000)) aj))) (eC (.int 1000))) aj)))
   (au (az 4 (e2 aK (eC (.int 1)) (ar ax [] (ag (eV 0) (ag (eC (.int 3)) aj)))))
   (au (az 5 (dD (ij (eV 1)) [none,some 0,some 4,some 1] (aD 0) (ku (tV (e2 oO (ar ax [] (ag (eV 1) (ag (eV 2) aj))) (eC (.int 2)))) (tV (e2 vq (eV 0) (zN 8 (eV 3))))) (eV 0)))
   (au (az 6 (cZ aj))
   (au (cR (ij (eV 5)) (aD 7)
   (au (az 8 (e2 aK (eC (.int 1)) (ar ax [] (ag (eV 0) (ag (eC (.int 60)) aj)))))
   (au (az 9 (e2 aK (eC (.int 1)) (ar ax [] (ag (eV 0) (ag (eC (.int 5)) aj)))))
   (nW (eM gj (eV 6) (ag (ar bg [] (ag (e2 aK (e2 aJ (eV 2) (eV 9)) (e2 aJ (e2 av (eV 7) (eC (.int 0))) (eV 8))) (ag (e2 aK (e2 aJ (eV 3) (eV 9)) (e2 aJ (e2 av (eV 7) (eC (.int 1))) (eV 8))) (ag (eV 9) aj)))) aj))))))
   (aT (eB oR (ag (eV 6) aj)))))))))))
def gz:FN:=eF 1 10 iy
def gU:XS:=(au (az 2 (ar ax [] (ag (eV 0) (ag (eB cF (ag (eV 1) aj)) aj))))
   (au (az 3 (ar cy [] (ag (eV 0) aj)))
   (au (az 4 (ar ax [] (ag (eV 0) (ag (eC (.int 3)) aj))))
   (au (cH (tV (e2 df (eV 4) (eC (.int 1))))
   (au (az 5 (ar ax [] (ag (eV 0) (ag (eB cF (ag (eV 1) aj)) aj))))
   (az 3 (ar dO [] (ag (eV 0) (ag (e2 av (eV 1) (e2 a_ (eV 5) (eC (.int 1)))) (ag (e2 av (eV 1) (eV 5)) aj))))))
   br)
   (au (cH (tV (e2 df (eV 4) (eC (.int 2))))
   (az 3 (e2 av (eV 1) (ar ax [] (ag (eV 0) (ag (eB cF (ag (eV 1) aj)) aj)))))
   br)
   (au (az 3 (ar cO [] (ag (eV 3) (ag (cZ (ag (e2 av (eV 1) (e2 a_ (eV 2) (eC (.int 1)))) (ag (e2 av (eV 1) (e2 dS (e2 aK (eV 2) (eC (.int 1))) (eB cF (ag (eV 1) aj)))) aj))) aj))))
   (aT (e2 aK (e2 qB (ic c_ (eV 1) dC (cE (eV 2))) (aA (ag (eV 3) aj))) (ic c_ (eV 1) (cE (e2 aK (eV 2) (eC (.int 1)))) dC)))))))))
def fN:FN:=eF 2 6 gU
def xM:XS:=(au (cR (b_ (ag (eB qi (ag (eC (.int 1)) (ag (eB cF (ag (ic c_ (eV 0) (cE (eC (.int 1))) (cE (eC (.int 4)))) aj)) aj))) aj)) (aD 1)
   (au (az 2 (ar eY [] (ag (eV 0) (ag (e2 aK (eC (.int 1)) (eV 1)) aj))))
   (au (az 3 (ar ax [] (ag (eV 2) (ag (eC (.int 3)) aj))))
   (au (az 4 (ar hJ [] (ag (eV 2) (ag (eC (.int 9)) aj))))
   (au (tR (ic c_ (eV 4) dC (cE (eC (.int 2)))) (sY 2 (eS (aD 5) (eS (aD 6) ou))))
   (au (cR (ij (cZ (ag (aA aj) (ag (aA (ag (eV 5) aj)) (ag (aA (ag (eV 5) (ag (eV 6) aj))) (ag (aA (ag (eV 5) (ag (eV 5) (ag (eV 6) aj)))) (ag (aA (ag (eV 5) (ag (eV 6) (ag (eV 6) aj)))) (ag (aA (ag (eV 5) (ag (eV 6) (ag (eV 5) aj)))) aj)))))))) (aD 7)
   (cH (tV (e2 qA (ar ba [] (ag (eV 7) aj)) (eC (.bl false))))
   (aT (eC (.bl false)))
   br))
   (au (cH (tV (e2 vp (eV 3) (eC (.int 0))))
   (au (az 4 (ar gz [] (ag (eV 2) aj)))
   (cH (tV (e2 uA (ar ba [] (ag (eV 4) aj)) (eC (.bl true))))
   (aT (eC (.bl false)))
   br))
   br)
   (au (cH (tV (e2 df (eV 3) (eC (.int 2))))
   (az 4 (ar fN [] (ag (eV 2) (ag (eV 4) aj))))
   br)
   (au (az 8 (ar cA [] (ag (eV 4) aj)))
   (au (az 9 (ar ba [] (ag (eV 4) aj)))
   (au (az 10 (ar ax [] (ag (eV 2) (ag (eB cF (ag (eV 4) aj)) aj))))
   (au (cH (ku (km (tV (eB oS (ag (eV 9) (ag (eC (.ty "bool")) aj))))) (ku (tV (e2 jx (eV 9) (eV 8))) (tV (e2 jx (ar ba [] (ag (e2 aK (ic c_ (eV 4) (cE (eV 10)) dC) (ic c_ (eV 4) dC (cE (eV 10)))) aj)) (eV 8)))))
   (aT (eC (.bl false)))
   br)
   (cH (tV (e2 jx (ar ba [] (ag (eB iH (ag (eV 4) aj)) aj)) (eV 8)))
   (aT (eC (.bl false)))
   br)))))))))))))
   (aT (eC (.bl true))))
def uL:FN:=eF 1 11 xM
end
end dJ
namespace dJ
open PySem Qm PyProof.Rows
local macro_rules|`(tactic|walk_at "bd")=>`(tactic|first|assumption|((with_reducible show My.Bd _ (_*_));refine' My.Bd.mul ?_ ?_<;>walk_at "bd")|((with_reducible show My.Bd _ (_+_));refine' My.Bd.add ?_ ?_<;>walk_at "bd")|((with_reducible show My.Bd _ (_ - _));refine' My.Bd.sub ?_ ?_<;>walk_at "bd")|((with_reducible show My.Bd _ (- _));refine' My.Bd.neg ?_<;>walk_at "bd")|(refine' qW ?_;omega))
local macro_rules|`(tactic|walk_at "bdm")=>`(tactic|first|assumption|(refine' My.Bd.mono ?b1 ?b2;(case b1=>walk_at "bd");(case b2=>decide)))
local macro_rules|`(tactic|walk_at "mo")=>`(tactic|first|(refine mulL ?_;omega)|(refine mulR ?_;omega)|(refine wq ?_ ?_<;>walk_at "bdm"))
local macro_rules|`(tactic|walk_at "dis")=>`(tactic|first|assumption|omega|walk_at "mo"|walk_at "bdm")
local macro_rules|`(tactic|erw[$[$t:term],*])=>`(tactic|simp (disch:=walk_at "dis") only[iN,lJ,HE,Oh,Oi,RT,Oj,KN,Og,RJ,N8,Uu,RL,L3,RM,N9,RN,N_,RO,Oa,KI,Ob,Oc,KJ,Uv,Uw,KL,RP,Ux,Od,RQ,Oe,Of,HD,mf,Ol,KO,Om,BM,Oo,KP,KQ,Oq,HF,RU,RV,RW,RX,Ot,bL,pE,qG,HG,HH,KR,KS,uJ,uK,Ou,Ov,Ow,Ox,HI,KW,KY,Oy,Oz,OA,OB,OC,OD,OE,OF,List.getElem?_cons_succ,List.getElem?_cons_zero,Option.join_some,Option.join_none,Option.bind_some,Option.bind_none,List.set_cons_succ,List.set_cons_zero,List.map_cons,List.map_nil,List.length_cons,List.length_nil,List.append_nil,List.nil_append,List.cons_append,List.replicate_succ,List.replicate_zero,Nat.reduceAdd,Nat.reduceSub,Nat.reduceEqDiff,if_true,if_false,Bool.false_eq_true,decide_true,decide_false,Bool.not_true,Bool.not_false,eq_self_iff_true,reduceIte,List.zip_cons_cons,List.zip_nil_right,List.zip_nil_left,List.foldl_cons,List.foldl_nil,Int.reduceLT,Int.reduceEq,Int.reduceLE,$[$t:term],*])
def bN(n:Nat)(c:Cells):Prop:=∃a b:Int,c[n]? =some (.lst [.int a,.int b])∧0≤a∧0≤b
structure Kp(n:Nat)(c c':Cells):Prop where
 len:c.length≤c'.length
 at_:∀i,i<c.length→i≠n→c'[i]? =c[i]?
theorem Kp.refl(n:Nat)(c:Cells):Kp n c c:=⟨Nat.le_refl _,fun _ _ _=>rfl⟩
theorem Kp.trans{n:Nat}{c c' DC:Cells}(a:Kp n c c')(b:Kp n c' DC):Kp n c DC:=⟨Nat.le_trans a.len b.len,fun i h h'=>(b.at_ i (Nat.lt_of_lt_of_le h a.len) h').trans (a.at_ i h h')⟩
theorem Kp.set{n:Nat}{c:Cells}{z:Cell}:Kp n c (c.set n z):=⟨by rw[List.length_set];exact Nat.le_refl _,fun i _ h=>by rw[List.getElem?_set,if_neg (fun e=>h e.symm)]⟩
theorem Kp.more{n:Nat}{c:Cells}{zs:List Cell}:Kp n c (c++zs):=⟨by rw[List.length_append];omega,fun i h _=>List.getElem?_append_left h⟩
theorem Kp.get{n i:Nat}{c c':Cells}{z:Cell}(k:Kp n c c')(h:c[i]? =some z)(hi:i≠n):c'[i]? =some z:=by
 rw[k.at_ i (List.getElem?_eq_some_iff.mp h).1 hi];exact h
theorem bN.lt{n:Nat}{c:Cells}(h:bN n c):n<c.length:=by
 obtain⟨a,b,h,_⟩:=h
 exact(List.getElem?_eq_some_iff.mp h).1
theorem bN.more{n:Nat}{c:Cells}{zs:List Cell}(h:bN n c):bN n (c++zs):=by
 have hl:=h.lt
 obtain⟨a,b,h,r⟩:=h
 exact⟨a,b,by rw[List.getElem?_append_left hl];exact h,r⟩
theorem bN.ne{n i:Nat}{c:Cells}(h:bN n c)(hi:c.length≤i):i≠n:=by have:=h.lt;omega
theorem bT{n:Nat}{c:Cells}{m:Int}(h:bN n c)(h0: 0<m)(hm:My.Bd 8900 m):∃d c',ax [.ref n,.int m] c=some (.int d,c')∧0≤d∧d<m∧bN n c'∧Kp n c c':=by
 have eQ:=h.lt
 obtain⟨a,b,hc,a0,b0⟩:=h
 have s1:=bE hc
 have l1:=dj hc
 by_cases ha:a=0
 ·refine⟨b % m,c.set n (.lst [.int a,.int (b / m)]),?_,Int.emod_nonneg _ (by omega),Int.emod_lt_of_pos _ h0,⟨a,b / m,?_,a0,Int.ediv_nonneg b0 (by omega)⟩,Kp.set⟩
  ·subst ha
   simp[ax,iN,gv,lK,s1,qG h0,pE h0 hm,Ce,l1,tT]
  ·simp[eQ]
 ·refine⟨a % m,c.set n (.lst [.int (a / m),.int b]),?_,Int.emod_nonneg _ (by omega),Int.emod_lt_of_pos _ h0,⟨a / m,b,?_,Int.ediv_nonneg a0 (by omega),b0⟩,Kp.set⟩
  ·simp[ax,iN,gv,lK,s1,qG h0,pE h0 hm,Ce,l1,tT,ha]
  ·simp[eQ]
theorem OG{s:Nat}{c:Cells}{ns:List Int}{k:Int}(hs:c[s]? =some (.ro (ns.map D.int)))(k0: 0≤k)(k1:k<1000):∃a b,eY [.ref s,.int k] c=some (.ref c.length,c++[.lst [.int a,.int b]])∧0≤a∧0≤b:=by
 have s1:=wu hs
 -- nM loop
 have loop:∀(z mx:Int),∃lM pH j' Af,0≤pH∧cR (b_ (ag (eC (.int 12)) aj)) (aD 5)
   (au (az 3 (e2 aK (e2 aJ (eV 3) (eC (.int 6364136223846793005))) (e2 aJ (eC (.int 1442695040888963407)) (e2 aK (e2 aK (eV 1) (eV 5)) (eC (.int 1))))))
   (au (az 3 (e2 dS (eV 3) (eC (.int 2305843009213693951))))
   (au (az 6 (e2 aJ (e2 di (eV 3) (eC (.int 1024))) (e2 aK (e2 aK (e2 dS (eV 3) (eC (.int 1000003))) (e2 aJ (eC (.int 7919)) (eV 5))) (eC (.int 1)))))
   (az 4 (e2 aK (e2 aJ (eV 4) (eC (.int 1099511627776))) (e2 dS (eV 6) (eC (.int 1099511627776))))))))
   [some (.ref s),some (.int k),some (.int z),some (.int mx),some (.int 0),none,none,none] c=some (.nx,[some (.ref s),some (.int k),some (.int z),some (.int lM),some (.int pH),j',Af,none],c):=by
  intro z mx
  have hr:b_ (ag (eC (.int 12)) aj) [some (.ref s),some (.int k),some (.int z),some (.int mx),some (.int 0),none,none,none] c=some (⟨cM 0 12,[]⟩,c):=kg (j:=12) rfl (by decide)
  have key:=fV (ks:=[]) (g:=aD 5) (body:=(au (az 3 (e2 aK (e2 aJ (eV 3) (eC (.int 6364136223846793005))) (e2 aJ (eC (.int 1442695040888963407)) (e2 aK (e2 aK (eV 1) (eV 5)) (eC (.int 1))))))
   (au (az 3 (e2 dS (eV 3) (eC (.int 2305843009213693951))))
   (au (az 6 (e2 aJ (e2 di (eV 3) (eC (.int 1024))) (e2 aK (e2 aK (e2 dS (eV 3) (eC (.int 1000003))) (e2 aJ (eC (.int 7919)) (eV 5))) (eC (.int 1)))))
   (az 4 (e2 aK (e2 aJ (eV 4) (eC (.int 1099511627776))) (e2 dS (eV 6) (eC (.int 1099511627776)))))))))
   (fun _ σ c'=>∃lM pH j' Af,0≤pH∧σ=[some (.ref s),some (.int k),some (.int z),some (.int lM),some (.int pH),j',Af,none]∧c'=c) (cM 0 12) 0 [some (.ref s),some (.int k),some (.int z),some (.int mx),some (.int 0),none,none,none] c (fun _ _ _ _=>dE)
  have qX:=key (by
    rintro i d σ c' hd ⟨lM,pH,j',Af,h1,rfl,rfl⟩
    obtain⟨hi,rfl⟩:i<12∧d= .int (0+(i:Int)):=by
     unfold cM at hd
     rw[List.getElem?_map]at hd
     by_cases hi:i<12
     ·rw[List.getElem?_range hi]at hd;cases hd;exact⟨hi,rfl⟩
     ·rw[List.getElem?_eq_none_iff.mpr (by simpa using Nat.le_of_not_lt hi)]at hd;cases hd
    have Wl:=Int.emod_nonneg (lM*6364136223846793005+1442695040888963407*(k+(0+(i:Int))+1)) (show(2305843009213693951:Int)≠0 by decide)
    have Wm:=Int.emod_lt_of_pos (lM*6364136223846793005+1442695040888963407*(k+(0+(i:Int))+1)) (show(0:Int)<2305843009213693951 by decide)
    refine⟨_,c',[some (.ref s),some (.int k),some (.int z),some (.int ((lM*6364136223846793005+1442695040888963407*(k+(0+(i:Int))+1)) % 2305843009213693951)),some (.int (pH*1099511627776+((lM*6364136223846793005+1442695040888963407*(k+(0+(i:Int))+1)) % 2305843009213693951) / 1024*(((lM*6364136223846793005+1442695040888963407*(k+(0+(i:Int))+1)) % 2305843009213693951) % 1000003+7919*(0+(i:Int))+1) % 1099511627776)),some (.int (0+(i:Int))),some (.int (((lM*6364136223846793005+1442695040888963407*(k+(0+(i:Int))+1)) % 2305843009213693951) / 1024*(((lM*6364136223846793005+1442695040888963407*(k+(0+(i:Int))+1)) % 2305843009213693951) % 1000003+7919*(0+(i:Int))+1))),none],c',rfl,?_,⟨_,_,_,_,?_,rfl,rfl⟩⟩
    ·simp (disch:=walk_at "dis") only[lJ,HE,RL,N8,RJ,HF,bL,qG,pE,mf,List.getElem?_cons_succ,List.getElem?_cons_zero,Option.join_some,Option.bind_some,List.set_cons_succ,List.set_cons_zero,BM]
    ·have:=Int.emod_nonneg (((lM*6364136223846793005+1442695040888963407*(k+(0+(i:Int))+1)) % 2305843009213693951) / 1024*(((lM*6364136223846793005+1442695040888963407*(k+(0+(i:Int))+1)) % 2305843009213693951) % 1000003+7919*(0+(i:Int))+1)) (show(1099511627776:Int)≠0 by decide)
     omega) ⟨mx,0,none,none,Int.le_refl _,rfl,rfl⟩
  obtain⟨σ',c',e,lM,pH,j',Af,h1,h2,h3⟩:=qX
  subst h2 h3
  refine⟨lM,pH,j',Af,h1,?_⟩
  unfold cR
  rw[hr]
  exact e
 have hl:((ns.map D.int).length:Int)=ns.length:=by simp
 -- nM own cell
 by_cases hk:k<ns.length
 ·obtain⟨z,hz⟩:∃z,jK (ns.map D.int) k=some (.int z):=by
   have Nn:k.toNat<ns.length:=by omega
   refine⟨ns[k.toNat],?_⟩
   have:=Ad (xs:=ns.map D.int) (n:=k.toNat) (x:=.int ns[k.toNat]) (by simp[Nn])
   rwa[show((k.toNat:Nat):Int)=k by omega]at this
  obtain⟨w0,hw⟩:∃w0,jK (ns.map D.int) 0=some (.int w0):=by
   cases ns with
   |nil=>simp at hk;omega
   |cons n ns=>exact⟨n,by simp⟩
  obtain⟨lM,pH,j',Af,ht,el⟩:=loop z ((if z<0 then -z else z) % 2305843009213693951+7919*k+5)
  refine⟨(if z<0 then -z else z)*(if decide (w0 % 2=1)=true then 1 else 0),pH,?_,Int.mul_nonneg (by split<;>omega) (by split<;>omega),ht⟩
  rw[eY,iN,fZ]
  have lz:decide (k<((ns.map D.int).length:Int))=true:=by rw[hl];exact decide_eq_true hk
  have h0:decide ((0:Int)<((ns.map D.int).length:Int))=true:=by rw[hl];exact decide_eq_true (by omega)
  erw[kf,s1,lK,lz,hz,hw,el,h0]
 ·have lz:decide (k<((ns.map D.int).length:Int))=false:=by rw[hl];exact decide_eq_false (by omega)
  obtain⟨lM,pH,j',Af,ht,el⟩:=loop 0 (0 % 2305843009213693951+7919*k+5)
  by_cases hn: 0<ns.length
  ·obtain⟨w0,hw⟩:∃w0,jK (ns.map D.int) 0=some (.int w0):=by
    cases ns with
    |nil=>simp at hn
    |cons n ns=>exact⟨n,by simp⟩
   have h0:decide ((0:Int)<((ns.map D.int).length:Int))=true:=by rw[hl];exact decide_eq_true (by omega)
   refine⟨0*(if decide (w0 % 2=1)=true then 1 else 0),pH,?_,by simp,ht⟩
   rw[eY,iN,fZ]
   erw[kf,s1,lK,lz,hw,el,h0]
  ·have h0:decide ((0:Int)<((ns.map D.int).length:Int))=false:=by rw[hl];exact decide_eq_false (by omega)
   refine⟨0*(if false=true then 1 else 0),pH,?_,by simp,ht⟩
   rw[eY,iN,fZ]
   erw[kf,s1,lK,lz,el,h0]
theorem L4{c:Cells}:vP (.int 10) (.int 9) c=some (.int 1000000000,c):=by
 unfold vP;rw[Ep,if_pos (by decide)];rfl
theorem CJ{n:Nat}{c:Cells}(h:bN n c):∃x c',dz [.ref n] c=some (.int x,c')∧-1000000000≤x∧x≤1000000000∧bN n c'∧Kp n c c':=by
 obtain⟨d1,c1,e1,l1,u1,p1,k1⟩:=bT h (m:=5) (by decide) (by walk_at "bdm")
 by_cases h1:d1<2
 ·obtain⟨d2,c2,e2,l2,u2,p2,k2⟩:=bT p1 (m:=9) (by decide) (by walk_at "bdm")
  refine⟨d2 - 4,c2,?_,by omega,by omega,p2,k1.trans k2⟩
  erw[dz,eD,e1,h1,e2]
 by_cases h2:d1=2
 ·obtain⟨d2,c2,e2,l2,u2,p2,k2⟩:=bT p1 (m:=1999999) (by decide) (by walk_at "bdm")
  refine⟨d2 - 999999,c2,?_,by omega,by omega,p2,k1.trans k2⟩
  erw[dz,eD,e1,h1,h2,e2]
 by_cases h3:d1=3
 ·obtain⟨d2,c2,e2,l2,u2,p2,k2⟩:=bT p1 (m:=3) (by decide) (by walk_at "bdm")
  obtain⟨d3,c3,e3,l3,u3,p3,k3⟩:=bT p2 (m:=2) (by decide) (by walk_at "bdm")
  refine⟨(999999 - d2)*(1 - 2*d3),c3,?_,?_,?_,p3,k1.trans (k2.trans k3)⟩
  ·erw[dz,eD,e1,h1,h2,h3,e2,e3]
  ·have:d3=0∨d3=1:=by omega
   rcases this with rfl|rfl<;>omega
  ·have:d3=0∨d3=1:=by omega
   rcases this with rfl|rfl<;>omega
 ·obtain⟨d2,c2,e2,l2,u2,p2,k2⟩:=bT p1 (m:=2*1000000000+1) (by decide) (by walk_at "bdm")
  refine⟨d2 - 1000000000,c2,?_,by omega,by omega,p2,k1.trans k2⟩
  erw[dz,eD,e1,h1,h2,h3,L4,e2]
theorem KZ{n:Nat}{c:Cells}(h:bN n c):∃x c',gx [.ref n] c=some (.int x,c')∧1≤x∧x≤1000000000∧bN n c'∧Kp n c c':=by
 obtain⟨d1,c1,e1,l1,u1,p1,k1⟩:=bT h (m:=5) (by decide) (by walk_at "bdm")
 have key:∀m:Int,0<m→m≤1000000000→jK [D.int 1,.int 1,.int 9,.int 999999,.int 1000000000] d1=some (.int m)→∃x c',gx [.ref n] c=some (.int x,c')∧1≤x∧x≤1000000000∧bN n c'∧Kp n c c':=by
  intro m m0 m1 ha
  obtain⟨d2,c2,e2,l2,u2,p2,k2⟩:=bT (p1.more (zs:=[.lst [.int 1,.int 1,.int 9,.int 999999,.int 1000000000]])) (m:=m) m0 (by walk_at "bdm")
  refine⟨1+d2,c2,?_,by omega,by omega,p2,k1.trans (Kp.more.trans k2)⟩
  have s2:cf (.ref c1.length) (c1++[.lst [.int 1,.int 1,.int 9,.int 999999,.int 1000000000]])=some [.int 1,.int 1,.int 9,.int 999999,.int 1000000000]:=bE (by simp)
  erw[gx,ix,e1,L4,lK,s2,ha,e2]
 have:d1=0∨d1=1∨d1=2∨d1=3∨d1=4:=by omega
 rcases this with rfl|rfl|rfl|rfl|rfl
 ·exact key 1 (by decide) (by decide) rfl
 ·exact key 1 (by decide) (by decide) rfl
 ·exact key 9 (by decide) (by decide) rfl
 ·exact key 999999 (by decide) (by decide) rfl
 ·exact key 1000000000 (by decide) (by decide) rfl
theorem Ag{a b:Int}{c:Cells}:fL [.int a,.int b] c=some (.int (Int.gcd a b),c):=by
 have loop:∀(n:Nat) (x y:Int),0≤x→0≤y→y.natAbs=n→fR (tV (e2 vp (eV 1) (eC (.int 0)))) (mQ [0,1] (ag (eV 1) (ag (e2 dS (eV 0) (eV 1)) aj))) [some (.int x),some (.int y)] c=some (.nx,[some (.int (Int.gcd x y)),some (.int 0)],c):=by
  intro n
  induction n using Nat.strongRecOn with
  |_ n ih=>
   intro x y hx hy hn
   by_cases h: 0<y
   ·have h1:=Int.emod_lt_of_pos x h
    have h2:=Int.emod_nonneg x (show y≠0 by omega)
    have:=ih (x % y).natAbs (by omega) y (x % y) hy h2 rfl
    rw[My.Dq]at this
    refine tZ (c':=c) (σ':=[some (.int y),some (.int (x % y))]) (c2:=c) ?_ ?_ this
    ·erw[h]
    ·erw[h]
   ·have:y=0:=by omega
    subst this
    have e:=My.gcd_zero x
    rw[if_neg (by omega)]at e
    rw[e]
    refine oT ?_
    erw[h]
 have:=loop _ (if a<0 then -a else a) (if b<0 then -b else b) (by split<;>omega) (by split<;>omega) rfl
 rw[My.FR]at this
 erw[fL,gQ,this]
def sp(x y w:Int):D:=.tup [.int x,.int y,.int w]
theorem lN{x y w:Int}{c:Cells}(hw:w≠0)(hb:My.Bd 8900 w):bg [.int x,.int y,.int w] c=some (sp (My.sx x y w) (My.sy x y w) (My.sw x y w),c):=by
 have gP:∀(z:Int),z≠0→My.Bd 8900 z→∀(n m:Int),0<(Int.gcd (Int.gcd n m:Int) z:Int)∧My.Bd 8900 (Int.gcd (Int.gcd n m:Int) z:Int):=fun z hz hb n m=>by
  have g0:=My.tG (n:=(Int.gcd n m:Int)) hz
  refine⟨g0,My.Bd.of_le hb ?_⟩
  have:=My.MS (n:=(Int.gcd n m:Int)) hz
  rw[My.tH]at this
  omega
 by_cases h:w<0
 ·obtain⟨e1,e2,e3⟩:=My.yN (x:=x) (y:=y) h
  obtain⟨g0,g1⟩:=gP (0 - w) (by omega) ⟨by have:=hb.lt;omega⟩ (0 - x) (0 - y)
  erw[bg,fM,h,Ag,e1,e2,e3]
  rfl
 ·obtain⟨e1,e2,e3⟩:=My.kP (x:=x) (y:=y) (w:=w) (by omega)
  obtain⟨g0,g1⟩:=gP w hw hb x y
  erw[bg,fM,h,Ag,e1,e2,e3]
  rfl
structure Sp(k:Nat)(x y w:Int):Prop where
 low:My.yK x y w
 bx:My.Bd k x
 iz:My.Bd k y
 bw:My.Bd k w
theorem Sp.pos{k:Nat}{x y w:Int}(h:Sp k x y w): 0<w:=h.low.pos
theorem Sp.mono{j k:Nat}{x y w:Int}(h:Sp j x y w)(e:j≤k):Sp k x y w:=⟨h.low,h.bx.mono e,h.iz.mono e,h.bw.mono e⟩
theorem Sp.mk'{k:Nat}{x y w:Int}(hw:w≠0)(bx:My.Bd k x)(iz:My.Bd k y)(bw:My.Bd k w):Sp k (My.sx x y w) (My.sy x y w) (My.sw x y w):=
 ⟨My.jJ hw,My.Bd.of_le bx (My.MT hw),My.Bd.of_le iz (My.MU hw),My.Bd.of_le bw (My.MV hw)⟩
theorem uM{x:Int}(h1: -1000000000≤x)(h2:x≤1000000000):My.Bd 31 x:=⟨by
 have:(2:Nat) ^ 31=2147483648:=by decide
 omega⟩
theorem BN{n:Nat}{c:Cells}(h:bN n c):∃x y w c',cy [.ref n] c=some (sp x y w,c')∧Sp 31 x y w∧bN n c'∧Kp n c c':=by
 obtain⟨d1,c1,e1,l1,u1,p1,k1⟩:=bT h (m:=3) (by decide) (by walk_at "bdm")
 by_cases h1:d1=0
 ·obtain⟨x,c2,e2,l2,u2,p2,k2⟩:=CJ p1
  obtain⟨y,c3,e3,l3,u3,p3,k3⟩:=CJ p2
  obtain⟨w,c4,e4,l4,u4,p4,k4⟩:=KZ p3
  have hw:w≠0:=by omega
  refine⟨_,_,_,c4,?_,Sp.mk' hw (uM l2 u2) (uM l3 u3) (uM (by omega) u4),p4,k1.trans (k2.trans (k3.trans k4))⟩
  have e5:=lN (x:=x) (y:=y) (c:=c4) hw ((uM (by omega) u4).mono (by decide))
  erw[cy,hG,e1,h1,e2,e3,e4,e5]
 ·obtain⟨x,c2,e2,l2,u2,p2,k2⟩:=bT p1 (m:=5+4*d1) (by omega) (by walk_at "bdm")
  obtain⟨y,c3,e3,l3,u3,p3,k3⟩:=bT p2 (m:=5+4*d1) (by omega) (by walk_at "bdm")
  obtain⟨z,c4,e4,l4,u4,p4,k4⟩:=bT (p3.more (zs:=[.lst [.int 1,.int 1,.int 2]])) (m:=3) (by omega) (by walk_at "bdm")
  have hs:cf (.ref c3.length) c4=some [.int 1,.int 1,.int 2]:=bE (k4.get (by simp) (p3.ne (Nat.le_refl _)))
  have key:∀w:Int,w≠0→w≤2→0≤w→jK [D.int 1,.int 1,.int 2] z=some (.int w)→∃x y w c',cy [.ref n] c=some (sp x y w,c')∧Sp 31 x y w∧bN n c'∧Kp n c c':=by
   intro w hw w2 w0 ha
   refine⟨_,_,_,c4,?_,Sp.mk' hw (uM (x:=x) (by omega) (by omega)) (uM (x:=y) (by omega) (by omega)) (uM (by omega) (by omega)),p4,k1.trans (k2.trans (k3.trans (Kp.more.trans k4)))⟩
   have e5:=lN (x:=x) (y:=y) (c:=c4) hw (by walk_at "bdm")
   erw[cy,hG,e1,h1,e2,e3,e4,lK,hs,ha,e5]
  have:z=0∨z=1∨z=2:=by omega
  rcases this with rfl|rfl|rfl
  ·exact key 1 (by decide) (by decide) (by decide) rfl
  ·exact key 1 (by decide) (by decide) (by decide) rfl
  ·exact key 2 (by decide) (by decide) (by decide) rfl
abbrev T3:=My.T3
def sd(p:T3):D:=sp p.1 p.2.1 p.2.2
def ld(l:List T3):D:=.tup (l.map sd)
abbrev Ok(k:Nat)(p:T3):Prop:=Sp k p.1 p.2.1 p.2.2
theorem Ok.qY{k:Nat}{p:T3}(h:Ok k p):My.aB p:=h.low
theorem xN{x y w i:Int}{c:Cells}:av (sp x y w) (.int i) c=(jK [D.int x,.int y,.int w] i).bind fun d=>some (d,c):=rfl
theorem RY{p q:T3}{c:Cells}(hp:Ok 1000 p)(hq:Ok 1000 q):jf [sd p,sd q] c=some (.bl (decide (p.2.1*q.2.2<q.2.1*p.2.2)),c):=by
 have a1:=hp.bx;have a2:=hp.iz;have a3:=hp.bw;have b1:=hq.bx;have b2:=hq.iz;have b3:=hq.bw
 erw[jf,je,sd,xN]
theorem sI{p q:T3}{c:Cells}(hp:Ok 1000 p)(hq:Ok 1000 q):eI [sd p,sd q] c=some (.bl (My.bj p q),c):=by
 have a1:=hp.bx;have a2:=hp.iz;have a3:=hp.bw;have b1:=hq.bx;have b2:=hq.iz;have b3:=hq.bw
 have e:=RY (c:=c) hp hq
 unfold sd at e ⊢
 unfold My.bj My.j4
 by_cases h:p.1*q.2.2=q.1*p.2.2
 ·rw[if_pos h]
  erw[eI,lL,xN,decide_eq_true h,e]
 ·rw[if_neg h]
  erw[eI,lL,xN,decide_eq_false h]
def pd(p:T3):PyData:=.tuple [.int p.1,.int p.2.1,.int p.2.2]
theorem xO{p q:T3}:pd p=pd q↔p=q:=by
 obtain⟨a,b,c⟩:=p
 obtain⟨x,y,z⟩:=q
 simp[pd]
theorem jQ{c:Cells}{k:Nat}{p:T3}:data c (k+2) (sd p)=some (pd p):=rfl
theorem mw{α β γ:Type}{f:β→Option γ}{g:α→β}{h:α→γ}(e:∀a,f (g a)=some (h a)):∀l:List α,omap f (l.map g)=some (l.map h)
 |[]=>rfl
 |a::l=>by simp only[List.map_cons,omap,e,Option.bind_some,mw e l]
theorem K0{p q:T3}{c:Cells}:mG (sd p) (sd q) c=some (decide (p=q)):=by
 have e:mG (sd p) (sd q) c=(data c 6 (sd p)).bind fun d=>(data c 6 (sd q)).bind fun e=>some (@decide (d=e) (Classical.propDecidable _)):=rfl
 rw[e,jQ,jQ,Option.bind_some,Option.bind_some]
 congr 1
 rw[Bool.eq_iff_iff];simp only[decide_eq_true_eq]
 exact xO
theorem xP{p q:T3}{c:Cells}:df (sd p) (sd q) c=some (.bl (decide (p=q)),c):=by unfold df;rw[K0];rfl
theorem mz{a:XE}{σ:Qm.Env}{c:Cells}:cE a σ c=(a σ c).bind fun p=>(tS p.1).bind fun i=>some (some i,p.2):=by
 unfold cE
 cases a σ c with
 |none=>rfl
 |some p=>obtain⟨d,c⟩:=p;cases d<;>rfl
theorem uN{l:List T3}{k:Int}{c:Cells}(h0: 0≤k):c_ (ld l) (some k) none c=some (ld (l.drop k.toNat),c):=by
 unfold ld c_ Qm.cutD Qm.DB
 dsimp only
 rw[if_neg (by omega),List.map_drop,List.length_map]
 by_cases h:k.toNat≤l.length
 ·rw[Nat.min_eq_left h,List.take_of_length_le (by rw[List.length_drop,List.length_map];exact Nat.le_refl _)]
 ·rw[Nat.min_eq_right (by omega),List.drop_eq_nil_of_le (as:=l.map sd) (i:=k.toNat) (by rw[List.length_map];omega),List.drop_eq_nil_of_le (by rw[List.length_map];exact Nat.le_refl _),List.take_nil]
theorem pI{l:List T3}{k:Int}{c:Cells}(h0: 0≤k):c_ (ld l) none (some k) c=some (ld (l.take k.toNat),c):=by
 unfold ld c_ Qm.cutD Qm.DB
 dsimp only
 rw[if_neg (by omega),List.map_take,List.length_map,List.drop_zero,Nat.sub_zero]
 by_cases h:k.toNat≤l.length
 ·rw[Nat.min_eq_left h]
 ·rw[Nat.min_eq_right (by omega),List.take_of_length_le (l:=l.map sd) (i:=k.toNat) (by rw[List.length_map];omega),List.take_of_length_le (by rw[List.length_map];exact Nat.le_refl _)]
theorem uO{l m:List T3}{c:Cells}(h:l≠[])(h2:l.length+m.length≤10000):aK (ld l) (ld m) c=some (ld (l++m),c):=by
 have e:aK (ld l) (ld m) c=if l.map sd≠[]∧(l.map sd).length+(m.map sd).length≤dk then some (.tup (l.map sd++m.map sd),c)else none:=rfl
 rw[e,if_pos ⟨by simpa using h,by rw[List.length_map,List.length_map];exact cg h2⟩]
 unfold ld
 rw[List.map_append]
theorem gA{l:List T3}{c:Cells}:cF [ld l] c=some (.int l.length,c):=by
 unfold ld
 rw[kf,uJ,Option.bind_some,List.length_map]
theorem OH{l:List T3}{k:Int}{σ:Qm.Env}{c:Cells}{a b:Nat}(ha:σ[a]? =some (some (ld l)))(hb:σ[b]? =some (some (.int k)))(h0: 0≤k)(h1:k<l.length)(h2:l.length≤100):
  e2 aK (ic c_ (eV a) (cE (eV b)) dC) (ic c_ (eV a) dC (cE (eV b))) σ c=some (ld (My.fk l k.toNat),c):=by
 have hd:l.drop k.toNat≠[]:=by
  intro e
  have:=congrArg List.length e
  rw[List.length_drop]at this
  simp at this;omega
 erw[mz,uN h0,pI h0,ha,hb,uO hd (show(l.drop k.toNat).length+(l.take k.toNat).length≤10000 by rw[List.length_drop,List.length_take];omega)]
 rfl
theorem Ah{x y w:Int}(h:My.yK x y w):My.yK (x+w) y w:=by
 exact⟨h.pos,by rw[show Int.gcd (x+w) w=Int.gcd x w by simp];exact h.low⟩
def mv(p:T3)(i:Nat):T3:=(p.1+(i:Int)*p.2.2,p.2.1,p.2.2)
theorem Ai{p:T3}:mv p 0=p:=by simp[mv]
theorem Aj{p:T3}{i:Nat}:mv p (i+1)=((mv p i).1+(mv p i).2.2,(mv p i).2.1,(mv p i).2.2):=by
 simp only[mv,Prod.mk.injEq,and_self,and_true]
 rw[Int.natCast_add,Int.add_mul]
 omega
theorem xQ{p:T3}(h:My.aB p):∀i,My.aB (mv p i)
 |0=>by rw[Ai];exact h
 |i+1=>by rw[Aj];exact Ah (xQ h i)
theorem K1{p:T3}(h:My.aB p){i j:Nat}(e:mv p i=mv p j):i=j:=by
 have e1:p.1+(i:Int)*p.2.2=p.1+(j:Int)*p.2.2:=congrArg Prod.fst e
 have e2:(i:Int)*p.2.2=(j:Int)*p.2.2:=by omega
 have h0:p.2.2≠0:=by have:=h.pos;omega
 have:=Int.eq_of_mul_eq_mul_right h0 e2
 omega
theorem OI{K:Nat}{p:T3}(h:Ok K p){i:Nat}(hi:i≤1000):Ok (K+11) (mv p i):=by
 have a1:=h.bx;have a2:=h.iz;have a3:=h.bw
 refine⟨xQ h.low i,?_,h.iz.mono (by omega),h.bw.mono (by omega)⟩
 exact(My.Bd.add h.bx (My.Bd.mul (show My.Bd 10 (i:Int)from⟨by omega⟩) h.bw)).mono (by omega)
theorem L5{p:T3}{m:Nat}{l:List T3}{c:Cells}(h:c[m]? =some (.lst (l.map sd))):vq (sd p) (.ref m) c=some (.bl (decide (p∈l)),c):=by
 have o:omap (data c 5) (l.map sd)=some (l.map pd):=mw (fun a=>jQ) l
 unfold vq JL
 rw[bE h,Option.bind_some,jQ,Option.bind_some,o,Option.bind_some,Option.bind_some]
 congr 3
 rw[Bool.eq_iff_iff];simp only[decide_eq_true_eq]
 rw[List.mem_map]
 constructor
 ·rintro⟨q,h1,h2⟩
  rw[←xO.mp h2];exact h1
 ·exact fun h=>⟨p,h,rfl⟩
theorem Ak{K:Nat}{p:T3}{m:Nat}{l:List T3}{c:Cells}(hK:K≤2000)(hp:Ok K p)(h:c[m]? =some (.lst (l.map sd)))(hn:l.length≤100):∃q,cO [sd p,.ref m] c=some (sd q,c)∧Ok (K+11) q∧q∉l:=by
 have hr:b_ (ag (e2 aK (eB cF (ag (eV 1) aj)) (eC (.int 1))) aj) [some (sd p),some (.ref m),none] c=some (⟨cM 0 (l.length+1),[]⟩,c):=by
  refine(kg (j:=(l.length:Int)+1) (c':=c) ?_ (by omega)).trans ?_
  ·erw[kf,bE h,List.length_map]
  ·rw[show((l.length:Int)+1).toNat=l.length+1 by omega]
 have key:=fV (ks:=[]) (g:=aD 2) (body:=(cH (tV (e2 vq (eV 0) (eV 1)))
   (az 0 (ar bg [] (ag (e2 aK (e2 av (eV 0) (eC (.int 0))) (e2 av (eV 0) (eC (.int 2)))) (ag (e2 av (eV 0) (eC (.int 1))) (ag (e2 av (eV 0) (eC (.int 2))) aj)))))
   br)) (fun i σ c'=>∃j x,j≤i∧(∀k<j,mv p k∈l)∧(mv p j∈l→j=i)∧σ=[some (sd (mv p j)),some (.ref m),x]∧c'=c) (cM 0 (l.length+1)) 0 [some (sd p),some (.ref m),none] c (fun _ _ _ _=>dE)
 have qX:=key (by
  rintro i d σ c' hd ⟨j,x,h1,h2,h3,rfl,rfl⟩
  have hi:i<l.length+1:=by
   have:=(List.getElem?_eq_some_iff.mp hd).1
   simpa[cM]using this
  rw[Nat.zero_add]at h1 h3 ⊢
  by_cases hj:mv p j∈l
  ·have:=h3 hj
   subst this
   have low:=xQ hp.low j
   have hw:=low.pos
   have e1:=lN (x:=(mv p j).1+(mv p j).2.2) (y:=(mv p j).2.1) (w:=(mv p j).2.2) (c:=c') (by omega) (hp.bw.mono (by omega))
   obtain⟨a1,a2,a3⟩:=My.yM (Ah low)
   rw[a1,a2,a3]at e1
   have e2:sp ((mv p j).1+(mv p j).2.2) (mv p j).2.1 (mv p j).2.2=sd (mv p (j+1)):=by rw[Aj];rfl
   rw[e2]at e1
   refine⟨_,c',[some (sd (mv p (j+1))),some (.ref m),some d],c',rfl,?_,j+1,some d,Nat.le_refl _,fun k hk=>?_,fun _=>rfl,rfl,rfl⟩
   ·have i0:av (sd (mv p j)) (.int 0) c'=some (.int (mv p j).1,c'):=rfl
    have i1:av (sd (mv p j)) (.int 1) c'=some (.int (mv p j).2.1,c'):=rfl
    have i2:av (sd (mv p j)) (.int 2) c'=some (.int (mv p j).2.2,c'):=rfl
    erw[L5 h,decide_eq_true hj,i0,i1,i2,e1]
   ·rcases Nat.lt_or_eq_of_le (Nat.le_of_lt_succ hk)with hk|rfl
    ·exact h2 k hk
    ·exact hj
  ·refine⟨_,c',[some (sd (mv p j)),some (.ref m),some d],c',rfl,?_,j,some d,by omega,h2,fun z=>absurd z hj,rfl,rfl⟩
   erw[L5 h,decide_eq_false hj]) ⟨0,none,Nat.le_refl _,fun _ hk=>by omega,fun _=>rfl,by rw[Ai],rfl⟩
 obtain⟨σ',c',e,j,x,h1,h2,h3,rfl,rfl⟩:=qX
 rw[show(cM 0 (l.length+1)).length=l.length+1 by simp[cM],Nat.zero_add]at h1 h3
 refine⟨mv p j,?_,OI hp (by omega),fun hj=>?_⟩
 ·have e0:cR (b_ (ag (e2 aK (eB cF (ag (eV 1) aj)) (eC (.int 1))) aj)) (aD 2) (cH (tV (e2 vq (eV 0) (eV 1)))
   (az 0 (ar bg [] (ag (e2 aK (e2 av (eV 0) (eC (.int 0))) (e2 av (eV 0) (eC (.int 2)))) (ag (e2 av (eV 0) (eC (.int 1))) (ag (e2 av (eV 0) (eC (.int 2))) aj)))))
   br) [some (sd p),some (.ref m),none] c'=some (.nx,[some (sd (mv p j)),some (.ref m),x],c'):=by
   unfold cR
   rw[hr,Option.bind_some]
   exact e
  erw[cO,gR,e0]
 ·have:=h3 hj
  obtain⟨i,hi,hn⟩:=My.away l (mv p) (fun i k=>K1 hp.low)
  exact hn (h2 i (by omega))
theorem cB{c c':Cells}{i:Nat}{z:Cell}(h:c <+:c')(e:c[i]? =some z):c'[i]? =some z:=by
 obtain⟨t,rfl⟩:=h
 rw[List.getElem?_append_left (List.getElem?_eq_some_iff.mp e).1];exact e
theorem uP{ks:List (Nat×Cell)}{tt:XT}{te:XE}{ρ:Qm.Env}{c:Cells}(hs:stays ks c)(b:D→Bool)(v:D→D):∀(ds:List D),
  (∀d∈ds,∀c',c <+:c'→tt (some d::ρ) c'=some (b d,c'))→
  (∀d∈ds,b d=true→∀c',c <+:c'→∃zs,te (some d::ρ) c'=some (v d,c'++zs))→
  ∀(acc:List D) (zs:List Cell) (x:Option D),acc.length+ds.length≤10000→∃xR,cY c.length ks (aD 0) tt te ds (x::ρ) (c++.lst acc::zs)=some (c++.lst (acc++(ds.filter b).map v)::xR)
 |[],_,_,acc,zs,x,_=>by
  refine⟨zs,?_⟩
  have st:stays ks (c++.lst acc::zs):=fun p hp=>cB ⟨_,rfl⟩ (hs p hp)
  unfold cY
  rw[if_pos st]
  simp
 |d::ds,ht,hv,acc,zs,x,hn=>by
  have st:stays ks (c++.lst acc::zs):=fun p hp=>cB ⟨_,rfl⟩ (hs p hp)
  have e1:=ht d List.mem_cons_self (c++.lst acc::zs) ⟨_,rfl⟩
  have NX:=fun d' hd=>ht d' (List.mem_cons_of_mem d hd)
  have RZ:=fun d' hd=>hv d' (List.mem_cons_of_mem d hd)
  rw[List.length_cons]at hn
  unfold cY
  rw[if_pos st]
  by_cases hb:b d=true
  ·obtain⟨ws,e2⟩:=hv d List.mem_cons_self hb (c++.lst acc::zs) ⟨_,rfl⟩
   have e3:(c++.lst acc::zs++ws)[c.length]? =some (.lst acc):=by simp
   have e4:(c++.lst acc::zs++ws).set c.length (.lst (acc++[v d]))=c++.lst (acc++[v d])::(zs++ws):=by simp
   obtain⟨xR,e5⟩:=uP hs b v ds NX RZ (acc++[v d]) (zs++ws) (some d) (by simp only[List.length_append,List.length_cons,List.length_nil];omega)
   refine⟨xR,?_⟩
   simp only[mf,List.set_cons_zero,Option.bind_some,e1,hb,if_true,e2,e3,e4]
   rw[if_pos (Nat.lt_of_lt_of_le (show acc.length<10000 by omega) (cg (Nat.le_refl _))),e5,List.filter_cons_of_pos hb]
   simp
  ·obtain⟨xR,e5⟩:=uP hs b v ds NX RZ acc zs (some d) (by omega)
   refine⟨xR,?_⟩
   have Er:b d=false:=by simpa using hb
   simp only[mf,List.set_cons_zero,Option.bind_some,e1,Er,Bool.false_eq_true,if_false]
   rw[e5,List.filter_cons_of_neg hb]
theorem OJ{it:XI}{cap:List (Option Nat)}{tt:XT}{te:XE}{σ ρ:Qm.Env}{x:Option D}{c:Cells}{ds:List D}{ks:List (Nat×Cell)}(b:D→Bool)(v:D→D)(hi:it σ c=some (⟨ds,ks⟩,c))(hc:kn σ cap=x::ρ)(hs:stays ks c)
  (ht:∀d∈ds,∀c',c <+:c'→tt (some d::ρ) c'=some (b d,c'))(hv:∀d∈ds,b d=true→∀c',c <+:c'→∃zs,te (some d::ρ) c'=some (v d,c'++zs))(hn:ds.length≤1000):
  ∃zs,dD it cap (aD 0) tt te σ c=some (.ref c.length,c++.lst ((ds.filter b).map v)::zs):=by
 obtain⟨zs,e⟩:=uP hs b v ds ht hv [] [] x (by simp;omega)
 refine⟨zs,?_⟩
 unfold dD
 rw[hi,Option.bind_some]
 dsimp only
 rw[hc,e]
 rfl
theorem K2{l:List T3}{i:Int}{p:T3}{c:Cells}(h0: 0≤i)(h:l[i.toNat]? =some p):av (ld l) (.int i) c=some (sd p,c):=by
 unfold ld
 rw[uK]
 have:=Ad (xs:=l.map sd) (n:=i.toNat) (x:=sd p) (by rw[List.getElem?_map,h];rfl)
 rw[show((i.toNat:Nat):Int)=i by omega]at this
 rw[this];rfl
theorem Al{lo:Int}{n:Nat}{d:D}(h:d∈cM lo n):∃i:Nat,i<n∧d= .int (lo+i):=by
 unfold cM at h
 obtain⟨i,hi,rfl⟩:=List.mem_map.mp h
 exact⟨i,by simpa using hi,rfl⟩
theorem OK{n:Nat}{i:Int}{j:Nat}(h:(0≤i∧i=j∧j<n)∨(i<0∧i+n=j)):tT n i=some j:=by
 unfold tT
 rcases h with⟨h1,h2,h3⟩|⟨h1,h2⟩
 ·rw[if_pos h1,if_pos (by omega)];congr 1;omega
 ·rw[if_neg (by omega),if_pos (by omega)];congr 1;omega
theorem Es{m:Nat}{l:List T3}{c:Cells}{i:Int}{j:Nat}{p:T3}(h:c[m]? =some (.lst (l.map sd)))(hi:(0≤i∧i=j∧j<l.length)∨(i<0∧i+l.length=j))(hp:l[j]? =some p):av (.ref m) (.int i) c=some (sd p,c):=by
 rw[lK,bE h,Option.bind_some]
 unfold jK
 rw[List.length_map,OK hi,Option.bind_some,List.getElem?_map,hp]
 rfl
theorem Et{l:List T3}{lo hi:Option Int}:Qm.cutD (l.map sd) lo hi=(Qm.cutD l lo hi).map sd:=by
 unfold Qm.cutD
 rw[List.length_map,List.map_take,List.map_drop]
theorem Eu{l:List T3}{lo hi:Option Int}:(Qm.cutD l lo hi).length≤l.length:=by
 unfold Qm.cutD
 rw[List.length_take,List.length_drop]
 omega
theorem wx{m:Nat}{c:Cells}{lo hi:Option Int}:c_ (.ref m) lo hi c=(cf (.ref m) c).bind fun xs=>some (.ref c.length,c++[.lst (Qm.cutD xs lo hi)]):=rfl
theorem wy{a b:Nat}{c:Cells}:aK (.ref a) (.ref b) c=(cp (.ref a) c).bind fun p=>(cp (.ref b) c).bind fun q=>if p.2.length+q.2.length≤dk then some (.ref c.length,c++[.lst (p.2++q.2)])else none:=rfl
theorem wA{m:Nat}{l:List T3}{p:T3}{c:Cells}(h:c[m]? =some (.lst (l.map sd)))(hn:l.length≤1000):gj (.ref m) [sd p] c=some (.bC,c.set m (.lst ((l++[p]).map sd))):=by
 have e:gj (.ref m) [sd p] c=(cp (.ref m) c).bind fun l=>if l.2.length<dk then some (.bC,c.set l.1 (.lst (l.2++[sd p])))else none:=rfl
 rw[e,dj h,Option.bind_some]
 dsimp only
 rw[List.length_map,if_pos (Nat.lt_of_lt_of_le (show l.length<10000 by omega) (cg (Nat.le_refl _))),List.map_append]
 rfl
theorem Kp.own{n m:Nat}{c c':Cells}{z:Cell}(k:Kp n c c')(h:c.length≤m):Kp n c (c'.set m z):=⟨by rw[List.length_set];exact k.len,fun i hi hn=>by rw[List.getElem?_set,if_neg (by omega)];exact k.at_ i hi hn⟩
theorem bN.own{n m:Nat}{c:Cells}{z:Cell}(h:bN n c)(hm:m≠n):bN n (c.set m z):=by
 obtain⟨a,b,h,r⟩:=h
 exact⟨a,b,by rw[List.getElem?_set,if_neg hm];exact h,r⟩
theorem bN.pre{n:Nat}{c c':Cells}(h:bN n c)(hp:c <+:c'):bN n c':=by
 obtain⟨t,rfl⟩:=hp;exact h.more
theorem Kp.pre{n:Nat}{c c':Cells}(hp:c <+:c'):Kp n c c':=by
 obtain⟨t,rfl⟩:=hp;exact Kp.more
theorem Ew{l:List T3}(h: 0<l.length):∃q,l[l.length - 1]? =some q:=⟨l[l.length - 1],List.getElem?_eq_getElem _⟩
theorem HJ{it:XI}{cap:List (Option Nat)}{te:XE}{σ ρ:Qm.Env}{x:Option D}{c:Cells}{ds:List D}{ks:List (Nat×Cell)}(v:D→D)(hi:it σ c=some (⟨ds,ks⟩,c))(hc:kn σ cap=x::ρ)(hs:stays ks c)
  (hv:∀d∈ds,∀c',c <+:c'→∃zs,te (some d::ρ) c'=some (v d,c'++zs))(hn:ds.length≤1000):
  ∃c',dD it cap (aD 0) gY te σ c=some (.ref c.length,c')∧c <+:c'∧c'[c.length]? =some (.lst (ds.map v)):=by
 obtain⟨zs,e⟩:=OJ (tt:=gY) (fun _=>true) v hi hc hs (fun _ _ _ _=>rfl) (fun d hd _=>hv d hd) hn
 rw[List.filter_eq_self.mpr (fun _ _=>rfl)]at e
 exact⟨_,e,⟨_,rfl⟩,by simp⟩
theorem HK{a:XE}{σ:Qm.Env}{c:Cells}{m:Nat}{xs:List D}(ha:a σ c=some (.ref m,c))(h:c[m]? =some (.lst xs)):ij a σ c=some (⟨xs,[(m,.lst xs)]⟩,c):=by
 unfold ij
 rw[ha,Option.bind_some]
 dsimp only
 rw[h,Option.bind_some,bE h,Option.bind_some]
def side(p q:T3):D:=.tup [sd p,sd q]
theorem Ex{l m:List T3}:yS (l.map sd) (m.map sd)=(l.zip m).map fun z=>side z.1 z.2:=by
 unfold yS
 rw[List.zip_map,List.map_map]
 rfl
theorem Ey(r:T3)(c:Cells):av (sd r) (.int 0) c=some (.int r.1,c):=rfl
theorem Ez(r:T3)(c:Cells):av (sd r) (.int 1) c=some (.int r.2.1,c):=rfl
theorem BO(r:T3)(c:Cells):av (sd r) (.int 2) c=some (.int r.2.2,c):=rfl
theorem mZ(a b:T3)(c:Cells):av (side a b) (.int 0) c=some (sd a,c):=rfl
theorem uQ(a b:T3)(c:Cells):av (side a b) (.int 1) c=some (sd b,c):=rfl
theorem OL{n:Int}{c:Cells}:mj [.int n] c=some (.int (My.sgn n),c):=by
 unfold My.sgn
 by_cases h: 0<n
 ·rw[if_pos h];erw[mj,mh,decide_eq_true h]
 ·rw[if_neg h]
  by_cases h2:n<0
  ·rw[if_pos h2];erw[mj,mh,decide_eq_false h,decide_eq_true h2]
  ·rw[if_neg h2];erw[mj,mh,decide_eq_false h,decide_eq_false h2]
def dt(a b p:T3):Int:=My.det a.1 a.2.1 a.2.2 b.1 b.2.1 b.2.2 p.1 p.2.1 p.2.2
theorem qH{p q:T3}{c:Cells}(hp:Ok 1000 p)(hq:Ok 1000 q):er [sd p,sd q] c=some (sd (p.2.1*q.2.2 - p.2.2*q.2.1,p.2.2*q.1 - p.1*q.2.2,p.1*q.2.1 - p.2.1*q.1),c):=by
 have a1:=hp.bx;have a2:=hp.iz;have a3:=hp.bw;have b1:=hq.bx;have b2:=hq.iz;have b3:=hq.bw
 erw[er,iP,Ey,Ez,BO]
 rfl
theorem HL{a b p:T3}{c:Cells}(ha:Ok 1000 a)(hb:Ok 1000 b)(hp:Ok 1000 p):mq [sd a,sd b,sd p] c=some (.int (My.sgn (dt a b p)),c):=by
 have a1:=ha.bx;have a2:=ha.iz;have a3:=ha.bw;have b1:=hb.bx;have b2:=hb.iz;have b3:=hb.bw;have p1:=hp.bx;have p2:=hp.iz;have p3:=hp.bw
 have e:=qH (c:=c) ha hb
 have k0:My.Bd 90000 (a.2.1*b.2.2 - a.2.2*b.2.1):=(My.Bd.sub (a2.mul b3) (a3.mul b2)).mono (by decide)
 have k1:My.Bd 90000 (a.2.2*b.1 - a.1*b.2.2):=(My.Bd.sub (a3.mul b1) (a1.mul b3)).mono (by decide)
 have k2:My.Bd 90000 (a.1*b.2.1 - a.2.1*b.1):=(My.Bd.sub (a1.mul b2) (a2.mul b1)).mono (by decide)
 have q1:=p1.mono (k:=90000) (by decide);have q2:=p2.mono (k:=90000) (by decide);have q3:=p3.mono (k:=90000) (by decide)
 have s:=OL (n:=dt a b p) (c:=c)
 unfold dt My.det at s ⊢
 erw[mq,sH,e,Ey,Ez,BO,bL (wq k0 q1),bL (wq k1 q2),bL (wq k2 q3),s]
theorem wB{a b:T3}{c:Cells}(ha:Ok 1000 a)(hb:Ok 1000 b):gK [side a b] c=some (if My.bj a b=true then side a b else side b a,c):=by
 have e:=sI (c:=c) ha hb
 cases h:My.bj a b
 ·rw[h]at e
  erw[gK,iQ,mZ,uQ,e]
  rfl
 ·rw[h]at e
  erw[gK,iQ,mZ,uQ,e]
theorem K3{i j:Int}{c:Cells}(h:j≠0):dS (.int i) (.int j) c=some (.int (i.fmod j),c):=by
 unfold dS;rw[Ep,if_pos h];rfl
theorem Am{i j:Int}{c:Cells}(h:j≠0)(hb:My.Bd 8900 j):di (.int i) (.int j) c=some (.int (i.fdiv j),c):=by
 unfold di;rw[Ep,if_pos ⟨h,hb⟩];rfl
theorem wC{n m:Int}{c:Cells}:iO [.int n,.int m] c=some (.int (Int.gcd n m),c):=by
 have loop:∀(k:Nat) (x y:Int) (z:Option D),y.natAbs=k→∃g z',fR (tV (e2 jx (eV 1) (eC (.int 0)))) (au (az 2 (e2 dS (eV 0) (eV 1))) (au (az 0 (eV 1)) (az 1 (eV 2)))) [some (.int x),some (.int y),z] c=some (.nx,[some (.int g),some (.int 0),z'],c)∧(if g<0 then -g else g)=(Int.gcd x y:Int):=by
  intro k
  induction k using Nat.strongRecOn with
  |_ k ih=>
   intro x y z hk
   by_cases h:y=0
   ·subst h
    exact⟨x,z,oT (by erw[]),(My.gcd_zero x).symm⟩
   ·have lt:=My.rS x h
    obtain⟨g,z',e,r⟩:=ih (x.fmod y).natAbs (by omega) y (x.fmod y) (some (.int (x.fmod y))) rfl
    rw[My.Dp]at r
    exact⟨g,z',tZ (c':=c) (c2:=c) (by erw[decide_eq_false h]) (by erw[K3 h]) e,r⟩
 obtain⟨g,z',e,r⟩:=loop _ n m none rfl
 erw[iO,kh,e,r]
theorem K4{x y w:Int}{c:Cells}(hw:w≠0)(hb:My.Bd 8900 w):pG [.int x,.int y,.int w] c=some (sd (My.spT x y w),c):=by
 have d1:=wC (n:=x) (m:=w) (c:=c)
 have d2:=wC (n:=(Int.gcd x w:Int)) (m:=y) (c:=c)
 have n0:=My.oE (x:=x) (y:=y) hw
 have nb:My.Bd 8900 (My.h9 x y w):=My.Bd.of_le hb (My.JA hw)
 unfold My.spT My.sx My.sy My.sw
 by_cases h:w<0
 ·have es:My.h9 x y w= -(Int.gcd (Int.gcd x w:Int) y:Int):=by unfold My.h9;rw[if_pos h]
  rw[es]at n0 nb ⊢
  erw[pG,pF,d1,d2,h,Am n0 nb]
  rfl
 ·have es:My.h9 x y w=(Int.gcd (Int.gcd x w:Int) y:Int):=by unfold My.h9;rw[if_neg h]
  rw[es]at n0 nb ⊢
  erw[pG,pF,d1,d2,h,Am n0 nb]
  rfl
theorem EA{p q:T3}{c:Cells}(a1:My.Bd 1000 p.1)(a2:My.Bd 1000 p.2.1)(a3:My.Bd 1000 p.2.2)(b1:My.Bd 1000 q.1)(b2:My.Bd 1000 q.2.1)(b3:My.Bd 1000 q.2.2):er [sd p,sd q] c=some (sd (p.2.1*q.2.2 - p.2.2*q.2.1,p.2.2*q.1 - p.1*q.2.2,p.1*q.2.1 - p.2.1*q.1),c):=by
 erw[er,iP,Ey,Ez,BO]
 rfl
theorem BP{a b p q:T3}{c:Cells}(ha:Ok 130 a)(hb:Ok 130 b)(hp:Ok 130 p)(hq:Ok 130 q)(hm:My.mW a b p q≠0):ji [side a b,side p q] c=some (sd (My.spT (My.mX a b p q) (My.mY a b p q) (My.mW a b p q)),c)∧Ok 530 (My.spT (My.mX a b p q) (My.mY a b p q) (My.mW a b p q)):=by
 have e1:=qH (c:=c) (ha.mono (k:=1000) (by decide)) (hb.mono (k:=1000) (by decide))
 have e2:=qH (c:=c) (hp.mono (k:=1000) (by decide)) (hq.mono (k:=1000) (by decide))
 have r:∀{u v:T3},Ok 130 u→Ok 130 v→My.Bd 261 (u.2.1*v.2.2 - u.2.2*v.2.1)∧My.Bd 261 (u.2.2*v.1 - u.1*v.2.2)∧My.Bd 261 (u.1*v.2.1 - u.2.1*v.1):=fun h1 h2=>⟨(My.Bd.sub (h1.iz.mul h2.bw) (h1.bw.mul h2.iz)).mono (by decide),(My.Bd.sub (h1.bw.mul h2.bx) (h1.bx.mul h2.bw)).mono (by decide),(My.Bd.sub (h1.bx.mul h2.iz) (h1.iz.mul h2.bx)).mono (by decide)⟩
 obtain⟨x1,x2,x3⟩:=r ha hb
 obtain⟨y1,y2,y3⟩:=r hp hq
 have e3:=EA (c:=c) (p:=(a.2.1*b.2.2 - a.2.2*b.2.1,a.2.2*b.1 - a.1*b.2.2,a.1*b.2.1 - a.2.1*b.1)) (q:=(p.2.1*q.2.2 - p.2.2*q.2.1,p.2.2*q.1 - p.1*q.2.2,p.1*q.2.1 - p.2.1*q.1)) (x1.mono (by decide)) (x2.mono (by decide)) (x3.mono (by decide)) (y1.mono (by decide)) (y2.mono (by decide)) (y3.mono (by decide))
 have bX:My.Bd 530 (My.mX a b p q):=by
  unfold My.mX My.m0;exact(My.Bd.sub (x2.mul y3) (x3.mul y2)).mono (by decide)
 have bY:My.Bd 530 (My.mY a b p q):=by
  unfold My.mY My.m1;exact(My.Bd.sub (x3.mul y1) (x1.mul y3)).mono (by decide)
 have bW:My.Bd 530 (My.mW a b p q):=by
  unfold My.mW My.m2;exact(My.Bd.sub (x1.mul y2) (x2.mul y1)).mono (by decide)
 have sp:=K4 (x:=My.mX a b p q) (y:=My.mY a b p q) (c:=c) hm (bW.mono (by decide))
 refine⟨?_,Sp.mk' hm bX bY bW⟩
 dsimp only at e3
 have ee:sd ((a.2.2*b.1 - a.1*b.2.2)*(p.1*q.2.1 - p.2.1*q.1) - (a.1*b.2.1 - a.2.1*b.1)*(p.2.2*q.1 - p.1*q.2.2),(a.1*b.2.1 - a.2.1*b.1)*(p.2.1*q.2.2 - p.2.2*q.2.1) - (a.2.1*b.2.2 - a.2.2*b.2.1)*(p.1*q.2.1 - p.2.1*q.1),(a.2.1*b.2.2 - a.2.2*b.2.1)*(p.2.2*q.1 - p.1*q.2.2) - (a.2.2*b.1 - a.1*b.2.2)*(p.2.1*q.2.2 - p.2.2*q.2.1))=sd (My.mX a b p q,My.mY a b p q,My.mW a b p q):=rfl
 rw[ee]at e3
 generalize My.mX a b p q=X at*
 generalize My.mY a b p q=Y at*
 generalize My.mW a b p q=W at*
 erw[ji,jh,mZ,uQ,e1,e2,e3,Ey,Ez,BO,sp]
theorem wD{ks:List (Nat×Cell)}{te:XE}{ρ:Qm.Env}{c:Cells}(hs:stays ks c):∀(ds vs acc:List D) (zs:List Cell) (x:Option D),ds.length=vs.length→(∀(i:Nat) d v,ds[i]? =some d→vs[i]? =some v→∀c',c <+:c'→∃ws,te (some d::ρ) c'=some (v,c'++ws))→acc.length+ds.length≤1000→
  ∃xR,cY c.length ks (aD 0) gY te ds (x::ρ) (c++.lst acc::zs)=some (c++.lst (acc++vs)::xR)
 |[],vs,acc,zs,x,hl,_,_=>by
  cases vs with
  |nil=>
   have st:stays ks (c++.lst acc::zs):=fun p hp=>cB ⟨_,rfl⟩ (hs p hp)
   refine⟨zs,?_⟩
   unfold cY
   rw[if_pos st]
   simp
  |cons v vs=>simp at hl
 |d::ds,vs,acc,zs,x,hl,hv,hn=>by
  cases vs with
  |nil=>simp at hl
  |cons v vs=>
   have st:stays ks (c++.lst acc::zs):=fun p hp=>cB ⟨_,rfl⟩ (hs p hp)
   rw[List.length_cons]at hn
   obtain⟨ws,f2⟩:=hv 0 d v rfl rfl (c++.lst acc::zs) ⟨_,rfl⟩
   have f3:(c++.lst acc::zs++ws)[c.length]? =some (.lst acc):=by simp
   have f4:(c++.lst acc::zs++ws).set c.length (.lst (acc++[v]))=c++.lst (acc++[v])::(zs++ws):=by simp
   obtain⟨xR,f5⟩:=wD hs ds vs (acc++[v]) (zs++ws) (some d) (by simpa using hl) (fun i d' v' h1 h2=>hv (i+1) d' v' (by simpa using h1) (by simpa using h2)) (by simp only[List.length_append,List.length_cons,List.length_nil];omega)
   refine⟨xR,?_⟩
   unfold cY
   rw[if_pos st]
   have f1:gY (some d::ρ) (c++.lst acc::zs)=some (true,c++.lst acc::zs):=rfl
   simp only[mf,List.set_cons_zero,Option.bind_some,f1,if_true,f2,f3,f4]
   rw[if_pos (Nat.lt_of_lt_of_le (show acc.length<10000 by omega) (cg (Nat.le_refl _))),f5]
   simp
theorem HM{it:XI}{cap:List (Option Nat)}{te:XE}{σ ρ:Qm.Env}{x:Option D}{c:Cells}{ds:List D}(vs:List D)(hi:it σ c=some (⟨ds,[]⟩,c))(hc:kn σ cap=x::ρ)(hl:ds.length=vs.length)(hv:∀(i:Nat) d v,ds[i]? =some d→vs[i]? =some v→∀c',c <+:c'→∃ws,te (some d::ρ) c'=some (v,c'++ws))(hn:ds.length≤1000):
  ∃c',dD it cap (aD 0) gY te σ c=some (.ref c.length,c')∧c <+:c'∧c'[c.length]? =some (.lst vs):=by
 obtain⟨zs,e⟩:=wD (te:=te) (ρ:=ρ) (ks:=[]) (c:=c) dE ds vs [] [] x hl hv (by simp;omega)
 refine⟨c++.lst vs::zs,?_,⟨_,rfl⟩,by simp⟩
 unfold dD
 rw[hi,Option.bind_some]
 dsimp only
 rw[hc,e]
 rfl
theorem CK{a b p q:T3}{c:Cells}(ha:Ok 1000 a)(hb:Ok 1000 b)(hp:Ok 1000 p)(hq:Ok 1000 q):∃c',g_ [side a b,side p q] c=some (.ref c.length,c')∧c <+:c'∧c'[c.length]? =some (.lst [.int (My.sgn (My.aI a b p)),.int (My.sgn (My.aI a b q))]):=by
 have hi:mN (eV 1) [some (side a b),some (side p q)] c=some (⟨[sd p,sd q],[]⟩,c):=rfl
 obtain⟨c',e,h1,h2⟩:=HM (te:=(ar mq [] (ag (e2 av (eV 1) (eC (.int 0))) (ag (e2 av (eV 1) (eC (.int 1))) (ag (eV 0) aj))))) (cap:=[none,some 0]) [.int (My.sgn (My.aI a b p)),.int (My.sgn (My.aI a b q))] hi (show kn [some (side a b),some (side p q)] [none,some 0]=none::[some (side a b)] from rfl) rfl (by
  intro i d v g1 g2 c' _
  match i with
  |0=>
   cases g1;cases g2
   exact⟨[],by rw[List.append_nil];have:=HL (c:=c') ha hb hp;erw[mZ,uQ,this];rfl⟩
  |1=>
   cases g1;cases g2
   exact⟨[],by rw[List.append_nil];have:=HL (c:=c') ha hb hq;erw[mZ,uQ,this];rfl⟩
  |n+2=>simp at g1) (by simp)
 refine⟨c',?_,h1,h2⟩
 generalize hE:dD (mN (eV 1)) [none,some 0] (aD 0) gY (ar mq [] (ag (e2 av (eV 1) (eC (.int 0))) (ag (e2 av (eV 1) (eC (.int 1))) (ag (eV 0) aj))))=EE at e
 have Uy:=hE
 rw[g_,iN,jg,Uy]
 erw[e]
def cD:My.qC→D
 |.none=>.bC
 |.dm p=>.tup [.str "spot",sd p]
 |.eG p q=>.tup [.str "stretch",sd p,sd q]
def cP:My.qC→PyData
 |.none=>.none
 |.dm p=>.tuple [.str "spot",pd p]
 |.eG p q=>.tuple [.str "stretch",pd p,pd q]
theorem ui:(("spot":Str).cps.all (·<1114112))=true:=by decide +kernel
theorem qe:(("stretch":Str).cps.all (·<1114112))=true:=by decide +kernel
theorem wF{c:Cells}{k:Nat}{x:Str}(h:x.cps.all (·<1114112)=true):data c (k+1) (.str x)=some (.str x):=by
 show(if x.cps.all (·<1114112)=true then some (PyData.str x)else none)=_
 rw[if_pos h]
theorem An{c:Cells}{k:Nat}:∀x:My.qC,data c (k+3) (cD x)=some (cP x)
 |.none=>rfl
 |.dm p=>by
  show(omap (data c (k+2)) [.str "spot",sd p]).bind (fun ds=>some (PyData.tuple ds))=_
  simp only[omap,wF ui,jQ,Option.bind_some]
  rfl
 |.eG p q=>by
  show(omap (data c (k+2)) [.str "stretch",sd p,sd q]).bind (fun ds=>some (PyData.tuple ds))=_
  simp only[omap,wF qe,jQ,Option.bind_some]
  rfl
theorem K5{c:Cells}{m n:Nat}{a b:Int}(h1:c[m]? =some (.lst [.int a,.int b]))(h2:c[n]? =some (.lst [.int 0,.int 0])):df (.ref m) (.ref n) c=some (.bl (decide (a=0∧b=0)),c):=by
 have d1:∀{m:Nat}{a b:Int},c[m]? =some (.lst [.int a,.int b])→data c 6 (.ref m)=some (.list [.int a,.int b]):=fun {m a b} h=>by
  show(match c[m]? with|some (.lst xs)=>(omap (data c 5) xs).bind fun ds=>some (PyData.list ds)|some (.ro xs)=>(omap (data c 5) xs).bind fun ds=>some (.list ds)|_=>none)=_
  rw[h];rfl
 have e:mG (.ref m) (.ref n) c=(data c 6 (.ref m)).bind fun d=>(data c 6 (.ref n)).bind fun e=>some (@decide (d=e) (Classical.propDecidable _)):=rfl
 unfold df
 rw[e,d1 h1,d1 h2,Option.bind_some,Option.bind_some,Option.bind_some]
 congr 3
 rw[Bool.eq_iff_iff];simp
theorem EB{a b p q:T3}{c:Cells}(ha:Ok 1000 a)(hb:Ok 1000 b)(hp:Ok 1000 p)(hq:Ok 1000 q):fy [side a b,side p q] c=some (cD (My.g9 (My.fw a b) (My.fw p q)),c):=by
 have R0:∀{u v:T3},Ok 1000 u→Ok 1000 v→(if My.bj u v=true then side u v else side v u)=side (My.fw u v).1 (My.fw u v).2∧Ok 1000 (My.fw u v).1∧Ok 1000 (My.fw u v).2:=fun {u v} h1 h2=>by
  unfold My.fw;split
  ·exact⟨rfl,h1,h2⟩
  ·exact⟨rfl,h2,h1⟩
 have f1:=wB (c:=c) ha hb
 have f2:=wB (c:=c) hp hq
 obtain⟨g1,l1,l2⟩:=R0 ha hb
 obtain⟨g2,r1,r2⟩:=R0 hp hq
 rw[g1]at f1
 rw[g2]at f2
 have h1:=sI (c:=c) l1 r1
 have h2:=sI (c:=c) l2 r2
 unfold My.g9
 dsimp only
 have oP:Ok 1000 (if My.bj (My.fw a b).1 (My.fw p q).1=true then(My.fw p q).1 else(My.fw a b).1):=by split<;>assumption
 have oQ:Ok 1000 (if My.bj (My.fw a b).2 (My.fw p q).2=true then(My.fw a b).2 else(My.fw p q).2):=by split<;>assumption
 have w1:(if My.bj (My.fw a b).1 (My.fw p q).1=true then sd (My.fw p q).1 else sd (My.fw a b).1)=sd (if My.bj (My.fw a b).1 (My.fw p q).1=true then(My.fw p q).1 else(My.fw a b).1):=by split<;>rfl
 have w2:(if My.bj (My.fw a b).2 (My.fw p q).2=true then sd (My.fw a b).2 else sd (My.fw p q).2)=sd (if My.bj (My.fw a b).2 (My.fw p q).2=true then(My.fw a b).2 else(My.fw p q).2):=by split<;>rfl
 have i1:∀σ:Qm.Env,σ[2]? =some (some (side (My.fw a b).1 (My.fw a b).2))→σ[3]? =some (some (side (My.fw p q).1 (My.fw p q).2))→rW (tV (ar eI [] (ag (e2 av (eV 2) (eC (.int 0))) (ag (e2 av (eV 3) (eC (.int 0))) aj)))) (e2 av (eV 3) (eC (.int 0))) (e2 av (eV 2) (eC (.int 0))) σ c=some (sd (if My.bj (My.fw a b).1 (My.fw p q).1=true then(My.fw p q).1 else(My.fw a b).1),c):=fun σ s2 s3=>by
  rw[←w1]
  cases hh:My.bj (My.fw a b).1 (My.fw p q).1<;>rw[hh]at h1<;>erw[s2,s3,mZ,h1]
 have i2:∀σ:Qm.Env,σ[2]? =some (some (side (My.fw a b).1 (My.fw a b).2))→σ[3]? =some (some (side (My.fw p q).1 (My.fw p q).2))→rW (tV (ar eI [] (ag (e2 av (eV 2) (eC (.int 1))) (ag (e2 av (eV 3) (eC (.int 1))) aj)))) (e2 av (eV 2) (eC (.int 1))) (e2 av (eV 3) (eC (.int 1))) σ c=some (sd (if My.bj (My.fw a b).2 (My.fw p q).2=true then(My.fw a b).2 else(My.fw p q).2),c):=fun σ s2 s3=>by
  rw[←w2]
  cases hh:My.bj (My.fw a b).2 (My.fw p q).2<;>rw[hh]at h2<;>erw[s2,s3,uQ,h2]
 have j1:=i1 [some (side a b),some (side p q),some (side (My.fw a b).1 (My.fw a b).2),some (side (My.fw p q).1 (My.fw p q).2),none,none] rfl rfl
 generalize (if My.bj (My.fw a b).1 (My.fw p q).1=true then(My.fw p q).1 else(My.fw a b).1)=P at*
 have j2:=i2 [some (side a b),some (side p q),some (side (My.fw a b).1 (My.fw a b).2),some (side (My.fw p q).1 (My.fw p q).2),some (sd P),none] rfl rfl
 generalize (if My.bj (My.fw a b).2 (My.fw p q).2=true then(My.fw a b).2 else(My.fw p q).2)=Q at*
 have h3:=sI (c:=c) oP oQ
 clear i1 i2
 unfold fy fq
 generalize Wn:rW (tV (ar eI [] (ag (e2 av (eV 2) (eC (.int 0))) (ag (e2 av (eV 3) (eC (.int 0))) aj)))) (e2 av (eV 3) (eC (.int 0))) (e2 av (eV 2) (eC (.int 0)))=E1 at j1 ⊢
 generalize Wo:rW (tV (ar eI [] (ag (e2 av (eV 2) (eC (.int 1))) (ag (e2 av (eV 3) (eC (.int 1))) aj)))) (e2 av (eV 2) (eC (.int 1))) (e2 av (eV 3) (eC (.int 1)))=E2 at j2 ⊢
 by_cases K6:P=Q
 ·subst K6
  rw[if_pos rfl]
  erw[f1,f2,j1,j2,xP]
  rfl
 ·rw[if_neg K6]
  cases hh:My.bj P Q
  ·rw[hh]at h3
   erw[f1,f2,j1,j2,xP,K6,h3]
   rfl
  ·rw[hh]at h3
   erw[f1,f2,j1,j2,xP,K6,h3]
   rfl
theorem CL{m:Nat}{x y:D}{c:Cells}(h:c[m]? =some (.lst [x,y])):av (.ref m) (.int 0) c=some (x,c):=by
 rw[lK,bE h];rfl
theorem CM{m:Nat}{x y:D}{c:Cells}(h:c[m]? =some (.lst [x,y])):av (.ref m) (.int 1) c=some (y,c):=by
 rw[lK,bE h];rfl
theorem sJ(n:Int): -1≤My.sgn n∧My.sgn n≤1:=by
 rcases My.Hu n with⟨_,e⟩|⟨_,e⟩|⟨_,e⟩<;>omega
theorem Ao{a b p q:T3}{c:Cells}(ha:Ok 130 a)(hb:Ok 130 b)(hp:Ok 130 p)(hq:Ok 130 q):∃c',dw [side a b,side p q] c=some (cD (My.cm a b p q),c')∧c <+:c'∧(∀z,My.cm a b p q= .dm z→Ok 1000 z)∧(∀z w,My.cm a b p q= .eG z w→Ok 1000 z∧Ok 1000 w):=by
 have K7:=ha.mono (k:=1000) (by decide);have Er:=hb.mono (k:=1000) (by decide);have vz:=hp.mono (k:=1000) (by decide);have xB:=hq.mono (k:=1000) (by decide)
 obtain⟨c1,e1,p1,g1⟩:=CK (c:=c) K7 Er vz xB
 have n1:(c1++[Cell.lst [.int 0,.int 0]])[c1.length]? =some (.lst [.int 0,.int 0]):=List.getElem?_concat_length
 have Ap:(c1++[Cell.lst [.int 0,.int 0]])[c.length]? =some (.lst [.int (My.sgn (My.aI a b p)),.int (My.sgn (My.aI a b q))]):=cB ⟨_,rfl⟩ g1
 have q1:=K5 Ap n1
 obtain⟨s1,s2⟩:=sJ (My.aI a b p)
 obtain⟨s3,s4⟩:=sJ (My.aI a b q)
 obtain⟨s5,s6⟩:=sJ (My.aI p q a)
 obtain⟨s7,s8⟩:=sJ (My.aI p q b)
 have R1:∀{u v:T3},Ok 1000 u→Ok 1000 v→Ok 1000 (My.fw u v).1∧Ok 1000 (My.fw u v).2:=fun {u v} h1 h2=>by
  unfold My.fw;split
  ·exact⟨h1,h2⟩
  ·exact⟨h2,h1⟩
 have HN:(∀z,My.g9 (My.fw a b) (My.fw p q)= .dm z→Ok 1000 z)∧(∀z w,My.g9 (My.fw a b) (My.fw p q)= .eG z w→Ok 1000 z∧Ok 1000 w):=by
  obtain⟨l1,l2⟩:=R1 K7 Er
  obtain⟨r1,r2⟩:=R1 vz xB
  have oP:Ok 1000 (if My.bj (My.fw a b).1 (My.fw p q).1=true then(My.fw p q).1 else(My.fw a b).1):=by split<;>assumption
  have oQ:Ok 1000 (if My.bj (My.fw a b).2 (My.fw p q).2=true then(My.fw a b).2 else(My.fw p q).2):=by split<;>assumption
  unfold My.g9
  dsimp only
  generalize (if My.bj (My.fw a b).1 (My.fw p q).1=true then(My.fw p q).1 else(My.fw a b).1)=P at*
  generalize (if My.bj (My.fw a b).2 (My.fw p q).2=true then(My.fw a b).2 else(My.fw p q).2)=Q at*
  refine⟨fun z hz=>?_,fun z w hz=>?_⟩
  ·split at hz
   ·cases hz;exact oP
   ·split at hz<;>cases hz
  ·split at hz
   ·cases hz
   ·split at hz
    ·cases hz;exact⟨oP,oQ⟩
    ·cases hz
 unfold My.cm
 by_cases g:My.sgn (My.aI a b p)=0∧My.sgn (My.aI a b q)=0
 ·rw[if_pos g]
  refine⟨c1++[.lst [.int 0,.int 0]],?_,p1.trans ⟨_,rfl⟩,HN.1,HN.2⟩
  have f:=EB (c:=c1++[.lst [.int 0,.int 0]]) K7 Er vz xB
  rw[decide_eq_true g]at q1
  erw[dw,gL,e1,q1,f]
 ·rw[if_neg g]
  rw[decide_eq_false g]at q1
  obtain⟨c2,e2,p2,g2⟩:=CK (c:=c1++[.lst [.int 0,.int 0]]) vz xB K7 Er
  have L6:=cB p2 Ap
  have t0:=CL L6;have t1:=CM L6;have b0:=CL g2;have b1:=CM g2
  have m1:Qm.MulOk (My.sgn (My.aI a b p)) (My.sgn (My.aI a b q)):=mulL (by omega)
  have m2:Qm.MulOk (My.sgn (My.aI p q a)) (My.sgn (My.aI p q b)):=mulL (by omega)
  have pp:c <+:c2:=p1.trans (List.IsPrefix.trans ⟨_,rfl⟩ p2)
  by_cases k1: 0<My.sgn (My.aI a b p)*My.sgn (My.aI a b q)
  ·rw[if_pos (.inl k1)]
   refine⟨c2,?_,pp,fun z hz=>(by cases hz),fun z w hz=>(by cases hz)⟩
   erw[dw,gL,e1,q1,e2,t0,t1,bL m1,k1]
   rfl
  ·by_cases k2: 0<My.sgn (My.aI p q a)*My.sgn (My.aI p q b)
   ·rw[if_pos (.inr k2)]
    refine⟨c2,?_,pp,fun z hz=>(by cases hz),fun z w hz=>(by cases hz)⟩
    erw[dw,gL,e1,q1,e2,t0,t1,b0,b1,bL m1,bL m2,k1,k2]
    rfl
   ·rw[if_neg (fun z=>z.elim k1 k2)]
    obtain⟨f,o⟩:=BP (c:=c2) ha hb hp hq (My.jN hp.pos hq.pos g k1)
    refine⟨c2,?_,pp,fun z hz=>(by cases hz;exact o.mono (by decide)),fun z w hz=>(by cases hz)⟩
    erw[dw,gL,e1,q1,e2,t0,t1,b0,b1,bL m1,bL m2,k1,k2,f]
    rfl
def pr(u:My.P2):D:=.tup [.int u.1,.int u.2]
theorem qZ(p:My.P2)(c:Cells):av (pr p) (.int 0) c=some (.int p.1,c):=rfl
theorem q_(p:My.P2)(c:Cells):av (pr p) (.int 1) c=some (.int p.2,c):=rfl
theorem r_{y z:Int}(h1:My.Bd 9000 y)(h2:My.Bd 9000 z):Qm.MulOk y z:=wq (h1.mono (by decide)) (h2.mono (by decide))
theorem xS(u v:My.P2):Qm.cI [u.1,u.2] [v.1,v.2]=My.mL u v:=by
 unfold My.mL
 simp only[Qm.cI]
theorem K9{u v:My.P2}{c:Cells}:o_ [pr u,pr v] c=some (pr (if My.mL v u=true then v else u),c):=by
 have e:o_ [pr u,pr v] c=some (if Qm.cI [v.1,v.2] [u.1,u.2]=true then pr v else pr u,c):=rfl
 rw[e,xS]
 split<;>rfl
theorem K_{u v:My.P2}{c:Cells}:pf [pr u,pr v] c=some (pr (if My.mL u v=true then v else u),c):=by
 have e:pf [pr u,pr v] c=some (if Qm.cI [u.1,u.2] [v.1,v.2]=true then pr v else pr u,c):=rfl
 rw[e,xS]
 split<;>rfl
theorem La{u v:My.P2}{c:Cells}:zw (pr u) (pr v) c=some (.bl (My.mL u v),c):=by
 have e:zw (pr u) (pr v) c=some (.bl (Qm.cI [u.1,u.2] [v.1,v.2]),c):=rfl
 rw[e,xS]
theorem uR{u v:My.P2}{m:Nat}{c:Cells}(h:c[m]? =some (.lst [pr u,pr v])):fY [.ref m] c=some (.ref c.length,c++[.lst [pr (My.ie u v).1,pr (My.ie u v).2]]):=by
 have s:=bE h
 have e:fY [.ref m] c=(cf (.ref m) c).bind fun zs=>(xw zs).bind fun q=>some (.ref c.length,c++[.lst (if Qm.cI q.2.2.1 q.2.2.2=true then [.tup q.2.1,.tup q.1] else [.tup q.1,.tup q.2.1])]):=rfl
 have e2:xw [pr u,pr v]=some ([.int u.1,.int u.2],[.int v.1,.int v.2],[u.1,u.2],[v.1,v.2]):=by
  show(if [u.1,u.2]≠[]∧[v.1,v.2]≠[] then some _ else none)=_
  rw[if_pos ⟨nofun,nofun⟩]
 rw[e,s,Option.bind_some,e2,Option.bind_some]
 dsimp only
 rw[xS]
 unfold My.ie
 split<;>rfl
theorem OM{u v:My.P2}{c:Cells}:df (pr u) (pr v) c=some (.bl (decide (u=v)),c):=by
 have e:mG (pr u) (pr v) c=some (@decide (PyData.tuple [.int u.1,.int u.2]=PyData.tuple [.int v.1,.int v.2]) (Classical.propDecidable _)):=rfl
 unfold df
 rw[e,Option.bind_some]
 congr 3
 rw[Bool.eq_iff_iff]
 simp only[decide_eq_true_eq,PyData.tuple.injEq,List.cons.injEq,PyData.int.injEq,and_true]
 exact⟨fun z=>Prod.ext z.1 z.2,fun z=>by rw[z];exact⟨rfl,rfl⟩⟩
theorem uS{u v:My.P2}{c:Cells}(h1:My.Bd 9000 u.1)(h2:My.Bd 9000 u.2)(h3:My.Bd 9000 v.1)(h4:My.Bd 9000 v.2):bP [pr u,pr v] c=some (.int (My.aF u v),c):=by
 unfold My.aF
 erw[bP,gS,qZ,q_,bL (r_ h1 h4),bL (r_ h2 h3)]
theorem mB{x y w:Int}{c:Cells}(hw:w≠0)(hb:My.Bd 8900 w):bg [.int x,.int y,.int w] c=some (sd (My.spT x y w),c):=lN hw hb
theorem HP{x y w:Int}{c:Cells}(hw:w≠0)(hb:My.Bd 8900 w):eZ [.int x,.int y,.int w] c=some (cD (.dm (My.spT x y w)),c):=by
 have l:=mB (x:=x) (y:=y) (c:=c) hw hb
 erw[eZ,jm,l]
 rfl
theorem EC{m n:Nat}{l r:My.P2×My.P2}{W:Int}{c:Cells}(hm:c[m]? =some (.lst [pr l.1,pr l.2]))(hn:c[n]? =some (.lst [pr r.1,pr r.2]))(hw:W≠0)(hb:My.Bd 8900 W):dF [.ref m,.ref n,.int W] c=some (cD (My.wk l r W),c):=by
 have a0:=CL hm;have a1:=CM hm;have b0:=CL hn;have b1:=CM hn
 unfold My.wk
 dsimp only
 have x1:=K9 (u:=l.1) (v:=r.1) (c:=c)
 have x2:=K_ (u:=l.2) (v:=r.2) (c:=c)
 generalize (if My.mL r.1 l.1=true then r.1 else l.1)=lo at*
 generalize (if My.mL l.2 r.2=true then r.2 else l.2)=hi at*
 have x3:=La (u:=lo) (v:=hi) (c:=c)
 have x4:=OM (u:=lo) (v:=hi) (c:=c)
 have y1:=mB (x:=lo.1) (y:=lo.2) (c:=c) hw hb
 have y2:=mB (x:=hi.1) (y:=hi.2) (c:=c) hw hb
 have y3:=HP (x:=lo.1) (y:=lo.2) (c:=c) hw hb
 cases g:My.mL lo hi
 ·rw[g]at x3
  by_cases k:lo=hi
  ·rw[decide_eq_true k]at x4
   rw[if_pos k]
   erw[dF,eL,a0,a1,b0,b1,x1,x2,x3,x4,qZ,q_,y3]
  ·rw[decide_eq_false k]at x4
   rw[if_neg k]
   erw[dF,eL,a0,a1,b0,b1,x1,x2,x3,x4,qZ,q_,y1,y2]
   rfl
 ·rw[g]at x3
  erw[dF,eL,a0,a1,b0,b1,x1,x2,x3]
  rfl
theorem CN{W w:Int}{k:Nat}(hW: 0<W)(hw: 0<w)(hb:My.Bd k W):My.Bd k (W / w):=by
 refine My.Bd.of_le hb ?_
 have h1:=Int.ediv_nonneg (Int.le_of_lt hW) (Int.le_of_lt hw)
 have h2:=Int.ediv_le_self w (Int.le_of_lt hW)
 omega
noncomputable abbrev hR:XS:=(cH (ot (tV (e2 df (eV 10) (eC (.int 0)))) (tV (e2 df (eV 12) (eC (.int 0))))) (aT (ar dF [] (ag (eB fY (ag (cZ (ag (eV 3) (ag (eV 4) aj))) aj)) (ag (eB fY (ag (cZ (ag (eV 5) (ag (eV 6) aj))) aj)) (ag (eV 2) aj))))) br)
noncomputable abbrev hN:XS:=(cH (tV (e2 oO (eV 10) (eC (.int 0)))) (mQ [10,11,12] (ag (e2 a_ (eC (.int 0)) (eV 10)) (ag (e2 a_ (eC (.int 0)) (eV 11)) (ag (e2 a_ (eC (.int 0)) (eV 12)) aj)))) br)
noncomputable abbrev hC:XS:=(cH (ku (tV (e2 df (eV 10) (eC (.int 0)))) (ku (km (tV (j6 vo vo (eC (.int 0)) (eV 11) (eV 10)))) (km (tV (j6 vo vo (eC (.int 0)) (eV 12) (eV 10)))))) (aT (eC .bC)) br)
noncomputable abbrev R3:XE:=(dD (mN (e2 aK (eV 0) (eV 1))) [none,some 2] (aD 0) gY (aA (ag (e2 aJ (e2 av (eV 0) (eC (.int 0))) (e2 di (eV 1) (e2 av (eV 0) (eC (.int 2))))) (ag (e2 aJ (e2 av (eV 0) (eC (.int 1))) (e2 di (eV 1) (e2 av (eV 0) (eC (.int 2))))) aj))))
noncomputable abbrev ON:XS:=(au (az 2 (e2 aJ (e2 aJ (e2 aJ (e2 av (e2 av (eV 0) (eC (.int 0))) (eC (.int 2))) (e2 av (e2 av (eV 0) (eC (.int 1))) (eC (.int 2)))) (e2 av (e2 av (eV 1) (eC (.int 0))) (eC (.int 2)))) (e2 av (e2 av (eV 1) (eC (.int 1))) (eC (.int 2)))))
 (au (tR R3 (Ct 4 (eS (aD 3) (eS (aD 4) (eS (aD 5) (eS (aD 6) ou))))))
 (au (az 7 (aA (ag (e2 a_ (e2 av (eV 4) (eC (.int 0))) (e2 av (eV 3) (eC (.int 0)))) (ag (e2 a_ (e2 av (eV 4) (eC (.int 1))) (e2 av (eV 3) (eC (.int 1)))) aj))))
 (au (az 8 (aA (ag (e2 a_ (e2 av (eV 6) (eC (.int 0))) (e2 av (eV 5) (eC (.int 0)))) (ag (e2 a_ (e2 av (eV 6) (eC (.int 1))) (e2 av (eV 5) (eC (.int 1)))) aj))))
 (au (az 9 (aA (ag (e2 a_ (e2 av (eV 5) (eC (.int 0))) (e2 av (eV 3) (eC (.int 0)))) (ag (e2 a_ (e2 av (eV 5) (eC (.int 1))) (e2 av (eV 3) (eC (.int 1)))) aj))))
 (au (az 10 (ar bP [] (ag (eV 7) (ag (eV 8) aj))))
 (au (az 11 (ar bP [] (ag (eV 9) (ag (eV 8) aj))))
 (au (az 12 (ar bP [] (ag (eV 9) (ag (eV 7) aj))))
 (au hR
 (au hN
 (au hC
 (aT (ar eZ [] (ag (e2 aK (e2 aJ (e2 av (eV 3) (eC (.int 0))) (eV 10)) (e2 aJ (e2 av (eV 7) (eC (.int 0))) (eV 11))) (ag (e2 aK (e2 aJ (e2 av (eV 3) (eC (.int 1))) (eV 10)) (e2 aJ (e2 av (eV 7) (eC (.int 1))) (eV 11))) (ag (e2 aJ (eV 2) (eV 10)) aj))))))))))))))))
theorem HQ:gT=ON:=rfl
theorem aN{a b:XS}{σ σ1:Qm.Env}{c c1:Cells}{r:Option (Fl×Qm.Env×Cells)}(h1:a σ c=some (.nx,σ1,c1))(h2:b σ1 c1=r):au a b σ c=r:=by
 rw[lJ,h1,Option.bind_some]
 exact h2
theorem Aq{a b:XS}{σ σ1:Qm.Env}{c c1:Cells}{d:D}(h1:a σ c=some (.rt d,σ1,c1)):au a b σ c=some (.rt d,σ1,c1):=by
 rw[lJ,h1]
 rfl
theorem HR{a b p q:T3}{c:Cells}(ha:Ok 130 a)(hb:Ok 130 b)(hp:Ok 130 p)(hq:Ok 130 q):∃c',dG [side a b,side p q] c=some (cD (My.share a b p q),c')∧c <+:c':=by
 have pa:=ha.pos;have pb:=hb.pos;have pp:=hp.pos;have pq:=hq.pos
 have w1:=ha.bw.mul hb.bw;have w2:=w1.mul hp.bw;have w3:=w2.mul hq.bw
 have hW: 0<My.wN a b p q:=Int.mul_pos (Int.mul_pos (Int.mul_pos pa pb) pp) pq
 have bW:My.Bd 520 (My.wN a b p q):=w3.mono (by decide)
 have HS:∀{x:T3},Ok 130 x→My.Bd 650 (My.bU (My.wN a b p q) x).1∧My.Bd 650 (My.bU (My.wN a b p q) x).2:=fun {x} h=>by
  have d:=CN hW h.pos bW
  unfold My.bU My.sc
  exact⟨(h.bx.mul d).mono (by decide),(h.iz.mul d).mono (by decide)⟩
 obtain⟨A1,A2⟩:=HS ha
 obtain⟨B1,B2⟩:=HS hb
 obtain⟨C1,C2⟩:=HS hp
 obtain⟨D1,D2⟩:=HS hq
 have R4:aK (side a b) (side p q) c=some (.tup [sd a,sd b,sd p,sd q],c):=by
  have:aK (side a b) (side p q) c=(if [sd a,sd b]≠[]∧[sd a,sd b].length+ [sd p,sd q].length≤dk then some (.tup ([sd a,sd b]++[sd p,sd q]),c)else none):=rfl
  rw[this,if_pos ⟨nofun,cg (by simp)⟩];rfl
 have hi:mN (e2 aK (eV 0) (eV 1)) [some (side a b),some (side p q),some (.int (My.wN a b p q)),none,none,none,none,none,none,none,none,none,none] c=some (⟨[sd a,sd b,sd p,sd q],[]⟩,c):=by
  unfold mN
  erw[R4]
 have item:∀{x:T3},Ok 130 x→∀c',aA (ag (e2 aJ (e2 av (eV 0) (eC (.int 0))) (e2 di (eV 1) (e2 av (eV 0) (eC (.int 2))))) (ag (e2 aJ (e2 av (eV 0) (eC (.int 1))) (e2 di (eV 1) (e2 av (eV 0) (eC (.int 2))))) aj)) [some (sd x),some (.int (My.wN a b p q))] c'=some (pr (My.bU (My.wN a b p q) x),c'):=fun {x} h c'=>by
  have d:=CN hW h.pos bW
  erw[Ey,Ez,BO,pE h.pos (h.bw.mono (k:=8900) (by decide)),bL (r_ (h.bx.mono (by decide)) (d.mono (by decide))),bL (r_ (h.iz.mono (by decide)) (d.mono (by decide)))]
  rfl
 obtain⟨c1,f1,q1,g1⟩:=HM (te:=aA (ag (e2 aJ (e2 av (eV 0) (eC (.int 0))) (e2 di (eV 1) (e2 av (eV 0) (eC (.int 2))))) (ag (e2 aJ (e2 av (eV 0) (eC (.int 1))) (e2 di (eV 1) (e2 av (eV 0) (eC (.int 2))))) aj))) (cap:=[none,some 2]) [pr (My.bU (My.wN a b p q) a),pr (My.bU (My.wN a b p q) b),pr (My.bU (My.wN a b p q) p),pr (My.bU (My.wN a b p q) q)] hi (show kn [some (side a b),some (side p q),some (.int (My.wN a b p q)),none,none,none,none,none,none,none,none,none,none] [none,some 2]=none::[some (.int (My.wN a b p q))] from rfl) rfl (by
  intro i d v g1 g2 c' _
  match i with
  |0=>cases g1;cases g2;exact⟨[],by rw[List.append_nil];exact item ha c'⟩
  |1=>cases g1;cases g2;exact⟨[],by rw[List.append_nil];exact item hb c'⟩
  |2=>cases g1;cases g2;exact⟨[],by rw[List.append_nil];exact item hp c'⟩
  |3=>cases g1;cases g2;exact⟨[],by rw[List.append_nil];exact item hq c'⟩
  |n+4=>simp at g1) (by simp)
 clear item hi R4 HS
 unfold My.share
 have OO:My.eR a b p q=My.aF (My.aR (My.bU (My.wN a b p q) b) (My.bU (My.wN a b p q) a)) (My.aR (My.bU (My.wN a b p q) q) (My.bU (My.wN a b p q) p)):=rfl
 have OP:My.uE a b p q=My.aF (My.aR (My.bU (My.wN a b p q) p) (My.bU (My.wN a b p q) a)) (My.aR (My.bU (My.wN a b p q) q) (My.bU (My.wN a b p q) p)):=rfl
 have OR:My.r8 a b p q=My.aF (My.aR (My.bU (My.wN a b p q) p) (My.bU (My.wN a b p q) a)) (My.aR (My.bU (My.wN a b p q) b) (My.bU (My.wN a b p q) a)):=rfl
 have f0:(az 2 (e2 aJ (e2 aJ (e2 aJ (e2 av (e2 av (eV 0) (eC (.int 0))) (eC (.int 2))) (e2 av (e2 av (eV 0) (eC (.int 1))) (eC (.int 2)))) (e2 av (e2 av (eV 1) (eC (.int 0))) (eC (.int 2)))) (e2 av (e2 av (eV 1) (eC (.int 1))) (eC (.int 2))))) [some (side a b),some (side p q),none,none,none,none,none,none,none,none,none,none,none] c=some (.nx,[some (side a b),some (side p q),some (.int (My.wN a b p q)),none,none,none,none,none,none,none,none,none,none],c):=by
  unfold My.wN
  erw[mZ,uQ,BO,bL (r_ (ha.bw.mono (by decide)) (hb.bw.mono (by decide))),bL (r_ (w1.mono (by decide)) (hp.bw.mono (by decide))),bL (r_ (w2.mono (by decide)) (hq.bw.mono (by decide)))]
 generalize My.eR a b p q=wh at*
 generalize My.uE a b p q=mi at*
 generalize My.r8 a b p q=th at*
 generalize My.bU (My.wN a b p q) a=A at*
 generalize My.bU (My.wN a b p q) b=B at*
 generalize My.bU (My.wN a b p q) p=C at*
 generalize My.bU (My.wN a b p q) q=DD at*
 generalize My.wN a b p q=W at*
 have sb:∀{x y:Int},My.Bd 650 x→My.Bd 650 y→My.Bd 651 (x - y):=fun h1 h2=>(My.Bd.sub h1 h2).mono (by decide)
 have u1:=sb B1 A1;have u2:=sb B2 A2;have v1:=sb D1 C1;have v2:=sb D2 C2;have z1:=sb C1 A1;have z2:=sb C2 A2
 have cb:∀{x y z w:Int},My.Bd 651 x→My.Bd 651 y→My.Bd 651 z→My.Bd 651 w→My.Bd 1304 (x*y - z*w):=fun h1 h2 h3 h4=>(My.Bd.sub (h1.mul h2) (h3.mul h4)).mono (by decide)
 have Uz:My.Bd 1304 wh:=by rw[OO];exact cb u1 v2 u2 v1
 have UA:My.Bd 1304 mi:=by rw[OP];exact cb z1 v2 z2 v1
 have Wq:My.Bd 1304 th:=by rw[OR];exact cb z1 u2 z2 u1
 have m9:∀{x:Int},My.Bd 651 x→My.Bd 9000 x:=fun h=>h.mono (by decide)
 have k5:∀c',bP [pr (My.aR B A),pr (My.aR DD C)] c'=some (.int wh,c'):=fun c'=>by rw[OO];exact uS (m9 u1) (m9 u2) (m9 v1) (m9 v2)
 have k6:∀c',bP [pr (My.aR C A),pr (My.aR DD C)] c'=some (.int mi,c'):=fun c'=>by rw[OP];exact uS (m9 z1) (m9 z2) (m9 v1) (m9 v2)
 have k7:∀c',bP [pr (My.aR C A),pr (My.aR B A)] c'=some (.int th,c'):=fun c'=>by rw[OR];exact uS (m9 z1) (m9 z2) (m9 u1) (m9 u2)
 have su:∀(x y:My.P2),(D.tup [.int (x.1 - y.1),.int (x.2 - y.2)])=pr (My.aR x y):=fun _ _=>rfl
 have UB:My.Bd 651 (My.aR B A).1:=u1
 have UC:My.Bd 651 (My.aR B A).2:=u2
 clear OO OP OR
 -- nM last
 have key:∀(R:Option (Fl×Qm.Env×Cells)),(au hR (au hN (au hC (aT (ar eZ [] (ag (e2 aK (e2 aJ (e2 av (eV 3) (eC (.int 0))) (eV 10)) (e2 aJ (e2 av (eV 7) (eC (.int 0))) (eV 11))) (ag (e2 aK (e2 aJ (e2 av (eV 3) (eC (.int 1))) (eV 10)) (e2 aJ (e2 av (eV 7) (eC (.int 1))) (eV 11))) (ag (e2 aJ (eV 2) (eV 10)) aj)))))))) [some (side a b),some (side p q),some (.int W),some (pr A),some (pr B),some (pr C),some (pr DD),some (pr (My.aR B A)),some (pr (My.aR DD C)),some (pr (My.aR C A)),some (.int wh),some (.int mi),some (.int th)] c1=R→dG [side a b,side p q] c=R.bind fin:=by
  intro R UD
  rw[dG,iN,HQ]
  have run:ON [some (side a b),some (side p q),none,none,none,none,none,none,none,none,none,none,none] c=R:=by
   refine aN f0 ?_
   refine aN (σ1:=[some (side a b),some (side p q),some (.int W),some (pr A),some (pr B),some (pr C),some (pr DD),none,none,none,none,none,none]) (c1:=c1) ?_ ?_
   ·have cell:=dj g1
    generalize hK:R3=KK at*
    have OS:KK [some (side a b),some (side p q),some (.int W),none,none,none,none,none,none,none,none,none,none] c=some (.ref c.length,c1):=by rw[←hK];exact f1
    unfold Ct
    erw[OS,cell]
   refine aN (σ1:=[some (side a b),some (side p q),some (.int W),some (pr A),some (pr B),some (pr C),some (pr DD),some (pr (My.aR B A)),none,none,none,none,none]) (c1:=c1) (by erw[qZ,q_,su]) ?_
   refine aN (σ1:=[some (side a b),some (side p q),some (.int W),some (pr A),some (pr B),some (pr C),some (pr DD),some (pr (My.aR B A)),some (pr (My.aR DD C)),none,none,none,none]) (c1:=c1) (by erw[qZ,q_,su]) ?_
   refine aN (σ1:=[some (side a b),some (side p q),some (.int W),some (pr A),some (pr B),some (pr C),some (pr DD),some (pr (My.aR B A)),some (pr (My.aR DD C)),some (pr (My.aR C A)),none,none,none]) (c1:=c1) (by erw[qZ,q_,su]) ?_
   refine aN (σ1:=[some (side a b),some (side p q),some (.int W),some (pr A),some (pr B),some (pr C),some (pr DD),some (pr (My.aR B A)),some (pr (My.aR DD C)),some (pr (My.aR C A)),some (.int wh),none,none]) (c1:=c1) (by erw[k5]) ?_
   refine aN (σ1:=[some (side a b),some (side p q),some (.int W),some (pr A),some (pr B),some (pr C),some (pr DD),some (pr (My.aR B A)),some (pr (My.aR DD C)),some (pr (My.aR C A)),some (.int wh),some (.int mi),none]) (c1:=c1) (by erw[k6]) ?_
   refine aN (σ1:=[some (side a b),some (side p q),some (.int W),some (pr A),some (pr B),some (pr C),some (pr DD),some (pr (My.aR B A)),some (pr (My.aR DD C)),some (pr (My.aR C A)),some (.int wh),some (.int mi),some (.int th)]) (c1:=c1) (by erw[k7]) ?_
   exact UD
  generalize hT:ON=TT at run
  erw[run]
 by_cases g:wh=0∧th=0
 ·rw[if_pos g]
  have n1:(c1++[Cell.lst [pr A,pr B]])[c1.length]? =some (.lst [pr A,pr B]):=List.getElem?_concat_length
  have s1:=uR n1
  generalize kL:c1++[Cell.lst [pr A,pr B]]++[Cell.lst [pr (My.ie A B).1,pr (My.ie A B).2]]=c2 at s1
  have n2:(c2++[Cell.lst [pr C,pr DD]])[c2.length]? =some (.lst [pr C,pr DD]):=List.getElem?_concat_length
  have s2:=uR n2
  have m1:c2[(c1++[Cell.lst [pr A,pr B]]).length]? =some (.lst [pr (My.ie A B).1,pr (My.ie A B).2]):=by rw[←kL];exact List.getElem?_concat_length
  generalize OT:c2++[Cell.lst [pr C,pr DD]]++[Cell.lst [pr (My.ie C DD).1,pr (My.ie C DD).2]]=c4 at s2
  have m2:c4[(c2++[Cell.lst [pr C,pr DD]]).length]? =some (.lst [pr (My.ie C DD).1,pr (My.ie C DD).2]):=by rw[←OT];exact List.getElem?_concat_length
  have UE:c4[(c1++[Cell.lst [pr A,pr B]]).length]? =some (.lst [pr (My.ie A B).1,pr (My.ie A B).2]):=cB ⟨[Cell.lst [pr C,pr DD],Cell.lst [pr (My.ie C DD).1,pr (My.ie C DD).2]],by rw[←OT];simp⟩ m1
  have ir:=EC UE m2 (show W≠0 by omega) (bW.mono (by decide))
  refine⟨c4,?_,q1.trans ⟨[Cell.lst [pr A,pr B],Cell.lst [pr (My.ie A B).1,pr (My.ie A B).2],Cell.lst [pr C,pr DD],Cell.lst [pr (My.ie C DD).1,pr (My.ie C DD).2]],by rw[←OT,←kL];simp⟩⟩
  refine(key _ (Aq (d:=cD (My.wk (My.ie A B) (My.ie C DD) W)) (σ1:=[some (side a b),some (side p q),some (.int W),some (pr A),some (pr B),some (pr C),some (pr DD),some (pr (My.aR B A)),some (pr (My.aR DD C)),some (pr (My.aR C A)),some (.int wh),some (.int mi),some (.int th)]) (c1:=c4) ?_)).trans rfl
  obtain⟨Ap,OU⟩:=g
  erw[hR,Ap,OU,s1,s2,ir]
 ·rw[if_neg g]
  have t1:hR [some (side a b),some (side p q),some (.int W),some (pr A),some (pr B),some (pr C),some (pr DD),some (pr (My.aR B A)),some (pr (My.aR DD C)),some (pr (My.aR C A)),some (.int wh),some (.int mi),some (.int th)] c1=some (.nx,[some (side a b),some (side p q),some (.int W),some (pr A),some (pr B),some (pr C),some (pr DD),some (pr (My.aR B A)),some (pr (My.aR DD C)),some (pr (My.aR C A)),some (.int wh),some (.int mi),some (.int th)],c1):=by
   by_cases Ap:wh=0
   ·have OU:¬th=0:=fun z=>g ⟨Ap,z⟩
    erw[hR,Ap,OU]
   ·erw[hR,Ap]
  have t2:hN [some (side a b),some (side p q),some (.int W),some (pr A),some (pr B),some (pr C),some (pr DD),some (pr (My.aR B A)),some (pr (My.aR DD C)),some (pr (My.aR C A)),some (.int wh),some (.int mi),some (.int th)] c1=some (.nx,[some (side a b),some (side p q),some (.int W),some (pr A),some (pr B),some (pr C),some (pr DD),some (pr (My.aR B A)),some (pr (My.aR DD C)),some (pr (My.aR C A)),some (.int (My.fJ wh wh)),some (.int (My.fJ wh mi)),some (.int (My.fJ wh th))],c1):=by
   unfold My.fJ
   by_cases k:wh<0
   ·rw[if_pos k,if_pos k,if_pos k];erw[hN,k]
   ·rw[if_neg k,if_neg k,if_neg k];erw[hN,k]
  have R5:∀{x:Int},My.Bd 1304 x→My.Bd 1305 (My.fJ wh x):=fun {x} h=>by
   unfold My.fJ;split
   ·exact(My.Bd.sub (qW (i:=0) (by decide)) h).mono (by decide)
   ·exact h.mono (by decide)
  have e1:=R5 Uz;have oN:=R5 UA
  have nz:My.fJ wh wh=0↔wh=0:=by unfold My.fJ;split<;>omega
  generalize My.fJ wh wh=Wh at*
  generalize My.fJ wh mi=Mi at*
  generalize My.fJ wh th=Th at*
  by_cases k:Wh=0∨¬(0≤Mi∧Mi≤Wh)∨¬(0≤Th∧Th≤Wh)
  ·rw[if_pos k]
   refine⟨c1,(key _ (aN t1 (aN t2 (Aq (d:=.bC) (σ1:=[some (side a b),some (side p q),some (.int W),some (pr A),some (pr B),some (pr C),some (pr DD),some (pr (My.aR B A)),some (pr (My.aR DD C)),some (pr (My.aR C A)),some (.int Wh),some (.int Mi),some (.int Th)]) (c1:=c1) ?_)))).trans rfl,q1⟩
   by_cases k1:Wh=0
   ·erw[hC,k1]
   ·by_cases k2: 0≤Mi
    ·by_cases k3:Mi≤Wh
     ·by_cases k4: 0≤Th
      ·by_cases OV:Th≤Wh
       ·exact absurd k (by omega)
       ·erw[hC,k1,k2,k3,k4,OV]
      ·erw[hC,k1,k2,k3,k4]
     ·erw[hC,k1,k2,k3]
    ·erw[hC,k1,k2]
  ·rw[if_neg k]
   have k1:¬Wh=0:=fun z=>k (.inl z)
   have k2: 0≤Mi:=by omega
   have k3:Mi≤Wh:=by omega
   have k4: 0≤Th:=by omega
   have OV:Th≤Wh:=by omega
   have wz:W*Wh≠0:=Int.mul_ne_zero (by omega) k1
   have bz:My.Bd 8900 (W*Wh):=(bW.mul e1).mono (by decide)
   have lo:=HP (x:=A.1*Wh+(My.aR B A).1*Mi) (y:=A.2*Wh+(My.aR B A).2*Mi) (c:=c1) wz bz
   refine⟨c1,(key _ (aN t1 (aN t2 (aN (σ1:=[some (side a b),some (side p q),some (.int W),some (pr A),some (pr B),some (pr C),some (pr DD),some (pr (My.aR B A)),some (pr (My.aR DD C)),some (pr (My.aR C A)),some (.int Wh),some (.int Mi),some (.int Th)]) (c1:=c1) ?_ ?_)))).trans (b:=(some (Fl.rt (cD (.dm (My.spT (A.1*Wh+(My.aR B A).1*Mi) (A.2*Wh+(My.aR B A).2*Mi) (W*Wh)))),[some (side a b),some (side p q),some (.int W),some (pr A),some (pr B),some (pr C),some (pr DD),some (pr (My.aR B A)),some (pr (My.aR DD C)),some (pr (My.aR C A)),some (.int Wh),some (.int Mi),some (.int Th)],c1)).bind fin) rfl,q1⟩
   ·erw[hC,k1,k2,k3,k4,OV]
   ·erw[qZ,q_,bL (r_ (A1.mono (by decide)) (e1.mono (by decide))),bL (r_ (A2.mono (by decide)) (e1.mono (by decide))),bL (r_ (UB.mono (by decide)) (oN.mono (by decide))),bL (r_ (UC.mono (by decide)) (oN.mono (by decide))),bL (r_ (bW.mono (by decide)) (e1.mono (by decide))),lo]
theorem uT(x:List Int):∀(ks acc:List (List Int)),(ks.foldl (fun acc k=>if k∈acc then acc else k::acc) acc).length≤acc.length+ks.length
 |[],acc=>by simp
 |k::ks,acc=>by
  rw[List.foldl_cons]
  have:=uT x ks (if k∈acc then acc else k::acc)
  split at this
  ·rw[if_pos (by assumption)];simp only[List.length_cons];omega
  ·rw[if_neg (by assumption)];simp only[List.length_cons]at this ⊢;omega
theorem foldM_eq:∀(ks acc:List (List Int)),(ks.foldl (fun acc k=>if k∈acc then acc else k::acc) acc).length=acc.length+ks.length↔ks.Nodup∧∀k∈ks,k∉acc
 |[],acc=>by simp
 |k::ks,acc=>by
  rw[List.foldl_cons]
  by_cases h:k∈acc
  ·rw[if_pos h]
   have:=uT [] ks acc
   constructor
   ·intro e;simp only[List.length_cons]at e;omega
   ·rintro⟨_,g⟩;exact absurd h (g k List.mem_cons_self)
  ·rw[if_neg h]
   have ih:=foldM_eq ks (k::acc)
   simp only[List.length_cons]at ih ⊢
   rw[show acc.length+(ks.length+1)=acc.length+1+ks.length by omega,ih,List.nodup_cons]
   constructor
   ·rintro⟨g1,g2⟩
    refine⟨⟨fun hk=>g2 k hk List.mem_cons_self,g1⟩,fun x hx=>?_⟩
    rcases List.mem_cons.mp hx with rfl|hx
    ·exact h
    ·exact fun z=>g2 x hx (List.mem_cons_of_mem _ z)
   ·rintro⟨⟨g1,g2⟩,g3⟩
    refine⟨g2,fun x hx z=>?_⟩
    rcases List.mem_cons.mp z with rfl|z
    ·exact g1 hx
    ·exact g3 x (List.mem_cons_of_mem _ hx) z
def vA(p:T3):List Int:=[p.1,p.2.1,p.2.2]
theorem HU{p q:T3}(h:vA p=vA q):p=q:=by
 obtain⟨a,b,c⟩:=p
 obtain⟨x,y,z⟩:=q
 simpa[vA]using h
theorem jn(l:List T3):(Qm.we (l.map vA)).length=l.length↔l.Nodup:=by
 have:=foldM_eq (l.map vA) []
 unfold Qm.we
 simp only[List.length_nil,Nat.zero_add,List.length_map,List.not_mem_nil,not_false_eq_true,implies_true,and_true]at this
 rw[this,List.nodup_iff_pairwise_ne,List.nodup_iff_pairwise_ne,List.pairwise_map]
 exact⟨fun h=>h.imp fun g e=>g (by rw[e]),fun h=>h.imp fun g e=>g (HU e)⟩
theorem Ar{l:List T3}{c:Cells}(hn:l.length≤75):lB [ld l] c=some (.int (Qm.we (l.map vA)).length,c):=by
 have o:omap rowOf (l.map sd)=some (l.map vA):=mw (f:=rowOf) (g:=sd) (h:=vA) (fun a=>rfl) l
 show(omap rowOf (l.map sd)).bind _=_
 rw[o,Option.bind_some,if_pos (by rw[List.length_map];exact hn)]
def iR(l:List T3):List D:=(List.range l.length).map fun i=>side (My.aV l i) (My.aV l (i+1))
theorem mC(l:List T3):(iR l).length=l.length:=by simp[iR]
theorem wG{l:List T3}{i:Nat}(h:i<l.length):(iR l)[i]? =some (side (My.aV l i) (My.aV l (i+1))):=by
 unfold iR
 rw[List.getElem?_map,List.getElem?_range h];rfl
theorem HV{l:List T3}(h: 1<l.length):yS (l.map sd) ((My.fk l 1).map sd)=iR l:=by
 rw[Ex]
 have hl:=My.lC (l:=l) (k:=1)
 refine List.ext_getElem? fun i=>?_
 by_cases hi:i<l.length
 ·rw[wG hi,List.getElem?_map]
  have e1:(l.zip (My.fk l 1))[i]? =some (My.aV l i,My.aV l (i+1)):=by
   rw[List.getElem?_zip_eq_some]
   refine⟨My.lH hi,?_⟩
   rw[←My.lI (s:=1) h]
   exact My.lH (by rw[hl];exact hi)
  rw[e1];rfl
 ·rw[List.getElem?_eq_none (by rw[List.length_map,List.length_zip,hl];omega),List.getElem?_eq_none (by rw[mC];omega)]
theorem Lb{l:List T3}{c:Cells}(h: 1<l.length)(hn:l.length≤100):jk [ld l] c=some (.ref c.length,c++[.lst (iR l)]):=by
 have hd:l.drop 1≠[]:=by
  intro e
  have:=congrArg List.length e
  rw[List.length_drop]at this
  simp at this;omega
 rw[←HV h]
 erw[jk,jj,mz,uN (k:=1) (by decide),pI (k:=1) (by decide),Int.toNat_one,uO hd (show(l.drop 1).length+(l.take 1).length≤10000 by rw[List.length_drop,List.length_take];omega)]
 rfl
theorem iS{m:Nat}{l:List T3}{c:Cells}{i:Int}{j:Nat}(h:c[m]? =some (.lst (iR l)))(hi:(0≤i∧i=j∧j<l.length)∨(i<0∧i+l.length=j))(hj:j<l.length):av (.ref m) (.int i) c=some (side (My.aV l j) (My.aV l (j+1)),c):=by
 rw[lK,bE h,Option.bind_some]
 unfold jK
 rw[mC,OK hi,Option.bind_some,wG hj]
 rfl
theorem Lc{x y:My.qC}:cP x=cP y↔x=y:=by
 cases x<;>cases y<;>simp[cP,xO]
theorem As{c:Cells}(x y:My.qC):jx (cD x) (cD y) c=some (.bl (!decide (x=y)),c):=by
 have e:mG (cD x) (cD y) c=(data c 6 (cD x)).bind fun d=>(data c 6 (cD y)).bind fun e=>some (@decide (d=e) (Classical.propDecidable _)):=by
  cases x<;>cases y<;>rfl
 unfold jx
 rw[e,An x,An y,Option.bind_some,Option.bind_some,Option.bind_some]
 congr 4
 rw[Bool.eq_iff_iff];simp only[decide_eq_true_eq]
 exact Lc
theorem Ld{c:Cells}(x:My.qC):vQ (cD x) .bC c=some (.bl (decide (x= .none)),c):=by
 cases x<;>rfl
theorem CP{α:Type}{f:α→Bool}:∀xs:List α,omap kT (xs.map fun x=>D.bl (f x))=some (xs.map f)
 |[]=>rfl
 |x::xs=>by simp only[List.map_cons,omap,L3,CP xs,Option.bind_some]
theorem OW{m:Nat}{c:Cells}{α:Type}{f:α→Bool}{xs:List α}(h:c[m]? =some (.lst (xs.map fun x=>D.bl (f x)))):Cg [.ref m] c=some (.bl (xs.all f),c):=by
 have e:Cg [.ref m] c=(cp (.ref m) c).bind fun l=>(omap kT l.2).bind fun bs=>some (.bl (bs.all id),c):=rfl
 rw[e,dj h,Option.bind_some,CP,Option.bind_some]
 congr 3
 simp[List.all_map]
def stN(n k:Nat):Nat:=if k+1=n then 1 else 0
theorem Le{l:List T3}{m k:Nat}{c:Cells}(ok:∀p∈l,Ok 130 p)(h3: 3≤l.length)(hn:l.length≤75)(hk:k<l.length)(hm:c[m]? =some (.lst (iR l))):
  ∃c',eX [.ref m,.int k] c=some (.bl ((List.range (k - 1 - stN l.length k)).all fun i=>decide (My.fm l (stN l.length k+i) k= .none)),c')∧c <+:c':=by
 have kD:∀i,Ok 130 (My.aV l i):=fun i=>ok _ (My.iM (by omega) i)
 have ns:((iR l).length:Int)=l.length:=by rw[mC]
 have hi:hZ (ag (eV 2) (ag (e2 a_ (eV 1) (eC (.int 1))) aj)) [some (.ref m),some (.int k),some (.int (stN l.length k))] c=some (⟨cM (stN l.length k) (k - 1 - stN l.length k),[]⟩,c):=by
  have:=CI (a:=ag (eV 2) (ag (e2 a_ (eV 1) (eC (.int 1))) aj)) (σ:=[some (.ref m),some (.int k),some (.int (stN l.length k))]) (c:=c) (i:=(stN l.length k:Int)) (j:=(k:Int) - 1) (c':=c) (by erw[]) (by unfold stN;split<;>omega) (by omega)
  rw[this,show((k:Int) - 1 - (stN l.length k:Int)).toNat=k - 1 - stN l.length k by omega]
 obtain⟨c1,e1,q1,g1⟩:=HJ (it:=hZ (ag (eV 2) (ag (e2 a_ (eV 1) (eC (.int 1))) aj))) (cap:=[none,some 0,some 1]) (te:=(e2 vQ (ar dw [] (ag (e2 av (eV 1) (eV 0)) (ag (e2 av (eV 1) (eV 2)) aj))) (eC .bC))) (fun d=>match d with|.int j=>.bl (decide (My.fm l j.toNat k= .none))|_=>.bC) hi (show kn [some (.ref m),some (.int k),some (.int (stN l.length k))] [none,some 0,some 1]=none::[some (.ref m),some (.int k)] from rfl) dE (fun d hd c' fD=>by
  obtain⟨i,xr,rfl⟩:=Al hd
  have ED:=cB fD hm
  have hj:stN l.length k+i<l.length:=by omega
  have x1:=iS (i:=(stN l.length k:Int)+i) (j:=stN l.length k+i) ED (.inl ⟨by omega,by omega,hj⟩) hj
  have x2:=iS (i:=(k:Int)) (j:=k) ED (.inl ⟨by omega,rfl,hk⟩) hk
  obtain⟨c2,f2,⟨ws,rfl⟩,_⟩:=Ao (c:=c') (kD (stN l.length k+i)) (kD (stN l.length k+i+1)) (kD k) (kD (k+1))
  refine⟨ws,?_⟩
  have x3:=Ld (c:=c'++ws) (My.cm (My.aV l (stN l.length k+i)) (My.aV l (stN l.length k+i+1)) (My.aV l k) (My.aV l (k+1)))
  have tn:((stN l.length k:Int)+i).toNat=stN l.length k+i:=by omega
  erw[x1,x2,f2,x3,tn]
  rfl) (by simp[cM];omega)
 have g2:c1[c.length]? =some (.lst ((List.range (k - 1 - stN l.length k)).map fun i=>D.bl (decide (My.fm l (stN l.length k+i) k= .none)))):=by
  rw[g1]
  unfold cM
  rw[List.map_map]
  congr 2
 refine⟨c1,?_,q1⟩
 have b:=OW g2
 have st:rW (tV (e2 df (eV 1) (e2 a_ (eB cF (ag (eV 0) aj)) (eC (.int 1))))) (eC (.int 1)) (eC (.int 0)) [some (.ref m),some (.int k),none] c=some (.int (stN l.length k),c):=by
  unfold stN
  by_cases g:k+1=l.length
  ·rw[if_pos g]
   have:((k:Int)=(l.length:Int) - 1):=by omega
   erw[kf,bE hm,ns,decide_eq_true this]
   all_goals rfl
  ·rw[if_neg g]
   have:¬((k:Int)=(l.length:Int) - 1):=by omega
   erw[kf,bE hm,ns,decide_eq_false this]
   all_goals rfl
 generalize hE:dD (hZ (ag (eV 2) (ag (e2 a_ (eV 1) (eC (.int 1))) aj))) [none,some 0,some 1] (aD 0) gY (e2 vQ (ar dw [] (ag (e2 av (eV 1) (eV 0)) (ag (e2 av (eV 1) (eV 2)) aj))) (eC .bC))=EE at e1
 generalize hS:rW (tV (e2 df (eV 1) (e2 a_ (eB cF (ag (eV 0) aj)) (eC (.int 1))))) (eC (.int 1)) (eC (.int 0))=SS at st
 rw[eX,iN,gr,hE,hS]
 erw[st,e1,b]
theorem jo{ks:List (Nat×Cell)}{g:XG}{body:XS}(P:Nat→Qm.Env→Cells→Prop)(b:Nat→Bool)(r:D)(Q:Cells→Prop):
  ∀(ds:List D) (k:Nat) (σ:Qm.Env) (c:Cells),(∀i σ c,P i σ c→stays ks c)→(∀i d σ c,ds[i]? =some d→P (k+i) σ c→∃σ1 c1 qd c2,g d σ c=some (σ1,c1)∧((b (k+i)=false∧body σ1 c1=some (.nx,qd,c2)∧P (k+i+1) qd c2)∨(b (k+i)=true∧body σ1 c1=some (.rt r,qd,c2)∧Q c2)))→
   P k σ c→(∃σ' c',d_ ks g body ds σ c=some (.nx,σ',c')∧P (k+ds.length) σ' c'∧∀i,i<ds.length→b (k+i)=false)∨(∃σ' c',d_ ks g body ds σ c=some (.rt r,σ',c')∧Q c'∧∃i,i<ds.length∧b (k+i)=true)
 |[],k,σ,c,hs,_,h=>.inl ⟨σ,c,by unfold d_;rw[if_pos (hs k σ c h)],h,fun i hi=>absurd hi (Nat.not_lt_zero _)⟩
 |d::ds,k,σ,c,hs,ht,h=>by
  obtain⟨σ1,c1,qd,c2,h1,h2⟩:=ht 0 d σ c rfl h
  rcases h2 with⟨hb,h2,h3⟩|⟨hb,h2,h3⟩
  ·have ih:=jo P b r Q ds (k+1) qd c2 hs (fun i d' σ c hd hp=>by
    have:=ht (i+1) d' σ c (by simpa using hd) (by rw[show k+(i+1)=k+1+i by omega];exact hp)
    rwa[show k+(i+1)=k+1+i by omega]at this) h3
   rcases ih with⟨σ',c',h4,h5,h6⟩|⟨σ',c',h4,h5,i,hi,h6⟩
   ·refine .inl ⟨σ',c',?_,by rw[show k+(d::ds).length=k+1+ds.length by simp only[List.length_cons];omega];exact h5,?_⟩
    ·unfold d_
     rw[if_pos (hs k σ c h),h1]
     simp only[Option.bind_some,h2,h4]
    ·intro i hi
     cases i with
     |zero=>exact hb
     |succ i=>have:=h6 i (by simpa using hi);rwa[show k+1+i=k+(i+1)by omega]at this
   ·refine .inr ⟨σ',c',?_,h5,i+1,by simpa using hi,by rw[show k+(i+1)=k+1+i by omega];exact h6⟩
    unfold d_
    rw[if_pos (hs k σ c h),h1]
    simp only[Option.bind_some,h2,h4]
  ·refine .inr ⟨qd,c2,?_,h3,0,by simp,hb⟩
   unfold d_
   rw[if_pos (hs k σ c h),h1]
   simp only[Option.bind_some,h2]
theorem jR{lo:Int}{n i:Nat}{d:D}(h:(cM lo n)[i]? =some d):i<n∧d= .int (lo+i):=by
 unfold cM at h
 rw[List.getElem?_map]at h
 by_cases hi:i<n
 ·rw[List.getElem?_range hi]at h;cases h;exact⟨hi,rfl⟩
 ·rw[List.getElem?_eq_none_iff.mpr (by simpa using Nat.le_of_not_lt hi)]at h;cases h
noncomputable abbrev HW:XS:=(cH (ku (tV (e2 jx (ar dw [] (ag (e2 av (eV 1) (e2 a_ (eV 2) (eC (.int 1)))) (ag (e2 av (eV 1) (eV 2)) aj))) (aA (ag (eC (.str "spot")) (ag (e2 av (e2 av (eV 1) (eV 2)) (eC (.int 0))) aj))))) (km (tV (ar eX [] (ag (eV 1) (ag (eV 2) aj))))))
   (aT (eC (.bl false)))
   br)
open Classical in
theorem HX{l:List T3}{k:Nat}:My.KH l k↔My.fm l (My.pk l.length k) k= .dm (My.aV l k)∧((List.range (k - 1 - stN l.length k)).all fun i=>decide (My.fm l (stN l.length k+i) k= .none))=true:=by
 unfold My.KH
 refine and_congr_right fun _=>?_
 rw[List.all_eq_true]
 constructor
 ·intro h i hi
  have hi:=List.mem_range.mp hi
  exact decide_eq_true (h _ (Nat.le_add_right _ _) (by omega))
 ·intro h j h1 h2
  have h1:stN l.length k≤j:=h1
  have:=of_decide_eq_true (h (j - stN l.length k) (List.mem_range.mpr (by omega)))
  rwa[show stN l.length k+(j - stN l.length k)=j by omega]at this
open Classical in
theorem lO{l:List T3}{c:Cells}(ok:∀p∈l,Ok 130 p)(hn:l.length≤75):∃c',ba [ld l] c=some (.bl (decide (My.Simp l)),c')∧c <+:c':=by
 by_cases h3:l.length<3
 ·refine⟨c,?_,List.prefix_rfl⟩
  rw[decide_eq_false (fun S=>by have:=S.qy;omega)]
  have:((l.length:Int)<3):=by omega
  erw[ba,eA,gA,decide_eq_true this]
 have OX:¬((l.length:Int)<3):=by omega
 have s1:=Ar (l:=l) (c:=c) hn
 by_cases nd:l.Nodup
 ·have e1:=(jn l).mpr nd
  rw[e1]at s1
  have s2:=Lb (l:=l) (c:=c) (by omega) (by omega)
  have hm:(c++[Cell.lst (iR l)])[c.length]? =some (.lst (iR l)):=List.getElem?_concat_length
  have kD:∀i,Ok 130 (My.aV l i):=fun i=>ok _ (My.iM (by omega) i)
  generalize HY:c++[Cell.lst (iR l)]=c1 at s2 hm
  have q1:c <+:c1:=⟨_,HY⟩
  have hr:b_ (ag (eB cF (ag (eV 1) aj)) aj) [some (ld l),some (.ref c.length),none] c1=some (⟨cM 0 l.length,[]⟩,c1):=by
   refine(kg (j:=(l.length:Int)) (c':=c1) ?_ (by omega)).trans ?_
   ·erw[kf,bE hm,mC]
   ·rw[Int.toNat_natCast]
  have key:=jo (ks:=[]) (g:=aD 2) (body:=HW) (fun i σ c'=>c1 <+:c'∧∃x,σ=[some (ld l),some (.ref c.length),x]) (fun k=>decide (¬My.KH l k)) (.bl false) (fun c'=>c1 <+:c') (cM 0 l.length) 0 [some (ld l),some (.ref c.length),none] c1 (fun _ _ _ _=>dE) (by
   rintro i d σ c' hd ⟨fD,x,rfl⟩
   obtain⟨hi,rfl⟩:=jR hd
   rw[Nat.zero_add,Int.zero_add]
   have ED:=cB fD hm
   have x2:=iS (i:=(i:Int)) (j:=i) ED (.inl ⟨by omega,rfl,hi⟩) hi
   have UG:My.pk l.length i<l.length:=by unfold My.pk;split<;>omega
   have x1:=iS (i:=(i:Int) - 1) (j:=My.pk l.length i) ED (by unfold My.pk;split<;>omega) UG
   obtain⟨c2,f2,q2,_⟩:=Ao (c:=c') (kD (My.pk l.length i)) (kD (My.pk l.length i+1)) (kD i) (kD (i+1))
   have iw:=cB q2 ED
   have x3:=iS (i:=(i:Int)) (j:=i) iw (.inl ⟨by omega,rfl,hi⟩) hi
   have ne:=As (c:=c2) (My.fm l (My.pk l.length i) i) (.dm (My.aV l i))
   have Lf:dw [side (My.aV l (My.pk l.length i)) (My.aV l (My.pk l.length i+1)),side (My.aV l i) (My.aV l (i+1))] c'=some (cD (My.fm l (My.pk l.length i) i),c2):=f2
   have ne':jx (cD (My.fm l (My.pk l.length i) i)) (.tup [.str "spot",sd (My.aV l i)]) c2=some (.bl (!decide (My.fm l (My.pk l.length i) i= .dm (My.aV l i))),c2):=ne
   obtain⟨c3,f3,q3⟩:=Le (c:=c2) ok (by omega) hn hi iw
   have iff:=HX (l:=l) (k:=i)
   generalize cD (My.fm l (My.pk l.length i) i)=V at Lf ne'
   generalize ((List.range (i - 1 - stN l.length i)).all fun j=>decide (My.fm l (stN l.length i+j) i= .none))=w at f3 iff
   by_cases g1:My.fm l (My.pk l.length i) i= .dm (My.aV l i)
   ·rw[decide_eq_true g1]at ne'
    cases w
    ·refine⟨_,c',[some (ld l),some (.ref c.length),some (.int i)],c3,rfl,.inr ⟨decide_eq_true (fun z=>by have:=(iff.mp z).2;cases this),?_,fD.trans (q2.trans q3)⟩⟩
     erw[x1,x2,Lf,x3,mZ,ne',f3]
    ·refine⟨_,c',[some (ld l),some (.ref c.length),some (.int i)],c3,rfl,.inl ⟨decide_eq_false (fun z=>z (iff.mpr ⟨g1,rfl⟩)),?_,fD.trans (q2.trans q3),_,rfl⟩⟩
     erw[x1,x2,Lf,x3,mZ,ne',f3]
   ·rw[decide_eq_false g1]at ne'
    refine⟨_,c',[some (ld l),some (.ref c.length),some (.int i)],c2,rfl,.inr ⟨decide_eq_true (fun z=>g1 (iff.mp z).1),?_,fD.trans q2⟩⟩
    erw[x1,x2,Lf,x3,mZ,ne']) ⟨List.prefix_rfl,none,rfl⟩
  have low:∀p∈l,My.aB p:=fun p hp=>(ok p hp).qY
  have ps:=My.BL low (by omega) nd
  have hl:(cM 0 l.length).length=l.length:=by simp[cM]
  have run:∀R,d_ [] (aD 2) HW (cM 0 l.length) [some (ld l),some (.ref c.length),none] c1=R→cR (b_ (ag (eB cF (ag (eV 1) aj)) aj)) (aD 2) HW [some (ld l),some (.ref c.length),none] c1=R:=fun R h=>by
   unfold cR
   rw[hr,Option.bind_some]
   exact h
  rcases key with⟨σ',c',e,⟨q,_⟩,all⟩|⟨σ',c',e,q,i,hi,hb⟩
  ·refine⟨c',?_,q1.trans q⟩
   rw[hl]at all
   have S:My.Simp l:=ps.mp fun k hk=>by
    have:=all k hk
    rw[Nat.zero_add]at this
    exact Classical.byContradiction fun z=>by rw[decide_eq_true z]at this;cases this
   rw[decide_eq_true S]
   have e0:=run _ e
   generalize hE:cR (b_ (ag (eB cF (ag (eV 1) aj)) aj)) (aD 2) HW=EE at e0
   rw[ba,iN,eA,hE]
   erw[gA,OX,s1,s2,e0]
  ·refine⟨c',?_,q1.trans q⟩
   rw[hl]at hi
   have S:¬My.Simp l:=fun S=>by
    rw[Nat.zero_add]at hb
    exact of_decide_eq_true hb (ps.mpr S i hi)
   rw[decide_eq_false S]
   have e0:=run _ e
   generalize hE:cR (b_ (ag (eB cF (ag (eV 1) aj)) aj)) (aD 2) HW=EE at e0
   rw[ba,iN,eA,hE]
   erw[gA,OX,s1,s2,e0]
 ·refine⟨c,?_,List.prefix_rfl⟩
  rw[decide_eq_false (fun S=>nd S.nd)]
  have:¬(((Qm.we (l.map vA)).length:Int)=(l.length:Int)):=fun z=>nd ((jn l).mp (by omega))
  erw[ba,eA,gA,OX,s1,this]
def jS(l:List T3)(j k:Nat):My.qC:=if j=0∧k+1=l.length then .dm (My.aV l 0)else if k=j+1 then .dm (My.aV l k)else .none
theorem pJ{l:List T3}{i:Nat}{c:Cells}(h:i<l.length):av (ld l) (.int i) c=some (sd (My.aV l i),c):=by
 refine K2 (by omega) ?_
 rw[Int.toNat_natCast];exact My.lH h
theorem Lg{l:List T3}{j k:Nat}{c:Cells}(ok:∀p∈l,Ok 130 p)(h3: 3≤l.length)(nd:l.Nodup)(hj:j<l.length)(hk:k<l.length):
  ∃c',dG [side (My.aV l j) (My.aV l (j+1)),side (My.aV l k) (My.aV l (k+1))] c=some (cD (My.fm l j k),c')∧c <+:c':=by
 have kD:∀i,Ok 130 (My.aV l i):=fun i=>ok _ (My.iM (by omega) i)
 obtain⟨c',f,q⟩:=HR (c:=c) (kD j) (kD (j+1)) (kD k) (kD (k+1))
 rw[My.Ei (kD j).qY (kD (j+1)).qY (kD k).qY (kD (k+1)).qY (My.eH nd (by omega) hj) (My.eH nd (by omega) hk)]at f
 exact⟨c',f,q⟩
noncomputable abbrev BR:XS:=(au (az 5 (eC .bC))
   (au (cH (tV (e2 df (e2 a_ (eV 3) (eV 4)) (eC (.int 1))))
   (az 5 (aA (ag (eC (.str "spot")) (ag (e2 av (eV 0) (eV 3)) aj))))
   br)
   (au (cH (ot (tV (e2 df (eV 4) (eC (.int 0)))) (tV (e2 df (eV 3) (e2 a_ (eV 1) (eC (.int 1))))))
   (az 5 (aA (ag (eC (.str "spot")) (ag (e2 av (eV 0) (eC (.int 0))) aj))))
   br)
   (cH (tV (e2 jx (ar dG [] (ag (e2 av (eV 2) (eV 4)) (ag (e2 av (eV 2) (eV 3)) aj))) (eV 5)))
   (aT (eC (.bl false)))
   br))))
theorem lP(a b d:XS)(σ:Qm.Env)(c:Cells):au a (au b d) σ c=au (au a b) d σ c:=by
 rw[lJ,lJ,lJ]
 cases a σ c with
 |none=>rfl
 |some p=>
  obtain⟨fl,σ1,c1⟩:=p
  cases fl with
  |nx=>simp only[Option.bind_some,BM,lJ]
  |_=>rfl
theorem wH(a b d e:XS)(σ:Qm.Env)(c:Cells):au a (au b (au d e)) σ c=au (au a (au b d)) e σ c:=by
 rw[lP,lP]
 have:au (au a b) d=au a (au b d):=funext fun σ=>funext fun c=>(lP a b d σ c).symm
 rw[this]
theorem R6{l:List T3}{m j k:Nat}{c:Cells}{x5:Option D}(ok:∀p∈l,Ok 130 p)(h3: 3≤l.length)(nd:l.Nodup)(j5:j<k)(hk:k<l.length)(hm:c[m]? =some (.lst (iR l))):
  ∃c',c <+:c'∧((My.fm l j k=jS l j k∧BR [some (ld l),some (.int l.length),some (.ref m),some (.int k),some (.int j),x5] c=some (.nx,[some (ld l),some (.int l.length),some (.ref m),some (.int k),some (.int j),some (cD (jS l j k))],c'))∨
   (My.fm l j k≠jS l j k∧BR [some (ld l),some (.int l.length),some (.ref m),some (.int k),some (.int j),x5] c=some (.rt (.bl false),[some (ld l),some (.int l.length),some (.ref m),some (.int k),some (.int j),some (cD (jS l j k))],c'))):=by
 have x1:=iS (c:=c) (i:=(j:Int)) (j:=j) hm (.inl ⟨by omega,rfl,by omega⟩) (by omega)
 have x2:=iS (c:=c) (i:=(k:Int)) (j:=k) hm (.inl ⟨by omega,rfl,hk⟩) hk
 obtain⟨c',f,q⟩:=Lg (c:=c) ok h3 nd (show j<l.length by omega) hk
 have i0:=pJ (l:=l) (i:=0) (c:=c) (by omega)
 have ik:=pJ (l:=l) (i:=k) (c:=c) hk
 have ne:=As (c:=c') (My.fm l j k) (jS l j k)
 have st:au (az 5 (eC .bC))
   (au (cH (tV (e2 df (e2 a_ (eV 3) (eV 4)) (eC (.int 1))))
   (az 5 (aA (ag (eC (.str "spot")) (ag (e2 av (eV 0) (eV 3)) aj))))
   br)
   (cH (ot (tV (e2 df (eV 4) (eC (.int 0)))) (tV (e2 df (eV 3) (e2 a_ (eV 1) (eC (.int 1))))))
   (az 5 (aA (ag (eC (.str "spot")) (ag (e2 av (eV 0) (eC (.int 0))) aj))))
   br)) [some (ld l),some (.int l.length),some (.ref m),some (.int k),some (.int j),x5] c=some (.nx,[some (ld l),some (.int l.length),some (.ref m),some (.int k),some (.int j),some (cD (jS l j k))],c):=by
  unfold jS
  by_cases g1:k=j+1
  ·have a1:((k:Int) - j=1):=by omega
   have g2:¬(j=0∧k+1=l.length):=by omega
   rw[if_neg g2,if_pos g1]
   by_cases a2:j=0
   ·have a3:¬((k:Int)=l.length - 1):=by omega
    have xT:((j:Int)=0):=by omega
    erw[decide_eq_true a1,ik,decide_eq_true xT,decide_eq_false a3]
    rfl
   ·have xT:¬((j:Int)=0):=by omega
    erw[decide_eq_true a1,ik,decide_eq_false xT]
    rfl
  ·have a1:¬((k:Int) - j=1):=by omega
   by_cases g2:j=0∧k+1=l.length
   ·rw[if_pos g2]
    have xT:((j:Int)=0):=by omega
    have a3:((k:Int)=l.length - 1):=by omega
    have UH:av (ld l) (.int 0) c=some (sd (My.aV l 0),c):=i0
    erw[decide_eq_false a1,decide_eq_true xT,decide_eq_true a3,UH]
    rfl
   ·rw[if_neg g2,if_neg g1]
    by_cases a2:j=0
    ·have xT:((j:Int)=0):=by omega
     have a3:¬((k:Int)=l.length - 1):=by omega
     erw[decide_eq_false a1,decide_eq_true xT,decide_eq_false a3]
     rfl
    ·have xT:¬((j:Int)=0):=by omega
     erw[decide_eq_false a1,decide_eq_false xT]
     rfl
 refine⟨c',q,?_⟩
 by_cases g:My.fm l j k=jS l j k
 ·refine .inl ⟨g,?_⟩
  rw[decide_eq_true g]at ne
  unfold BR
  rw[wH]
  refine aN st ?_
  generalize cD (jS l j k)=W at*
  generalize cD (My.fm l j k)=V at*
  erw[x1,x2,f,ne]
 ·refine .inr ⟨g,?_⟩
  rw[decide_eq_false g]at ne
  unfold BR
  rw[wH]
  refine aN st ?_
  generalize cD (jS l j k)=W at*
  generalize cD (My.fm l j k)=V at*
  erw[x1,x2,f,ne]
noncomputable abbrev BS:XS:=(cR (b_ (ag (eV 3) aj)) (aD 4) BR)
open Classical in
theorem xU{l:List T3}{c:Cells}(ok:∀p∈l,Ok 130 p)(h3: 3≤l.length)(hn:l.length≤75):∃c',cA [ld l] c=some (.bl (decide (My.Simp l)),c')∧c <+:c':=by
 have s1:=Ar (l:=l) (c:=c) hn
 by_cases nd:l.Nodup
 ·have e1:=(jn l).mpr nd
  rw[e1]at s1
  -- nM UI
  have hi:b_ (ag (eV 1) aj) [some (ld l),some (.int l.length),none,none,none,none] c=some (⟨cM 0 l.length,[]⟩,c):=by
   refine(kg (j:=(l.length:Int)) (c':=c) ?_ (by omega)).trans ?_
   ·erw[]
   ·rw[Int.toNat_natCast]
  obtain⟨c1,f1,q1,g1⟩:=HJ (it:=b_ (ag (eV 1) aj)) (cap:=[none,some 0,some 1]) (te:=(aA (ag (e2 av (eV 1) (eV 0)) (ag (e2 av (eV 1) (e2 dS (e2 aK (eV 0) (eC (.int 1))) (eV 2))) aj)))) (fun d=>match d with|.int j=>side (My.aV l j.toNat) (My.aV l (j.toNat+1))|_=>.bC) hi (show kn [some (ld l),some (.int l.length),none,none,none,none] [none,some 0,some 1]=none::[some (ld l),some (.int l.length)] from rfl) dE (fun d hd c' fD=>by
   obtain⟨i,xr,rfl⟩:=Al hd
   refine⟨[],?_⟩
   rw[List.append_nil,Int.zero_add]
   have y1:=pJ (l:=l) (i:=i) (c:=c') xr
   have y2:=pJ (l:=l) (i:=(i+1) % l.length) (c:=c') (Nat.mod_lt _ (by omega))
   rw[My.eW]at y2
   have y3:((i:Int)+1) % (l.length:Int)=(((i+1) % l.length:Nat):Int):=by rw[Int.natCast_emod];rfl
   erw[y1,qG (show(0:Int)<l.length by omega),y3,y2]
   rfl) (by simp[cM];omega)
  have hm:c1[c.length]? =some (.lst (iR l)):=by
   rw[g1]
   unfold iR cM
   rw[List.map_map]
   congr 2
   refine List.map_congr_left fun i _=>?_
   show side (My.aV l ((0:Int)+i).toNat) (My.aV l (((0:Int)+i).toNat+1))=_
   rw[show((0:Int)+i).toNat=i by omega]
  have hr:b_ (ag (eV 1) aj) [some (ld l),some (.int l.length),some (.ref c.length),none,none,none] c1=some (⟨cM 0 l.length,[]⟩,c1):=by
   refine(kg (j:=(l.length:Int)) (c':=c1) ?_ (by omega)).trans ?_
   ·erw[]
   ·rw[Int.toNat_natCast]
  have key:=jo (ks:=[]) (g:=aD 3) (body:=BS) (fun i σ c'=>c1 <+:c'∧∃x y z,σ=[some (ld l),some (.int l.length),some (.ref c.length),x,y,z]) (fun k=>decide (¬∀j,j<k→My.fm l j k=jS l j k)) (.bl false) (fun c'=>c1 <+:c') (cM 0 l.length) 0 [some (ld l),some (.int l.length),some (.ref c.length),none,none,none] c1 (fun _ _ _ _=>dE) (by
   rintro k d σ c' hd ⟨fD,x,y,z,rfl⟩
   obtain⟨hk,rfl⟩:=jR hd
   rw[Nat.zero_add,Int.zero_add]
   have Lh:b_ (ag (eV 3) aj) [some (ld l),some (.int l.length),some (.ref c.length),some (.int k),y,z] c'=some (⟨cM 0 k,[]⟩,c'):=by
    refine(kg (j:=(k:Int)) (c':=c') ?_ (by omega)).trans ?_
    ·erw[]
    ·rw[Int.toNat_natCast]
   have qX:=jo (ks:=[]) (g:=aD 4) (body:=BR) (fun i σ c'=>c1 <+:c'∧∃y z,σ=[some (ld l),some (.int l.length),some (.ref c.length),some (.int k),y,z]) (fun j=>decide (¬My.fm l j k=jS l j k)) (.bl false) (fun c'=>c1 <+:c') (cM 0 k) 0 [some (ld l),some (.int l.length),some (.ref c.length),some (.int k),y,z] c' (fun _ _ _ _=>dE) (by
    rintro j d σ c2 hd ⟨kL,y,z,rfl⟩
    obtain⟨hj,rfl⟩:=jR hd
    rw[Nat.zero_add,Int.zero_add]
    obtain⟨c3,q3,⟨g,e⟩|⟨g,e⟩⟩:=R6 (x5:=z) (m:=c.length) ok h3 nd hj hk (cB kL hm)
    ·exact⟨_,c2,_,c3,rfl,.inl ⟨decide_eq_false (fun w=>w g),e,kL.trans q3,_,_,rfl⟩⟩
    ·exact⟨_,c2,_,c3,rfl,.inr ⟨decide_eq_true g,e,kL.trans q3⟩⟩) ⟨fD,y,z,rfl⟩
   have hl:(cM 0 k).length=k:=by simp[cM]
   have run:∀R,d_ [] (aD 4) BR (cM 0 k) [some (ld l),some (.int l.length),some (.ref c.length),some (.int k),y,z] c'=R→BS [some (ld l),some (.int l.length),some (.ref c.length),some (.int k),y,z] c'=R:=fun R h=>by
    unfold BS cR
    rw[Lh,Option.bind_some]
    exact h
   rw[hl]at qX
   rcases qX with⟨σ',c2,e,⟨q,y',z',rfl⟩,all⟩|⟨σ',c2,e,q,j,hj,hb⟩
   ·refine⟨_,c',_,c2,rfl,.inl ⟨decide_eq_false (fun w=>w fun j hj=>?_),run _ e,q,_,_,_,rfl⟩⟩
    have:=all j hj
    rw[Nat.zero_add]at this
    exact Classical.byContradiction fun v=>by rw[decide_eq_true v]at this;cases this
   ·refine⟨_,c',_,c2,rfl,.inr ⟨decide_eq_true (fun w=>?_),run _ e,q⟩⟩
    rw[Nat.zero_add]at hb
    exact of_decide_eq_true hb (w j hj)) ⟨List.prefix_rfl,none,none,none,rfl⟩
  have low:∀p∈l,My.aB p:=fun p hp=>(ok p hp).qY
  have ps:(∀k,k<l.length→∀j,j<k→My.fm l j k=jS l j k)↔My.Simp l:=My.Eo low h3 nd
  have hl:(cM 0 l.length).length=l.length:=by simp[cM]
  have run:∀R,d_ [] (aD 3) BS (cM 0 l.length) [some (ld l),some (.int l.length),some (.ref c.length),none,none,none] c1=R→cR (b_ (ag (eV 1) aj)) (aD 3) BS [some (ld l),some (.int l.length),some (.ref c.length),none,none,none] c1=R:=fun R h=>by
   unfold cR
   rw[hr,Option.bind_some]
   exact h
  have fin:∀(b:Bool) (σ':Qm.Env) (c':Cells) (fl:Fl),cR (b_ (ag (eV 1) aj)) (aD 3) BS [some (ld l),some (.int l.length),some (.ref c.length),none,none,none] c1=some (fl,σ',c')→(fl= .nx∧b=true)∨(fl= .rt (.bl false)∧b=false)→cA [ld l] c=some (.bl b,c'):=by
   intro b σ' c' fl e0 hb
   generalize hE:cR (b_ (ag (eV 1) aj)) (aD 3) BS=EE at e0
   generalize hC:dD (b_ (ag (eV 1) aj)) [none,some 0,some 1] (aD 0) gY (aA (ag (e2 av (eV 1) (eV 0)) (ag (e2 av (eV 1) (e2 dS (e2 aK (eV 0) (eC (.int 1))) (eV 2))) aj)))=CC at f1
   rw[cA,iN,dP,hC,hE]
   rcases hb with⟨rfl,rfl⟩|⟨rfl,rfl⟩
   ·erw[gA,s1,f1,e0]
   ·erw[gA,s1,f1,e0]
  rw[hl]at key
  rcases key with⟨σ',c',e,⟨q,_⟩,all⟩|⟨σ',c',e,q,i,hi,hb⟩
  ·refine⟨c',?_,q1.trans q⟩
   have S:My.Simp l:=ps.mp fun k hk=>by
    have:=all k hk
    rw[Nat.zero_add]at this
    exact Classical.byContradiction fun z=>by rw[decide_eq_true z]at this;cases this
   rw[decide_eq_true S]
   exact fin _ _ _ _ (run _ e) (.inl ⟨rfl,rfl⟩)
  ·refine⟨c',?_,q1.trans q⟩
   have S:¬My.Simp l:=fun S=>by
    rw[Nat.zero_add]at hb
    exact of_decide_eq_true hb (ps.mpr S i hi)
   rw[decide_eq_false S]
   exact fin _ _ _ _ (run _ e) (.inr ⟨rfl,rfl⟩)
 ·refine⟨c,?_,List.prefix_rfl⟩
  rw[decide_eq_false (fun S=>nd S.nd)]
  have:¬(((Qm.we (l.map vA)).length:Int)=(l.length:Int)):=fun z=>nd ((jn l).mp (by omega))
  erw[cA,dP,gA,s1,this]
structure Lp(n m:Nat)(c0:Cells)(k:Nat)(l:List T3)(c:Cells):Prop where
 at_:c[m]? =some (.lst (l.map sd))
 len:l.length=k
 ok:∀p∈l,Ok 42 p
 L7:bN n c
 kp:Kp n c0 c
theorem Lp.add{n m k:Nat}{c0 c c':Cells}{l:List T3}{q:T3}(h:Lp n m c0 k l c)(hm:m≠n)(h0:c0.length≤m)(hc:c'[m]? =some (.lst (l.map sd)))(p':bN n c')(k':Kp n c c')(hq:Ok 42 q):Lp n m c0 (k+1) (l++[q]) (c'.set m (.lst ((l++[q]).map sd))):=
 ⟨by rw[List.getElem?_set,if_pos rfl,if_pos (List.getElem?_eq_some_iff.mp hc).1],by rw[List.length_append,h.len];rfl,fun p hp=>by
  rcases List.mem_append.mp hp with hp|hp
  ·exact h.ok p hp
  ·rw[List.mem_singleton.mp hp];exact hq,p'.own hm,(h.kp.trans k').own h0⟩
theorem OY{n:Nat}{c:Cells}(h:bN n c):∃l c',hJ [.ref n,.int 9] c=some (ld l,c')∧3≤l.length∧l.length≤9∧(∀p∈l,Ok 42 p)∧bN n c'∧Kp n c c':=by
 obtain⟨x,y,w,c1,f1,s1,p1,k1⟩:=BN h
 obtain⟨d,c2,f2,l2,u2,p2,k2⟩:=bT (p1.more (zs:=[.lst [sd (x,y,w)]])) (m:=9 - 2) (by decide) (by walk_at "bdm")
 have hm:c1.length≠n:=p1.ne (Nat.le_refl _)
 have h0:c.length≤c1.length:=k1.len
 have m2:c2[c1.length]? =some (.lst ([(x,y,w)].map sd)):=k2.get (by simp) hm
 have key:=fV (ks:=[]) (g:=aD 4) (body:=(nW (eM gj (eV 2) (ag (ar cO [] (ag (ar cy [] (ag (eV 0) aj)) (ag (e2 aK (cZ (ag (e2 av (eV 2) (e1 aZ (eC (.int 1)))) aj)) (ic c_ (eV 2) dC (cE (eB tW (ag (e2 df (e2 aK (eV 4) (eC (.int 1))) (eV 3)) aj))))) aj))) aj)))) (fun i σ c'=>∃l x,σ=[some (.ref n),some (.int 9),some (.ref c1.length),some (.int (3+d)),x]∧Lp n c1.length c (1+i) l c')
  (cM 1 (2+d).toNat) 0 [some (.ref n),some (.int 9),some (.ref c1.length),some (.int (3+d)),none] c2 (fun _ _ _ _=>dE)
 have qX:=key (by
  rintro i dd σ c' hd ⟨l,x,rfl,P⟩
  obtain⟨hi,rfl⟩:=jR hd
  rw[Nat.zero_add]at P ⊢
  obtain⟨x,y,w,c3,f3,s3,p3,k3⟩:=BN P.L7
  have m3:c3[c1.length]? =some (.lst (l.map sd)):=k3.get P.at_ hm
  have pl:=P.len
  obtain⟨q,hq⟩:=Ew (l:=l) (by omega)
  have i3:=Es (i:=-1) m3 (.inr ⟨by decide,by omega⟩) hq
  generalize hv:(if decide ((1:Int)+i+1=3+d)=true then(1:Int)else 0)=v
  generalize vf:Qm.cutD l none (some v)=l'
  have ML:l'.length≤l.length:=by rw[←vf];exact Eu
  have a1:(c3++[Cell.lst [sd q]])[c1.length]? =some (.lst (l.map sd)):=cB ⟨_,rfl⟩ m3
  have a2:cp (.ref c3.length) (c3++[Cell.lst [sd q]]++[Cell.lst (l'.map sd)])=some (c3.length,[sd q]):=dj (by simp)
  have a3:cp (.ref (c3++[Cell.lst [sd q]]).length) (c3++[Cell.lst [sd q]]++[Cell.lst (l'.map sd)])=some ((c3++[Cell.lst [sd q]]).length,l'.map sd):=dj List.getElem?_concat_length
  have a4:(0+1)+(l'.map sd).length≤dk:=cg (by rw[List.length_map];omega)
  obtain⟨q',f4,o4,n4⟩:=Ak (K:=31) (p:=(x,y,w)) (m:=(c3++[Cell.lst [sd q]]++[Cell.lst (l'.map sd)]).length) (l:=q::l') (c:=c3++[Cell.lst [sd q]]++[Cell.lst (l'.map sd)]++[Cell.lst (sd q::l'.map sd)]) (by decide) s3 List.getElem?_concat_length (by simp only[List.length_cons];omega)
  have a5:(c3++[Cell.lst [sd q]]++[Cell.lst (l'.map sd)]++[Cell.lst (sd q::l'.map sd)])[c1.length]? =some (.lst (l.map sd)):=cB ⟨[Cell.lst (l'.map sd)]++[Cell.lst (sd q::l'.map sd)],by simp⟩ a1
  have f5:=wA (p:=q') a5 (by omega)
  have k5:Kp n c' (c3++[Cell.lst [sd q]]++[Cell.lst (l'.map sd)]++[Cell.lst (sd q::l'.map sd)]):=k3.trans (Kp.more.trans (Kp.more.trans Kp.more))
  refine⟨_,c',[some (.ref n),some (.int 9),some (.ref c1.length),some (.int (3+d)),some (.int (1+i))],_,rfl,?_,l++[q'],some (.int (1+i)),rfl,P.add hm h0 a5 p3.more.more.more k5 o4⟩
  have UJ:cy [.ref n] c'=some (sd (x,y,w),c3):=f3
  have UK:=bE a1
  erw[dj P.at_,UJ,i3,mz,hv,wx,UK,Et,vf,wy,a2,a3,a4,f4,f5]) ⟨[(x,y,w)],none,rfl,m2,rfl,fun p hp=>by rw[List.mem_singleton.mp hp];exact s1.mono (by decide),p2,k1.trans (Kp.more.trans k2)⟩
 obtain⟨σ',c',e,l,x',rfl,P⟩:=qX
 have hr:hZ (ag (eC (.int 1)) (ag (eV 3) aj)) [some (.ref n),some (.int 9),some (.ref c1.length),some (.int (3+d)),none] c2=some (⟨cM 1 (2+d).toNat,[]⟩,c2):=by
  refine(CI (i:=1) (j:=3+d) (c':=c2) (by erw[]) (by decide) (by omega)).trans ?_
  rw[show(3+d - 1:Int)=2+d by omega]
 have pl:=P.len
 rw[show(cM 1 (2+d).toNat).length=(2+d).toNat by simp[cM]]at pl
 have e0:cR (hZ (ag (eC (.int 1)) (ag (eV 3) aj))) (aD 4) (nW (eM gj (eV 2) (ag (ar cO [] (ag (ar cy [] (ag (eV 0) aj)) (ag (e2 aK (cZ (ag (e2 av (eV 2) (e1 aZ (eC (.int 1)))) aj)) (ic c_ (eV 2) dC (cE (eB tW (ag (e2 df (e2 aK (eV 4) (eC (.int 1))) (eV 3)) aj))))) aj))) aj))) [some (.ref n),some (.int 9),some (.ref c1.length),some (.int (3+d)),none] c2=some (.nx,[some (.ref n),some (.int 9),some (.ref c1.length),some (.int (3+d)),x'],c'):=by
  unfold cR
  rw[hr,Option.bind_some]
  exact e
 refine⟨l,c',?_,by omega,by omega,P.ok,P.L7,P.kp⟩
 have OS:cy [.ref n] c=some (sd (x,y,w),c1):=f1
 erw[hJ,jl,OS,f2,e0,Ae,bE P.at_]
 rfl
theorem Au{l:List T3}{i:Int}{j:Nat}{p:T3}{c:Cells}(hi:(0≤i∧i=j∧j<l.length)∨(i<0∧i+l.length=j))(h:l[j]? =some p):av (ld l) (.int i) c=some (sd p,c):=by
 unfold ld
 rw[uK]
 unfold jK
 rw[List.length_map,OK hi,Option.bind_some,List.getElem?_map,h]
 rfl
theorem HZ(x y w:Int):sp x y w=sd (x,y,w):=rfl
theorem OZ{x:Int}(h1: -7≤x)(h2:x≤7):My.Bd 3 x:=⟨by
 have:x.natAbs<8:=by omega
 exact this⟩
theorem EF{n ka kb:Nat}{a b:T3}{c:Cells}(ha:Ok ka a)(hb:Ok kb b)(h1:ka≤200)(h2:kb≤200)(h:bN n c):∃q c',dO [.ref n,sd a,sd b] c=some (sd q,c')∧Ok (ka+kb+4) q∧bN n c'∧Kp n c c':=by
 obtain⟨n',c1,f1,l1,u1,p1,k1⟩:=bT h (m:=7) (by decide) (by walk_at "bdm")
 obtain⟨d',c2,f2,l2,u2,p2,k2⟩:=bT p1 (m:=5) (by decide) (by walk_at "bdm")
 have w0: 0<a.2.2*b.2.2*(1+d'):=Int.mul_pos (Int.mul_pos ha.pos hb.pos) (by omega)
 have t1:My.Bd 3 (n' - 1):=OZ (by omega) (by omega)
 have t2:My.Bd 3 (1+d'):=OZ (by omega) (by omega)
 have t3:My.Bd 3 (1+d' - (n' - 1)):=OZ (by omega) (by omega)
 have m1:=ha.bx.mul hb.bw;have m2:=hb.bx.mul ha.bw;have m3:=ha.iz.mul hb.bw;have m4:=hb.iz.mul ha.bw;have m5:=ha.bw.mul hb.bw
 have bx:My.Bd (ka+kb+4) (a.1*b.2.2*(1+d' - (n' - 1))+b.1*a.2.2*(n' - 1)):=(My.Bd.add (m1.mul t3) (m2.mul t1)).mono (by omega)
 have UL:My.Bd (ka+kb+4) (a.2.1*b.2.2*(1+d' - (n' - 1))+b.2.1*a.2.2*(n' - 1)):=(My.Bd.add (m3.mul t3) (m4.mul t1)).mono (by omega)
 have bw:My.Bd (ka+kb+4) (a.2.2*b.2.2*(1+d')):=(m5.mul t2).mono (by omega)
 have lo:=lN (x:=a.1*b.2.2*(1+d' - (n' - 1))+b.1*a.2.2*(n' - 1)) (y:=a.2.1*b.2.2*(1+d' - (n' - 1))+b.2.1*a.2.2*(n' - 1)) (c:=c2) (show a.2.2*b.2.2*(1+d')≠0 by omega) (bw.mono (by omega))
 have hs:=Sp.mk' (show a.2.2*b.2.2*(1+d')≠0 by omega) bx UL bw
 refine⟨(_,_,_),c2,?_,hs,p2,k1.trans k2⟩
 rw[HZ]at lo
 have ml:∀{y z:Int}{i j:Nat},My.Bd i y→My.Bd j z→i≤500→j≤500→Qm.MulOk y z:=fun h1 h2 h3 h4=>wq (h1.mono (by omega)) (h2.mono (by omega))
 erw[dO,gy,f1,f2,Ey,Ez,BO,bL (ml ha.bx hb.bw (by omega) (by omega)),bL (ml hb.bx ha.bw (by omega) (by omega)),bL (ml ha.iz hb.bw (by omega) (by omega)),bL (ml hb.iz ha.bw (by omega) (by omega)),bL (ml ha.bw hb.bw (by omega) (by omega)),bL (ml m1 t3 (by omega) (by omega)),bL (ml m2 t1 (by omega) (by omega)),bL (ml m3 t3 (by omega) (by omega)),bL (ml m4 t1 (by omega) (by omega)),bL (ml m5 t2 (by omega) (by omega)),lo]
 rfl
theorem lQ{l:List T3}{i:Int}{c:Cells}(h0: -(l.length:Int)≤i)(h1:i<l.length)(h2: 0<l.length):∃p∈l,∀c,av (ld l) (.int i) c=some (sd p,c):=by
 by_cases h: 0≤i
 ·have hq:l[i.toNat]? =some (l[i.toNat]'(by omega)):=List.getElem?_eq_getElem _
  exact⟨_,List.mem_of_getElem? hq,fun c=>Au (j:=i.toNat) (.inl ⟨h,by omega,by omega⟩) hq⟩
 ·have hq:l[(i+l.length).toNat]? =some (l[(i+l.length).toNat]'(by omega)):=List.getElem?_eq_getElem _
  exact⟨_,List.mem_of_getElem? hq,fun c=>Au (j:=(i+l.length).toNat) (.inr ⟨by omega,by omega⟩) hq⟩
theorem EG{l m:List T3}{c:Cells}(h2:l.length+m.length≤10000):qB (ld l) (ld m) c=some (ld (l++m),c):=by
 have e:qB (ld l) (ld m) c=if (l.map sd).length+(m.map sd).length≤dk then some (.tup (l.map sd++m.map sd),c)else none:=rfl
 rw[e,if_pos (by rw[List.length_map,List.length_map];exact cg h2)]
 unfold ld
 rw[List.map_append]
noncomputable abbrev O0:XS:=(au (az 2 (ar ax [] (ag (eV 0) (ag (eB cF (ag (eV 1) aj)) aj))))
   (au (az 3 (ar cy [] (ag (eV 0) aj)))
   (au (az 4 (ar ax [] (ag (eV 0) (ag (eC (.int 3)) aj))))
   (au (cH (tV (e2 df (eV 4) (eC (.int 1))))
   (au (az 5 (ar ax [] (ag (eV 0) (ag (eB cF (ag (eV 1) aj)) aj))))
   (az 3 (ar dO [] (ag (eV 0) (ag (e2 av (eV 1) (e2 a_ (eV 5) (eC (.int 1)))) (ag (e2 av (eV 1) (eV 5)) aj))))))
   br)
   (au (cH (tV (e2 df (eV 4) (eC (.int 2))))
   (az 3 (e2 av (eV 1) (ar ax [] (ag (eV 0) (ag (eB cF (ag (eV 1) aj)) aj)))))
   br)
   (au (az 3 (ar cO [] (ag (eV 3) (ag (cZ (ag (e2 av (eV 1) (e2 a_ (eV 2) (eC (.int 1)))) (ag (e2 av (eV 1) (e2 dS (e2 aK (eV 2) (eC (.int 1))) (eB cF (ag (eV 1) aj)))) aj))) aj))))
   (aT (e2 aK (e2 qB (ic c_ (eV 1) dC (cE (eV 2))) (aA (ag (eV 3) aj))) (ic c_ (eV 1) (cE (e2 aK (eV 2) (eC (.int 1)))) dC)))))))))
theorem H_:gU=O0:=rfl
theorem Ia{n:Nat}{l:List T3}{c:Cells}(ok:∀p∈l,Ok 42 p)(h3: 3≤l.length)(hn:l.length≤30)(h:bN n c):∃l' c',fN [.ref n,ld l] c=some (ld l',c')∧l'.length=l.length∧(∀p∈l',Ok 130 p)∧bN n c'∧Kp n c c':=by
 have lb:∀c',cF [ld l] c'=some (.int l.length,c'):=fun c'=>gA
 obtain⟨a,c1,f1,a0,a1,p1,k1⟩:=bT h (m:=l.length) (by omega) ((qW (by omega)).mono (by decide))
 obtain⟨v0,v1,v2,c2,f2,o2,p2,k2⟩:=BN p1
 rw[HZ]at f2
 generalize hv:((v0,v1,v2):T3)=p0 at f2
 have UM:Ok 31 p0:=by rw[←hv];exact o2
 obtain⟨pk,c3,f3,b0,b1,p3,k3⟩:=bT p2 (m:=3) (by decide) (by walk_at "bdm")
 -- nM dm VW is put
 have mid:∃(p:T3) (c4:Cells) (x:Option D),Ok 88 p∧bN n c4∧Kp n c3 c4∧(au (cH (tV (e2 df (eV 4) (eC (.int 1))))
   (au (az 5 (ar ax [] (ag (eV 0) (ag (eB cF (ag (eV 1) aj)) aj))))
   (az 3 (ar dO [] (ag (eV 0) (ag (e2 av (eV 1) (e2 a_ (eV 5) (eC (.int 1)))) (ag (e2 av (eV 1) (eV 5)) aj))))))
   br)
   (cH (tV (e2 df (eV 4) (eC (.int 2))))
   (az 3 (e2 av (eV 1) (ar ax [] (ag (eV 0) (ag (eB cF (ag (eV 1) aj)) aj)))))
   br)) [some (.ref n),some (ld l),some (.int a),some (sd p0),some (.int pk),none] c3=some (.nx,[some (.ref n),some (ld l),some (.int a),some (sd p),some (.int pk),x],c4):=by
  by_cases e1:pk=1
  ·obtain⟨j,c4,f4,j0,j1,p4,k4⟩:=bT p3 (m:=l.length) (by omega) ((qW (by omega)).mono (by decide))
   obtain⟨u,hu,gu⟩:=lQ (l:=l) (i:=j - 1) (c:=c4) (by omega) (by omega) (by omega)
   obtain⟨w,hw,gw⟩:=lQ (l:=l) (i:=j) (c:=c4) (by omega) (by omega) (by omega)
   obtain⟨q,c5,f5,o5,p5,k5⟩:=EF (ok u hu) (ok w hw) (by decide) (by decide) p4
   refine⟨q,c5,some (.int j),o5,p5,k4.trans k5,?_⟩
   have e2:¬pk=2:=by omega
   erw[e1,lb,f4,gu,gw,f5]
  ·by_cases oN:pk=2
   ·obtain⟨j,c4,f4,j0,j1,p4,k4⟩:=bT p3 (m:=l.length) (by omega) ((qW (by omega)).mono (by decide))
    obtain⟨w,hw,gw⟩:=lQ (l:=l) (i:=j) (c:=c4) (by omega) (by omega) (by omega)
    refine⟨w,c4,none,(ok w hw).mono (by decide),p4,k4,?_⟩
    erw[oN,lb,f4,gw]
   ·refine⟨p0,c3,none,UM.mono (by decide),p3,Kp.refl _ _,?_⟩
    erw[e1,oN]
 obtain⟨p,c4,x,op,p4,k4,f4⟩:=mid
 obtain⟨u,hu,gu⟩:=lQ (l:=l) (i:=a - 1) (c:=c4) (by omega) (by omega) (by omega)
 have VX: 0≤(a+1) % (l.length:Int)∧(a+1) % (l.length:Int)<l.length:=⟨Int.emod_nonneg _ (by omega),Int.emod_lt_of_pos _ (by omega)⟩
 obtain⟨w,hw,gw⟩:=lQ (l:=l) (i:=(a+1) % (l.length:Int)) (c:=c4) (by omega) (by omega) (by omega)
 have m5:(c4++[Cell.lst [sd u,sd w]])[c4.length]? =some (.lst ([u,w].map sd)):=List.getElem?_concat_length
 obtain⟨q,f5,oq,_⟩:=Ak (K:=88) (by decide) op m5 (by simp)
 refine⟨l.take a.toNat++[q]++l.drop (a+1).toNat,c4++[Cell.lst [sd u,sd w]],?_,?_,fun z hz=>?_,p4.more,k1.trans (k2.trans (k3.trans (k4.trans Kp.more)))⟩
 ·have g1:=pI (l:=l) (k:=a) (c:=c4++[Cell.lst [sd u,sd w]]) a0
  have g2:=uN (l:=l) (k:=a+1) (c:=c4++[Cell.lst [sd u,sd w]]) (by omega)
  have g3:=EG (l:=l.take a.toNat) (m:=[q]) (c:=c4++[Cell.lst [sd u,sd w]]) (by rw[List.length_take,List.length_singleton];omega)
  have g4:=uO (l:=l.take a.toNat++[q]) (m:=l.drop (a+1).toNat) (c:=c4++[Cell.lst [sd u,sd w]]) (by simp) (by rw[List.length_append,List.length_take,List.length_singleton,List.length_drop];omega)
  have eq1:(D.tup [sd q])=ld [q]:=rfl
  rw[fN,iN,H_]
  have UN:cO [sd p,.ref c4.length] (c4++[Cell.lst [sd u,sd w]])=some (sd q,c4++[Cell.lst [sd u,sd w]]):=f5
  have run:O0 [some (.ref n),some (ld l),none,none,none,none] c=some (.rt (ld (l.take a.toNat++[q]++l.drop (a+1).toNat)),[some (.ref n),some (ld l),some (.int a),some (sd q),some (.int pk),x],c4++[Cell.lst [sd u,sd w]]):=by
   refine aN (σ1:=[some (.ref n),some (ld l),some (.int a),none,none,none]) (c1:=c1) (by erw[lb,f1]) ?_
   refine aN (σ1:=[some (.ref n),some (ld l),some (.int a),some (sd p0),none,none]) (c1:=c2) (by erw[f2]) ?_
   refine aN (σ1:=[some (.ref n),some (ld l),some (.int a),some (sd p0),some (.int pk),none]) (c1:=c3) (by erw[f3]) ?_
   rw[lP]
   refine aN f4 ?_
   refine aN (σ1:=[some (.ref n),some (ld l),some (.int a),some (sd q),some (.int pk),x]) (c1:=c4++[Cell.lst [sd u,sd w]]) (by
    erw[gu,lb,qG (show(0:Int)<l.length by omega),gw,UN]) ?_
   erw[mz,g1,g2,eq1,g3,g4]
  generalize hT:O0=TT at run
  erw[run]
 ·simp only[List.length_append,List.length_take,List.length_drop,List.length_singleton]
  omega
 ·rcases List.mem_append.mp hz with hz|hz
  ·rcases List.mem_append.mp hz with hz|hz
   ·exact(ok z (List.mem_of_mem_take hz)).mono (by decide)
   ·rw[List.mem_singleton.mp hz];exact oq.mono (by decide)
  ·exact(ok z (List.mem_of_mem_drop hz)).mono (by decide)
abbrev P2:=My.P2
theorem Li: 12≤dk:=cg (by decide)
theorem Lj: 10≤dk:=cg (by decide)
def w1:List P2:=[(4,0),(7,1),(3,1),(1,1),(2,3),(1,4),(0,5),(-1,6),(-1,3),(-1,1),(-3,2),(-5,1)]
def w2:List P2:=[(-4,0),(-4,-1),(-3,-2),(-1,-1),(-1,-4),(0,-5),(1,-3),(2,-3),(2,-2),(3,-1)]
def w3:List P2:=[(5,-1),(9,-1)]
noncomputable abbrev R7:XS:=(az 1 (cZ (ag (aA (ag (eC (.int 4)) (ag (eC (.int 0)) aj))) (ag (aA (ag (eC (.int 7)) (ag (eC (.int 1)) aj))) (ag (aA (ag (eC (.int 3)) (ag (eC (.int 1)) aj))) (ag (aA (ag (eC (.int 1)) (ag (eC (.int 1)) aj))) (ag (aA (ag (eC (.int 2)) (ag (eC (.int 3)) aj))) (ag (aA (ag (eC (.int 1)) (ag (eC (.int 4)) aj))) (ag (aA (ag (eC (.int 0)) (ag (eC (.int 5)) aj))) (ag (aA (ag (e1 aZ (eC (.int 1))) (ag (eC (.int 6)) aj))) (ag (aA (ag (e1 aZ (eC (.int 1))) (ag (eC (.int 3)) aj))) (ag (aA (ag (e1 aZ (eC (.int 1))) (ag (eC (.int 1)) aj))) (ag (aA (ag (e1 aZ (eC (.int 3))) (ag (eC (.int 2)) aj))) (ag (aA (ag (e1 aZ (eC (.int 5))) (ag (eC (.int 1)) aj))) aj))))))))))))))
noncomputable abbrev O2:XS:=(az 1 (e2 aK (eV 1) (cZ (ag (aA (ag (e1 aZ (eC (.int 4))) (ag (eC (.int 0)) aj))) (ag (aA (ag (e1 aZ (eC (.int 4))) (ag (e1 aZ (eC (.int 1))) aj))) (ag (aA (ag (e1 aZ (eC (.int 3))) (ag (e1 aZ (eC (.int 2))) aj))) (ag (aA (ag (e1 aZ (eC (.int 1))) (ag (e1 aZ (eC (.int 1))) aj))) (ag (aA (ag (e1 aZ (eC (.int 1))) (ag (e1 aZ (eC (.int 4))) aj))) (ag (aA (ag (eC (.int 0)) (ag (e1 aZ (eC (.int 5))) aj))) (ag (aA (ag (eC (.int 1)) (ag (e1 aZ (eC (.int 3))) aj))) (ag (aA (ag (eC (.int 2)) (ag (e1 aZ (eC (.int 3))) aj))) (ag (aA (ag (eC (.int 2)) (ag (e1 aZ (eC (.int 2))) aj))) (ag (aA (ag (eC (.int 3)) (ag (e1 aZ (eC (.int 1))) aj))) aj)))))))))))))
noncomputable abbrev O3:XS:=(az 1 (e2 aK (eV 1) (cZ (ag (aA (ag (eC (.int 5)) (ag (e1 aZ (eC (.int 1))) aj))) (ag (aA (ag (eC (.int 9)) (ag (e1 aZ (eC (.int 1))) aj))) aj)))))
noncomputable abbrev UO:XS:=(mQ [2,3] (ag (e2 a_ (ar ax [] (ag (eV 0) (ag (eC (.int 2000)) aj))) (eC (.int 1000))) (ag (e2 a_ (ar ax [] (ag (eV 0) (ag (eC (.int 2000)) aj))) (eC (.int 1000))) aj)))
noncomputable abbrev UP:XS:=(az 4 (e2 aK (eC (.int 1)) (ar ax [] (ag (eV 0) (ag (eC (.int 3)) aj)))))
noncomputable abbrev xV:XT:=(ku (tV (e2 oO (ar ax [] (ag (eV 1) (ag (eV 2) aj))) (eC (.int 2)))) (tV (e2 vq (eV 0) (zN 8 (eV 3)))))
noncomputable abbrev R8:XS:=(az 5 (dD (ij (eV 1)) [none,some 0,some 4,some 1] (aD 0) xV (eV 0)))
noncomputable abbrev Lk:XS:=(au (az 8 (e2 aK (eC (.int 1)) (ar ax [] (ag (eV 0) (ag (eC (.int 60)) aj)))))
   (au (az 9 (e2 aK (eC (.int 1)) (ar ax [] (ag (eV 0) (ag (eC (.int 5)) aj)))))
   (nW (eM gj (eV 6) (ag (ar bg [] (ag (e2 aK (e2 aJ (eV 2) (eV 9)) (e2 aJ (e2 av (eV 7) (eC (.int 0))) (eV 8))) (ag (e2 aK (e2 aJ (eV 3) (eV 9)) (e2 aJ (e2 av (eV 7) (eC (.int 1))) (eV 8))) (ag (eV 9) aj)))) aj)))))
noncomputable abbrev O4:XS:=(au R7 (au O2 (au O3 (au UO (au UP (au R8 (au (az 6 (cZ aj)) (au (cR (ij (eV 5)) (aD 7) Lk) (aT (eB oR (ag (eV 6) aj)))))))))))
theorem Ib:iy=O4:=rfl
theorem R9{n:Nat}{c:Cells}{r:Qm.Env}:R7 (some (.ref n)::none::r) c=some (.nx,some (.ref n)::some (.ref c.length)::r,c++[.lst (w1.map pr)]):=by
 erw[Li]
 rfl
theorem rf{a b:Nat}{c:Cells}{xs ys:List D}(ha:c[a]? =some (.lst xs))(hb:c[b]? =some (.lst ys))(h:xs.length+ys.length≤10000):aK (.ref a) (.ref b) c=some (.ref c.length,c++[.lst (xs++ys)]):=by
 rw[wy,dj ha,dj hb,Option.bind_some,Option.bind_some]
 exact if_pos (cg h)
theorem R_{n m:Nat}{c:Cells}{r:Qm.Env}(h:c[m]? =some (.lst (w1.map pr))):O2 (some (.ref n)::some (.ref m)::r) c=some (.nx,some (.ref n)::some (.ref (c.length+1))::r,c++[.lst (w2.map pr)]++[.lst ((w1++w2).map pr)]):=by
 have g:=rf (c:=c++[Cell.lst (w2.map pr)]) (cB ⟨_,rfl⟩ h) List.getElem?_concat_length (by decide)
 have e:cZ (ag (aA (ag (e1 aZ (eC (.int 4))) (ag (eC (.int 0)) aj))) (ag (aA (ag (e1 aZ (eC (.int 4))) (ag (e1 aZ (eC (.int 1))) aj))) (ag (aA (ag (e1 aZ (eC (.int 3))) (ag (e1 aZ (eC (.int 2))) aj))) (ag (aA (ag (e1 aZ (eC (.int 1))) (ag (e1 aZ (eC (.int 1))) aj))) (ag (aA (ag (e1 aZ (eC (.int 1))) (ag (e1 aZ (eC (.int 4))) aj))) (ag (aA (ag (eC (.int 0)) (ag (e1 aZ (eC (.int 5))) aj))) (ag (aA (ag (eC (.int 1)) (ag (e1 aZ (eC (.int 3))) aj))) (ag (aA (ag (eC (.int 2)) (ag (e1 aZ (eC (.int 3))) aj))) (ag (aA (ag (eC (.int 2)) (ag (e1 aZ (eC (.int 2))) aj))) (ag (aA (ag (eC (.int 3)) (ag (e1 aZ (eC (.int 1))) aj))) aj)))))))))) (some (.ref n)::some (.ref m)::r) c=some (.ref c.length,c++[.lst (w2.map pr)]):=by
  erw[Lj]
  rfl
 generalize hE:cZ _=EE at e
 rw[O2,hE]
 erw[e,g]
 simp
theorem Sa{n m:Nat}{c:Cells}{r:Qm.Env}(h:c[m]? =some (.lst ((w1++w2).map pr))):O3 (some (.ref n)::some (.ref m)::r) c=some (.nx,some (.ref n)::some (.ref (c.length+1))::r,c++[.lst (w3.map pr)]++[.lst (My.cK.map pr)]):=by
 have g:=rf (c:=c++[Cell.lst (w3.map pr)]) (cB ⟨_,rfl⟩ h) List.getElem?_concat_length (by decide)
 have e:cZ (ag (aA (ag (eC (.int 5)) (ag (e1 aZ (eC (.int 1))) aj))) (ag (aA (ag (eC (.int 9)) (ag (e1 aZ (eC (.int 1))) aj))) aj)) (some (.ref n)::some (.ref m)::r) c=some (.ref c.length,c++[.lst (w3.map pr)]):=by
  erw[]
  rfl
 generalize hE:cZ _=EE at e
 rw[O3,hE]
 erw[e,g]
 simp
 rfl
theorem Ll{v:P2}{m:Nat}{l:List P2}{c:Cells}(h:c[m]? =some (.lst (l.map pr))):vq (pr v) (.ref m) c=some (.bl (decide (v∈l)),c):=by
 have dp:∀(u:P2) (k:Nat),data c (k+2) (pr u)=some (.tuple [.int u.1,.int u.2]):=fun _ _=>rfl
 have o:omap (data c 5) (l.map pr)=some (l.map fun u=>PyData.tuple [.int u.1,.int u.2]):=mw (fun a=>dp a 3) l
 unfold vq JL
 rw[bE h,Option.bind_some,dp v 3,Option.bind_some,o,Option.bind_some,Option.bind_some]
 congr 3
 rw[Bool.eq_iff_iff];simp only[decide_eq_true_eq]
 rw[List.mem_map]
 constructor
 ·rintro⟨q,h1,h2⟩
  simp only[PyData.tuple.injEq,List.cons.injEq,PyData.int.injEq,and_true]at h2
  rw[←(Prod.ext h2.1 h2.2:q=v)];exact h1
 ·exact fun h=>⟨v,h,rfl⟩
theorem BU{α β:Type}(f:α→β)(k:Nat)(l:List α):cS k (l.map f)=(cS k l).map f:=by
 unfold cS
 rw[List.length_map,List.map_filterMap]
 congr 1
 funext i
 simp
theorem uU{n w:Nat}{c0:Cells}{pK:Int}(hn:n<c0.length)(hr: 0<pK)(Lh:pK≤3)(hw:c0[w]? =some (.lst (My.cK.map pr)))(EH:w≠n):
  ∀(rest acc:List P2) (x:Option D) (c:Cells),bN n c→Kp n c0 c→c[c0.length]? =some (.lst (acc.map pr))→acc.length+rest.length≤100→
   ∃kept c',kept.Sublist rest∧(∀v∈rest,v∈cS 8 My.cK→v∈kept)∧cY c0.length [(w,.lst (My.cK.map pr))] (aD 0) xV (eV 0) (rest.map pr) [x,some (.ref n),some (.int pK),some (.ref w)] c=some c'∧bN n c'∧Kp n c0 c'∧c'[c0.length]? =some (.lst ((acc++kept).map pr))
 |[],acc,x,c,hp,hk,hm,_=>by
  refine⟨[],c,List.Sublist.slnil,fun v hv=>(by cases hv),?_,hp,hk,by simpa using hm⟩
  have st:stays [(w,Cell.lst (My.cK.map pr))] c:=fun p vz=>by
   rw[List.mem_singleton]at vz;subst vz;exact hk.get hw EH
  simp only[List.map_nil,cY]
  rw[if_pos st]
 |v::rest,acc,x,c,hp,hk,hm,hl=>by
  have st:stays [(w,Cell.lst (My.cK.map pr))] c:=fun p vz=>by
   rw[List.mem_singleton]at vz;subst vz;exact hk.get hw EH
  rw[List.length_cons]at hl
  have gH:c0.length≠n:=by omega
  obtain⟨d,c1,f1,d0,d1,p1,k1⟩:=bT hp hr ((qW (by omega)).mono (by decide))
  have UQ:c1[w]? =some (.lst (My.cK.map pr)):=k1.get (hk.get hw EH) EH
  have Sb:c1[c0.length]? =some (.lst (acc.map pr)):=k1.get hm gH
  -- nM test
  obtain⟨b,c2,f2,p2,k2,iw,hb⟩:∃(b:Bool) (c2:Cells),xV [some (pr v),some (.ref n),some (.int pK),some (.ref w)] c=some (b,c2)∧bN n c2∧Kp n c c2∧c2[c0.length]? =some (.lst (acc.map pr))∧(v∈cS 8 My.cK→b=true):=by
   by_cases g:d<2
   ·refine⟨true,c1,?_,p1,k1,Sb,fun _=>rfl⟩
    erw[f1,g]
   ·have es:zN 8 (eV 3) [some (pr v),some (.ref n),some (.int pK),some (.ref w)] c1=some (.ref c1.length,c1++[.lst ((cS 8 My.cK).map pr)]):=by
     unfold zN
     erw[dj UQ,BU]
    have gi:=Ll (v:=v) (m:=c1.length) (l:=cS 8 My.cK) (c:=c1++[.lst ((cS 8 My.cK).map pr)]) List.getElem?_concat_length
    refine⟨decide (v∈cS 8 My.cK),c1++[.lst ((cS 8 My.cK).map pr)],?_,p1.more,k1.trans Kp.more,cB ⟨_,rfl⟩ Sb,fun h=>decide_eq_true h⟩
    generalize decide (v∈cS 8 My.cK)=bb at gi
    generalize (cS 8 My.cK).map pr=zz at*
    erw[f1,g,es,gi]
  have run:∀(R:Option Cells),(if b=true then cY c0.length [(w,.lst (My.cK.map pr))] (aD 0) xV (eV 0) (rest.map pr) [some (pr v),some (.ref n),some (.int pK),some (.ref w)] (c2.set c0.length (.lst ((acc++[v]).map pr)))else cY c0.length [(w,.lst (My.cK.map pr))] (aD 0) xV (eV 0) (rest.map pr) [some (pr v),some (.ref n),some (.int pK),some (.ref w)] c2)=R→
    cY c0.length [(w,.lst (My.cK.map pr))] (aD 0) xV (eV 0) ((v::rest).map pr) [x,some (.ref n),some (.int pK),some (.ref w)] c=R:=fun R hR=>by
   rw[←hR]
   generalize xV=TT at*
   rw[List.map_cons,cY,if_pos st]
   simp only[mf,List.set_cons_zero,Option.bind_some,f2]
   cases b
   ·simp only[Bool.false_eq_true,if_false]
   ·simp only[if_true,N8,List.getElem?_cons_zero,Option.join_some,Option.bind_some,iw]
    rw[if_pos (Nat.lt_of_lt_of_le (show(acc.map pr).length<10000 by rw[List.length_map];omega) (cg (Nat.le_refl _)))]
    rw[List.map_append]
    rfl
  cases b
  ·obtain⟨kept,c',s1,s2,s3,s4,s5,s6⟩:=uU hn hr Lh hw EH rest acc (some (pr v)) c2 p2 (hk.trans k2) iw (by omega)
   refine⟨kept,c',s1.trans (List.sublist_cons_self v rest),fun u hu h8=>?_,run _ s3,s4,s5,s6⟩
   rcases List.mem_cons.mp hu with rfl|hu
   ·have:=hb h8;cases this
   ·exact s2 u hu h8
  ·obtain⟨kept,c',s1,s2,s3,s4,s5,s6⟩:=uU hn hr Lh hw EH rest (acc++[v]) (some (pr v)) (c2.set c0.length (.lst ((acc++[v]).map pr))) (p2.own gH) ((hk.trans k2).own (Nat.le_refl _)) (by rw[List.getElem?_set,if_pos rfl,if_pos (List.getElem?_eq_some_iff.mp iw).1]) (by rw[List.length_append,List.length_singleton];omega)
   refine⟨v::kept,c',s1.cons₂ v,fun u hu h8=>?_,run _ s3,s4,s5,by rw[s6];simp⟩
   rcases List.mem_cons.mp hu with rfl|hu
   ·exact List.mem_cons_self
   ·exact List.mem_cons_of_mem _ (s2 u hu h8)
theorem Ic{X Y W:Int}(hW: 0<W):∃g:Int,0<g∧X=g*(My.spT X Y W).1∧Y=g*(My.spT X Y W).2.1∧W=g*(My.spT X Y W).2.2:=by
 obtain⟨e1,e2,e3⟩:=My.kP (x:=X) (y:=Y) hW
 have g0:(0:Int)<(Int.gcd (Int.gcd X Y:Int) W:Int):=by
  have:Int.gcd (Int.gcd X Y:Int) W≠0:=fun z=>by
   have:=Int.gcd_dvd_right (Int.gcd X Y:Int) W
   rw[z]at this
   have:=Int.zero_dvd.mp this
   omega
  omega
 have dW:=Int.gcd_dvd_right (Int.gcd X Y:Int) W
 have Sd:=Int.gcd_dvd_left (Int.gcd X Y:Int) W
 have dX:=Int.dvd_trans Sd (Int.gcd_dvd_left X Y)
 have dY:=Int.dvd_trans Sd (Int.gcd_dvd_right X Y)
 refine⟨_,g0,?_,?_,?_⟩
 ·show X=_*My.sx X Y W
  rw[←e1,Int.mul_ediv_cancel' dX]
 ·show Y=_*My.sy X Y W
  rw[←e2,Int.mul_ediv_cancel' dY]
 ·show W=_*My.sw X Y W
  rw[←e3,Int.mul_ediv_cancel' dW]
def xW(x y:Int)(p:T3)(v:P2):Prop:=Ok 42 p∧∃g f:Int,0<g∧0<f∧g*(My.qv x y p).1=f*v.1∧g*(My.qv x y p).2=f*v.2
theorem Lm{x y f w:Int}{v:P2}(hx: -1000≤x)(EN:x<1000)(hy: -1000≤y)(EO:y<1000)(hf: 1≤f)(Wr:f≤60)(hw: 1≤w)(Ws:w≤5)(hv:v∈My.cK):xW x y (My.spT (x*w+v.1*f) (y*w+v.2*f) w) v:=by
 have bv: -9≤v.1∧v.1≤9∧-9≤v.2∧v.2≤9:=by
  have:My.cK.all (fun v=>decide (-9≤v.1∧v.1≤9∧-9≤v.2∧v.2≤9))=true:=by decide +kernel
  exact of_decide_eq_true (List.all_eq_true.mp this v hv)
 have UR:∀{z:Int},-1000≤z→z<1000→My.Bd 10 z:=fun h1 h2=>⟨by omega⟩
 have b6:∀{z:Int},-60≤z→z≤60→My.Bd 6 z:=fun h1 h2=>⟨by omega⟩
 have b4:∀{z:Int},-9≤z→z≤9→My.Bd 4 z:=fun h1 h2=>⟨by omega⟩
 have B:∀{a u:Int},-1000≤a→a<1000→-9≤u→u≤9→My.Bd 42 (a*w+u*f):=fun h1 h2 h3 h4=>(My.Bd.add ((UR h1 h2).mul (b4 (by omega) (by omega))) ((b4 h3 h4).mul (b6 (by omega) (by omega)))).mono (by decide)
 refine⟨Sp.mk' (by omega) (B hx EN bv.1 bv.2.1) (B hy EO bv.2.2.1 bv.2.2.2) ((b4 (by omega) (by omega)).mono (by decide)),?_⟩
 obtain⟨g,g0,e1,e2,e3⟩:=Ic (X:=x*w+v.1*f) (Y:=y*w+v.2*f) (W:=w) (by omega)
 generalize My.spT (x*w+v.1*f) (y*w+v.2*f) w=p at*
 refine⟨g,f,g0,by omega,?_,?_⟩
 ·unfold My.qv;dsimp only;grind
 ·unfold My.qv;dsimp only;grind
theorem Se{n m:Nat}{c:Cells}{x y:Int}{a1 a4 a5 a8 a9:Option D}{v:P2}{l:List T3}(h:bN n c)(hm:c[m]? =some (.lst (l.map sd)))(gH:m≠n)(hl:l.length≤100)(hx: -1000≤x)(EN:x<1000)(hy: -1000≤y)(EO:y<1000)(hv:v∈My.cK):
  ∃(p:T3) (b8 b9:Option D) (c':Cells),Lk [some (.ref n),a1,some (.int x),some (.int y),a4,a5,some (.ref m),some (pr v),a8,a9] c=some (.nx,[some (.ref n),a1,some (.int x),some (.int y),a4,a5,some (.ref m),some (pr v),b8,b9],c'.set m (.lst ((l++[p]).map sd)))∧xW x y p v∧bN n c'∧Kp n c c'∧c'[m]? =some (.lst (l.map sd)):=by
 obtain⟨f,c1,f1,d0,d1,p1,k1⟩:=bT h (m:=60) (by decide) (by walk_at "bdm")
 obtain⟨w,c2,f2,w0,Wt,p2,k2⟩:=bT p1 (m:=5) (by decide) (by walk_at "bdm")
 have ow:=Lm (f:=1+f) (w:=1+w) hx EN hy EO (by omega) (by omega) (by omega) (by omega) hv
 have lo:=mB (x:=x*(1+w)+v.1*(1+f)) (y:=y*(1+w)+v.2*(1+f)) (w:=1+w) (c:=c2) (by omega) ((qW (by omega)).mono (by decide))
 have iw:c2[m]? =some (.lst (l.map sd)):=k2.get (k1.get hm gH) gH
 generalize My.spT (x*(1+w)+v.1*(1+f)) (y*(1+w)+v.2*(1+f)) (1+w)=p at*
 refine⟨p,some (.int (1+f)),some (.int (1+w)),c2,?_,ow,p2,k1.trans k2,iw⟩
 have ap:=wA (p:=p) iw (by omega)
 have US:=dj iw
 have b1:(v.1).natAbs<2 ^ 64∧(v.2).natAbs<2 ^ 64:=by
  have:My.cK.all (fun v=>decide ((v.1).natAbs<2 ^ 64∧(v.2).natAbs<2 ^ 64))=true:=by decide +kernel
  exact of_decide_eq_true (List.all_eq_true.mp this v hv)
 have m1:Qm.MulOk x (1+w):=mulL (by omega)
 have m2:Qm.MulOk y (1+w):=mulL (by omega)
 have m3:Qm.MulOk v.1 (1+f):=mulL b1.1
 have m4:Qm.MulOk v.2 (1+f):=mulL b1.2
 have UT:cp (.ref m) c2=some (m,l.map sd):=US
 erw[f1,f2,UT,bL m1,bL m2,bL m3,bL m4,qZ,q_,lo,ap]
theorem Ie{x y:Int}{kept:List P2}{l:List T3}(hs:kept.Sublist My.cK)(h8:∀v∈cS 8 My.cK,v∈kept)(hl:l.length=kept.length)(hw:∀(i:Nat) p v,l[i]? =some p→kept[i]? =some v→xW x y p v):∃K,My.fK x y K l:=by
 have e0:My.cK=(List.range 24).map My.V:=by decide +kernel
 rw[e0]at hs
 obtain⟨K,hK,rfl⟩:=List.sublist_map_iff.mp hs
 have inj:∀a b,a<24→b<24→My.V a=My.V b→a=b:=by
  have:(List.range 24).all (fun a=>(List.range 24).all fun b=>!decide (My.V a=My.V b)||decide (a=b))=true:=by decide +kernel
  intro a b ha hb e
  have:=My.ei (My.ei this ha) hb
  simpa[e]using this
 have mem:∀k,k<24→My.V k∈cS 8 My.cK→k∈K:=fun k hk hv=>by
  obtain⟨j,hj,e⟩:=List.mem_map.mp (h8 _ hv)
  have:=inj j k (List.mem_range.mp (hK.subset hj)) hk e
  rwa[←this]
 refine⟨K,by rw[hl,List.length_map],hK,mem 0 (by decide) (by decide +kernel),mem 8 (by decide) (by decide +kernel),mem 16 (by decide) (by decide +kernel),fun p hp=>?_,fun m p k h1 h2=>?_⟩
 ·obtain⟨i,hi⟩:=List.getElem?_of_mem hp
  have zJ:=(List.getElem?_eq_some_iff.mp hi).1
  have hk:(K.map My.V)[i]? =some ((K.map My.V)[i]'(by omega)):=List.getElem?_eq_getElem _
  exact Ok.qY (hw i p _ hi hk).1
 ·exact(hw m p (My.V k) h1 (by rw[List.getElem?_map,h2];rfl)).2
theorem CB{n:Nat}{c:Cells}(h:bN n c):∃x y K l c',gz [.ref n] c=some (ld l,c')∧My.fK x y K l∧(∀p∈l,Ok 42 p)∧l.length≤24∧bN n c'∧Kp n c c':=by
 have eQ:=h.lt
 -- nM cK
 have r1:=R9 (n:=n) (c:=c) (r:=[none,none,none,none,none,none,none,none])
 have r2:=R_ (n:=n) (m:=c.length) (c:=c++[.lst (w1.map pr)]) (r:=[none,none,none,none,none,none,none,none]) List.getElem?_concat_length
 generalize kL:c++[Cell.lst (w1.map pr)]++[Cell.lst (w2.map pr)]++[Cell.lst ((w1++w2).map pr)]=c2 at r2
 have g2:c2[(c++[Cell.lst (w1.map pr)]).length+1]? =some (.lst ((w1++w2).map pr)):=by
  rw[←kL]
  have:=List.getElem?_concat_length (l:=c++[Cell.lst (w1.map pr)]++[Cell.lst (w2.map pr)]) (a:=Cell.lst ((w1++w2).map pr))
  rwa[show(c++[Cell.lst (w1.map pr)]++[Cell.lst (w2.map pr)]).length=(c++[Cell.lst (w1.map pr)]).length+1 by simp]at this
 generalize iw:(c++[Cell.lst (w1.map pr)]).length+1=m2 at r2 g2
 have r3:=Sa (n:=n) (m:=m2) (c:=c2) (r:=[none,none,none,none,none,none,none,none]) g2
 generalize O5:c2++[Cell.lst (w3.map pr)]++[Cell.lst (My.cK.map pr)]=c3 at r3
 have g3:c3[c2.length+1]? =some (.lst (My.cK.map pr)):=by rw[←O5];simp
 have q3:c <+:c3:=⟨[Cell.lst (w1.map pr),Cell.lst (w2.map pr),Cell.lst ((w1++w2).map pr),Cell.lst (w3.map pr),Cell.lst (My.cK.map pr)],by rw[←O5,←kL];simp⟩
 have ML:c.length≤c2.length:=by rw[←kL];simp
 generalize Rb:c2.length+1=m3 at r3 g3
 have CQ:m3≠n:=by omega
 clear O5 kL g2 iw
 have P3:bN n c3:=h.pre q3
 obtain⟨d1,c4,f4,x0,x1,p4,k4⟩:=bT P3 (m:=2000) (by decide) (by walk_at "bdm")
 obtain⟨d2,c5,f5,y0,y1,p5,k5⟩:=bT p4 (m:=2000) (by decide) (by walk_at "bdm")
 obtain⟨d3,c6,f6,z0,z1,p6,k6⟩:=bT p5 (m:=3) (by decide) (by walk_at "bdm")
 have g6:c6[m3]? =some (.lst (My.cK.map pr)):=k6.get (k5.get (k4.get g3 CQ) CQ) CQ
 have UU:Kp n c c6:=(Kp.pre q3).trans (k4.trans (k5.trans k6))
 -- UW taken
 obtain⟨kept,c7,s1,s2,f7,p7,k7,m7⟩:=uU (n:=n) (w:=m3) (c0:=c6) (pK:=1+d3) p6.lt (by omega) (by omega) g6 CQ My.cK [] none (c6++[.lst []]) p6.more Kp.more List.getElem?_concat_length (by decide)
 rw[List.nil_append]at m7
 have it:ij (eV 1) [some (.ref n),some (.ref m3),some (.int (d1 - 1000)),some (.int (d2 - 1000)),some (.int (1+d3)),none,none,none,none,none] c6=some (⟨My.cK.map pr,[(m3,.lst (My.cK.map pr))]⟩,c6):=HK rfl g6
 have e6:dD (ij (eV 1)) [none,some 0,some 4,some 1] (aD 0) xV (eV 0) [some (.ref n),some (.ref m3),some (.int (d1 - 1000)),some (.int (d2 - 1000)),some (.int (1+d3)),none,none,none,none,none] c6=some (.ref c6.length,c7):=by
  unfold dD
  rw[it,Option.bind_some]
  have:kn [some (D.ref n),some (.ref m3),some (.int (d1 - 1000)),some (.int (d2 - 1000)),some (.int (1+d3)),none,none,none,none,none] [none,some 0,some 4,some 1]=[none,some (.ref n),some (.int (1+d3)),some (.ref m3)]:=rfl
  dsimp only
  rw[this,f7]
  rfl
 have kl:kept.length≤24:=s1.length_le
 have Wu:c6.length<c7.length:=(List.getElem?_eq_some_iff.mp m7).1
 have n7:c7.length≠n:=by have:=p6.lt;omega
 have n6:c6.length≠n:=by have:=p6.lt;omega
 have UX:c6.length≠c7.length:=by omega
 have P8:bN n (c7++[.lst []]):=p7.more
 have M8:(c7++[Cell.lst []])[c7.length]? =some (.lst (([]:List T3).map sd)):=List.getElem?_concat_length
 have L8:(c7++[Cell.lst []])[c6.length]? =some (.lst (kept.map pr)):=cB ⟨_,rfl⟩ m7
 have K8:Kp n c6 (c7++[.lst []]):=k7.trans Kp.more
 generalize UY:c7++[Cell.lst []]=c8 at P8 M8 L8 K8
 have key:=fV (ks:=[(c6.length,.lst (kept.map pr))]) (g:=aD 7) (body:=Lk) (fun i σ c'=>∃(l:List T3) (x7 x8 x9:Option D),σ=[some (.ref n),some (.ref m3),some (.int (d1 - 1000)),some (.int (d2 - 1000)),some (.int (1+d3)),some (.ref c6.length),some (.ref c7.length),x7,x8,x9]∧l.length=i∧(∀(j:Nat) p v,l[j]? =some p→kept[j]? =some v→xW (d1 - 1000) (d2 - 1000) p v)∧bN n c'∧Kp n c6 c'∧c'[c6.length]? =some (.lst (kept.map pr))∧c'[c7.length]? =some (.lst (l.map sd))∧i≤24) (kept.map pr) 0 [some (.ref n),some (.ref m3),some (.int (d1 - 1000)),some (.int (d2 - 1000)),some (.int (1+d3)),some (.ref c6.length),some (.ref c7.length),none,none,none] c8 (by
   rintro i σ c' ⟨l,x7,x8,x9,rfl,_,_,_,_,hL,_⟩ p hp
   rw[List.mem_singleton]at hp;subst hp;exact hL)
 obtain⟨σ',c9,e9,l,x7,x8,x9,rfl,ll,lw,p9,k9,_,m9,_⟩:=key (by
  rintro i d σ c' hd ⟨l,x7,x8,x9,rfl,ll,lw,hp,hk,hL,hM,hi⟩
  rw[List.getElem?_map]at hd
  obtain⟨v,hv,rfl⟩:=Option.map_eq_some_iff.mp hd
  rw[Nat.zero_add]at ll ⊢
  have zJ:=(List.getElem?_eq_some_iff.mp hv).1
  obtain⟨p,b8,b9,DC,e,ow,pp,kk,mm⟩:=Se (a1:=some (.ref m3)) (a4:=some (.int (1+d3))) (a5:=some (.ref c6.length)) (a8:=x8) (a9:=x9) (v:=v) (x:=d1 - 1000) (y:=d2 - 1000) hp hM n7 (by omega) (by omega) (by omega) (by omega) (by omega) (s1.subset (List.mem_of_getElem? hv))
  refine⟨_,c',_,_,rfl,e,l++[p],some (pr v),b8,b9,rfl,by rw[List.length_append,ll];rfl,fun j q u hq hu=>?_,pp.own n7,(hk.trans kk).own (by omega),?_,?_,by omega⟩
  ·by_cases c:j<l.length
   ·rw[List.getElem?_append_left c]at hq;exact lw j q u hq hu
   ·have hj:j=l.length:=by
     have:=(List.getElem?_eq_some_iff.mp hq).1
     rw[List.length_append,List.length_singleton]at this
     omega
    subst hj
    rw[List.getElem?_append_right (Nat.le_refl _),Nat.sub_self]at hq
    cases hq
    rw[ll]at hu
    rw[hv]at hu
    cases hu
    exact ow
  ·rw[List.getElem?_set,if_neg (Ne.symm UX)];exact kk.get hL n6
  ·rw[List.getElem?_set,if_pos rfl,if_pos (List.getElem?_eq_some_iff.mp mm).1]) ⟨[],none,none,none,rfl,rfl,fun j p v hp=>(by simp at hp),P8,K8,L8,M8,by omega⟩
 rw[Nat.zero_add,List.length_map]at ll
 obtain⟨K,S⟩:=Ie s1 (fun v hv=>s2 v (by
  have:(cS 8 My.cK).all (fun v=>decide (v∈My.cK))=true:=by decide +kernel
  exact of_decide_eq_true (List.all_eq_true.mp this v hv)) hv) ll lw
 have UZ:∀p∈l,Ok 42 p:=fun p hp=>by
  obtain⟨i,hi⟩:=List.getElem?_of_mem hp
  have zJ:=(List.getElem?_eq_some_iff.mp hi).1
  have hk:kept[i]? =some (kept[i]'(by omega)):=List.getElem?_eq_getElem _
  exact(lw i p _ hi hk).1
 refine⟨d1 - 1000,d2 - 1000,K,l,c9,?_,S,UZ,by omega,p9,UU.trans k9⟩
 have U0:ij (eV 5) [some (.ref n),some (.ref m3),some (.int (d1 - 1000)),some (.int (d2 - 1000)),some (.int (1+d3)),some (.ref c6.length),some (.ref c7.length),none,none,none] c8=some (⟨kept.map pr,[(c6.length,.lst (kept.map pr))]⟩,c8):=HK rfl L8
 have U1:cR (ij (eV 5)) (aD 7) Lk [some (.ref n),some (.ref m3),some (.int (d1 - 1000)),some (.int (d2 - 1000)),some (.int (1+d3)),some (.ref c6.length),some (.ref c7.length),none,none,none] c8=some (.nx,[some (.ref n),some (.ref m3),some (.int (d1 - 1000)),some (.int (d2 - 1000)),some (.int (1+d3)),some (.ref c6.length),some (.ref c7.length),x7,x8,x9],c9):=by
  unfold cR
  rw[U0,Option.bind_some]
  exact e9
 have run:O4 [some (.ref n),none,none,none,none,none,none,none,none,none] c=some (.rt (ld l),[some (.ref n),some (.ref m3),some (.int (d1 - 1000)),some (.int (d2 - 1000)),some (.int (1+d3)),some (.ref c6.length),some (.ref c7.length),x7,x8,x9],c9):=by
  refine aN r1 (aN r2 (aN r3 ?_))
  refine aN (σ1:=[some (.ref n),some (.ref m3),some (.int (d1 - 1000)),some (.int (d2 - 1000)),none,none,none,none,none,none]) (c1:=c5) (by erw[f4,f5]) ?_
  refine aN (σ1:=[some (.ref n),some (.ref m3),some (.int (d1 - 1000)),some (.int (d2 - 1000)),some (.int (1+d3)),none,none,none,none,none]) (c1:=c6) (by erw[f6]) ?_
  refine aN (σ1:=[some (.ref n),some (.ref m3),some (.int (d1 - 1000)),some (.int (d2 - 1000)),some (.int (1+d3)),some (.ref c6.length),none,none,none,none]) (c1:=c7) (by
   generalize hE:dD (ij (eV 1)) [none,some 0,some 4,some 1] (aD 0) xV (eV 0)=EE at e6
   rw[R8,hE]
   erw[e6]) ?_
  refine aN (σ1:=[some (.ref n),some (.ref m3),some (.int (d1 - 1000)),some (.int (d2 - 1000)),some (.int (1+d3)),some (.ref c6.length),some (.ref c7.length),none,none,none]) (c1:=c8) (by
   erw[cg (Nat.zero_le _)]
   rw[UY]) ?_
  refine aN U1 ?_
  erw[Ae,bE m9]
  rfl
 rw[gz,iN,Ib]
 generalize hT:O4=TT at run
 erw[run]
theorem Ig(p q:T3):∀f∈([[],[p],[p,q],[p,p,q],[p,q,q],[p,q,p]]:List (List T3)),¬My.Simp f:=by
 intro f hf S
 have h3:=S.qy
 have nd:=S.nd
 simp only[List.mem_cons,List.not_mem_nil,or_false]at hf
 rcases hf with rfl|rfl|rfl|rfl|rfl|rfl<;>simp at h3 nd
noncomputable abbrev O6:XS:=(cR (ij (cZ (ag (aA aj) (ag (aA (ag (eV 5) aj)) (ag (aA (ag (eV 5) (ag (eV 6) aj))) (ag (aA (ag (eV 5) (ag (eV 5) (ag (eV 6) aj)))) (ag (aA (ag (eV 5) (ag (eV 6) (ag (eV 6) aj)))) (ag (aA (ag (eV 5) (ag (eV 6) (ag (eV 5) aj)))) aj)))))))) (aD 7)
   (cH (tV (e2 qA (ar ba [] (ag (eV 7) aj)) (eC (.bl false))))
   (aT (eC (.bl false)))
   br))
theorem O7{b:Bool}{c:Cells}:qA (.bl b) (.bl false) c=some (.bl b,c):=rfl
theorem O8{b:Bool}{c:Cells}:uA (.bl b) (.bl true) c=some (.bl (!b),c):=rfl
open Classical in
theorem Sf{s k pl so lo x8 x9 fE x7:Option D}{p q:T3}{c:Cells}(hp:Ok 130 p)(hq:Ok 130 q):∃(y:Option D) (c':Cells),O6 [s,k,pl,so,lo,some (sd p),some (sd q),x7,x8,x9,fE] c=some (.nx,[s,k,pl,so,lo,some (sd p),some (sd q),y,x8,x9,fE],c')∧c <+:c':=by
 have fs:cZ (ag (aA aj) (ag (aA (ag (eV 5) aj)) (ag (aA (ag (eV 5) (ag (eV 6) aj))) (ag (aA (ag (eV 5) (ag (eV 5) (ag (eV 6) aj)))) (ag (aA (ag (eV 5) (ag (eV 6) (ag (eV 6) aj)))) (ag (aA (ag (eV 5) (ag (eV 6) (ag (eV 5) aj)))) aj)))))) [s,k,pl,so,lo,some (sd p),some (sd q),x7,x8,x9,fE] c=some (.ref c.length,c++[.lst ([[],[p],[p,q],[p,p,q],[p,q,q],[p,q,p]].map ld)]):=by
  erw[cg (Nat.zero_le _)]
  rfl
 have g1:(c++[Cell.lst ([[],[p],[p,q],[p,p,q],[p,q,q],[p,q,p]].map ld)])[c.length]? =some (.lst ([[],[p],[p,q],[p,p,q],[p,q,q],[p,q,p]].map ld)):=List.getElem?_concat_length
 have ns:=Ig p q
 have Sh:∀f∈([[],[p],[p,q],[p,p,q],[p,q,q],[p,q,p]]:List (List T3)),(∀z∈f,Ok 130 z)∧f.length≤75:=by
  intro f hf
  simp only[List.mem_cons,List.not_mem_nil,or_false]at hf
  rcases hf with rfl|rfl|rfl|rfl|rfl|rfl<;>simp[hp,hq]
 generalize ([[],[p],[p,q],[p,p,q],[p,q,q],[p,q,p]]:List (List T3))=F at*
 generalize HY:c++[Cell.lst (F.map ld)]=c1 at*
 have key:=fV (ks:=[(c.length,.lst (F.map ld))]) (g:=aD 7) (body:=(cH (tV (e2 qA (ar ba [] (ag (eV 7) aj)) (eC (.bl false)))) (aT (eC (.bl false))) br)) (fun _ σ c'=>c1 <+:c'∧∃y,σ=[s,k,pl,so,lo,some (sd p),some (sd q),y,x8,x9,fE]) (F.map ld) 0 [s,k,pl,so,lo,some (sd p),some (sd q),x7,x8,x9,fE] c1 (by
  rintro i σ c' ⟨fD,_⟩ z hz
  rw[List.mem_singleton]at hz;subst hz;exact cB fD g1)
 obtain⟨σ',c',e,fD,y,rfl⟩:=key (by
  rintro i d σ c' hd ⟨fD,y,rfl⟩
  rw[List.getElem?_map]at hd
  obtain⟨f,hf,rfl⟩:=Option.map_eq_some_iff.mp hd
  have O9:=List.mem_of_getElem? hf
  obtain⟨c2,f2,q2⟩:=lO (c:=c') (Sh f O9).1 (Sh f O9).2
  rw[decide_eq_false (ns f O9)]at f2
  refine⟨_,c',[s,k,pl,so,lo,some (sd p),some (sd q),some (ld f),x8,x9,fE],c2,rfl,?_,fD.trans q2,_,rfl⟩
  erw[f2,O7]) ⟨List.prefix_rfl,x7,rfl⟩
 refine⟨y,c',?_,(show c <+:c1 from⟨_,HY⟩).trans fD⟩
 unfold O6
 generalize hE:cZ _=EE at fs
 have it:ij EE [s,k,pl,so,lo,some (sd p),some (sd q),x7,x8,x9,fE] c=some (⟨F.map ld,[(c.length,.lst (F.map ld))]⟩,c1):=by
  unfold ij
  rw[fs,Option.bind_some]
  dsimp only
  rw[g1,Option.bind_some,bE g1,Option.bind_some]
 unfold cR
 rw[it,Option.bind_some]
 exact e
def Keeps(ns:List Int)(σ:Qm.Env)(c:Cells):Prop:=c[0]? =some (.ro (ns.map D.int))∧∃x1 x2 x3 x4 x5 x6 x7 x8 x9 fE,σ=[some (.ref 0),x1,x2,x3,x4,x5,x6,x7,x8,x9,fE]
noncomputable abbrev b7:XS:=(cH (tV (e2 vp (eV 3) (eC (.int 0))))
   (au (az 4 (ar gz [] (ag (eV 2) aj)))
   (cH (tV (e2 uA (ar ba [] (ag (eV 4) aj)) (eC (.bl true))))
   (aT (eC (.bl false)))
   br))
   br)
noncomputable abbrev b8:XS:=(cH (tV (e2 df (eV 3) (eC (.int 2))))
   (az 4 (ar fN [] (ag (eV 2) (ag (eV 4) aj))))
   br)
noncomputable abbrev O_:XS:=(cH (ku (km (tV (eB oS (ag (eV 9) (ag (eC (.ty "bool")) aj))))) (ku (tV (e2 jx (eV 9) (eV 8))) (tV (e2 jx (ar ba [] (ag (e2 aK (ic c_ (eV 4) (cE (eV 10)) dC) (ic c_ (eV 4) dC (cE (eV 10)))) aj)) (eV 8)))))
   (aT (eC (.bl false)))
   br)
noncomputable abbrev Si:XS:=(cH (tV (e2 jx (ar ba [] (ag (eB iH (ag (eV 4) aj)) aj)) (eV 8)))
   (aT (eC (.bl false)))
   br)
noncomputable abbrev Av:XS:=(au (az 2 (ar eY [] (ag (eV 0) (ag (e2 aK (eC (.int 1)) (eV 1)) aj))))
   (au (az 3 (ar ax [] (ag (eV 2) (ag (eC (.int 3)) aj))))
   (au (az 4 (ar hJ [] (ag (eV 2) (ag (eC (.int 9)) aj))))
   (au (tR (ic c_ (eV 4) dC (cE (eC (.int 2)))) (sY 2 (eS (aD 5) (eS (aD 6) ou))))
   (au O6
   (au b7
   (au b8
   (au (az 8 (ar cA [] (ag (eV 4) aj)))
   (au (az 9 (ar ba [] (ag (eV 4) aj)))
   (au (az 10 (ar ax [] (ag (eV 2) (ag (eB cF (ag (eV 4) aj)) aj))))
   (au O_
   Si)))))))))))
theorem isBool{b:Bool}{c:Cells}:oS [.bl b,.ty "bool"] c=some (.bl true,c):=rfl
open Classical in
theorem Pa{n:Nat}{l:List T3}{c:Cells}{s k so p q y x8 x9 fE:Option D}(ok:∀p∈l,Ok 130 p)(h3: 3≤l.length)(hn:l.length≤30)(h:bN n c):
  ∃(z8 z9 Pb:Option D) (c':Cells),(au (az 8 (ar cA [] (ag (eV 4) aj)))
   (au (az 9 (ar ba [] (ag (eV 4) aj)))
   (au (az 10 (ar ax [] (ag (eV 2) (ag (eB cF (ag (eV 4) aj)) aj))))
   (au O_
   Si)))) [s,k,some (.ref n),so,some (ld l),p,q,y,x8,x9,fE] c=some (.nx,[s,k,some (.ref n),so,some (ld l),p,q,y,z8,z9,Pb],c')∧Kp n c c':=by
 obtain⟨c1,f1,q1⟩:=xU (c:=c) ok h3 (by omega)
 obtain⟨c2,f2,q2⟩:=lO (c:=c1) ok (by omega)
 have P2:bN n c2:=h.pre (q1.trans q2)
 obtain⟨a,c3,f3,a0,a1,p3,k3⟩:=bT P2 (m:=l.length) (by omega) ((qW (by omega)).mono (by decide))
 have yX:a.toNat<l.length:=by omega
 have U2:∀z∈My.fk l a.toNat,Ok 130 z:=fun z hz=>ok z (My.Hn hz)
 have U3:∀z∈l.reverse,Ok 130 z:=fun z hz=>ok z (by simpa using hz)
 obtain⟨c4,f4,q4⟩:=lO (c:=c3) U2 (by rw[My.lC];omega)
 obtain⟨c5,f5,q5⟩:=lO (c:=c4) U3 (by rw[List.length_reverse];omega)
 have low:∀z∈l,My.aB z:=fun z hz=>(ok z hz).qY
 have e4:decide (My.Simp (My.fk l a.toNat))=decide (My.Simp l):=by rw[Bool.eq_iff_iff];simp only[decide_eq_true_eq];exact My.El yX
 have e5:decide (My.Simp l.reverse)=decide (My.Simp l):=by rw[Bool.eq_iff_iff];simp only[decide_eq_true_eq];exact My.Em low
 rw[e4]at f4
 rw[e5]at f5
 generalize decide (My.Simp l)=b at*
 refine⟨some (.bl b),some (.bl b),some (.int a),c5,?_,(Kp.pre (q1.trans q2)).trans (k3.trans (Kp.pre (q4.trans q5)))⟩
 have tl:=OH (l:=l) (k:=a) (c:=c3) (σ:=[s,k,some (.ref n),so,some (ld l),p,q,y,some (.bl b),some (.bl b),some (.int a)]) (a:=4) (b:=10) rfl rfl a0 a1 (by omega)
 have rv:∀c',iH [ld l] c'=some (ld l.reverse,c'):=fun c'=>by
  have gH:(l.map sd).isEmpty=false:=by cases l with|nil=>simp at h3|cons=>rfl
  show(if (l.map sd).isEmpty=true then none else some (D.tup (l.map sd).reverse,c'))=_
  rw[gH]
  simp[ld,List.map_reverse]
 have bb:(!(b==b))=false:=by cases b<;>rfl
 refine aN (σ1:=[s,k,some (.ref n),so,some (ld l),p,q,y,some (.bl b),x9,fE]) (c1:=c1) (by erw[f1]) ?_
 refine aN (σ1:=[s,k,some (.ref n),so,some (ld l),p,q,y,some (.bl b),some (.bl b),fE]) (c1:=c2) (by erw[f2]) ?_
 refine aN (σ1:=[s,k,some (.ref n),so,some (ld l),p,q,y,some (.bl b),some (.bl b),some (.int a)]) (c1:=c3) (by erw[gA,f3]) ?_
 refine aN (σ1:=[s,k,some (.ref n),so,some (ld l),p,q,y,some (.bl b),some (.bl b),some (.int a)]) (c1:=c4) ?_ ?_
 ·generalize hE:e2 aK (ic c_ (eV 4) (cE (eV 10)) dC) (ic c_ (eV 4) dC (cE (eV 10)))=EE at tl
  unfold O_
  rw[hE]
  erw[isBool,bb,tl,f4]
 ·erw[rv,f5,bb]
open Classical in
theorem Sj{n:Nat}{l:List T3}{so:Int}{c:Cells}{s k p q y x8 x9 fE:Option D}(ok:∀p∈l,Ok 42 p)(h3: 3≤l.length)(hn:l.length≤9)(h:bN n c):
  ∃(l':List T3) (c':Cells),(au b7 b8) [s,k,some (.ref n),some (.int so),some (ld l),p,q,y,x8,x9,fE] c=some (.nx,[s,k,some (.ref n),some (.int so),some (ld l'),p,q,y,x8,x9,fE],c')∧(∀p∈l',Ok 130 p)∧3≤l'.length∧l'.length≤30∧bN n c'∧Kp n c c':=by
 have s7:∃(l':List T3) (c':Cells),b7 [s,k,some (.ref n),some (.int so),some (ld l),p,q,y,x8,x9,fE] c=some (.nx,[s,k,some (.ref n),some (.int so),some (ld l'),p,q,y,x8,x9,fE],c')∧(∀p∈l',Ok 42 p)∧3≤l'.length∧l'.length≤30∧bN n c'∧Kp n c c':=by
  by_cases g: 0<so
  ·obtain⟨x,y',K,l',c1,f1,S,Ih,n1,p1,k1⟩:=CB h
   obtain⟨c2,f2,q2⟩:=lO (c:=c1) (fun z hz=>(Ih z hz).mono (k:=130) (by decide)) (by omega)
   rw[decide_eq_true S.simp]at f2
   refine⟨l',c2,?_,Ih,S.simp.qy,by omega,p1.pre q2,k1.trans (Kp.pre q2)⟩
   erw[g,f1,f2,O8]
  ·refine⟨l,c,?_,ok,h3,by omega,h,Kp.refl _ _⟩
   erw[g]
 obtain⟨l1,c1,e1,Ih,Sk,n1,p1,k1⟩:=s7
 by_cases g:so=2
 ·obtain⟨l2,c2,f2,oN,U4,p2,k2⟩:=Ia Ih Sk n1 p1
  refine⟨l2,c2,aN e1 ?_,U4,by omega,by omega,p2,k1.trans k2⟩
  erw[decide_eq_true g,f2]
 ·refine⟨l1,c1,aN e1 ?_,fun z hz=>(Ih z hz).mono (by decide),Sk,n1,p1,k1⟩
  erw[decide_eq_false g]
theorem Pc{ns:List Int}{k:Int}{x2 x3 x4 x5 x6 x7 x8 x9 fE:Option D}{c:Cells}(k0: 0≤k)(k1:k<900)(h0:c[0]? =some (.ro (ns.map D.int))):
  ∃σ' c',Av [some (.ref 0),some (.int k),x2,x3,x4,x5,x6,x7,x8,x9,fE] c=some (.nx,σ',c')∧Keeps ns σ' c':=by
 have VY: 0<c.length:=(List.getElem?_eq_some_iff.mp h0).1
 obtain⟨a,b,f1,a0,b0⟩:=OG (k:=1+k) h0 (by omega) (by omega)
 have P1:bN c.length (c++[.lst [.int a,.int b]]):=⟨a,b,List.getElem?_concat_length,a0,b0⟩
 generalize HY:c++[Cell.lst [.int a,.int b]]=c1 at f1 P1
 have z1:c1[0]? =some (.ro (ns.map D.int)):=by rw[←HY];exact cB ⟨_,rfl⟩ h0
 obtain⟨so,c2,f2,s0,s1,p2,k2⟩:=bT P1 (m:=3) (by decide) (by walk_at "bdm")
 obtain⟨l,c3,f3,h3,hn,ok,p3,k3⟩:=OY p2
 obtain⟨p,q,t,rfl⟩:∃p q t,l=p::q::t:=by
  match l,h3 with
  |p::q::t,_=>exact⟨p,q,t,rfl⟩
 have op:=ok p List.mem_cons_self
 have oq:=ok q (List.mem_cons_of_mem _ List.mem_cons_self)
 have cut:c_ (ld (p::q::t)) none (some 2) c3=some (.tup [sd p,sd q],c3):=pI (l:=p::q::t) (k:=2) (by decide)
 obtain⟨y,c4,f4,q4⟩:=Sf (s:=some (.ref 0)) (k:=some (.int k)) (pl:=some (.ref c.length)) (so:=some (.int so)) (lo:=some (ld (p::q::t))) (x7:=x7) (x8:=x8) (x9:=x9) (fE:=fE) (c:=c3) (op.mono (k:=130) (by decide)) (oq.mono (k:=130) (by decide))
 obtain⟨l',c5,f5,U5,U6,n5,p5,k5⟩:=Sj (s:=some (.ref 0)) (k:=some (.int k)) (so:=so) (p:=some (sd p)) (q:=some (sd q)) (y:=y) (x8:=x8) (x9:=x9) (fE:=fE) ok h3 hn (p3.pre q4)
 obtain⟨z8,z9,Pb,c6,f6,k6⟩:=Pa (s:=some (.ref 0)) (k:=some (.int k)) (so:=some (.int so)) (p:=some (sd p)) (q:=some (sd q)) (y:=y) (x8:=x8) (x9:=x9) (fE:=fE) U5 U6 n5 p5
 have kk:Kp c.length c1 c6:=k2.trans (k3.trans ((Kp.pre q4).trans (k5.trans k6)))
 refine⟨[some (.ref 0),some (.int k),some (.ref c.length),some (.int so),some (ld l'),some (sd p),some (sd q),y,z8,z9,Pb],c6,?_,kk.get z1 (by omega),_,_,_,_,_,_,_,_,_,_,rfl⟩
 generalize hL:p::q::t=l at*
 refine aN (σ1:=[some (.ref 0),some (.int k),some (.ref c.length),x3,x4,x5,x6,x7,x8,x9,fE]) (c1:=c1) (by erw[f1]) ?_
 refine aN (σ1:=[some (.ref 0),some (.int k),some (.ref c.length),some (.int so),x4,x5,x6,x7,x8,x9,fE]) (c1:=c2) (by erw[f2]) ?_
 refine aN (σ1:=[some (.ref 0),some (.int k),some (.ref c.length),some (.int so),some (ld l),x5,x6,x7,x8,x9,fE]) (c1:=c3) (by erw[f3]) ?_
 refine aN (σ1:=[some (.ref 0),some (.int k),some (.ref c.length),some (.int so),some (ld l),some (sd p),some (sd q),x7,x8,x9,fE]) (c1:=c3) (by erw[mz,cut]) ?_
 refine aN f4 ?_
 rw[lP]
 refine aN f5 ?_
 exact f6
noncomputable abbrev L9:XS:=(au (cR (b_ (ag (eB qi (ag (eC (.int 1)) (ag (eB cF (ag (ic c_ (eV 0) (cE (eC (.int 1))) (cE (eC (.int 4)))) aj)) aj))) aj)) (aD 1) Av) (aT (eC (.bl true))))
theorem EI:xM=L9:=rfl
theorem EJ(ns:List Int)(h:ns.length≤63):∃c,uL [.ref 0] [.ro (ns.map Qm.D.int)]=some (.bl true,c):=by
 have key:=fV (ks:=[]) (g:=aD 1) (body:=Av) (fun _ σ c=>Keeps ns σ c)
 have cl:(Qm.cutD (ns.map D.int) (some 1) (some 4)).length≤63:=by
  unfold Qm.cutD
  rw[List.length_take,List.length_drop,List.length_map]
  omega
 generalize Sl:Qm.cutD (ns.map D.int) (some 1) (some 4)=cut at cl
 have h0:([Cell.ro (ns.map D.int)]:Cells)[0]? =some (.ro (ns.map D.int)):=rfl
 generalize Wv:([Cell.ro (ns.map D.int)]:Cells)=c0 at h0
 have hs:cf (.ref c0.length) (c0++[.lst cut])=some cut:=bE List.getElem?_concat_length
 have hr:b_ (ag (eB qi (ag (eC (.int 1)) (ag (eB cF (ag (ic c_ (eV 0) (cE (eC (.int 1))) (cE (eC (.int 4)))) aj)) aj))) aj) [some (.ref 0),none,none,none,none,none,none,none,none,none,none] c0=some (⟨cM 0 (if (cut.length:Int) > 1 then(cut.length:Int)else 1).toNat,[]⟩,c0++[.lst cut]):=by
  refine kg (j:=if (cut.length:Int) > 1 then(cut.length:Int)else 1) ?_ (by split<;>omega)
  erw[mz,wx,wu h0,Sl,kf,hs]
 obtain⟨σ',c',e,K⟩:=key (cM 0 (if (cut.length:Int) > 1 then(cut.length:Int)else 1).toNat) 0 [some (.ref 0),none,none,none,none,none,none,none,none,none,none] (c0++[.lst cut]) (fun _ _ _ _=>dE) (by
  rintro i d σ c hd ⟨z,x1,x2,x3,x4,x5,x6,x7,x8,x9,fE,rfl⟩
  obtain⟨hi,rfl⟩:=jR hd
  have xr:i<63:=by split at hi<;>omega
  obtain⟨σ',c',e,K⟩:=Pc (x2:=x2) (x3:=x3) (x4:=x4) (x5:=x5) (x6:=x6) (x7:=x7) (x8:=x8) (x9:=x9) (fE:=fE) (k:=0+i) (by omega) (by omega) z
  exact⟨_,c,σ',c',rfl,e,K⟩) ⟨cB ⟨_,rfl⟩ h0,none,none,none,none,none,none,none,none,none,none,rfl⟩
 refine⟨c',?_⟩
 have e0:cR (b_ (ag (eB qi (ag (eC (.int 1)) (ag (eB cF (ag (ic c_ (eV 0) (cE (eC (.int 1))) (cE (eC (.int 4)))) aj)) aj))) aj)) (aD 1) Av [some (.ref 0),none,none,none,none,none,none,none,none,none,none] c0=some (.nx,σ',c'):=by
  unfold cR
  rw[hr,Option.bind_some]
  exact e
 generalize hE:cR _ (aD 1) Av=EE at e0
 rw[uL,iN,EI,L9,hE]
 erw[e0]
end dJ
set_option maxHeartbeats 4000000
namespace dJ
open PySem L2
open PyProof.Rows
local macro_rules|`(tactic|walk_at "sc")=>`(tactic|exact⟨rfl,rfl,rfl,by decide +kernel,rfl,by decide +kernel,by decide +kernel⟩)
def top(i:Nat):Stmt:=PySem.Challenge.pw_sheetlay_k18_simple_or_not.main.body.getD i (.Pass ⟨0,0,0,0⟩)
set_option genInjectivity false in
structure Sm where
 uV:Addr
 uW:FuncData
 CS:Addr
 CT:FuncData
 rg:Addr
 rh:FuncData
 Aw:Addr
 Ax:FuncData
 uX:Addr
 uY:FuncData
 CU:Addr
 CV:FuncData
 CW:Addr
 CY:FuncData
 uZ:Addr
 u5:FuncData
 rj:Addr
 rk:FuncData
 jT:Addr
 jU:FuncData
 rl:Addr
 rm:FuncData
 wI:Addr
 wJ:FuncData
 rz:Addr
 rA:FuncData
 lR:Addr
 lS:FuncData
 pL:Addr
 pM:FuncData
 rB:Addr
 rC:FuncData
 pN:Addr
 pO:FuncData
 pP:Addr
 pQ:FuncData
 pR:Addr
 pS:FuncData
 m6:Addr
 m8:FuncData
 m_:Addr
 nc:FuncData
 rD:Addr
 rE:FuncData
 ng:Addr
 nh:FuncData
 lT:Addr
 lU:FuncData
 rF:Addr
 rG:FuncData
 rH:Addr
 rJ:FuncData
 ni:Addr
 nj:FuncData
 nk:Addr
 nu:FuncData
 nv:Addr
 ny:FuncData
 jV:Addr
 jW:FuncData
 pT:Addr
 pU:FuncData
 nA:Addr
 nB:FuncData
 Ii:Addr
 xX:FuncData
structure FD(K:PySem.W.Frag)(mg:Str→Option Value)(x:Str)(i:Nat)(ps:List Str)(f:Addr)(d:FuncData):Prop where
 F:yH K x x (top i) f d
 m:mg x=some (.ref f)
 b:Binds K d ps []
structure FE(K:PySem.W.Frag)(mg:Str→Option Value)(x:Str)(i:Nat)(ps:List Str)(f:Addr)(d:FuncData):Prop where
 F:vJ K x x (top i) f d
 m:mg x=some (.ref f)
 b:Binds K d ps []
theorem bA{X:Cx}{e:Expr}{es:List Expr}{pos p:Pos}{k n i:Nat}{f:Addr}{fd:FuncData}{ps:List Str}{F:Qm.FN}{x:Str}{fx:Qm.XA}(G:bM X.prog X.w X.K X.mg X.base de k f fd ps (dr X.K F))(D:FD X.K X.mg x i ps f fd)(hr:eT n X.A)(ha:QA X (e::es) fx)(hl:k≤n:=by decide)
  (hg:Gl X x:=by rfl)(hd:(x=="__debug__")=false:=by decide)(he:starEach (e::es) X.env=(false,eval e X.env)::starEach es X.env:=by rfl)(hp:(backTo pos (starEach es X.env)).any (·.1)=false:=by rfl):QE X (.Call (.Name x p) (e::es) [] pos) (Qm.ar F [] fx):=Q3 G D.m D.F.kp D.b (hr.mono hl) ha hg hd he hp
structure Txt(K:PySem.W.Frag)(mg:Str→Option Value)(t:Sm):Prop where
 oh:FD K mg "divisor" 1 ["n","m"] t.uV t.uW
 sL:FE K mg "spot" 3 ["x","y","w"] t.CS t.CT
 rK:FD K mg "is_below" 4 ["p","q"] t.rg t.rh
 lV:FD K mg "ahead" 5 ["p","q"] t.Aw t.Ax
 iT:FD K mg "crossed" 6 ["p","q"] t.uX t.uY
 CZ:FD K mg "sign" 7 ["n"] t.CU t.CV
 C0:FD K mg "turn" 8 ["a","b","c"] t.CW t.CY
 oi:FD K mg "forward" 10 ["side"] t.uZ t.u5
 lW:FD K mg "turns_to" 11 ["side","other"] t.rj t.rk
 jX:FD K mg "common_in_row" 12 ["one","other"] t.jT t.jU
 rL:FD K mg "crossing" 13 ["one","other"] t.rl t.rm
 qI:FD K mg "common" 14 ["one","other"] t.wI t.wJ
 rM:FD K mg "sides_of" 16 ["loop"] t.rz t.rA
 lX:FD K mg "keeps_apart" 17 ["sides","k"] t.lR t.lS
 fA:FD K mg "is_simple" 18 ["loop"] t.pL t.pM
 rN:FD K mg "_law_pool" 20 ["_law_script","_law_k"] t.rB t.rC
 aG:FD K mg "_law_digit" 21 ["_law_pool_here","_law_many"] t.pN t.pO
 ki:FD K mg "_law_drawn" 22 ["_law_pool_here"] t.pP t.pQ
 pV:FD K mg "_law_below" 23 ["_law_pool_here"] t.pR t.pS
 jA:FD K mg "_law_shared" 24 ["_law_a","_law_b"] t.m6 t.m8
 cQ:FD K mg "_law_lowest" 25 ["_law_x","_law_y","_law_w"] t.m_ t.nc
 jq:FD K mg "_law_spot" 26 ["_law_pool_here"] t.rD t.rE
 jB:FD K mg "_law_unlike" 27 ["_law_p","_law_some"] t.ng t.nh
 lY:FD K mg "_law_between" 28 ["_law_pool_here","_law_a","_law_b"] t.lT t.lU
 rO:FD K mg "_law_loop" 29 ["_law_pool_here","_law_most"] t.rF t.rG
 lZ:FD K mg "_law_lone" 30 ["_law_x","_law_y","_law_w"] t.rH t.rJ
 nC:FD K mg "_law_in_row" 31 ["_law_mine","_law_theirs","_law_w"] t.ni t.nj
 gW:FD K mg "_law_across" 32 ["_law_a","_law_b"] t.nk t.nu
 nD:FD K mg "_law_shares" 33 ["_law_one","_law_other"] t.nv t.ny
 jY:FD K mg "_law_is_simple" 34 ["_law_loop_here"] t.jV t.jW
 pW:FD K mg "_law_round" 35 ["_law_pool_here"] t.pT t.pU
 nE:FD K mg "_law_spoilt" 36 ["_law_pool_here","_law_loop_here"] t.nA t.nB
 Ij:FD K mg "law" 37 ["_law_script"] t.Ii t.xX
 u6:mg "abs" =none
 Pd:mg "all" =none
 Ln:mg "bool" =none
 BV:mg "int" =none
 vB:mg "isinstance" =none
 e_:mg "len" =none
 Lo:mg "list" =none
 Ik:mg "max" =none
 Pe:mg "min" =none
 gB:mg "range" =none
 Ay:mg "reversed" =none
 Il:mg "set" =none
 wK:mg "sorted" =none
 u7:mg "tuple" =none
 Pf:mg "zip" =none
section
open L2.Zu
variable{P:Program}{w:World}{K:PySem.W.Frag}{mg:Str→Option Value}{base:Heap}{t:Sm}
theorem jr:aP ["n","m","rest"] ["n","m"] (ay (top 1)):=by walk_at "sc"
theorem rP(T:Txt K mg t):bM P w K mg base de 1 t.uV t.uW ["n","m"] (dr K iO):=by
 refine T.oh.F.fj (n:=2) (m:=3) (B:=kh) jr rfl rfl (by decide) rfl fun bo A outer s H E hr=>?_
 unfold kh
 exact(ao (vU PassesOwn.never (dN (jc hr.units) lh (qv 1) ai) (ao (bR 2 jr.nd (aq fF gM (qv 0) (qv 1)))
   (ao (bR 0 jr.nd (qv 1))
   (aw (bR 1 jr.nd (qv 2))))))
   (aw (aH (dg jH oY (by rfl) T.u6 oI (ah (qv 0) ak)))))
theorem jP:aP ["x","y","w","shared"] ["x","y","w"] (ay (top 3)):=by walk_at "sc"
theorem Im(T:Txt K mg t):bM P w K mg base de 2 t.CS t.CT ["x","y","w"] (dr K pG):=by
 refine T.sL.F.fj (n:=3) (m:=4) (B:=pF) jP rfl rfl (by decide) rfl fun bo A outer s H E hr=>?_
 unfold pF
 exact(ao (bR 3 jP.nd (bA (rP T) T.oh hr (ah (bA (rP T) T.oh hr (ah (qv 0) (ah (qv 2) ak))) (ah (qv 1) ak))))
   (ao (bS (dN ju jy (qv 2) ai) (aw (bR 3 jP.nd (cC (qv 3)))) aX)
   (aw (aH (aO (ah (aq eK fG (qv 0) (qv 3)) (ah (aq eK fG (qv 1) (qv 3)) (ah (aq eK fG (qv 2) (qv 3)) ak))))))))
theorem xY:aP ["p","q"] ["p","q"] (ay (top 4)):=by walk_at "sc"
theorem xZ(T:Txt K mg t):bM P w K mg base de 1 t.rg t.rh ["p","q"] (dr K jf):=by
 refine T.rK.F.fj (n:=2) (m:=2) (B:=je) xY rfl rfl (by decide) rfl fun bo A outer s H E hr=>?_
 unfold je
 exact(aw (aH (j8 ju jy (aq aC aL (aU 0 ai) (aU 1 ai)) (aq aC aL (aU 1 ai) (aU 0 ai)) (i8 _))))
theorem qJ:aP ["p","q","one","other"] ["p","q"] (ay (top 5)):=by walk_at "sc"
theorem mD(T:Txt K mg t):bM P w K mg base de 2 t.Aw t.Ax ["p","q"] (dr K eI):=by
 refine T.lV.F.fj (n:=2) (m:=4) (B:=lL) qJ rfl rfl (by decide) rfl fun bo A outer s H E hr=>?_
 unfold lL
 exact(ao (bR 2 qJ.nd (aq aC aL (aU 0 ai) (aU 1 ai)))
   (ao (bR 3 qJ.nd (aq aC aL (aU 1 ai) (aU 0 ai)))
   (ao (bS (dN (cV hr.units) dM (qv 2) (qv 3)) (aw (aH (bA (xZ T) T.rK hr (ah (qv 0) (ah (qv 1) ak))))) aX)
   (aw (aH (j8 ju jy (qv 2) (qv 3) (i8 _)))))))
theorem Az:aP ["p","q"] ["p","q"] (ay (top 6)):=by walk_at "sc"
theorem js(T:Txt K mg t):bM P w K mg base de 1 t.uX t.uY ["p","q"] (dr K er):=by
 refine T.iT.F.fj (n:=2) (m:=2) (B:=iP) Az rfl rfl (by decide) rfl fun bo A outer s H E hr=>?_
 unfold iP
 exact(aw (aH (aO (ah (aq bt bu (aq aC aL (aU 0 ai) (aU 1 ai)) (aq aC aL (aU 0 ai) (aU 1 ai))) (ah (aq bt bu (aq aC aL (aU 0 ai) (aU 1 ai)) (aq aC aL (aU 0 ai) (aU 1 ai))) (ah (aq bt bu (aq aC aL (aU 0 ai) (aU 1 ai)) (aq aC aL (aU 0 ai) (aU 1 ai))) ak))))))
theorem Io:aP ["n"] ["n"] (ay (top 7)):=by walk_at "sc"
theorem Ip(T:Txt K mg t):bM P w K mg base de 1 t.CU t.CV ["n"] (dr K mj):=by
 refine T.CZ.F.fj (n:=1) (m:=1) (B:=mh) Io rfl rfl (by decide) rfl fun bo A outer s H E hr=>?_
 unfold mh
 exact(ao (bS (dN qf qk (qv 0) ai) (aw (aH ai)) aX)
   (ao (bS (dN ju jy (qv 0) ai) (aw (aH (cC ai))) aX)
   (aw (aH ai))))
theorem AA:aP ["a","b","c","row"] ["a","b","c"] (ay (top 8)):=by walk_at "sc"
theorem Iq(T:Txt K mg t):bM P w K mg base de 2 t.CW t.CY ["a","b","c"] (dr K mq):=by
 refine T.C0.F.fj (n:=3) (m:=4) (B:=sH) AA rfl rfl (by decide) rfl fun bo A outer s H E hr=>?_
 unfold sH
 exact(ao (bR 3 AA.nd (bA (js T) T.iT hr (ah (qv 0) (ah (qv 1) ak))))
   (aw (aH (bA (Ip T) T.CZ hr (ah (aq aQ aY (aq aQ aY (aq aC aL (aU 3 ai) (aU 2 ai)) (aq aC aL (aU 3 ai) (aU 2 ai))) (aq aC aL (aU 3 ai) (aU 2 ai))) ak)))))
theorem AB:aP ["side"] ["side"] (ay (top 10)):=by walk_at "sc"
theorem rQ(T:Txt K mg t):bM P w K mg base de 3 t.uZ t.u5 ["side"] (dr K gK):=by
 refine T.oi.F.fj (n:=1) (m:=1) (B:=iQ) AB rfl rfl (by decide) rfl fun bo A outer s H E hr=>?_
 unfold iQ
 exact(ao (bS (l9 (bA (mD T) T.lV hr (ah (aU 0 ai) (ah (aU 0 ai) ak)))) (aw (aH (qv 0))) aX)
   (aw (aH (aO (ah (aU 0 ai) (ah (aU 0 ai) ak))))))
theorem x_:aP ["side","other"] ["side","other"] (ay (top 11)):=by walk_at "sc"
theorem pX(T:Txt K mg t):bM P w K mg base de 3 t.rj t.rk ["side","other"] (dr K g_):=by
 refine T.lW.F.fj (n:=2) (m:=2) (B:=jg) x_ rfl rfl (by decide) rfl fun bo A outer s H E hr=>?_
 unfold jg
 exact(aw (aH (t_ (N':=["p","side"]) (cap:=[none,some 0]) (oK (sc:=ay (top 11)) (NN:=["side","other"]) rfl rfl rfl (by decide +kernel) (by decide +kernel) (by decide +kernel) (by decide +kernel)) rfl (Cn (qv 1)) (fun _ _ _ _=>(jL (i:=0) (show List.Nodup (["p","side"]:List Str)by decide +kernel) rfl (Or.inl rfl))) (fun _ _ _ _=>j_) (fun _ _ _ _=>(bA (Iq T) T.C0 hr (ah (aU 1 ai) (ah (aU 1 ai) (ah (qv 0) ak))))))))
theorem dA:aP ["one","other","left","right","p","q"] ["one","other"] (ay (top 12)):=by walk_at "sc"
theorem pY(T:Txt K mg t):bM P w K mg base de 4 t.jT t.jU ["one","other"] (dr K fy):=by
 refine T.jX.F.fj (n:=2) (m:=6) (B:=fq) dA rfl rfl (by decide) rfl fun bo A outer s H E hr=>?_
 unfold fq
 exact(ao (bR 2 dA.nd (bA (rQ T) T.oi hr (ah (qv 0) ak)))
   (ao (bR 3 dA.nd (bA (rQ T) T.oi hr (ah (qv 1) ak)))
   (ao (bR 4 dA.nd (l8 (l9 (bA (mD T) T.lV hr (ah (aU 2 ai) (ah (aU 3 ai) ak)))) (aU 3 ai) (aU 2 ai)))
   (ao (bR 5 dA.nd (l8 (l9 (bA (mD T) T.lV hr (ah (aU 2 ai) (ah (aU 3 ai) ak)))) (aU 2 ai) (aU 3 ai)))
   (ao (bS (dN (cV hr.units) dM (qv 4) (qv 5)) (aw (aH (aO (ah jb (ah (qv 4) ak))))) aX)
   (aw (aH (l8 (l9 (bA (mD T) T.lV hr (ah (qv 4) (ah (qv 5) ak)))) (aO (ah jb (ah (qv 4) (ah (qv 5) ak)))) l7))))))))
theorem pZ:aP ["one","other","meet"] ["one","other"] (ay (top 13)):=by walk_at "sc"
theorem yb(T:Txt K mg t):bM P w K mg base de 3 t.rl t.rm ["one","other"] (dr K ji):=by
 refine T.rL.F.fj (n:=2) (m:=3) (B:=jh) pZ rfl rfl (by decide) rfl fun bo A outer s H E hr=>?_
 unfold jh
 exact(ao (bR 2 pZ.nd (bA (js T) T.iT hr (ah (bA (js T) T.iT hr (ah (aU 0 ai) (ah (aU 0 ai) ak))) (ah (bA (js T) T.iT hr (ah (aU 1 ai) (ah (aU 1 ai) ak))) ak))))
   (aw (aH (Q3 (Im T) T.sL.m T.sL.F.kp T.sL.b (hr.mono (by decide)) (ah (aU 2 ai) (ah (aU 2 ai) (ah (aU 2 ai) ak)))))))
theorem oj:aP ["one","other","turns","back"] ["one","other"] (ay (top 14)):=by walk_at "sc"
theorem u9(T:Txt K mg t):bM P w K mg base de 5 t.wI t.wJ ["one","other"] (dr K dw):=by
 refine T.qI.F.fj (n:=2) (m:=4) (B:=gL) oj rfl rfl (by decide) rfl fun bo A outer s H E hr=>?_
 unfold gL
 exact(ao (bR 2 oj.nd (bA (pX T) T.lW hr (ah (qv 0) (ah (qv 1) ak))))
   (ao (bS (dN (cV hr.units) dM (qv 2) (eO (ah ai (ah ai ak)))) (aw (aH (bA (pY T) T.jX hr (ah (qv 0) (ah (qv 1) ak))))) aX)
   (ao (bR 3 oj.nd (bA (pX T) T.lW hr (ah (qv 1) (ah (qv 0) ak))))
   (ao (bS (PW.pt (kY (dN qf qk (aq aC aL (aU 2 ai) (aU 2 ai)) ai) (l_ (dN qf qk (aq aC aL (aU 3 ai) (aU 3 ai)) ai)))) (aw (aH l7)) aX)
   (aw (aH (aO (ah jb (ah (bA (yb T) T.rL hr (ah (qv 0) (ah (qv 1) ak))) ak)))))))))
theorem yc:aP ["loop"] ["loop"] (ay (top 16)):=by walk_at "sc"
theorem yd(T:Txt K mg t):bM P w K mg base de 1 t.rz t.rA ["loop"] (dr K jk):=by
 refine T.rM.F.fj (n:=1) (m:=1) (B:=jj) yc rfl rfl (by decide) rfl fun bo A outer s H E hr=>?_
 unfold jj
 exact(aw (aH (zf (by rfl) T.Lo (by rfl) T.Pf (ah (qv 0) (ah (aq aQ aY (ff (qv 0) (fH ai) g7) (ff (qv 0) g7 (fH ai))) ak)))))
theorem kq:aP ["sides","k","start"] ["sides","k"] (ay (top 17)):=by walk_at "sc"
theorem se(T:Txt K mg t):bM P w K mg base de 6 t.lR t.lS ["sides","k"] (dr K eX):=by
 refine T.lX.F.fj (n:=2) (m:=3) (B:=gr) kq rfl rfl (by decide) rfl fun bo A outer s H E hr=>?_
 unfold gr
 exact(ao (bR 2 kq.nd (l8 (dN (cV hr.units) dM (qv 1) (aq bt bu (n_ T.e_ (qv 0)) ai)) ai ai))
   (aw (aH (dg (Br rfl) Kg (by rfl) T.Pd Kh (ah (t_ (N':=["j","sides","k"]) (cap:=[none,some 0,some 1]) (oK (sc:=ay (top 17)) (NN:=["sides","k","start"]) rfl rfl rfl (by decide +kernel) (by decide +kernel) (by decide +kernel) (by decide +kernel)) rfl (t7 (by rfl) T.gB (ah (qv 2) (ah (aq bt bu (qv 1) ai) ak))) (fun _ _ _ _=>(jL (i:=0) (show List.Nodup (["j","sides","k"]:List Str)by decide +kernel) rfl (Or.inl rfl))) (fun _ _ _ _=>j_) (fun _ _ _ _=>(j8 Jd Kd (bA (u9 T) T.qI hr (ah (bD (qv 1) (qv 0) (fun _ _=>rfl)) (ah (bD (qv 1) (qv 2) (fun _ _=>rfl)) ak))) l7 (i8 _)))) ak)))))
theorem jC:aP ["loop","sides","k"] ["loop"] (ay (top 18)):=by walk_at "sc"
theorem fO(T:Txt K mg t):bM P w K mg base de 7 t.pL t.pM ["loop"] (dr K ba):=by
 refine T.fA.F.fj (n:=1) (m:=3) (B:=eA) jC rfl rfl (by decide) rfl fun bo A outer s H E hr=>?_
 unfold eA
 exact(ao (bS (PW.pt (kY (dN ju jy (n_ T.e_ (qv 0)) ai) (l_ (dN (jc hr.units) lh (uz (by rfl) T.e_ (by rfl) T.Il hr.units (ah (qv 0) ak)) (n_ T.e_ (qv 0)))))) (aw (aH gG)) aX)
   (ao (bR 1 jC.nd (bA (yd T) T.rM hr (ah (qv 0) ak)))
   (ao (iq PassesOwn.never rfl (fT (by rfl) T.gB (ah (n_ T.e_ (qv 1)) ak)) (n8 2 jC.nd) (aw (bS (PW.pt (kY (dN (jc hr.units) lh (bA (u9 T) T.qI hr (ah (bD (qv 1) (aq bt bu (qv 2) ai) (fun _ _=>rfl)) (ah (bD (qv 1) (qv 2) (fun _ _=>rfl)) ak))) (aO (ah jb (ah (bD (bD (qv 1) (qv 2) (fun _ _=>rfl)) ai (fun _ _=>rfl)) ak)))) (l_ (sC (l9 (bA (se T) T.lX hr (ah (qv 1) (ah (qv 2) ak)))))))) (aw (aH gG)) aX)))
   (aw (aH gG)))))
theorem cG:aP ["_law_script","_law_k","_law_cell","_law_mixed","_law_total","_law_j","_law_more","_law_own"] ["_law_script","_law_k"] (ay (top 20)):=by walk_at "sc"
theorem ye(T:Txt K mg t):bM P w K mg base de 1 t.rB t.rC ["_law_script","_law_k"] (dr K eY):=by
 refine T.rN.F.fj (n:=2) (m:=8) (B:=fZ) cG rfl rfl (by decide) rfl fun bo A outer s H E hr=>?_
 unfold fZ
 exact(ao (bR 2 cG.nd ai)
   (ao (bS (dN ju jy (qv 1) (n_ T.e_ (qv 0))) (aw (bR 2 cG.nd (bD (qv 0) (qv 1) (fun _ _=>rfl)))) aX)
   (ao (bR 3 cG.nd (aq aQ aY (aq aQ aY (aq fF gM (dg jH oY (by rfl) T.u6 oI (ah (qv 2) ak)) ai) (aq aC aL ai (qv 1))) ai))
   (ao (bR 4 cG.nd ai)
   (ao (iq PassesOwn.never rfl (fT (by rfl) T.gB (ah ai ak)) (n8 5 cG.nd) (ao (bR 3 cG.nd (aq aQ aY (aq aC aL (qv 3) ai) (aq aC aL ai (aq aQ aY (aq aQ aY (qv 1) (qv 5)) ai))))
   (ao (bR 3 cG.nd (aq fF gM (qv 3) ai))
   (ao (bR 6 cG.nd (aq aC aL (aq eK fG (qv 3) ai) (aq aQ aY (aq aQ aY (aq fF gM (qv 3) ai) (aq aC aL ai (qv 5))) ai)))
   (aw (bR 4 cG.nd (aq aQ aY (aq aC aL (qv 4) ai) (aq fF gM (qv 6) ai))))))))
   (ao (bR 7 cG.nd (aq aC aL (dg jH oY (by rfl) T.u6 oI (ah (qv 2) ak)) (iE nN t5 (by rfl) T.BV xc (ah (JQ (j8 qf qk (n_ T.e_ (qv 0)) ai (i8 _)) (JP (j8 (cV hr.units) dM (aq fF gM (aU 0 ai) ai) ai (i8 _)))) ak))))
   (aw (aH (eO (ah (qv 7) (ah (qv 4) ak)))))))))))
theorem jD:aP ["_law_pool_here","_law_many","_law_at","_law_digit_here"] ["_law_pool_here","_law_many"] (ay (top 21)):=by walk_at "sc"
theorem aE(T:Txt K mg t):bM P w K mg base de 1 t.pN t.pO ["_law_pool_here","_law_many"] (dr K ax):=by
 refine T.aG.F.fj (n:=2) (m:=4) (B:=gv) jD rfl rfl (by decide) rfl fun bo A outer s H E hr=>?_
 unfold gv
 exact(ao (bR 2 jD.nd (iE nN t5 (by rfl) T.BV xc (ah (j8 (cV hr.units) dM (aU 0 ai) ai (i8 _)) ak)))
   (ao (bR 3 jD.nd (aq fF gM (bD (qv 0) (qv 2) (fun _ _=>rfl)) (qv 1)))
   (ao (xq (aq eK fG (bD (qv 0) (qv 2) (fun _ _=>rfl)) (qv 1)) (JV (qv 0) (qv 2)))
   (aw (aH (qv 3))))))
theorem nF:aP ["_law_pool_here","_law_pick"] ["_law_pool_here"] (ay (top 22)):=by walk_at "sc"
theorem nG(T:Txt K mg t):bM P w K mg base de 2 t.pP t.pQ ["_law_pool_here"] (dr K dz):=by
 refine T.ki.F.fj (n:=1) (m:=2) (B:=eD) nF rfl rfl (by decide) rfl fun bo A outer s H E hr=>?_
 unfold eD
 exact(ao (bR 1 nF.nd (bA (aE T) T.aG hr (ah (qv 0) (ah ai ak))))
   (ao (bS (dN ju jy (qv 1) ai) (aw (aH (aq bt bu (bA (aE T) T.aG hr (ah (qv 0) (ah ai ak))) ai))) aX)
   (ao (bS (dN (cV hr.units) dM (qv 1) ai) (aw (aH (aq bt bu (bA (aE T) T.aG hr (ah (qv 0) (ah ai ak))) ai))) aX)
   (ao (bS (dN (cV hr.units) dM (qv 1) ai) (aw (aH (aq aC aL (aq bt bu ai (bA (aE T) T.aG hr (ah (qv 0) (ah ai ak)))) (aq bt bu ai (aq aC aL ai (bA (aE T) T.aG hr (ah (qv 0) (ah ai ak)))))))) aX)
   (aw (aH (aq bt bu (bA (aE T) T.aG hr (ah (qv 0) (ah (aq aQ aY (aq aC aL ai (aq wW xl ai ai)) ai) ak))) (aq wW xl ai ai))))))))
theorem nH:aP ["_law_pool_here","_law_pick"] ["_law_pool_here"] (ay (top 23)):=by walk_at "sc"
theorem vC(T:Txt K mg t):bM P w K mg base de 2 t.pR t.pS ["_law_pool_here"] (dr K gx):=by
 refine T.pV.F.fj (n:=1) (m:=2) (B:=ix) nH rfl rfl (by decide) rfl fun bo A outer s H E hr=>?_
 unfold ix
 exact(ao (bR 1 nH.nd (bA (aE T) T.aG hr (ah (qv 0) (ah ai ak))))
   (aw (aH (aq aQ aY ai (bA (aE T) T.aG hr (ah (qv 0) (ah (bD (eO (ah ai (ah ai (ah ai (ah ai (ah (aq wW xl ai ai) ak)))))) (qv 1) (fun _ _=>rfl)) ak)))))))
theorem gC:aP ["_law_a","_law_b"] ["_law_a","_law_b"] (ay (top 24)):=by walk_at "sc"
theorem l0(T:Txt K mg t):bM P w K mg base de 1 t.m6 t.m8 ["_law_a","_law_b"] (dr K fL):=by
 refine T.jA.F.fj (n:=2) (m:=2) (B:=gQ) gC rfl rfl (by decide) rfl fun bo A outer s H E hr=>?_
 unfold gQ
 exact(ao (bR 0 gC.nd (dg jH oY (by rfl) T.u6 oI (ah (qv 0) ak)))
   (ao (bR 1 gC.nd (dg jH oY (by rfl) T.u6 oI (ah (qv 1) ak)))
   (ao (vU PassesOwn.never (dN qf qk (qv 1) ai) (aw (y4 (i:=0) (j:=1) rfl gC.nd rfl rfl (by decide) rfl rfl (ah (qv 1) (ah (aq fF gM (qv 0) (qv 1)) ak)) (by rfl))))
   (aw (aH (qv 0))))))
theorem iU:aP ["_law_x","_law_y","_law_w","_law_part"] ["_law_x","_law_y","_law_w"] (ay (top 25)):=by walk_at "sc"
theorem cT(T:Txt K mg t):bM P w K mg base de 2 t.m_ t.nc ["_law_x","_law_y","_law_w"] (dr K bg):=by
 refine T.cQ.F.fj (n:=3) (m:=4) (B:=fM) iU rfl rfl (by decide) rfl fun bo A outer s H E hr=>?_
 unfold fM
 exact(ao (bS (dN ju jy (qv 2) ai) (aw (y7 (i:=0) (j:=1) (l:=2) rfl iU.nd rfl rfl rfl (by decide) (by decide) (by decide) rfl rfl rfl (ah (aq bt bu ai (qv 0)) (ah (aq bt bu ai (qv 1)) (ah (aq bt bu ai (qv 2)) ak))) (by rfl))) aX)
   (ao (bR 3 iU.nd (bA (l0 T) T.jA hr (ah (bA (l0 T) T.jA hr (ah (qv 0) (ah (qv 1) ak))) (ah (qv 2) ak))))
   (aw (aH (aO (ah (aq eK fG (qv 0) (qv 3)) (ah (aq eK fG (qv 1) (qv 3)) (ah (aq eK fG (qv 2) (qv 3)) ak))))))))
theorem p8:aP ["_law_pool_here","_law_pick"] ["_law_pool_here"] (ay (top 26)):=by walk_at "sc"
theorem kj(T:Txt K mg t):bM P w K mg base de 3 t.rD t.rE ["_law_pool_here"] (dr K cy):=by
 refine T.jq.F.fj (n:=1) (m:=2) (B:=hG) p8 rfl rfl (by decide) rfl fun bo A outer s H E hr=>?_
 unfold hG
 exact(ao (bR 1 p8.nd (bA (aE T) T.aG hr (ah (qv 0) (ah ai ak))))
   (ao (bS (dN (cV hr.units) dM (qv 1) ai) (aw (aH (bA (cT T) T.cQ hr (ah (bA (nG T) T.ki hr (ah (qv 0) ak)) (ah (bA (nG T) T.ki hr (ah (qv 0) ak)) (ah (bA (vC T) T.pV hr (ah (qv 0) ak)) ak)))))) aX)
   (aw (aH (bA (cT T) T.cQ hr (ah (bA (aE T) T.aG hr (ah (qv 0) (ah (aq aQ aY ai (aq aC aL ai (qv 1))) ak))) (ah (bA (aE T) T.aG hr (ah (qv 0) (ah (aq aQ aY ai (aq aC aL ai (qv 1))) ak))) (ah (bD (eO (ah ai (ah ai (ah ai ak)))) (bA (aE T) T.aG hr (ah (qv 0) (ah ai ak))) (fun _ _=>rfl)) ak))))))))
theorem iV:aP ["_law_p","_law_some","_law_k"] ["_law_p","_law_some"] (ay (top 27)):=by walk_at "sc"
theorem l5(T:Txt K mg t):bM P w K mg base de 3 t.ng t.nh ["_law_p","_law_some"] (dr K cO):=by
 refine T.jB.F.fj (n:=2) (m:=3) (B:=gR) iV rfl rfl (by decide) rfl fun bo A outer s H E hr=>?_
 unfold gR
 exact(ao (iq PassesOwn.never rfl (fT (by rfl) T.gB (ah (aq aQ aY (n_ T.e_ (qv 1)) ai) ak)) (n8 2 iV.nd) (aw (bS (xp (Cs hr.units) GH (qv 0) (qv 1) (by with_unfolding_all rfl)) (aw (bR 0 iV.nd (bA (cT T) T.cQ hr (ah (aq aQ aY (aU 0 ai) (aU 0 ai)) (ah (aU 0 ai) (ah (aU 0 ai) ak)))))) aX)))
   (aw (aH (qv 0))))
theorem eJ:aP ["_law_pool_here","_law_a","_law_b","_law_n","_law_d","_law_x","_law_y"] ["_law_pool_here","_law_a","_law_b"] (ay (top 28)):=by walk_at "sc"
theorem sf(T:Txt K mg t):bM P w K mg base de 3 t.lT t.lU ["_law_pool_here","_law_a","_law_b"] (dr K dO):=by
 refine T.lY.F.fj (n:=3) (m:=7) (B:=gy) eJ rfl rfl (by decide) rfl fun bo A outer s H E hr=>?_
 unfold gy
 exact(ao (bR 3 eJ.nd (aq bt bu (bA (aE T) T.aG hr (ah (qv 0) (ah ai ak))) ai))
   (ao (bR 4 eJ.nd (aq aQ aY ai (bA (aE T) T.aG hr (ah (qv 0) (ah ai ak)))))
   (ao (bR 5 eJ.nd (aq aQ aY (aq aC aL (aq aC aL (aU 1 ai) (aU 2 ai)) (aq bt bu (qv 4) (qv 3))) (aq aC aL (aq aC aL (aU 2 ai) (aU 1 ai)) (qv 3))))
   (ao (bR 6 eJ.nd (aq aQ aY (aq aC aL (aq aC aL (aU 1 ai) (aU 2 ai)) (aq bt bu (qv 4) (qv 3))) (aq aC aL (aq aC aL (aU 2 ai) (aU 1 ai)) (qv 3))))
   (aw (aH (bA (cT T) T.cQ hr (ah (qv 5) (ah (qv 6) (ah (aq aC aL (aq aC aL (aU 1 ai) (aU 2 ai)) (qv 4)) ak))))))))))
theorem iA:aP ["_law_pool_here","_law_most","_law_spots","_law_many","_law_k"] ["_law_pool_here","_law_most"] (ay (top 29)):=by walk_at "sc"
theorem yf(T:Txt K mg t):bM P w K mg base de 4 t.rF t.rG ["_law_pool_here","_law_most"] (dr K hJ):=by
 refine T.rO.F.fj (n:=2) (m:=5) (B:=jl) iA rfl rfl (by decide) rfl fun bo A outer s H E hr=>?_
 unfold jl
 exact(ao (bR 2 iA.nd (eO (ah (bA (kj T) T.jq hr (ah (qv 0) ak)) ak)))
   (ao (bR 3 iA.nd (aq aQ aY ai (bA (aE T) T.aG hr (ah (qv 0) (ah (aq bt bu (qv 1) ai) ak)))))
   (ao (iq PassesOwn.never rfl (t7 (by rfl) T.gB (ah ai (ah (qv 3) ak))) (n8 4 iA.nd) (aw (yZ (LQ PySem.F.slot_list_append PySem.F.type_list_append nR t4 (qv 2) (ah (bA (l5 T) T.jB hr (ah (bA (kj T) T.jq hr (ah (qv 0) ak)) (ah (aq aQ aY (eO (ah (bD (qv 2) (cC ai) (fun _ _=>rfl)) ak)) (ff (qv 2) g7 (fH (iE nN t5 (by rfl) T.BV xc (ah (j8 (cV hr.units) dM (aq aQ aY (qv 4) ai) (qv 3) (i8 _)) ak))))) ak))) ak)))))
   (aw (aH (iE kN vT (by rfl) T.u7 vK (ah (qv 2) ak)))))))
theorem yg:aP ["_law_x","_law_y","_law_w"] ["_law_x","_law_y","_law_w"] (ay (top 30)):=by walk_at "sc"
theorem p_(T:Txt K mg t):bM P w K mg base de 3 t.rH t.rJ ["_law_x","_law_y","_law_w"] (dr K eZ):=by
 refine T.lZ.F.fj (n:=3) (m:=3) (B:=jm) yg rfl rfl (by decide) rfl fun bo A outer s H E hr=>?_
 unfold jm
 exact(aw (aH (aO (ah jb (ah (bA (cT T) T.cQ hr (ah (qv 0) (ah (qv 1) (ah (qv 2) ak)))) ak)))))
theorem iW:aP ["_law_mine","_law_theirs","_law_w","_law_low","_law_high"] ["_law_mine","_law_theirs","_law_w"] (ay (top 31)):=by walk_at "sc"
theorem u_(T:Txt K mg t):bM P w K mg base de 4 t.ni t.nj ["_law_mine","_law_theirs","_law_w"] (dr K dF):=by
 refine T.nC.F.fj (n:=3) (m:=5) (B:=eL) iW rfl rfl (by decide) rfl fun bo A outer s H E hr=>?_
 unfold eL
 exact(ao (bR 3 iW.nd (dg (zr rfl hr.units) DZ (by rfl) T.Ik B9 (ah (aU 0 ai) (ah (aU 1 ai) ak))))
   (ao (bR 4 iW.nd (dg (zt rfl hr.units) D0 (by rfl) T.Pe JG (ah (aU 0 ai) (ah (aU 1 ai) ak))))
   (ao (bS (dN (Ki hr.units) Kk (qv 3) (qv 4)) (aw (aH l7)) aX)
   (ao (bS (dN (cV hr.units) dM (qv 3) (qv 4)) (aw (aH (bA (p_ T) T.lZ hr (ah (aU 3 ai) (ah (aU 3 ai) (ah (qv 2) ak)))))) aX)
   (aw (aH (aO (ah jb (ah (bA (cT T) T.cQ hr (ah (aU 3 ai) (ah (aU 3 ai) (ah (qv 2) ak)))) (ah (bA (cT T) T.cQ hr (ah (aU 4 ai) (ah (aU 4 ai) (ah (qv 2) ak)))) ak))))))))))
theorem vc:aP ["_law_a","_law_b"] ["_law_a","_law_b"] (ay (top 32)):=by walk_at "sc"
theorem iX(T:Txt K mg t):bM P w K mg base de 1 t.nk t.nu ["_law_a","_law_b"] (dr K bP):=by
 refine T.gW.F.fj (n:=2) (m:=2) (B:=gS) vc rfl rfl (by decide) rfl fun bo A outer s H E hr=>?_
 unfold gS
 exact(aw (aH (aq bt bu (aq aC aL (aU 0 ai) (aU 1 ai)) (aq aC aL (aU 0 ai) (aU 1 ai)))))
theorem bF:aP ["_law_one","_law_other","_law_w","_law_a","_law_b","_law_c","_law_d","_law_along_one","_law_along_other","_law_way","_law_whole","_law_mine","_law_theirs"] ["_law_one","_law_other"] (ay (top 33)):=by walk_at "sc"
theorem vd(T:Txt K mg t):bM P w K mg base de 5 t.nv t.ny ["_law_one","_law_other"] (dr K dG):=by
 refine T.nD.F.fj (n:=2) (m:=13) (B:=gT) bF rfl rfl (by decide) rfl fun bo A outer s H E hr=>?_
 unfold gT
 exact(ao (j9 (i:=2) bF.nd rfl (Or.inr rfl) (aq aC aL (aq aC aL (aq aC aL (bD (aU 0 ai) ai (fun _ _=>rfl)) (bD (aU 0 ai) ai (fun _ _=>rfl))) (bD (aU 1 ai) ai (fun _ _=>rfl))) (bD (aU 1 ai) ai (fun _ _=>rfl))))
   (ao (xq (t_ (N':=["_law_p","_law_w"]) (cap:=[none,some 2]) (oK (sc:=ay (top 33)) (NN:=["_law_one","_law_other","_law_w","_law_a","_law_b","_law_c","_law_d","_law_along_one","_law_along_other","_law_way","_law_whole","_law_mine","_law_theirs"]) rfl rfl rfl (by decide +kernel) (by decide +kernel) (by decide +kernel) (by decide +kernel)) rfl (Cn (aq aQ aY (qv 0) (qv 1))) (fun _ _ _ _=>(jL (i:=0) (show List.Nodup (["_law_p","_law_w"]:List Str)by decide +kernel) rfl (Or.inl rfl))) (fun _ _ _ _=>j_) (fun _ _ _ _=>(aO (ah (aq aC aL (aU 0 ai) (aq eK fG (qv 1) (aU 0 ai))) (ah (aq aC aL (aU 0 ai) (aq eK fG (qv 1) (aU 0 ai))) ak))))) (Kl rfl (iC (n8 3 bF.nd) (iC (n8 4 bF.nd) (iC (n8 5 bF.nd) (iC (n8 6 bF.nd) y8))))))
   (ao (bR 7 bF.nd (aO (ah (aq bt bu (aU 4 ai) (aU 3 ai)) (ah (aq bt bu (aU 4 ai) (aU 3 ai)) ak))))
   (ao (bR 8 bF.nd (aO (ah (aq bt bu (aU 6 ai) (aU 5 ai)) (ah (aq bt bu (aU 6 ai) (aU 5 ai)) ak))))
   (ao (bR 9 bF.nd (aO (ah (aq bt bu (aU 5 ai) (aU 3 ai)) (ah (aq bt bu (aU 5 ai) (aU 3 ai)) ak))))
   (ao (bR 10 bF.nd (bA (iX T) T.gW hr (ah (qv 7) (ah (qv 8) ak))))
   (ao (bR 11 bF.nd (bA (iX T) T.gW hr (ah (qv 9) (ah (qv 8) ak))))
   (ao (bR 12 bF.nd (bA (iX T) T.gW hr (ah (qv 9) (ah (qv 7) ak))))
   (ao (bS (PW.pt (Ck (dN (cV hr.units) dM (qv 10) ai) (yY (dN (cV hr.units) dM (qv 12) ai)))) (aw (aH (bA (u_ T) T.nC hr (ah (dg (mT hr.units) qS (by rfl) T.wK uk (ah (eO (ah (qv 3) (ah (qv 4) ak))) ak)) (ah (dg (mT hr.units) qS (by rfl) T.wK uk (ah (eO (ah (qv 5) (ah (qv 6) ak))) ak)) (ah (qv 2) ak)))))) aX)
   (ao (bS (dN ju jy (qv 10) ai) (aw (y7 (i:=10) (j:=11) (l:=12) rfl bF.nd rfl rfl rfl (by decide) (by decide) (by decide) rfl rfl rfl (ah (aq bt bu ai (qv 10)) (ah (aq bt bu ai (qv 11)) (ah (aq bt bu ai (qv 12)) ak))) (by rfl))) aX)
   (ao (bS (PW.pt (kY (dN (cV hr.units) dM (qv 10) ai) (kY (sC (vS wX xn wX xn ai (qv 11) (qv 10))) (l_ (sC (vS wX xn wX xn ai (qv 12) (qv 10))))))) (aw (aH l7)) aX)
   (aw (aH (bA (p_ T) T.lZ hr (ah (aq aQ aY (aq aC aL (aU 3 ai) (qv 10)) (aq aC aL (aU 7 ai) (qv 11))) (ah (aq aQ aY (aq aC aL (aU 3 ai) (qv 10)) (aq aC aL (aU 7 ai) (qv 11))) (ah (aq aC aL (qv 2) (qv 10)) ak)))))))))))))))))
theorem bZ:aP ["_law_loop_here","_law_many","_law_sides","_law_k","_law_j","_law_due"] ["_law_loop_here"] (ay (top 34)):=by walk_at "sc"
theorem qa(T:Txt K mg t):bM P w K mg base de 6 t.jV t.jW ["_law_loop_here"] (dr K cA):=by
 refine T.jY.F.fj (n:=1) (m:=6) (B:=dP) bZ rfl rfl (by decide) rfl fun bo A outer s H E hr=>?_
 unfold dP
 exact(ao (bS (dN (jc hr.units) lh (uz (by rfl) T.e_ (by rfl) T.Il hr.units (ah (qv 0) ak)) (n_ T.e_ (qv 0))) (aw (aH gG)) aX)
   (ao (j9 (i:=1) bZ.nd rfl (Or.inr rfl) (n_ T.e_ (qv 0)))
   (ao (zd (i:=2) (N':=["_law_k","_law_loop_here","_law_many"]) (cap:=[none,some 0,some 1]) (oK (sc:=ay (top 34)) (NN:=["_law_loop_here","_law_many","_law_sides","_law_k","_law_j","_law_due"]) rfl rfl rfl (by decide +kernel) (by decide +kernel) (by decide +kernel) (by decide +kernel)) rfl (fT (by rfl) T.gB (ah (qv 1) ak)) (fun _ _ _ _=>(jL (i:=0) (show List.Nodup (["_law_k","_law_loop_here","_law_many"]:List Str)by decide +kernel) rfl (Or.inl rfl))) (fun _ _ _ _=>j_) (fun _ _ _ _=>(aO (ah (bD (qv 1) (qv 0) (fun _ _=>rfl)) (ah (bD (qv 1) (aq fF gM (aq aQ aY (qv 0) ai) (qv 2)) (fun _ _=>rfl)) ak)))) bZ.nd rfl (Or.inl rfl) (by rfl))
   (ao (iq PassesOwn.never rfl (fT (by rfl) T.gB (ah (qv 1) ak)) (n8 3 bZ.nd) (aw (iq PassesOwn.never rfl (fT (by rfl) T.gB (ah (qv 3) ak)) (n8 4 bZ.nd) (ao (bR 5 bZ.nd l7)
   (ao (bS (dN (cV hr.units) dM (aq bt bu (qv 3) (qv 4)) ai) (aw (bR 5 bZ.nd (aO (ah jb (ah (bD (qv 0) (qv 3) (fun _ _=>rfl)) ak))))) aX)
   (ao (bS (PW.pt (Ck (dN (cV hr.units) dM (qv 4) ai) (yY (dN (cV hr.units) dM (qv 3) (aq bt bu (qv 1) ai))))) (aw (bR 5 bZ.nd (aO (ah jb (ah (aU 0 ai) ak))))) aX)
   (aw (bS (dN (jc hr.units) lh (bA (vd T) T.nD hr (ah (bD (qv 2) (qv 4) (fun _ _=>rfl)) (ah (bD (qv 2) (qv 3) (fun _ _=>rfl)) ak))) (qv 5)) (aw (aH gG)) aX))))))))
   (aw (aH gG))))))
theorem cj:aP ["_law_pool_here","_law_ways","_law_x","_law_y","_law_rare","_law_left","_law_spots","_law_way","_law_far","_law_w"] ["_law_pool_here"] (ay (top 35)):=by walk_at "sc"
theorem vD(T:Txt K mg t):bM P w K mg base de 3 t.pT t.pU ["_law_pool_here"] (dr K gz):=by
 refine T.pW.F.fj (n:=1) (m:=10) (B:=iy) cj rfl rfl (by decide) rfl fun bo A outer s H E hr=>?_
 unfold iy
 exact(ao (j9 (i:=1) cj.nd rfl (Or.inr rfl) (eO (ah (aO (ah ai (ah ai ak))) (ah (aO (ah ai (ah ai ak))) (ah (aO (ah ai (ah ai ak))) (ah (aO (ah ai (ah ai ak))) (ah (aO (ah ai (ah ai ak))) (ah (aO (ah ai (ah ai ak))) (ah (aO (ah ai (ah ai ak))) (ah (aO (ah (cC ai) (ah ai ak))) (ah (aO (ah (cC ai) (ah ai ak))) (ah (aO (ah (cC ai) (ah ai ak))) (ah (aO (ah (cC ai) (ah ai ak))) (ah (aO (ah (cC ai) (ah ai ak))) ak))))))))))))))
   (ao (j9 (i:=1) cj.nd rfl (Or.inr rfl) (aq aQ aY (qv 1) (eO (ah (aO (ah (cC ai) (ah ai ak))) (ah (aO (ah (cC ai) (ah (cC ai) ak))) (ah (aO (ah (cC ai) (ah (cC ai) ak))) (ah (aO (ah (cC ai) (ah (cC ai) ak))) (ah (aO (ah (cC ai) (ah (cC ai) ak))) (ah (aO (ah ai (ah (cC ai) ak))) (ah (aO (ah ai (ah (cC ai) ak))) (ah (aO (ah ai (ah (cC ai) ak))) (ah (aO (ah ai (ah (cC ai) ak))) (ah (aO (ah ai (ah (cC ai) ak))) ak)))))))))))))
   (ao (j9 (i:=1) cj.nd rfl (Or.inr rfl) (aq aQ aY (qv 1) (eO (ah (aO (ah ai (ah (cC ai) ak))) (ah (aO (ah ai (ah (cC ai) ak))) ak)))))
   (ao (y4 (i:=2) (j:=3) rfl cj.nd rfl rfl (by decide) rfl rfl (ah (aq bt bu (bA (aE T) T.aG hr (ah (qv 0) (ah ai ak))) ai) (ah (aq bt bu (bA (aE T) T.aG hr (ah (qv 0) (ah ai ak))) ai) ak)) (by rfl))
   (ao (j9 (i:=4) cj.nd rfl (Or.inr rfl) (aq aQ aY ai (bA (aE T) T.aG hr (ah (qv 0) (ah ai ak)))))
   (ao (zd (i:=5) (N':=["_law_way","_law_pool_here","_law_rare","_law_ways"]) (cap:=[none,some 0,some 4,some 1]) (oK (sc:=ay (top 35)) (NN:=["_law_pool_here","_law_ways","_law_x","_law_y","_law_rare","_law_left","_law_spots","_law_way","_law_far","_law_w"]) rfl rfl rfl (by decide +kernel) (by decide +kernel) (by decide +kernel) (by decide +kernel)) rfl (t6 (qv 1)) (fun _ _ _ _=>(jL (i:=0) (show List.Nodup (["_law_way","_law_pool_here","_law_rare","_law_ways"]:List Str)by decide +kernel) rfl (Or.inl rfl))) (fun _ _ _ _=>(DG (PW.pt (kY (dN ju jy (bA (aE T) T.aG hr (ah (qv 1) (ah (qv 2) ak))) ai) (l_ (xp (Cs hr.units) GH (qv 0) (Hh (k:=8) (by decide) (qv 3)) (by with_unfolding_all rfl))))))) (fun _ _ _ _=>(qv 0)) cj.nd rfl (Or.inl rfl) (by rfl))
   (ao (bR 6 cj.nd (eO ak))
   (ao (iq PassesOwn.never rfl (t6 (qv 5)) (n8 7 cj.nd) (ao (bR 8 cj.nd (aq aQ aY ai (bA (aE T) T.aG hr (ah (qv 0) (ah ai ak)))))
   (ao (bR 9 cj.nd (aq aQ aY ai (bA (aE T) T.aG hr (ah (qv 0) (ah ai ak)))))
   (aw (yZ (LQ PySem.F.slot_list_append PySem.F.type_list_append nR t4 (qv 6) (ah (bA (cT T) T.cQ hr (ah (aq aQ aY (aq aC aL (qv 2) (qv 9)) (aq aC aL (aU 7 ai) (qv 8))) (ah (aq aQ aY (aq aC aL (qv 3) (qv 9)) (aq aC aL (aU 7 ai) (qv 8))) (ah (qv 9) ak)))) ak)))))))
   (aw (aH (iE kN vT (by rfl) T.u7 vK (ah (qv 6) ak))))))))))))
theorem cU:aP ["_law_pool_here","_law_loop_here","_law_at","_law_p","_law_pick","_law_j"] ["_law_pool_here","_law_loop_here"] (ay (top 36)):=by walk_at "sc"
theorem ve(T:Txt K mg t):bM P w K mg base de 4 t.nA t.nB ["_law_pool_here","_law_loop_here"] (dr K fN):=by
 refine T.nE.F.fj (n:=2) (m:=6) (B:=gU) cU rfl rfl (by decide) rfl fun bo A outer s H E hr=>?_
 unfold gU
 exact(ao (bR 2 cU.nd (bA (aE T) T.aG hr (ah (qv 0) (ah (n_ T.e_ (qv 1)) ak))))
   (ao (bR 3 cU.nd (bA (kj T) T.jq hr (ah (qv 0) ak)))
   (ao (bR 4 cU.nd (bA (aE T) T.aG hr (ah (qv 0) (ah ai ak))))
   (ao (bS (dN (cV hr.units) dM (qv 4) ai) (ao (bR 5 cU.nd (bA (aE T) T.aG hr (ah (qv 0) (ah (n_ T.e_ (qv 1)) ak))))
   (aw (bR 3 cU.nd (bA (sf T) T.lY hr (ah (qv 0) (ah (bD (qv 1) (aq bt bu (qv 5) ai) (fun _ _=>rfl)) (ah (bD (qv 1) (qv 5) (fun _ _=>rfl)) ak))))))) aX)
   (ao (bS (dN (cV hr.units) dM (qv 4) ai) (aw (bR 3 cU.nd (bD (qv 1) (bA (aE T) T.aG hr (ah (qv 0) (ah (n_ T.e_ (qv 1)) ak))) (fun _ _=>rfl)))) aX)
   (ao (bR 3 cU.nd (bA (l5 T) T.jB hr (ah (qv 3) (ah (eO (ah (bD (qv 1) (aq bt bu (qv 2) ai) (fun _ _=>rfl)) (ah (bD (qv 1) (aq fF gM (aq aQ aY (qv 2) ai) (n_ T.e_ (qv 1))) (fun _ _=>rfl)) ak))) ak))))
   (aw (aH (aq aQ aY (aq Hj Hk (ff (qv 1) g7 (fH (qv 2))) (aO (ah (qv 3) ak))) (ff (qv 1) (fH (aq aQ aY (qv 2) ai)) g7))))))))))
theorem fB:aP ["_law_script","_law_k","_law_pool_here","_law_sort","_law_loop_here","_law_p","_law_q","_law_few","_law_due","_law_found","_law_at"] ["_law_script"] (ay (top 37)):=by walk_at "sc"
theorem Lq(T:Txt K mg t):bM P w K mg base de 8 t.Ii t.xX ["_law_script"] (dr K uL):=by
 refine T.Ij.F.fj (n:=1) (m:=11) (B:=xM) fB rfl rfl (by decide) rfl fun bo A outer s H E hr=>?_
 unfold xM
 exact(ao (iq PassesOwn.never rfl (fT (by rfl) T.gB (ah (dg (AS rfl) Gj (by rfl) T.Ik B9 (ah ai (ah (n_ T.e_ (ff (qv 0) (fH ai) (fH ai))) ak))) ak)) (n8 1 fB.nd) (ao (bR 2 fB.nd (bA (ye T) T.rN hr (ah (qv 0) (ah (aq aQ aY ai (qv 1)) ak))))
   (ao (bR 3 fB.nd (bA (aE T) T.aG hr (ah (qv 2) (ah ai ak))))
   (ao (bR 4 fB.nd (bA (yf T) T.rO hr (ah (qv 2) (ah ai ak))))
   (ao (xq (ff (qv 4) g7 (fH ai)) (JU rfl (iC (n8 5 fB.nd) (iC (n8 6 fB.nd) y8))))
   (ao (iq PassesOwn.never rfl (t6 (eO (ah (aO ak) (ah (aO (ah (qv 5) ak)) (ah (aO (ah (qv 5) (ah (qv 6) ak))) (ah (aO (ah (qv 5) (ah (qv 5) (ah (qv 6) ak)))) (ah (aO (ah (qv 5) (ah (qv 6) (ah (qv 6) ak)))) (ah (aO (ah (qv 5) (ah (qv 6) (ah (qv 5) ak)))) ak)))))))) (n8 7 fB.nd) (aw (bS (dN Hd Hf (bA (fO T) T.fA hr (ah (qv 7) ak)) gG) (aw (aH gG)) aX)))
   (ao (bS (dN qf qk (qv 3) ai) (ao (bR 4 fB.nd (bA (vD T) T.pW hr (ah (qv 2) ak)))
   (aw (bS (dN Hc He (bA (fO T) T.fA hr (ah (qv 4) ak)) gG) (aw (aH gG)) aX))) aX)
   (ao (bS (dN (cV hr.units) dM (qv 3) ai) (aw (bR 4 fB.nd (bA (ve T) T.nE hr (ah (qv 2) (ah (qv 4) ak))))) aX)
   (ao (bR 8 fB.nd (bA (qa T) T.jY hr (ah (qv 4) ak)))
   (ao (bR 9 fB.nd (bA (fO T) T.fA hr (ah (qv 4) ak)))
   (ao (bR 10 fB.nd (bA (aE T) T.aG hr (ah (qv 2) (ah (n_ T.e_ (qv 4)) ak))))
   (ao (bS (PW.pt (kY (sC (l9 (dg xb Bp (by rfl) T.vB tK (ah (qv 9) (ah (yW (.ty "bool") (E4 (v:=.ty "bool") (by rfl) T.Ln FX rfl) fun _ _ _=>.ty "bool") ak))))) (kY (dN (jc hr.units) lh (qv 9) (qv 8)) (l_ (dN (jc hr.units) lh (bA (fO T) T.fA hr (ah (aq aQ aY (ff (qv 4) (fH (qv 10)) g7) (ff (qv 4) g7 (fH (qv 10)))) ak)) (qv 8)))))) (aw (aH gG)) aX)
   (aw (bS (dN (jc hr.units) lh (bA (fO T) T.fA hr (ah (xt (by rfl) T.u7 (by rfl) T.Ay (ah (qv 4) ak)) ak)) (qv 8)) (aw (aH gG)) aX))))))))))))))
   (aw (aH gG)))
end
theorem fP{K:PySem.W.Frag}{h:Heap}{mg:Str→Option Value}{x:Str}{i:Nat}{ps:List Str}{f:Addr}{oc kV doc pm bo ct:Value}{od an:Option Addr}{ky:Array (Option Value)}(X:K.In h)(G:h.Ns mainGlobals mg)(a:PySem.W.nsIn K mainGlobals x=some (some (.ref f)))
  (l:K.lookup f=some ⟨oc,od,.func (PySem.W.fnOf x x (eE (top i)) (cW (top i)) (ay (top i)) .none kV doc pm an bo ct),ky⟩)(c:PySem.W.codeIn K bo x=true)(k:PySem.W.keepIn K (.ref f)=true)
  (hb:∀(kV doc pm:Value) (an:Option Addr) (bo ct:Value) (us:List Value),us.length=ps.length→bindArgs (PySem.W.fnOf x x (eE (top i)) (cW (top i)) (ay (top i)) .none kV doc pm an bo ct) ⟨us,[]⟩=pure (ps.zip us):=by walk_at "hb"):
  FD K mg x i ps f (PySem.W.fnOf x x (eE (top i)) (cW (top i)) (ay (top i)) .none kV doc pm an bo ct):=⟨B4 l c k,PySem.W.mg_of X G a,(B4 l c k).binds hb⟩
theorem EK{K:PySem.W.Frag}{h:Heap}{mg:Str→Option Value}{f td:Addr}{oc kV doc pm bo ct tc:Value}{od an U7:Option Addr}{ky U8:Array (Option Value)}{tn:Nat}{tk:Tok}(X:K.In h)(G:h.Ns mainGlobals mg)(a:PySem.W.nsIn K mainGlobals "spot" =some (some (.ref f)))
  (l:K.lookup f=some ⟨oc,od,.func (PySem.W.fnOf "spot" "spot" (eE (top 3)) (cW (top 3)) (ay (top 3)) (.ref td) kV doc pm an bo ct),ky⟩)(c:PySem.W.codeIn K bo "spot" =true)(k:PySem.W.keepIn K (.ref f)=true)(dl:K.lookup td=some ⟨tc,U7,.seq #[Value.int 1 tk] tn,U8⟩):
  FE K mg "spot" 3 ["x","y","w"] f (PySem.W.fnOf "spot" "spot" (eE (top 3)) (cW (top 3)) (ay (top 3)) (.ref td) kV doc pm an bo ct):=⟨FW l c k,PySem.W.mg_of X G a,fun s us EV hl=>by
 obtain⟨_,_,_,rfl⟩:=M1 hl
 exact BindsTo.of_defaults rfl (EV _ _ dl) rfl rfl rfl⟩
theorem tx{K:PySem.W.Frag}{mg:Str→Option Value}{f0 f1 f2 f3 f4 f5 f6 f7 f8 f9 U9 U_ Va Vb Vc Vd Ve Vf Vg Vh Vi Vj Vk Vl Vm Vn Vo Vp Vq Vr Vs Vt Vu:Addr}{d0 d1 d2 d3 d4 d5 d6 d7 d8 d9 nY Vv Vw Vx Vy Vz VA VB VC VD VE VF VG VH VI VJ VL VM VN VO VP VQ Sn:FuncData}(T:Txt K mg ⟨f0,d0,f1,d1,f2,d2,f3,d3,f4,d4,f5,d5,f6,d6,f7,d7,f8,d8,f9,d9,U9,nY,U_,Vv,Va,Vw,Vb,Vx,Vc,Vy,Vd,Vz,Ve,VA,Vf,VB,Vg,VC,Vh,VD,Vi,VE,Vj,VF,Vk,VG,Vl,VH,Vm,VI,Vn,VJ,Vo,VL,Vp,VM,Vq,VN,Vr,VO,Vs,VP,Vt,VQ,Vu,Sn⟩)(hb:(∀(s:Shared) (v:Value),BindsTo s Sn ⟨[v],[]⟩ [("_law_script",v)])):∃t,Txt K mg t∧(∀(s:Shared) (v:Value),BindsTo s t.xX ⟨[v],[]⟩ [("_law_script",v)]):=⟨_,T,hb⟩
theorem walk{l:PySem.W.OpenLaw}{q:Program}{loose:List Str}{XP:(Str→Option Value)→Heap→Prop}{YP:World→Heap→Prop}{d:DefRec}{K:Params→PySem.W.Frag}(hn:l.most=some 63)(FL:d.params.defaults=[])
  (hY:∀(w:World) (h:Heap),YP w h→(K w.params).In h)
  (F:∀(w:World) (mg:Str→Option Value) (fa:Addr) (h:Heap),(K w.params).In h→h.Ns mainGlobals mg→mg d.name=some (.ref fa)→
   ∃fd:FuncData,(∀(s:Shared) (u:Value),BindsTo s fd ⟨[u],[]⟩ [("_law_script",u)])∧∀base:Heap,(K w.params).In base→base.Ns mainGlobals mg→bM l.prog w (K w.params) mg base de 8 fa fd ["_law_script"] (dr (K w.params) uL)):
  PySem.W.WalkO q loose XP YP l.row.toRowW d [] (fun f vs=>PySem.call f vs):=
 L2.FQ (n:=63) (k:=8) (x:="_law_script") (CX:=fun _=>de) (sp:=fun w=>dr (K w.params) uL) hn (by decide) FL ⟨rfl,by decide,by decide⟩ hY F (fun _ _ a ns hl hO hS=>let ⟨_,h⟩:=EJ ns hl;JX hO hS h) fun _ _ _ _ _ z=>z
end dJ
open PySem PySem.W PyProof.Rows
local macro_rules|`(tactic|walk_at "hb")=>`(tactic|(rintro _ _ _ _ _ _ (_|⟨_,_|⟨_,_|⟨_,_|⟨_,_⟩⟩⟩⟩) hl<;>first|rfl|(simp at hl)))
local macro_rules (kind:=Lean.Parser.Term.structInst)|stx=>do
 if (stx.find? fun x=>x.isIdent&&x.getId.eraseMacroScopes==`globals).isSome then Lean.Macro.throwError "as a whole" else Lean.Macro.throwUnsupported
set_option maxRecDepth 100000 in
set_option maxHeartbeats 0 in
theorem PySem.Challenge.cw_sheetlay_k18_simple_or_not_holds : PySem.Challenge.rw_sheetlay_k18_simple_or_not.Holds := by
 w_on;o_law;k_head;(case hw=>w_witness2)
 k_fill
 refine dJ.walk (l:=PySem.Challenge.rw_sheetlay_k18_simple_or_not) rfl rfl (fun w h Y=>PySem.W.kIn_of Y) ?F
 case F=>
  intro w mg fa h KX G FO
  have TT:∃t,dJ.Txt (L2.P_ KX) mg t∧(∀(s:Shared) (v:Value),BindsTo s t.xX ⟨[v],[]⟩ [("_law_script",v)]):=by
   dsimp only[L2.P_]
   refine' dJ.tx ⟨dJ.fP KX G ?_ ?_ ?_ ?_,dJ.EK KX G ?_ ?_ ?_ ?_ ?_,dJ.fP KX G ?_ ?_ ?_ ?_,dJ.fP KX G ?_ ?_ ?_ ?_,dJ.fP KX G ?_ ?_ ?_ ?_,dJ.fP KX G ?_ ?_ ?_ ?_,dJ.fP KX G ?_ ?_ ?_ ?_,dJ.fP KX G ?_ ?_ ?_ ?_,dJ.fP KX G ?_ ?_ ?_ ?_,dJ.fP KX G ?_ ?_ ?_ ?_,dJ.fP KX G ?_ ?_ ?_ ?_,dJ.fP KX G ?_ ?_ ?_ ?_,dJ.fP KX G ?_ ?_ ?_ ?_,dJ.fP KX G ?_ ?_ ?_ ?_,dJ.fP KX G ?_ ?_ ?_ ?_,dJ.fP KX G ?_ ?_ ?_ ?_,dJ.fP KX G ?_ ?_ ?_ ?_,dJ.fP KX G ?_ ?_ ?_ ?_,dJ.fP KX G ?_ ?_ ?_ ?_,dJ.fP KX G ?_ ?_ ?_ ?_,dJ.fP KX G ?_ ?_ ?_ ?_,dJ.fP KX G ?_ ?_ ?_ ?_,dJ.fP KX G ?_ ?_ ?_ ?_,dJ.fP KX G ?_ ?_ ?_ ?_,dJ.fP KX G ?_ ?_ ?_ ?_,dJ.fP KX G ?_ ?_ ?_ ?_,dJ.fP KX G ?_ ?_ ?_ ?_,dJ.fP KX G ?_ ?_ ?_ ?_,dJ.fP KX G ?_ ?_ ?_ ?_,dJ.fP KX G ?_ ?_ ?_ ?_,dJ.fP KX G ?_ ?_ ?_ ?_,dJ.fP KX G ?_ ?_ ?_ ?_,dJ.fP KX G ?_ ?_ ?_ ?_,PySem.W.mg_none_of KX G ?_,PySem.W.mg_none_of KX G ?_,PySem.W.mg_none_of KX G ?_,PySem.W.mg_none_of KX G ?_,PySem.W.mg_none_of KX G ?_,PySem.W.mg_none_of KX G ?_,PySem.W.mg_none_of KX G ?_,PySem.W.mg_none_of KX G ?_,PySem.W.mg_none_of KX G ?_,PySem.W.mg_none_of KX G ?_,PySem.W.mg_none_of KX G ?_,PySem.W.mg_none_of KX G ?_,PySem.W.mg_none_of KX G ?_,PySem.W.mg_none_of KX G ?_,PySem.W.mg_none_of KX G ?_⟩ (fun s v=>.of_eq rfl)
   all_goals try dsimp only
   any_goals k_is
  obtain⟨t,T,hb⟩:=TT
  have e0:=FO.symm.trans T.Ij.m
  cases e0
  exact⟨_,hb,fun base _ _=>dJ.Lq T⟩
