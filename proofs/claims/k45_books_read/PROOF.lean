import PyProof.Rows.All
import Wide.All
import OpenK.AllK
import Wide.FinOn
import Lean
import PyProof.EqAt
import PyProof.EqKinds
import PyProof.TupleCall
import PyProof.ExcInit
import KE.KLam
import KE.KNestM
import KE.KSortTup
import PyProof.Rows.SortBase
import PyProof.Rows.SortWalk
import PyProof.Rows.SortShellK
import PyProof.Rows.SortRuns
import PyProof.SetScanFacts
import PyProof.TupleKey
import PyProof.WalksMore
import KE.KIntText
import PyProof.StrWalks
import PySem.Challenge.RW_sheetlay_k45_books_read
set_option Elab.async false
set_option linter.all false
set_option maxRecDepth 100000
set_option compiler.extract_closed false
namespace PySem
open Sem (wp)
section
variable{prog:Program}{w:World}{K:Type}[DecidableEq K](knd:KeyKind prog w K)
inductive jb(h:Heap):List (List K)→List Value→Prop
 |nil:jb h [] []
 |cons {ks:List K}{a:Addr}{gv:List (List K)}{vs:List Value}:IsTupleKey knd h ks a→jb h gv vs→jb h (ks::gv) (.ref a::vs)
def dW(h:Heap)(gv:List (List K))(a:Addr):Prop:=∃ob its m,h.get? a=some ob∧ob.cls= .type "tuple"∧ob.data= .seq its m∧jb knd h gv its.toList
variable{knd}
theorem jb.inj{h:Heap}{x y:List (List K)}{vs:List Value}(p:jb knd h x vs):jb knd h y vs→x=y:=by
 induction p generalizing y with
 |nil=>intro q;cases q;rfl
 |cons h1 _ ih=>
  intro q
  cases q with
  |cons h2 t2=>rw[h1.inj h2,ih t2]
theorem dW.typeIs{s:Shared}{gv:List (List K)}{a:Addr}(x:dW knd s.heap gv a):s.TypeIs (.ref a) "tuple":=by
 obtain⟨ob,_,_,ho,hc,_⟩:=x
 exact⟨ob,ho,hc⟩
theorem dW.inj{h:Heap}{a:Addr}{x y:List (List K)}(p:dW knd h x a)(q:dW knd h y a):x=y:=by
 obtain⟨o1,i1,n1,a1,_,b1,c1⟩:=p
 obtain⟨o2,i2,n2,a2,_,b2,c2⟩:=q
 rw[a1]at a2
 cases a2
 rw[b1]at b2
 injection b2 with b2 _
 subst b2
 exact c1.inj c2
theorem jb.keeps{h h':Heap}{gv:List (List K)}{vs:List Value}{d:Addr}{ob:Obj}{es ep}(x:jb knd h gv vs)(ho:h.get? d=some ob)(hd:ob.data= .dict es ep)(hs:Heap.SameBut d h h'):jb knd h' gv vs:=by
 induction x with
 |nil=>exact .nil
 |cons h1 _ ih=>exact .cons (h1.keeps ho hd hs) ih
theorem dW.keeps{h h':Heap}{gv:List (List K)}{a d:Addr}{ob:Obj}{es ep}(x:dW knd h gv a)(ho:h.get? d=some ob)(hd:ob.data= .dict es ep)(hs:Heap.SameBut d h h'):dW knd h' gv a:=by
 obtain⟨o1,i1,n1,a1,c1,b1,r1⟩:=x
 have ne:a≠d:=by
  intro e
  rw[e,ho]at a1
  cases a1
  rw[hd]at b1
  cases b1
 exact⟨o1,i1,n1,(hs.2 a ne).trans a1,c1,b1,r1.keeps ho hd hs⟩
def yY(knd:KeyKind prog w K)(gv:List (List K)):Int:=reduceHash (Builtin.Tuple.tupleHashOf (gv.map (tupleKeyHash knd)))
def kz:List (List K)→Nat
 |[]=>0
 |ks::r=>(ks.length+1)+kz r
theorem vf:∀(x y:List (List K)),kz (x++y)=kz x+kz y
 |[],y=>by simp[kz]
 |a::x,y=>by simp only[List.cons_append,kz,vf x y];omega
variable{A:Around}{E:Value→Shared→Prop}{s:Shared}
theorem CL{gv:List (List K)}{a:Addr}{Q:Int→Shared→Prop}(hu:A.units+4<cLine)(hk:dW knd s.heap gv a)(q:Q (yY knd gv) { s with toks:=s.toks+(kz gv+1) }):
  wpAny (model prog w) A (pyHash (.ref a)) Q E s:=by
 have ty:=hk.typeIs
 obtain⟨ob,its,m,ho,_,hd,hi⟩:=hk
 unfold pyHash
 first|unfold pyHashByItsType|skip
 first|refine wpAny_bind (wpAny_cRoomFor_or (.inr (by omega)) ?_)|skip
 refine wpAny_bind (wpAny_specialOf ty F.slot_tuple_hash.lookup ?_)
 show wpAny _ _ (if (some (Value.builtin "tuple.__hash__")==some Value.none)=true then _ else _) Q E s
 rw[if_neg (by rw[beq_builtin_none];exact Bool.false_ne_true)]
 refine wpAny_bind (wpAny_specialOf ty F.slot_tuple_hash.lookup ?_)
 show wpAny _ _ (callSpecialIfBoundUnlessNone? (.ref a) "__hash__" _ >>= _) Q E s
 refine wpAny_bind (wpAny_callSpecialIfBoundUnlessNone?_slot ty F.slot_tuple_hash (wpAny_call_entry F.slot_tuple_hash ty F.entry_tuple_hash ?_ (F.args_tuple_hash_1 _)))
 show wpAny _ _ (Builtin.Tuple.tupleItemsOf (.ref a) >>= _) _ _ s
 refine wpAny_bind (wpAny_tupleItemsOf ho hd (wpAny_bind ?_))
 rw[←Array.forIn_toList]
 refine wpAny_forIn_list _ (fun rest (b:Array Int) s'=>∃done left,gv=done++left∧jb knd s.heap left rest∧b.toList=done.map (tupleKeyHash knd)∧s'= { s with toks:=s.toks+kz done }) _ ?_ ?_ _ _ ⟨[],gv,rfl,hi,rfl,rfl⟩
 ·rintro x rest b s' ⟨done,left,rfl,hl,hb,rfl⟩
  cases hl with
  |@cons ks c xn _ h1 yZ=>
   refine wpAny_bind (wpAny_pyHash_tuple (s:={ s with toks:=s.toks+kz done }) (by show A.units+1<cLine;omega) h1 ?_)
   have fin:∃dn lf,done++ks::xn=dn++lf∧jb knd s.heap lf rest∧(b.push (tupleKeyHash knd ks)).toList=dn.map (tupleKeyHash knd)∧({ s with toks:=s.toks+kz done+(ks.length+1) }:Shared)= { s with toks:=s.toks+kz dn }:=
    ⟨done++[ks],xn,by simp,yZ,by simp[hb],by rw[vf];simp[kz,Nat.add_assoc]⟩
   first
    |exact wpAny_pure fin
    |exact wpAny_bind (wpAny_pure (wpAny_pure fin))
 ·rintro b s' ⟨done,left,rfl,hl,hb,rfl⟩
  cases hl
  rw[List.append_nil]at q
  show wpAny _ _ (retInt (Builtin.Tuple.tupleHashOf b.toList)) _ _ _
  rw[hb]
  refine wpAny_ret_mkInt ?_
  show wpAny _ _ (if (decide (-(2:Int) ^ 63≤Builtin.Tuple.tupleHashOf (done.map (tupleKeyHash knd)))&&decide (Builtin.Tuple.tupleHashOf (done.map (tupleKeyHash knd))<2 ^ 63))=true then _ else _) Q E _
  unfold yY reduceHash at q
  by_cases hr:(decide (-(2:Int) ^ 63≤Builtin.Tuple.tupleHashOf (done.map (tupleKeyHash knd)))&&decide (Builtin.Tuple.tupleHashOf (done.map (tupleKeyHash knd))<2 ^ 63))=true
  ·rw[if_pos hr]at q ⊢
   exact wpAny_pure (by simpa[Nat.add_assoc]using q)
  ·rw[if_neg hr]at q ⊢
   exact wpAny_bind (wpAny_rule (wpAny_pure (by simpa[Nat.add_assoc]using q)))
theorem CM{x y:List (List K)}{a b:Addr}{P:Fin→Shared→Prop}(hu:A.units+2<cLine)(hx:dW knd s.heap x a)(hy:dW knd s.heap y b)(q:P (.done (.ret (.bool (decide (x=y))))) s):
  wpAny (model prog w) A (Builtin.«tuple.__eq__» ⟨[.ref a,.ref b],[]⟩) P E s:=by
 have ty:=hy.typeIs
 obtain⟨o1,xs,n1,Ug,_,JL,Uh⟩:=hx
 obtain⟨o2,ys,n2,By,_,hd2,NX⟩:=hy
 show wpAny _ _ (isInstance (.ref b) (.type "tuple") >>= _) _ _ s
 refine wpAny_bind (wpAny_isInstance ty isSubtype_tuple_tuple ?_)
 simp only[Bool.not_true,Bool.false_eq_true,if_false]
 refine wpAny_bind (wpAny_tupleItemsOf Ug JL (wpAny_bind (wpAny_tupleItemsOf By hd2 (wpAny_bind ?_))))
 refine wpAny_forIn_list _ (fun rest r s'=>r.1=none∧s'=s∧∃x' y' oK y3,rest=List.zip oK y3∧jb knd s.heap x' oK∧jb knd s.heap y' y3∧decide (x'=y')=decide (x=y)∧(oK.length==y3.length)=(xs.size==ys.size)) _ ?_ ?_ _ _ ⟨rfl,rfl,x,y,xs.toList,ys.toList,rfl,Uh,NX,rfl,by simp⟩
 ·rintro⟨u,v⟩ rest r s' ⟨hr,rfl,x',y',oK,y3,hz,rE,oM,AF,hlen⟩
  cases rE with
  |nil=>simp at hz
  |@cons k1 c1 x2 Ui h1 JM=>
   cases oM with
   |nil=>simp at hz
   |@cons k2 c2 y2 Uj h2 Uk=>
    simp only[List.zip_cons_cons,List.cons.injEq,Prod.mk.injEq]at hz
    obtain⟨⟨rfl,rfl⟩,rfl⟩:=hz
    refine wpAny_bind (wpAny_eqBool_tuple (x:=k1) (y:=k2) (by omega) h1 h2 ?_)
    by_cases hk:k1=k2
    ·subst hk
     rw[decide_eq_true rfl]
     simp only[Bool.not_true,Bool.false_eq_true,if_false]
     refine wpAny_pure ⟨rfl,rfl,x2,y2,Ui,Uj,rfl,JM,Uk,?_,by simpa using hlen⟩
     rw[←AF]
     by_cases NY:x2=y2
     ·simp[NY]
     ·simp[NY]
    ·rw[decide_eq_false hk]
     simp only[Bool.not_false,if_true]
     have hf:decide (x=y)=false:=by rw[←AF];simp[hk]
     rw[hf]at q
     exact wpAny_bind (wpAny_pure (wpAny_pure (wpAny_pure q)))
 ·rintro⟨r1,r2⟩ s' ⟨hr,rfl,x',y',oK,y3,hz,rE,oM,AF,hlen⟩
  simp only at hr
  subst hr
  refine wpAny_pure ?_
  have fin:(xs.size==ys.size)=decide (x=y):=by
   rw[←AF,←hlen]
   cases rE with
   |nil=>
    cases oM with
    |nil=>simp
    |cons _ _=>simp
   |cons _ _=>
    cases oM with
    |nil=>simp
    |cons _ _=>simp at hz
  show P (.done (.ret (.bool (xs.size==ys.size)))) s'
  rw[fin]
  exact q
theorem CN{x y:List (List K)}{a b:Addr}{Q:Bool→Shared→Prop}(hu:A.units+4<cLine)(hx:dW knd s.heap x a)(hy:dW knd s.heap y b)(q:Q (decide (x=y)) s):
  wpAny (model prog w) A (eqBool (.ref a) (.ref b)) Q E s:=by
 unfold eqBool
 try with_reducible refine wpAny_holding ?_
 show wpAny _ _ (if (Value.ref a==Value.ref b)=true then _ else _) Q E s
 by_cases JN:(Value.ref a==Value.ref b)=true
 ·rw[if_pos JN]
  have e:a=b:=by have:=eq_of_beq JN;injection this
  subst e
  obtain rfl:=hx.inj hy
  exact wpAny_bind (wpAny_rule (wpAny_pure (by simpa using q)))
 ·rw[if_neg JN]
  exact wpAny_bind (wpAny_richCompare_same_room (op:=.Eq) hx.typeIs hy.typeIs F.slot_tuple_eq
   (wpAny_call_entry F.slot_tuple_eq hx.typeIs F.entry_tuple_eq (CM (by show A.units+1+2<cLine;omega) hx hy ⟨_,rfl,(fun e=>nomatch e),wpAny_truthy_bool q⟩) (F.args_tuple_eq_2 _ _)) (by omega))
theorem FO{ks:List K}{n:Nat}{a:Addr}{Q:Bool→Shared→Prop}(hk:IsTupleKey knd s.heap ks a)(q:Q true s):wpAny (model prog w) A (eqIsQuiet (n+1) (.ref a)) Q E s:=by
 have ty:=hk.typeIs
 obtain⟨ob,its,m,ho,_,hd,hi⟩:=hk
 unfold eqIsQuiet
 refine wpAny_bind (wpAny_specialOf ty F.slot_tuple_eq.lookup ?_)
 show wpAny _ _ (isInstance (.ref a) (.type "tuple") >>= _) _ _ s
 refine wpAny_bind (wpAny_isInstance ty isSubtype_tuple_tuple ?_)
 simp only[Bool.not_true,Bool.false_eq_true,if_false]
 refine wpAny_bind (wpAny_seqItems ho hd (wpAny_bind ?_))
 show wpAny _ _ (forIn its _ _) _ _ s
 rw[←Array.forIn_toList]
 refine wpAny_forIn_list _ (fun rest r s'=>r.1=none∧s'=s∧∀v∈rest,carriedByValue v=true) _ ?_ ?_ _ _ ⟨rfl,rfl,hi.byValue⟩
 ·rintro v rest r s' ⟨hr,rfl,ma⟩
  rw[eqIsQuiet_byValue _ (ma v List.mem_cons_self)]
  refine wpAny_bind (wpAny_pure ?_)
  simp only[Bool.not_true,Bool.false_eq_true,if_false]
  exact wpAny_pure ⟨rfl,rfl,fun u Ul=>ma u (List.mem_cons_of_mem _ Ul)⟩
 ·rintro⟨r1,r2⟩ s' ⟨hr,rfl,_⟩
  simp only at hr
  subst hr
  exact wpAny_pure q
theorem FP{gv:List (List K)}{a:Addr}{Q:Bool→Shared→Prop}(hk:dW knd s.heap gv a)(q:Q true s):wpAny (model prog w) A (eqIsQuiet 8 (.ref a)) Q E s:=by
 have ty:=hk.typeIs
 obtain⟨ob,its,m,ho,_,hd,hi⟩:=hk
 unfold eqIsQuiet
 refine wpAny_bind (wpAny_specialOf ty F.slot_tuple_eq.lookup ?_)
 show wpAny _ _ (isInstance (.ref a) (.type "tuple") >>= _) _ _ s
 refine wpAny_bind (wpAny_isInstance ty isSubtype_tuple_tuple ?_)
 simp only[Bool.not_true,Bool.false_eq_true,if_false]
 refine wpAny_bind (wpAny_seqItems ho hd (wpAny_bind ?_))
 show wpAny _ _ (forIn its _ _) _ _ s
 rw[←Array.forIn_toList]
 refine wpAny_forIn_list _ (fun rest r s'=>r.1=none∧s'=s∧∃xn,jb knd s.heap xn rest) _ ?_ ?_ _ _ ⟨rfl,rfl,gv,hi⟩
 ·rintro v rest r s' ⟨hr,rfl,xn,hl⟩
  cases hl with
  |@cons ks c NZ _ h1 yZ=>
   refine wpAny_bind (FO (n:=6) h1 ?_)
   simp only[Bool.not_true,Bool.false_eq_true,if_false]
   exact wpAny_pure ⟨rfl,rfl,NZ,yZ⟩
 ·rintro⟨r1,r2⟩ s' ⟨hr,rfl,_⟩
  simp only at hr
  subst hr
  exact wpAny_pure q
end
def JO{prog:Program}{w:World}{K:Type}[DecidableEq K](knd:KeyKind prog w K):HeapKind prog w (List (List K)) where
 is:=dW knd
 hash:=yY knd
 draws:=fun gv=>kz gv+1
 room:=fun A=>A.units+4<cLine
 inj:=fun hx hy=>hx.inj hy
 keeps:=fun x ho hd hs=>x.keeps ho hd hs
 pyHash:=fun hu hk h=>CL hu hk h
 eqBool:=fun hu hx hy h=>CN hu hx hy h
 quiet:=fun hk h=>FP hk h
end PySem
namespace PySem
open Sem (wp)
def sh(h:Heap)(d:Addr)(es:Array DictEntry)(ep:Nat):Prop:=∃ob,h.get? d=some ob∧ob.ExactDict∧ob.data= .dict es ep
section
variable{prog:Program}{w:World}{A:Around}{E:Value→Shared→Prop}{s:Shared}
theorem sh.at{h h':Heap}{d:Addr}{es:Array DictEntry}{ep:Nat}(x:sh h d es ep)(k:∀o,h.get? d=some o→h'.get? d=some o):sh h' d es ep:=by
 obtain⟨ob,h1,h2⟩:=x
 exact⟨ob,k _ h1,h2⟩
theorem sh.lt{h:Heap}{d:Addr}{es:Array DictEntry}{ep:Nat}(x:sh h d es ep):d<h.objs.size:=by
 obtain⟨ob,h1,_⟩:=x
 exact Heap.lt_size h1
end
end PySem
namespace L2
open PySem PySem.Spec PyProof.Rows
abbrev Key:=Sum Int Str
def qi:Key→Value→Bool
 |.inl k,v=>Value.isInt k v
 |.inr x,v=>Value.isStrOf x v
def N1(w:World):Key→Int
 |.inl k=>hashInt k
 |.inr x=>hashStr w x
theorem cV:∀{k:Key}{v:Value},qi k v=true→(∃i t,k=Sum.inl i∧v=Value.int i t)∨(∃x t,k=Sum.inr x∧v=Value.str x t)
 |.inl i,v,h=>by
  obtain⟨t,e⟩:=Value.isInt_shape (k:=i) (v:=v) h
  exact .inl ⟨i,t,rfl,e⟩
 |.inr x,v,h=>by
  obtain⟨t,e⟩:=Value.isStrOf_shape (x:=x) (v:=v) h
  exact .inr ⟨x,t,rfl,e⟩
theorem y4(i:Int)(t:Tok):qi (.inl i) (.int i t)=true:=by simp[qi,Value.isInt]
theorem y8(x:Str)(t:Tok):qi (.inr x) (.str x t)=true:=by simp[qi,Value.isStrOf]
theorem FQ(a b:Int):decide ((Sum.inl a:Key)=Sum.inl b)=(a==b):=by
 by_cases e:a=b
 ·subst e;simp
 ·have h:¬(Sum.inl a:Key)=Sum.inl b:=fun q=>e (Sum.inl.inj q)
  rw[decide_eq_false h]
  exact(beq_eq_false_iff_ne.mpr e).symm
theorem FR(a b:Str):decide ((Sum.inr a:Key)=Sum.inr b)=decide (a=b):=by
 by_cases e:a=b
 ·subst e;simp
 ·have h:¬(Sum.inr a:Key)=Sum.inr b:=fun q=>e (Sum.inr.inj q)
  rw[decide_eq_false h,decide_eq_false e]
theorem FT(a:Int)(b:Str):decide ((Sum.inl a:Key)=Sum.inr b)=false:=decide_eq_false (fun q=>nomatch q)
theorem FU(a:Str)(b:Int):decide ((Sum.inr a:Key)=Sum.inl b)=false:=decide_eq_false (fun q=>nomatch q)
def cT(prog:Program)(w:World):PySem.KeyKind prog w Key where
 is:=qi
 hash:=N1 w
 inj:=fun v a b ha hb=>by
  rcases cV ha with⟨i,t,rfl,rfl⟩|⟨x,t,rfl,rfl⟩
  ·rcases cV hb with⟨j,u,rfl,e⟩|⟨y,u,rfl,e⟩
   ·injection e with e1 _;rw[e1]
   ·exact nomatch e
  ·rcases cV hb with⟨j,u,rfl,e⟩|⟨y,u,rfl,e⟩
   ·exact nomatch e
   ·injection e with e1 _;rw[e1]
 byValue:=fun k v h=>by
  rcases cV h with⟨i,t,rfl,rfl⟩|⟨x,t,rfl,rfl⟩<;>rfl
 pyHash:=fun hv h=>by
  rcases cV hv with⟨i,t,rfl,rfl⟩|⟨x,t,rfl,rfl⟩
  ·exact wpAny_pyHash_int h
  ·exact wpAny_pyHash_str h
 eqBool:=fun hu hv h=>by
  rcases cV hu with⟨i,t,rfl,rfl⟩|⟨x,t,rfl,rfl⟩
  ·rcases cV hv with⟨j,u,rfl,rfl⟩|⟨y,u,rfl,rfl⟩
   ·rw[FQ]at h;exact wpAny_eqBool_int h
   ·rw[FT]at h;exact SeqAt.EqAt.int_str i t y u _ _ _ _ h
  ·rcases cV hv with⟨j,u,rfl,rfl⟩|⟨y,u,rfl,rfl⟩
   ·rw[FU]at h;exact SeqAt.EqAt.str_int x t j u _ _ _ _ h
   ·rw[FR]at h;exact wpAny_eqBool_str h
 «strs»:=fun k x t v h=>by
  rcases cV h with⟨i,u,rfl,e⟩|⟨y,u,rfl,e⟩
  ·exact nomatch e
  ·injection e with e1 _
   subst e1
   cases v<;>rfl
theorem vS(prog:Program)(w:World)(i:Int)(t:Tok):(cT prog w).is (.inl i) (.int i t)=true:=y4 i t
theorem vT(prog:Program)(w:World)(x:Str)(t:Tok):(cT prog w).is (.inr x) (.str x t)=true:=y8 x t
end L2
namespace L2
open PySem PySem.Spec PyProof.Rows
inductive V where
 |bf|bl(b:Bool)|int(i:Int)|str(x:Str)|qj(b:Array UInt8)|JP(b:UInt64)|ref(a:Addr)|ty(n:String)
 deriving DecidableEq
def RelV:V→Value→Prop
 |.bf,u=>u=Value.none
 |.bl b,u=>u=Value.bool b
 |.int i,u=>∃t,u=Value.int i t
 |.str x,u=>∃t,u=Value.str x t
 |.qj b,u=>∃t,u=Value.bytes b t
 |.JP b,u=>∃t,u=Value.float b t
 |.ref a,u=>u=Value.ref a
 |.ty n,u=>u=Value.type n
abbrev Vals:List V→List Value→Prop:=Paired RelV
theorem Vals.length{xs:List V}{us:List Value}(r:Vals xs us):xs.length=us.length:=Paired.length r
theorem Vals.get:∀{xs:List V}{us:List Value}{i:Nat}{x:V},Vals xs us→xs[i]? =some x→∃u,us[i]? =some u∧RelV x u
 |_,_,_,_,.nil,e=>by simp at e
 |_,_,0,_,.cons r _,e=>by simp at e;subst e;exact⟨_,rfl,r⟩
 |_,_,i+1,x,.cons _ t,e=>by
  obtain⟨u,h1,h2⟩:=Vals.get (i:=i) (x:=x) t (by simpa using e)
  exact⟨u,by simpa using h1,h2⟩
theorem Vals.set{x:V}{u:Value}(r:RelV x u):∀{xs:List V}{us:List Value} (i:Nat),Vals xs us→Vals (xs.set i x) (us.set i u)
 |_,_,_,.nil=>.nil
 |_,_,0,.cons _ t=>.cons r t
 |_,_,i+1,.cons q t=>.cons q (Vals.set r i t)
theorem Vals.append:∀{xs ys:List V}{us ws:List Value},Vals xs us→Vals ys ws→Vals (xs++ys) (us++ws)
 |_,_,_,_,.nil,s=>s
 |_,_,_,_,.cons r t,s=>.cons r (Vals.append t s)
theorem Vals.take:∀{xs:List V}{us:List Value} (n:Nat),Vals xs us→Vals (xs.take n) (us.take n)
 |_,_,0,_=>.nil
 |_,_,_+1,.nil=>.nil
 |_,_,n+1,.cons r t=>.cons r (Vals.take n t)
theorem Vals.drop:∀{xs:List V}{us:List Value} (n:Nat),Vals xs us→Vals (xs.drop n) (us.drop n)
 |_,_,0,r=>r
 |_,_,_+1,.nil=>.nil
 |_,_,n+1,.cons _ t=>Vals.drop n t
def qS:Option V→Option Value→Prop
 |some v,some u=>RelV v u
 |none,none=>True
 |_,_=>False
def KV{κ:Type}:List (κ×V)→List (κ×Value)→Prop:=Paired fun(p:κ×V) (q:κ×Value)=>p.1=q.1∧RelV p.2 q.2
def kV:Key→V
 |.inl i=>.int i
 |.inr x=>.str x
inductive HO where
 |lst(xs:List V)
 |tup(xs:List V)
 |dK(aG:List (Key×V))|dT(aG:List (List Key×V))|dU(aG:List (List (List Key)×V))
 |set(S:Int→Bool)(n:Nat)
 |ins(C dx:Addr)(fs:List (Str×V))
 |own(x:Addr)
 |xd(fs:List (Str×V))
 |met(f x:Addr)
 |fT(lo hi:Int)
 |iu(o:Obj)(u:HO)
 |xp(ps:Array Value)
 |ext(φ:Heap→Prop)
abbrev Hp:=Addr→Option HO
def upd(H:Hp)(a:Addr)(o:HO):Hp:=fun b=>if b=a then some o else H b
theorem cy{H:Hp}{a:Addr}{o:HO}:upd H a o a=some o:=by unfold upd;rw[if_pos rfl]
theorem bh{H:Hp}{a b:Addr}{o:HO}(h:b≠a):upd H a o b=H b:=by unfold upd;rw[if_neg h]
theorem cG{H:Hp}{a b:Addr}{o:HO}(h:H a=some o)(h':H b=none):a≠b:=by
 intro e;subst e;rw[h]at h';cases h'
def xq(H:Hp)(gv:List (List Key))(b:Addr):Prop:=∃as:List Addr,H b=some (.tup (as.map V.ref))∧Paired (fun(ks:List Key) (a:Addr)=>H a=some (.tup (ks.map kV))) gv as
section
variable(P:Program)(w:World)
def cP(H:Hp)(h:Heap)(a:Addr):HO→Prop
 |.lst xs=>xs.length≤sizeLine∧∃(its:List Value) (n:Nat),Vals xs its∧h.get? a=some { cls:=.type "list",data:=.seq its.toArray n }
 |.tup xs=>xs.length≤sizeLine∧∃its:List Value,Vals xs its∧IsTup h a its.toArray
 |.dK aG=>aG.length≤sizeLine∧(a==sysModules)=false∧∃vs,KV aG vs∧h.DictOf (cT P w) a vs
 |.dT aG=>aG.length≤sizeLine∧(a==sysModules)=false∧∃xs:List (List Key×Addr×Value),
   Paired (fun(p:List Key×V) (q:List Key×Addr×Value)=>p.1=q.1∧H q.2.1=some (.tup (p.1.map kV))∧RelV p.2 q.2.2) aG xs∧
   ∃o es ep,h.get? a=some o∧o.ExactDict∧o.data= .dict es ep∧es.toList=xs.map (entryOfKey (tupleKind (cT P w)))∧(xs.map (·.1)).Nodup
 |.dU aG=>aG.length≤sizeLine∧(a==sysModules)=false∧∃xs:List (List (List Key)×Addr×Value),
   Paired (fun(p:List (List Key)×V) (q:List (List Key)×Addr×Value)=>p.1=q.1∧xq H p.1 q.2.1∧RelV p.2 q.2.2) aG xs∧
   ∃o es ep,h.get? a=some o∧o.ExactDict∧o.data= .dict es ep∧es.toList=xs.map (entryOfKey (JO (cT P w)))∧(xs.map (·.1)).Nodup
 |.set S n=>h.SetOf (intKind P w) a S n
 |.ins C dx fs=>H dx=some (.own a)∧fs.length≤1000∧dx≠a∧h.get? a=some (PySem.W.instObj C dx)∧
   ∃mA,h.Ns1 dx mA∧(∀f,qS (fs.lookup f) (mA f))∧PySem.Within mA (fs.map (·.1))
 |.own _=>∃o,h.get? a=some o
 |.xd fs=>∃mA,h.Ns1 a mA∧∀f,qS (fs.lookup f) (mA f)
 |.fT lo hi=>∃t u v,h.get? a=some { cls:=.type "range",data:=.fields #[.int lo t,.int hi u,.int 1 v] }
 |.iu o u=>h.get? a=some o∧cP H h a u
 |.xp ps=>h.get? a=some { cls:=.none,data:=.fields ps }
 |.met f x=>h.get? a=some (PySem.W.methodObj (.ref f) (.ref x))
 |.ext φ=>φ h∧(∃o,h.get? a=some o)∧∀h1 h2:Heap,φ h1→(∀o,h1.get? a=some o→h2.get? a=some o)→φ h2
def gx(H:Hp)(h:Heap):Prop:=∀a o,H a=some o→cP P w H h a o
end
section
variable{P:Program}{w:World}{H H':Hp}{h h':Heap}{a:Addr}{o:HO}
theorem cP.lt(x:cP P w H h a o):a<h.objs.size:=by
 cases o with
 |lst xs=>obtain⟨_,_,_,_,e⟩:=x;exact Heap.lt_size e
 |tup xs=>obtain⟨_,_,_,p⟩:=x;exact p.lt
 |dK aG=>obtain⟨_,_,_,_,o,_,_,e,_⟩:=x;exact Heap.lt_size e
 |dT aG=>obtain⟨_,_,_,_,o,_,_,e,_⟩:=x;exact Heap.lt_size e
 |dU aG=>obtain⟨_,_,_,_,o,_,_,e,_⟩:=x;exact Heap.lt_size e
 |set S n=>obtain⟨o,_,_,_,e,_⟩:=x;exact Heap.lt_size e
 |ins C dx fs=>obtain⟨_,_,_,e,_⟩:=x;exact Heap.lt_size e
 |own y=>obtain⟨_,e⟩:=x;exact Heap.lt_size e
 |xd fs=>obtain⟨_,⟨_,_,_,e,_⟩,_⟩:=x;exact Heap.lt_size e
 |fT lo hi=>obtain⟨_,_,_,e⟩:=x;exact Heap.lt_size e
 |iu ob u=>obtain⟨e,_⟩:=x;exact Heap.lt_size e
 |xp ps=>exact Heap.lt_size (show h.get? a=some _ from x)
 |met f y=>exact Heap.lt_size (show h.get? a=some _ from x)
 |ext φ=>obtain⟨_,⟨_,e⟩,_⟩:=x;exact Heap.lt_size e
theorem Paired.AG{α β:Type}{F G:α→β→Prop}:∀{IS:List α}{IT:List β},Paired F IS IT→(∀a b,F a b→G a b)→Paired G IS IT
 |_,_,.nil,_=>.nil
 |_,_,.cons r t,f=>.cons (f _ _ r) (Paired.AG t f)
theorem xq.more{H H':Hp}{gv:List (List Key)}{b:Addr}(x:xq H gv b)(ht:∀b xs,H b=some (.tup xs)→H' b=some (.tup xs)):xq H' gv b:=by
 obtain⟨as,h1,h2⟩:=x
 exact⟨as,ht _ _ h1,Paired.AG h2 fun _ _ z=>ht _ _ z⟩
theorem cP.qT(x:cP P w H h a o)(k:∀b u,(b=a∨H b=some (.own a))→h.get? b=some u→h'.get? b=some u)
  (ho:∀b,H b=some (.own a)→H' b=some (.own a))(ht:∀b xs,H b=some (.tup xs)→H' b=some (.tup xs)):cP P w H' h' a o:=by
 induction o with
 |lst xs=>obtain⟨z,its,n,r,e⟩:=x;exact⟨z,its,n,r,k _ _ (.inl rfl) e⟩
 |tup xs=>obtain⟨z,its,r,ob,e,c⟩:=x;exact⟨z,its,r,ob,k _ _ (.inl rfl) e,c⟩
 |dK aG=>obtain⟨z,y,vs,r,ob,es,ep,e,c⟩:=x;exact⟨z,y,vs,r,ob,es,ep,k _ _ (.inl rfl) e,c⟩
 |dT aG=>
  obtain⟨z,y,xs,r,ob,es,ep,e,c⟩:=x
  exact⟨z,y,xs,Paired.AG r fun p q z=>⟨z.1,ht _ _ z.2.1,z.2.2⟩,ob,es,ep,k _ _ (.inl rfl) e,c⟩
 |dU aG=>
  obtain⟨z,y,xs,r,ob,es,ep,e,c⟩:=x
  exact⟨z,y,xs,Paired.AG r fun p q z=>⟨z.1,z.2.1.more ht,z.2.2⟩,ob,es,ep,k _ _ (.inl rfl) e,c⟩
 |set S n=>obtain⟨ob,es,ep,t,e,c⟩:=x;exact⟨ob,es,ep,t,k _ _ (.inl rfl) e,c⟩
 |ins C dx fs=>
  obtain⟨d,z,ne,e,mA,⟨od,es,ep,e2,c⟩,r⟩:=x
  exact⟨ho _ d,z,ne,k _ _ (.inl rfl) e,mA,⟨od,es,ep,k _ _ (.inr d) e2,c⟩,r⟩
 |own y=>obtain⟨ob,e⟩:=x;exact⟨ob,k _ _ (.inl rfl) e⟩
 |xd fs=>obtain⟨mA,⟨od,es,ep,e,c⟩,r⟩:=x;exact⟨mA,⟨od,es,ep,k _ _ (.inl rfl) e,c⟩,r⟩
 |fT lo hi=>obtain⟨t,u,v,e⟩:=x;exact⟨t,u,v,k _ _ (.inl rfl) e⟩
 |iu ob u ih=>obtain⟨e,q⟩:=x;exact⟨k _ _ (.inl rfl) e,ih q⟩
 |xp ps=>
  have e:h.get? a=some { cls:=.none,data:=.fields ps }:=x
  show h'.get? a=some { cls:=.none,data:=.fields ps }
  exact k a _ (.inl rfl) e
 |met f y=>
  have e:h.get? a=some (PySem.W.methodObj (.ref f) (.ref y)):=x
  show h'.get? a=some (PySem.W.methodObj (.ref f) (.ref y))
  exact k a _ (.inl rfl) e
 |ext φ=>obtain⟨p,⟨o,e⟩,st⟩:=x;exact⟨st _ _ p fun o q=>k _ _ (.inl rfl) q,⟨o,k _ _ (.inl rfl) e⟩,st⟩
theorem gx.lt(x:gx P w H h)(e:H a=some o):a<h.objs.size:=(x a o e).lt
theorem gx.fresh(x:gx P w H h)(e:h.objs.size≤a):H a=none:=by
 cases q:H a with
 |none=>rfl
 |some u=>exact absurd (Nat.lt_of_lt_of_le (x.lt q) e) (Nat.lt_irrefl _)
theorem gx.kept(x:gx P w H h)(k:∀b u,h.get? b=some u→h'.get? b=some u):gx P w H h':=fun a o e=>
 (x a o e).qT (fun b u _ q=>k b u q) (fun _ q=>q) fun _ _ q=>q
theorem gx.laid(x:gx P w H h)(k:∀b u,h.get? b=some u→h'.get? b=some u)(hp:h.objs.size≤a)(new:cP P w (upd H a o) h' a o):gx P w (upd H a o) h':=fun b u e=>by
 have hn:=x.fresh hp
 by_cases hb:b=a
 ·subst hb;rw[cy]at e;cases e;exact new
 ·rw[bh hb]at e
  exact(x b u e).qT (fun c v _ q=>k c v q) (fun c q=>by rw[bh (cG q hn)];exact q) fun c xs q=>by rw[bh (cG q hn)];exact q
end
def Rd(H:Hp)(a:Addr)(u:HO):Prop:=H a=some u∨∃o,H a=some (.iu o u)
theorem Rd.ok{P:Program}{w:World}{H:Hp}{h:Heap}{a:Addr}{u:HO}(r:Rd H a u)(x:gx P w H h):cP P w H h a u:=by
 rcases r with r|⟨o,r⟩
 ·exact x a u r
 ·obtain⟨_,q⟩:=x a _ r
  exact q
def CP:Option HO→Prop
 |some (.lst _)=>True
 |some (.dK _)=>True
 |some (.dT _)=>True
 |some (.dU _)=>True
 |some (.set _ _)=>True
 |some (.ins _ _ _)=>True
 |some (.ext _)=>True
 |_=>False
section
variable{P:Program}{w:World}{H:Hp}{h h':Heap}{x e:Addr}{o':HO}
theorem gx.write(ok:gx P w H h)(mu:CP (H x))(he:e=x∨H e=some (.own x))(k:∀b u,b≠e→h.get? b=some u→h'.get? b=some u)(Bz:∃u,h'.get? e=some u)
  (new:cP P w (upd H x o') h' x o'):gx P w (upd H x o') h':=fun b u q=>by
 have IU:∀c y,H c=some (.own y)→c≠x:=fun c y r z=>by subst z;rw[r]at mu;exact mu
 have N2:∀c xs,H c=some (.tup xs)→c≠x:=fun c xs r z=>by subst z;rw[r]at mu;exact mu
 by_cases hb:b=x
 ·subst hb;rw[cy]at q;cases q;exact new
 ·rw[bh hb]at q
  by_cases y9:b=e
  ·have q':H b=some (.own x):=by
    rcases he with z|z
    ·exact absurd (y9.trans z) hb
    ·rw[y9];exact z
   rw[q]at q';cases q'
   obtain⟨v,hv⟩:=Bz
   exact⟨v,by rw[y9];exact hv⟩
  ·refine(ok b u q).qT (fun c v hc r=>k c v ?_ r) (fun c r=>by rw[bh (IU c b r)];exact r) fun c xs r=>by rw[bh (N2 c xs r)];exact r
   rcases hc with rfl|hc
   ·exact y9
   ·rintro rfl
    rcases he with z|z
    ·exact IU c b hc z
    ·rw[hc]at z;cases z;exact hb rfl
end
structure Un(fs ex:List Addr)(H H':Hp)(h h':Heap):Prop where
 keep:∀b o,h.get? b=some o→H b=none→b∉fs→b∉ex→h'.get? b=some o
 slot:∀b o,h.get? b=some o→H b=none→b∈fs→b∉ex→∃sl,h'.get? b=some { o with slots:=sl }
 free:∀b o,h.get? b=some o→H b=none→b∉ex→H' b=none
 there:∀b o,h.get? b=some o→b∉ex→∃o',h'.get? b=some o'
 oN:∀b xs,H b=some (.tup xs)→H' b=some (.tup xs)
 md:∀b o u,H b=some (.iu o u)→H' b=some (.iu o u)
 oO:∀b ps,H b=some (.xp ps)→∃more,H' b=some (.xp (ps++more))
section
variable{fs Um ex Yn:List Addr}{H H1 H2:Hp}{h h1 h2 h':Heap}{a x e:Addr}{o:HO}
theorem Un.any(u:Un fs ex H H1 h h1){b:Addr}{ob:Obj}(q:h.get? b=some ob)(n:H b=none)(hx:b∉ex):∃sl,h1.get? b=some { ob with slots:=sl }:=by
 by_cases hb:b∈fs
 ·exact u.slot b ob q n hb hx
 ·exact⟨ob.slots,u.keep b ob q n hb hx⟩
theorem Un.kept(k:∀b u,h.get? b=some u→h'.get? b=some u):Un fs ex H H h h':=
 ⟨fun b ob q _ _ _=>k b ob q,fun b ob q _ _ _=>⟨ob.slots,k b ob q⟩,fun _ _ _ n _=>n,fun b ob q _=>⟨ob,k b ob q⟩,fun _ _ q=>q,fun _ _ _ q=>q,fun _ ps q=>⟨#[],by rw[q];simp⟩⟩
theorem Un.refl:Un fs ex H H h h:=Un.kept fun _ _ q=>q
theorem Un.laid(k:∀b u,h.get? b=some u→h'.get? b=some u)(hp:h.objs.size≤a)(hn:H a=none):Un fs ex H (upd H a o) h h' where
 keep:=fun b u q _ _ _=>k b u q
 slot:=fun b u q _ _ _=>⟨u.slots,k b u q⟩
 free:=fun b u q n _=>by rw[bh (Nat.ne_of_lt (Nat.lt_of_lt_of_le (Heap.lt_size q) hp))];exact n
 there:=fun b u q _=>⟨u,k b u q⟩
 oN:=fun b xs q=>by rw[bh (cG q hn)];exact q
 md:=fun b u xs q=>by rw[bh (cG q hn)];exact q
 oO:=fun b ps q=>⟨#[],by rw[bh (cG q hn),q];simp⟩
theorem Un.write(mu:CP (H x))(he:e=x∨H e=some (.own x))(k:∀b u,b≠e→h.get? b=some u→h'.get? b=some u)(Bz:∃u,h'.get? e=some u):Un fs ex H (upd H x o) h h':=by
 have hx:∀b,H b=none→b≠x:=fun b n z=>by subst z;rw[n]at mu;exact mu
 have hb:∀b,H b=none→b≠e:=fun b n z=>by
  subst z
  rcases he with r|r
  ·exact hx b n r
  ·rw[n]at r;cases r
 have hm:∀b u,H b=some u→¬CP (some u)→b≠x:=fun b u q nm z=>by subst z;rw[q]at mu;exact nm mu
 refine⟨fun b u q n _ _=>k b u (hb b n) q,fun b u q n _ _=>⟨u.slots,k b u (hb b n) q⟩,fun b u q n _=>by rw[bh (hx b n)];exact n,fun b u q _=>?_,
  fun b xs q=>by rw[bh (hm b _ q fun z=>z)];exact q,fun b u xs q=>by rw[bh (hm b _ q fun z=>z)];exact q,fun b ps q=>⟨#[],by rw[bh (hm b _ q fun z=>z),q];simp⟩⟩
 by_cases y9:b=e
 ·subst y9;exact Bz
 ·exact⟨u,k b u y9 q⟩
end
def FV(h:Heap)(H:Hp):List Addr:=(List.range h.objs.size).filter fun a=>(H a).isSome
def oP(h:Heap)(H:Hp):Heap:=PySem.W.hideAll h (FV h H)
theorem y_(h:Heap)(H:Hp):(oP h H).objs.size=h.objs.size:=PySem.W.hideAll_size _ _
theorem BA{h:Heap}{H:Hp}{b:Addr}{o:Obj}(e:h.get? b=some o)(n:H b=none):(oP h H).get? b=some o:=
 PySem.W.hideAll_get _ e fun hm=>by
  have q:(H b).isSome=true:=(List.mem_filter.mp hm).2
  rw[n]at q;simp at q
theorem CQ{h:Heap}{H:Hp}{b:Addr}{o:Obj}(e:(oP h H).get? b=some o):h.get? b=some o∧H b=none:=by
 have e':h.get? b=some o:=PySem.W.of_hideAll (FV h H) e
 refine⟨e',?_⟩
 cases q:H b with
 |none=>rfl
 |some x=>
  have hm:b∈FV h H:=List.mem_filter.mpr ⟨List.mem_range.mpr (Heap.lt_size e'),by simp[q]⟩
  have z:(oP h H).get? b=none:=PySem.W.hideAll_none (FV h H) hm
  rw[z]at e;cases e
def CS(g h:Heap)(L:Addr):List (Addr×Obj):=(List.range h.objs.size).filterMap fun a=>if a=L∨(g.get? a).isSome=true then none else(h.get? a).map fun o=>(a,o)
def rest(g h:Heap)(L d:Addr):List (Addr×Obj):=(CS g h L).filter fun p=>decide (p.1≠d)
end L2
namespace L2
open PySem PySem.Spec PyProof.Rows
structure Mod(K:PySem.W.Frag)(mg:Str→Option Value)(base:Heap):Prop where
 zd:K.In base
 glob:base.Ns mainGlobals mg
 blt:∃mb,base.Ns builtinsNs mb∧∀x:Str,x≠"__name__"→mb x=bootBuiltins x
 nolimit:base.NoLimit
 bmain:∃bm ob,mg "__builtins__" =some (.ref bm)∧bm≠builtinsNs∧base.get? bm=some ob∧ob.cls= .type "module"∧ob.dict=some builtinsNs∧ob.data= .plain
structure Cx where
 prog:Program
 w:World
 K:PySem.W.Frag
 mg:Str→Option Value
 base:Heap
 A:Around
 N:List Str
 bO:Shared
 eu:Hp
 env:Env
 outer:List Env
 stack:List Env
 ex:List Addr
 fn:Str→Bool
 calm:Bool
 pn:List (Addr×Obj)
 xe:Value→Shared→Prop
def si(l:List Env):List Addr:=l.filterMap (·.frame)
abbrev Cx.fs(X:Cx):List Addr:=si X.outer
def CT(sc:Scope)(x:Str):Prop:=sc.names.lookup x=some .local∨sc.names.lookup x=some .cell∨sc.names.lookup x=some .free
def Loc(sc:Scope)(x:Str):Prop:=sc.names.lookup x=some .local∨sc.names.lookup x=some .cell
def Look(env:Env)(h:Heap)(m:Str→Option Value)(x:Str)(u:Value):Prop:=
 (env.kindOf x=some .local∧m x=some u)∨((env.kindOf x=some .cell∨env.kindOf x=some .free)∧∃c,env.cells.lookup x=some c∧h.IsCell c (some u))
structure Cx.Ok(X:Cx):Prop where
 mod:Mod X.K X.mg X.base
 kind:X.env.scope.kind= .function
 glob:X.env.globals=mainGlobals
 blt:X.env.builtins=builtinsNs
 above:X.bO.heap.objs.size≤X.env.locals
 inj:∀x y c,X.env.cells.lookup x=some c→X.env.cells.lookup y=some c→x=y
 has:∀x,(X.env.kindOf x=some .cell∨X.env.kindOf x=some .free)→∃c,X.env.cells.lookup x=some c
 CU:∀x c,X.fn x=true→X.env.cells.lookup x=some c→X.bO.heap.objs.size≤c
 hd:X.calm=true→X.A.handled=none
 frames:X.A.frames=some X.stack
 FW:X.stack=X.outer∨(X.stack=X.env::X.outer∧X.env.frame=some X.env.locals)
 FX:∀b∈X.ex,b≠X.env.locals∧∀x c,X.env.cells.lookup x=some c→c≠b
 bs:∀b o,X.base.get? b=some o→X.bO.heap.get? b=some o∧X.eu b=none
 xr:X.base.objs.size≤X.bO.heap.objs.size
 xt:∀b o,X.base.get? b=some o→b∉X.ex
 xu:∀b∈X.ex,b∉X.fs
 mr:X.bO.heap.FunFrames X.base X.outer
 BB:∀b∈X.fs,X.eu b=none
structure Inv(X:Cx)(pins:List (Addr×Obj))(σ:List (Option V))(H:Hp)(s:Shared):Prop where
 ok:X.Ok
 os:s.os=X.bO.os
 bare:AllBare s.gens
 base:Un X.fs X.ex X.eu H X.bO.heap s.heap
 loc:∃m,s.heap.Ns X.env.locals m∧∀(i:Nat) (x:Str) (v:V),X.N[i]? =some x→σ[i]? =some (some v)→CT X.env.scope x→∃u,RelV v u∧Look X.env s.heap m x u
 cell:∀x c,X.env.cells.lookup x=some c→∃v,s.heap.IsCell c v
 free:H X.env.locals=none
 j6:∀x c,X.env.cells.lookup x=some c→H c=none∨(X.fn x=false∧∃o u,H c=some (.iu o u))
 pin:∀p∈X.pn++pins,s.heap.get? p.1=some p.2∧H p.1=none∧p.1≠X.env.locals∧p.1∉X.fs∧∀v,p.2.data≠.cell v
 bt:gx X.prog X.w H s.heap
 len:σ.length=X.N.length
section
variable{X:Cx}{pins:List (Addr×Obj)}{σ:List (Option V)}{H H':Hp}{s:Shared}{h':Heap}
theorem Cx.Ok.N3(ok:X.Ok){b:Addr}{o:Obj}(e:X.base.get? b=some o):b∉X.fs:=fun hb=>by
 have:=(ok.mr.mem hb).1
 rw[e]at this;cases this
theorem Inv.bs(I:Inv X pins σ H s):∀b o,X.base.get? b=some o→s.heap.get? b=some o∧H b=none:=fun b o e=>
 ⟨I.base.keep b o (I.ok.bs b o e).1 (I.ok.bs b o e).2 (I.ok.N3 e) (I.ok.xt b o e),I.base.free b o (I.ok.bs b o e).1 (I.ok.bs b o e).2 (I.ok.xt b o e)⟩
theorem Inv.bk(I:Inv X pins σ H s):∀b o,X.base.get? b=some o→s.heap.get? b=some o:=fun b o e=>(I.bs b o e).1
theorem Inv.mod(I:Inv X pins σ H s):Mod X.K X.mg X.base:=I.ok.mod
theorem Inv.xw(I:Inv X pins σ H s):X.K.In s.heap:=I.ok.mod.zd.keeps I.bk
theorem Inv.lt(I:Inv X pins σ H s):X.env.locals<s.heap.objs.size:=let ⟨_,hn,_⟩:=I.loc;hn.lt
theorem Inv.sz(I:Inv X pins σ H s):X.bO.heap.objs.size≤s.heap.objs.size:=Nat.le_trans I.ok.above (Nat.le_of_lt I.lt)
theorem Inv.IV(I:Inv X pins σ H s){a:Addr}(h:s.heap.objs.size≤a):a∉X.fs:=fun hb=>by
 obtain⟨_,o,ho,_⟩:=I.ok.mr.mem hb
 exact absurd (Nat.lt_of_lt_of_le (Heap.lt_size ho) (Nat.le_trans I.sz h)) (Nat.lt_irrefl _)
theorem Inv.sj(I:Inv X pins σ H s):∀x c,X.env.cells.lookup x=some c→c≠X.env.locals:=fun x c e z=>by
 obtain⟨v,o,ho,hd⟩:=I.cell x c e
 obtain⟨m,⟨o',es,ep,sk,BC,_⟩,_⟩:=I.loc
 rw[z,sk]at ho;cases ho;rw[BC]at hd;cases hd
theorem Inv.mr(I:Inv X pins σ H s):s.heap.FunFrames X.base X.outer:=by
 have all:∀(l:List Env),(∀b∈si l,b∈X.fs)→X.bO.heap.FunFrames X.base l→s.heap.FunFrames X.base l:=by
  intro l
  induction l with
  |nil=>intro _ _;trivial
  |cons env r ih=>
   intro hs hl
   obtain⟨hk,⟨L,o,hf,hn,ho,hd⟩,hr⟩:=hl
   have hL:L∈X.fs:=hs L (by unfold si;rw[List.filterMap_cons,hf];exact List.mem_cons_self)
   obtain⟨sl,e⟩:=I.base.slot L o ho (I.ok.BB L hL) hL fun z=>I.ok.xu L z hL
   exact⟨hk,⟨L,_,hf,hn,e,hd⟩,ih (fun b hb=>hs b (by unfold si;rw[List.filterMap_cons,hf];exact List.mem_cons_of_mem _ hb)) hr⟩
 exact all X.outer (fun _ hb=>hb) I.ok.mr
theorem Inv.stack(I:Inv X pins σ H s):s.heap.FunFrames X.base X.stack:=by
 rcases I.ok.FW with e|⟨e,hf⟩
 ·rw[e];exact I.mr
 ·rw[e]
  obtain⟨m,hn,_⟩:=I.loc
  refine .cons (by rw[I.ok.kind];decide) hf hn ?_ I.mr
  exact Heap.get?_none_of_le (Nat.le_trans I.ok.xr I.ok.above)
theorem Inv.vU(I:Inv X pins σ H s):∀b∈si X.stack,b∈X.env.locals::X.fs:=fun b hb=>by
 rcases I.ok.FW with e|⟨e,hf⟩
 ·rw[e]at hb;exact List.mem_cons_of_mem _ hb
 ·rw[e]at hb
  unfold si at hb
  rw[List.filterMap_cons,hf]at hb
  exact hb
theorem Inv.xx(I:Inv X pins σ H s):∀b∈si X.stack,H b=none:=fun b hb=>by
 rcases List.mem_cons.mp (I.vU b hb)with e|hb
 ·rw[e];exact I.free
 ·obtain⟨_,o,ho,_⟩:=I.ok.mr.mem hb
  exact I.base.free b o ho (I.ok.BB b hb) fun z=>I.ok.xu b z hb
theorem Inv.step{g':Array GenState}{t':Nat}{d':Drawn}{ch:List Addr}(I:Inv X pins σ H s)
  (iw:∀b∈ch,(b∈X.ex∨X.bO.heap.objs.size≤b)∧b≠X.env.locals∧(∀x c,X.env.cells.lookup x=some c→c≠b)∧∀p∈X.pn++pins,p.1≠b)
  (keep:∀b o,b≠X.env.locals→b∉X.fs→b∉ch→s.heap.get? b=some o→H b=none→h'.get? b=some o)
  (slot:∀b o,b≠X.env.locals→b∈X.fs→b∉ch→s.heap.get? b=some o→H b=none→∃sl,h'.get? b=some { o with slots:=sl })(free:∀b o,b∉ch→s.heap.get? b=some o→H b=none→H' b=none)
  (there:∀b o,b∉ch→s.heap.get? b=some o→∃o',h'.get? b=some o')
  (oN:∀b xs,H b=some (.tup xs)→H' b=some (.tup xs))(md:∀b o u,H b=some (.iu o u)→H' b=some (.iu o u))(oO:∀b ps,H b=some (.xp ps)→∃more,H' b=some (.xp (ps++more)))
  (ns:∀m,s.heap.Ns X.env.locals m→h'.Ns X.env.locals m)(bt:gx X.prog X.w H' h')(hg:AllBare g'):
  Inv X pins σ H' { s with heap:=h',gens:=g',drawn:=d',toks:=t' }:=by
 have N4:∀b o,X.bO.heap.get? b=some o→b≠X.env.locals:=fun b o e=>Nat.ne_of_lt (Nat.lt_of_lt_of_le (Heap.lt_size e) I.ok.above)
 have FY:∀b o,X.bO.heap.get? b=some o→b∉X.ex→b∉ch:=fun b o e hx hb=>by
  rcases(iw b hb).1 with z|z
  ·exact hx z
  ·exact absurd (Nat.lt_of_lt_of_le (Heap.lt_size e) z) (Nat.lt_irrefl _)
 have cellK:∀x c,X.env.cells.lookup x=some c→∀v,s.heap.IsCell c v→h'.IsCell c v:=by
  rintro x c e v ⟨o,ho,hd⟩
  have CV:c∉ch:=fun z=>(iw c z).2.2.1 x c e rfl
  rcases I.j6 x c e with nn|⟨_,o',u,nn⟩
  ·by_cases hc:c∈X.fs
   ·obtain⟨sl,q⟩:=slot c o (I.sj x c e) hc CV ho nn
    exact⟨_,q,hd⟩
   ·exact⟨o,keep c o (I.sj x c e) hc CV ho nn,hd⟩
  ·have e1:s.heap.get? c=some o':=(I.bt c _ nn).1
   have e2:h'.get? c=some o':=(bt c _ (md c o' u nn)).1
   rw[ho]at e1;cases e1
   exact⟨o,e2,hd⟩
 refine⟨I.ok,I.os,hg,⟨fun b o e n hb hx=>?_,fun b o e n hb hx=>?_,fun b o e n hx=>?_,fun b o e hx=>?_,fun b xs e=>oN b xs (I.base.oN b xs e),fun b o xs e=>md b o xs (I.base.md b o xs e),fun b ps e=>?_⟩,?_,fun x c e=>?_,?_,fun x c e=>?_,fun p hp=>?_,bt,I.len⟩
 ·exact keep b o (N4 b o e) hb (FY b o e hx) (I.base.keep b o e n hb hx) (I.base.free b o e n hx)
 ·obtain⟨sl,e1⟩:=I.base.slot b o e n hb hx
  obtain⟨Uo,e2⟩:=slot b _ (N4 b o e) hb (FY b o e hx) e1 (I.base.free b o e n hx)
  exact⟨Uo,e2⟩
 ·obtain⟨o',e1⟩:=I.base.there b o e hx
  exact free b o' (FY b o e hx) e1 (I.base.free b o e n hx)
 ·obtain⟨o',e1⟩:=I.base.there b o e hx
  exact there b o' (FY b o e hx) e1
 ·obtain⟨m1,e1⟩:=I.base.oO b ps e
  obtain⟨m2,e2⟩:=oO b _ e1
  exact⟨m1++m2,by rw[e2,Array.append_assoc]⟩
 ·obtain⟨m,hn,hl⟩:=I.loc
  refine⟨m,ns m hn,fun i x v e1 e2 e3=>?_⟩
  obtain⟨u,r,l⟩:=hl i x v e1 e2 e3
  refine⟨u,r,?_⟩
  rcases l with l|⟨k,c,e,z⟩
  ·exact .inl l
  ·exact .inr ⟨k,c,e,cellK x c e _ z⟩
 ·obtain⟨v,z⟩:=I.cell x c e
  exact⟨v,cellK x c e v z⟩
 ·obtain⟨m,⟨o,_,_,ho,_⟩,_⟩:=I.loc
  exact free _ o (fun z=>(iw _ z).2.1 rfl) ho I.free
 ·obtain⟨v,o,ho,hd⟩:=I.cell x c e
  rcases I.j6 x c e with nn|⟨hf,o',u,nn⟩
  ·exact .inl (free c o (fun z=>(iw c z).2.2.1 x c e rfl) ho nn)
  ·exact .inr ⟨hf,o',u,md c o' u nn⟩
 ·obtain⟨e,n,ne,nf,d⟩:=I.pin p hp
  have CV:p.1∉ch:=fun z=>(iw p.1 z).2.2.2 p hp rfl
  exact⟨keep p.1 p.2 ne nf CV e n,free p.1 p.2 CV e n,ne,nf,d⟩
theorem Inv.un{t':Nat}(I:Inv X pins σ H s)(u:Un X.fs [] H H' s.heap h')(bt:gx X.prog X.w H' h'):Inv X pins σ H' { s with heap:=h',toks:=t' }:=by
 obtain⟨m,⟨o,es,ep,ho,r⟩,_⟩:=id I.loc
 obtain⟨sl,hL⟩:=u.any ho I.free (by simp)
 exact I.step (g':=s.gens) (d':=s.drawn) (ch:=[]) (fun _ z=>nomatch z) (fun b o _ hb _ e n=>u.keep b o e n hb (by simp)) (fun b o _ hb _ e n=>u.slot b o e n hb (by simp)) (fun b o _ e n=>u.free b o e n (by simp)) (fun b o _ e=>u.there b o e (by simp)) u.oN u.md u.oO (fun m' hm=>by
  obtain⟨o',CW,JQ,sk,r'⟩:=hm
  rw[ho]at sk;cases sk
  exact⟨_,CW,JQ,hL,r'⟩) bt I.bare
theorem Inv.call{g':Array GenState}{t':Nat}{d':Drawn}{ch:List Addr}(I:Inv X pins σ H s)(u:Un (si X.stack) ch H H' s.heap h')(bt:gx X.prog X.w H' h')(hg:AllBare g')
  (iw:∀b∈ch,(b∈X.ex∨X.bO.heap.objs.size≤b)∧b≠X.env.locals∧(∀x c,X.env.cells.lookup x=some c→c≠b)∧∀p∈X.pn++pins,p.1≠b):
  Inv X pins σ H' { s with heap:=h',gens:=g',drawn:=d',toks:=t' }:=by
 obtain⟨m,⟨o,es,ep,ho,r⟩,_⟩:=id I.loc
 obtain⟨sl,hL⟩:=u.any ho I.free fun z=>(iw _ z).2.1 rfl
 exact I.step (ch:=ch) iw (fun b o hL hb hc e n=>u.keep b o e n (fun z=>(List.mem_cons.mp (I.vU b z)).elim hL hb) hc) (fun b o _ _ hc e n=>u.any e n hc) (fun b o hc e n=>u.free b o e n hc) (fun b o hc e=>u.there b o e hc) u.oN u.md u.oO (fun m' hm=>by
  obtain⟨o',CW,JQ,sk,r'⟩:=hm
  rw[ho]at sk;cases sk
  exact⟨_,CW,JQ,hL,r'⟩) bt hg
theorem Inv.turned{t':Nat}{it:Addr}(I:Inv X pins σ H s)(k:∀b o,b≠it→s.heap.get? b=some o→h'.get? b=some o)(hn:H it=none)(hL:it≠X.env.locals)
  (h1:it∈X.ex∨X.bO.heap.objs.size≤it)(h2:∀x c,X.env.cells.lookup x=some c→c≠it)(h3:∀p∈X.pn++pins,p.1≠it):Inv X pins σ H { s with heap:=h',toks:=t' }:=by
 have N5:∀b u,H b=some u→b≠it:=fun b u e z=>by rw[z,hn]at e;cases e
 refine I.step (g':=s.gens) (d':=s.drawn) (ch:=[it]) (fun b hb=>?_) (fun b o _ _ hc e _=>k b o (fun z=>hc (by simp[z])) e) (fun b o _ _ hc e _=>⟨o.slots,k b o (fun z=>hc (by simp[z])) e⟩) (fun _ _ _ _ n=>n)
  (fun b o hc e=>⟨o,k b o (fun z=>hc (by simp[z])) e⟩) (fun _ _ e=>e) (fun _ _ _ e=>e) (fun b ps e=>⟨#[],by rw[e];simp⟩) (fun m hm=>?_) (fun b u e=>?_) I.bare
 ·have e:b=it:=by simpa using hb
  subst e
  exact⟨h1,hL,h2,h3⟩
 ·obtain⟨o,es,ep,ho,r⟩:=hm
  exact⟨o,es,ep,k _ o (Ne.symm hL) ho,r⟩
 ·refine(I.bt b u e).qT (fun c v hc q=>k c v ?_ q) (fun _ q=>q) fun _ _ q=>q
  rcases hc with z|z
  ·rw[z];exact N5 b u e
  ·exact N5 c _ z
theorem Inv.tok(I:Inv X pins σ H s)(t:Nat):Inv X pins σ H { s with toks:=t }:=I.un (h':=s.heap) (t':=t) Un.refl I.bt
theorem Inv.kept{t':Nat}(I:Inv X pins σ H s)(k:∀b u,s.heap.get? b=some u→h'.get? b=some u):Inv X pins σ H { s with heap:=h',toks:=t' }:=I.un (Un.kept k) (I.bt.kept k)
theorem Inv.laid{a:Addr}{o:HO}{t':Nat}(I:Inv X pins σ H s)(k:∀b u,s.heap.get? b=some u→h'.get? b=some u)(hp:s.heap.objs.size≤a)(new:cP X.prog X.w (upd H a o) h' a o):
  Inv X pins σ (upd H a o) { s with heap:=h',toks:=t' }:=I.un (Un.laid k hp (I.bt.fresh hp)) (I.bt.laid k hp new)
theorem Inv.write{x e:Addr}{o:HO}{t':Nat}(I:Inv X pins σ H s)(mu:CP (H x))(he:e=x∨H e=some (.own x))(k:∀b u,b≠e→s.heap.get? b=some u→h'.get? b=some u)(Bz:∃u,h'.get? e=some u)
  (new:cP X.prog X.w (upd H x o) h' x o):Inv X pins σ (upd H x o) { s with heap:=h',toks:=t' }:=I.un (Un.write mu he k Bz) (I.bt.write mu he k Bz new)
theorem Inv.xy{CY:List (Addr×Obj)}(I:Inv X pins σ H s)(h:∀p∈CY,s.heap.get? p.1=some p.2∧H p.1=none∧p.1≠X.env.locals∧p.1∉X.fs∧∀v,p.2.data≠.cell v):Inv X CY σ H s:=
 ⟨I.ok,I.os,I.bare,I.base,I.loc,I.cell,I.free,I.j6,fun p hp=>(List.mem_append.mp hp).elim (fun z=>I.pin p (List.mem_append_left _ z)) (h p),I.bt,I.len⟩
theorem qk{N:List Str}(hN:N.Nodup){i j:Nat}{x:Str}(a:N[i]? =some x)(b:N[j]? =some x):i=j:=by
 obtain⟨h1,e1⟩:=List.getElem?_eq_some_iff.mp a
 obtain⟨h2,e2⟩:=List.getElem?_eq_some_iff.mp b
 exact(List.getElem_inj hN).mp (e1.trans e2.symm)
theorem ze{M:Model}{A:Around}{E:Value→Shared→Prop}{i:Nat}{x:Str}{v:V}{u:Value}{Q:Unit→Shared→Prop}(I:Inv X pins σ H s)(hN:X.N.Nodup)(hi:X.N[i]? =some x)(hx:Loc X.env.scope x)(r:RelV v u)
  (h:∀s',Inv X pins (σ.set i (some v)) H s'→(∃a,Heap.SameBut a s.heap s'.heap∧(a=X.env.locals∨X.env.cells.lookup x=some a))→Q () s')(hf:X.fn x=true∨X.env.scope.names.lookup x=some .local:=by first|exact .inl rfl|exact .inr rfl|assumption):wpAny M A (storeName X.env x u) Q E s:=by
 obtain⟨m,hn,hl⟩:=id I.loc
 have CZ:(X.env.scope.kind==.class||(X.env.scope.kind==.module&&X.env.locals != X.env.globals))=false:=by rw[I.ok.kind];rfl
 have AH:i<σ.length:=by rw[I.len];exact(List.getElem?_eq_some_iff.mp hi).1
 have sj:=I.sj
 have tracked:∀{a:Addr}{h':Heap},(∃o,s.heap.get? a=some o∧H a=none)→Heap.SameBut a s.heap h'→gx X.prog X.w H h':=fun {a h'} ha hs b ob e=>by
  obtain⟨_,_,kO⟩:=ha
  refine(I.bt b ob e).qT (fun c w' hc q=>(hs.2 c ?_).trans q) (fun _ q=>q) fun _ _ q=>q
  rintro rfl
  rcases hc with rfl|hc
  ·rw[kO]at e;cases e
  ·rw[kO]at hc;cases hc
 rcases hx with hk|hk
 ·refine wpAny_storeName_local hk hn (fun h' FZ hs=>?_) CZ
  obtain⟨oL,_,_,JR,_⟩:=id hn
  refine h _ ⟨I.ok,I.os,I.bare,⟨fun b o e n hb hx=>?_,fun b o e n hb hx=>?_,I.base.free,fun b o e hx=>?_,I.base.oN,I.base.md,I.base.oO⟩,⟨_,FZ,fun j y v' e1 e2 e3=>?_⟩,fun y c e=>?_,I.free,I.j6,fun p hp=>?_,tracked ⟨oL,JR,I.free⟩ hs,by simpa using I.len⟩ ⟨_,hs,.inl rfl⟩
  ·exact(hs.2 b (Nat.ne_of_lt (Nat.lt_of_lt_of_le (Heap.lt_size e) I.ok.above))).trans (I.base.keep b o e n hb hx)
  ·obtain⟨sl,e1⟩:=I.base.slot b o e n hb hx
   exact⟨sl,(hs.2 b (Nat.ne_of_lt (Nat.lt_of_lt_of_le (Heap.lt_size e) I.ok.above))).trans e1⟩
  ·obtain⟨o',e1⟩:=I.base.there b o e hx
   exact⟨o',(hs.2 b (Nat.ne_of_lt (Nat.lt_of_lt_of_le (Heap.lt_size e) I.ok.above))).trans e1⟩
  ·by_cases hj:j=i
   ·subst hj
    rw[hi]at e1;cases e1
    rw[List.getElem?_set_self AH]at e2
    cases e2
    exact⟨u,r,.inl ⟨hk,by simp⟩⟩
   ·rw[List.getElem?_set_ne (Ne.symm hj)]at e2
    obtain⟨u',r',q⟩:=hl j y v' e1 e2 e3
    refine⟨u',r',?_⟩
    rcases q with⟨k,e⟩|⟨k,c,e,z⟩
    ·refine .inl ⟨k,?_⟩
     have:y≠x:=fun e=>hj (qk hN e1 (e ▸ hi))
     simp[this,e]
    ·exact .inr ⟨k,c,e,z.sameBut hs (sj y c e)⟩
  ·obtain⟨w',z⟩:=I.cell y c e
   exact⟨w',z.sameBut hs (sj y c e)⟩
  ·obtain⟨e,n,ne,nf,d⟩:=I.pin p hp
   exact⟨(hs.2 p.1 ne).trans e,n,ne,nf,d⟩
 ·have F_:X.fn x=true:=by
   rcases hf with z|z
   ·exact z
   ·rw[z]at hk;cases hk
  obtain⟨c,hc⟩:=I.ok.has x (.inl hk)
  obtain⟨w',z⟩:=I.cell x c hc
  refine wpAny_storeName_cell I.ok.kind hk hc z (fun h' br hs=>?_)
  obtain⟨oc,BD,N6⟩:=id z
  refine h { s with heap:=h' } ⟨I.ok,I.os,I.bare,⟨fun b o e n hb hx=>?_,fun b o e n hb hx=>?_,I.base.free,fun b o e hx=>?_,I.base.oN,I.base.md,I.base.oO⟩,⟨m,hn.sameBut hs (Ne.symm (sj x c hc)),fun j y v' e1 e2 e3=>?_⟩,fun y c' e=>?_,I.free,I.j6,fun p hp=>?_,tracked ⟨oc,BD,(I.j6 x c hc).resolve_right fun z=>by rw[F_]at z;cases z.1⟩ hs,by simpa using I.len⟩ ⟨c,hs,.inr hc⟩
  ·exact(hs.2 b (Nat.ne_of_lt (Nat.lt_of_lt_of_le (Heap.lt_size e) (I.ok.CU x c F_ hc)))).trans (I.base.keep b o e n hb hx)
  ·obtain⟨sl,e1⟩:=I.base.slot b o e n hb hx
   exact⟨sl,(hs.2 b (Nat.ne_of_lt (Nat.lt_of_lt_of_le (Heap.lt_size e) (I.ok.CU x c F_ hc)))).trans e1⟩
  ·obtain⟨o',e1⟩:=I.base.there b o e hx
   exact⟨o',(hs.2 b (Nat.ne_of_lt (Nat.lt_of_lt_of_le (Heap.lt_size e) (I.ok.CU x c F_ hc)))).trans e1⟩
  ·by_cases hj:j=i
   ·subst hj
    rw[hi]at e1;cases e1
    rw[List.getElem?_set_self AH]at e2
    cases e2
    exact⟨u,r,.inr ⟨.inl hk,c,hc,br⟩⟩
   ·rw[List.getElem?_set_ne (Ne.symm hj)]at e2
    obtain⟨u',r',q⟩:=hl j y v' e1 e2 e3
    refine⟨u',r',?_⟩
    rcases q with q|⟨k,c',e,z'⟩
    ·exact .inl q
    ·refine .inr ⟨k,c',e,z'.sameBut hs ?_⟩
     rintro rfl
     exact hj (qk hN e1 (I.ok.inj _ _ _ e hc ▸ hi))
  ·by_cases BE:c'=c
   ·subst BE;exact⟨_,br⟩
   ·obtain⟨w2,z2⟩:=I.cell y c' e
    exact⟨w2,z2.sameBut hs BE⟩
  ·obtain⟨e,n,ne,nf,d⟩:=I.pin p hp
   refine⟨(hs.2 p.1 ?_).trans e,n,ne,nf,d⟩
   intro q
   rw[q,BD]at e
   have q':oc=p.2:=Option.some.inj e
   exact d w' (by rw[←q'];exact N6)
theorem m7{M:Model}{A:Around}{E:Value→Shared→Prop}{i:Nat}{x:Str}{v:V}{u:Value}{Q:Unit→Shared→Prop}(I:Inv X pins σ H s)(hN:X.N.Nodup)(hi:X.N[i]? =some x)(hx:Loc X.env.scope x)(r:RelV v u)
  (h:∀s',Inv X pins (σ.set i (some v)) H s'→Q () s')(hf:X.fn x=true∨X.env.scope.names.lookup x=some .local:=by first|exact .inl rfl|exact .inr rfl|assumption):wpAny M A (storeName X.env x u) Q E s:=
 ze I hN hi hx r (fun s' I' _=>h s' I') hf
theorem Inv.JS{s':Shared}{ch:List Addr}(I:Inv X pins σ H s)(ho:s'.os=s.os)(u:Un (si X.stack) ch H H' s.heap s'.heap)(bt:gx X.prog X.w H' s'.heap)(hg:AllBare s'.gens)
  (iw:∀b∈ch,(b∈X.ex∨X.bO.heap.objs.size≤b)∧b≠X.env.locals∧(∀x c,X.env.cells.lookup x=some c→c≠b)∧∀p∈X.pn++pins,p.1≠b):Inv X pins σ H' s':=by
 obtain⟨h',g',d',t',o'⟩:=s'
 have e:o'=s.os:=ho
 subst e
 exact I.call (g':=g') (t':=t') (d':=d') u bt hg iw
end
abbrev XK:=Value→Option Addr→Hp→Prop
abbrev St:=List (Option V)
abbrev VK:=V→Hp→Prop
abbrev TE:=St→Hp→VK→Prop
abbrev TT:=St→Hp→(Bool→Hp→Prop)→Prop
abbrev TA:=St→Hp→(List V→Hp→Prop)→Prop
structure Ends where
 nx:St→Hp→Prop
 rt:VK
 bk:St→Hp→Prop:=fun _ _=>False
 ct:St→Hp→Prop:=fun _ _=>False
abbrev TS:=Ends→St→Hp→Prop
def EP(X:Cx)(pins:List (Addr×Obj))(σ:St)(Q:VK)(u:Value)(s':Shared):Prop:=∃v H',Inv X pins σ H' s'∧RelV v u∧Q v H'
def TP(X:Cx)(pins:List (Addr×Obj))(σ:St)(Q:Bool→Hp→Prop)(b:Bool)(s':Shared):Prop:=∃H',Inv X pins σ H' s'∧Q b H'
def AP(X:Cx)(pins:List (Addr×Obj))(σ:St)(Q:List V→Hp→Prop)(us:List Value)(s':Shared):Prop:=∃vs H',Inv X pins σ H' s'∧Vals vs us∧Q vs H'
def SP(X:Cx)(pins:List (Addr×Obj))(D:Ends)(f:Flow)(s':Shared):Prop:=
 match f with
 |.next=>∃σ' H',Inv X pins σ' H' s'∧D.nx σ' H'
 |.brk=>∃σ' H',Inv X pins σ' H' s'∧D.bk σ' H'
 |.cont=>∃σ' H',Inv X pins σ' H' s'∧D.ct σ' H'
 |.ret u=>∃v σ' H',Inv X pins σ' H' s'∧RelV v u∧D.rt v H'
namespace Zu
set_option allowUnsafeReducibility true in
@[scoped irreducible] def _root_.L2.PE(X:Cx)(e:Expr)(t:TE):Prop:=
 ∀(pins:List (Addr×Obj)) (s:Shared) (σ:St) (H:Hp) (Q:VK),Inv X pins σ H s→t σ H Q→wpAny (model X.prog X.w) X.A (eval e X.env) (EP X pins σ Q) X.xe s
end Zu
namespace Zu
set_option allowUnsafeReducibility true in
@[scoped irreducible] def _root_.L2.PT(X:Cx)(e:Expr)(t:TT):Prop:=
 ∀(pins:List (Addr×Obj)) (s:Shared) (σ:St) (H:Hp) (Q:Bool→Hp→Prop),Inv X pins σ H s→t σ H Q→wpAny (model X.prog X.w) X.A (isTrue e X.env (eval e X.env)) (TP X pins σ Q) X.xe s
end Zu
namespace Zu
set_option allowUnsafeReducibility true in
@[scoped irreducible] def _root_.L2.PW(X:Cx)(e:Expr)(t:TT):Prop:=
 ∀(whole:Sem Value) (pins:List (Addr×Obj)) (s:Shared) (σ:St) (H:Hp) (Q:Bool→Hp→Prop),Inv X pins σ H s→t σ H Q→wpAny (model X.prog X.w) X.A (isTrue e X.env whole) (TP X pins σ Q) X.xe s
end Zu
theorem PW.pt{X:Cx}{e:Expr}{t:TT}(h:PW X e t):PT X e t:=h _
namespace Zu
set_option allowUnsafeReducibility true in
@[scoped irreducible] def _root_.L2.PA(X:Cx)(es:List Expr)(t:TA):Prop:=
 ∀(pos:Pos) (pins:List (Addr×Obj)) (s:Shared) (σ:St) (H:Hp) (Q:List V→Hp→Prop),Inv X pins σ H s→t σ H Q→wpAny (model X.prog X.w) X.A (spliced (backTo pos (starEach es X.env))) (AP X pins σ Q) X.xe s
end Zu
namespace Zu
set_option allowUnsafeReducibility true in
@[scoped irreducible] def _root_.L2.PS(X:Cx)(st:Stmt)(t:TS):Prop:=
 ∀(pins:List (Addr×Obj)) (s:Shared) (σ:St) (H:Hp) (D:Ends),Inv X pins σ H s→t D σ H→wpAny (model X.prog X.w) X.A (exec st X.env) (SP X pins D) X.xe s
end Zu
namespace Zu
set_option allowUnsafeReducibility true in
@[scoped irreducible] def _root_.L2.mm(X:Cx)(st:List Stmt)(t:TS):Prop:=
 ∀(pins:List (Addr×Obj)) (s:Shared) (σ:St) (H:Hp) (D:Ends),Inv X pins σ H s→t D σ H→wpAny (model X.prog X.w) X.A (execs st X.env) (SP X pins D) X.xe s
end Zu
theorem bH{α:Type}{t:Sem α}{Q Q':α→Shared→Prop}{M:Model}{A:Around}{E:Value→Shared→Prop}{s:Shared}(h:wpAny M A t Q E s)(hQ:∀a s,Q a s→Q' a s):wpAny M A t Q' E s:=wpAny_mono h hQ fun _ _ x=>x
end L2
namespace L2
open PySem PySem.Spec PyProof.Rows
section
variable{X:Cx}
theorem bin{a b:Expr}{ta tb:TE}(ha:PE X a ta)(hb:PE X b tb){pins:List (Addr×Obj)}{s:Shared}{σ:St}{H:Hp}{R:V→V→Hp→Prop}(I:Inv X pins σ H s)(h:ta σ H fun x H1=>tb σ H1 fun y H2=>R x y H2)
  {α:Type}{Q:α→Shared→Prop}{f:Value→Value→Sem α}
  (hf:∀v u s2 x y H2,Inv X pins σ H2 s2→RelV x v→RelV y u→R x y H2→wpAny (model X.prog X.w) X.A (f v u) Q X.xe s2):
  wpAny (model X.prog X.w) X.A (eval a X.env) (fun v bB=>wpAny (model X.prog X.w) X.A (eval b X.env) (fun u kA=>wpAny (model X.prog X.w) X.A (f v u) Q X.xe kA) X.xe bB) X.xe s:=by
 refine bH (ha pins s σ H _ I h) fun v s1 bq=>?_
 obtain⟨x,H1,I1,r1,q1⟩:=bq
 refine bH (hb pins s1 σ H1 _ I1 q1) fun u s2 bq=>?_
 obtain⟨y,H2,I2,r2,q2⟩:=bq
 exact hf v u s2 x y H2 I2 r1 r2 q2
def C0(i:Nat):TE:=fun σ H Q=>∃v,σ[i]? =some (some v)∧Q v H
def tC(v:V):TE:=fun _ H Q=>Q v H
theorem Ga{i:Nat}{x:Str}{pos:Pos}(hN:X.N[i]? =some x)(hv:CT X.env.scope x)(hd:(x==("__debug__":Str))=false:=by decide)(qm:(x==("__classdict__":Str))=false:=by decide):PE X (.Name x pos) (C0 i):=by
 intro pins s σ H Q I h
 obtain⟨v,e,h⟩:=h
 obtain⟨m,hn,hl⟩:=I.loc
 obtain⟨u,r,l⟩:=hl i x v hN e hv
 have fin:EP X pins σ Q u s:=⟨v,H,I,r,h⟩
 rcases l with⟨hk,hm⟩|⟨hk,c,hc,vV⟩
 ·exact wpAny_Name (wpAny_loadName_local I.ok.kind hk hn hm fin) hd
 ·rcases hk with hk|hk
  ·exact wpAny_Name (wpAny_loadName_cell I.ok.kind hk hc vV fin) hd
  ·exact wpAny_Name (wpAny_loadName_free I.ok.kind hk hc vV fin qm) hd
theorem AI{i j pos}:PE X (.Constant (.int i) j pos) (tC (.int i)):=fun _ _ _ H _ I h=>wpAny_Constant_int ⟨.int i,H,I.tok _,⟨_,rfl⟩,h⟩
theorem JT{b j pos}:PE X (.Constant (.bool b) j pos) (tC (.bl b)):=fun _ _ _ H _ I h=>Constant_bool ⟨.bl b,H,I,rfl,h⟩
theorem Gb{j pos}:PE X (.Constant .none j pos) (tC .bf):=fun _ _ _ H _ I h=>Constant_none ⟨.bf,H,I,rfl,h⟩
theorem m8{x j pos}:PE X (.Constant (.str x) j pos) (tC (.str x)):=fun _ _ _ H _ I h=>Calls.Constant_str ⟨.str x,H,I.tok _,⟨_,rfl⟩,h⟩
def Gl(X:Cx)(x:Str):Prop:=X.env.kindOf x=some .globalImplicit
theorem xA{E:Value→Shared→Prop}{pins:List (Addr×Obj)}{s:Shared}{σ:St}{H:Hp}{x:Str}{u:Value}{pos:Pos}{Q:Value→Shared→Prop}(I:Inv X pins σ H s)(hg:Gl X x)(hm:X.mg x=some u)(h:Q u s)
  (hd:(x==("__debug__":Str))=false:=by decide):wpAny (model X.prog X.w) X.A (eval (.Name x pos) X.env) Q E s:=
 Calls.Name_function_global I.ok.kind hg (Calls.loadGlobal_global (by rw[I.ok.glob];exact I.mod.glob.keeps I.bk) hm h) hd
theorem iR{E:Value→Shared→Prop}{pins:List (Addr×Obj)}{s:Shared}{σ:St}{H:Hp}{x:Str}{u:Value}{pos:Pos}{Q:Value→Shared→Prop}(I:Inv X pins σ H s)(hg:Gl X x)(hm:X.mg x=none)(hv:bootBuiltins x=some u)(h:Q u s)
  (hn:x≠"__name__":=by decide)(hd:(x==("__debug__":Str))=false:=by decide):wpAny (model X.prog X.w) X.A (eval (.Name x pos) X.env) Q E s:=by
 obtain⟨mb,h1,h2⟩:=I.mod.blt
 exact Calls.Name_function_global I.ok.kind hg (Calls.loadGlobal_builtin (by rw[I.ok.glob];exact I.mod.glob.keeps I.bk) hm (by rw[I.ok.blt];exact h1.keeps I.bk) ((h2 x hn).trans hv) h) hd
theorem oQ{x:Str}{v:V}{u:Value}{pos:Pos}(hg:Gl X x)(hm:X.mg x=some u)(r:RelV v u)(hd:(x==("__debug__":Str))=false:=by decide):PE X (.Name x pos) (tC v):=
 fun _ _ _ H _ I h=>xA I hg hm ⟨v,H,I,r,h⟩ hd
theorem dm{x:Str}{v:V}{u:Value}{pos:Pos}(hg:Gl X x)(hm:X.mg x=none)(hv:bootBuiltins x=some u)(r:RelV v u)(hn:x≠"__name__":=by decide)(hd:(x==("__debug__":Str))=false:=by decide):PE X (.Name x pos) (tC v):=
 fun _ _ _ H _ I h=>iR I hg hm hv ⟨v,H,I,r,h⟩ hn hd
variable{a b:Expr}{ta tb:TE}{pos:Pos}
def PC(X:Cx)(op:CmpOp)(a b:Expr)(t:TE):Prop:=
 ∀(pins:List (Addr×Obj)) (s:Shared) (σ:St) (H:Hp) (Q:VK),Inv X pins σ H s→t σ H Q→
  wpAny (model X.prog X.w) X.A (eval a X.env) (fun v bB=>wpAny (model X.prog X.w) X.A (eval b X.env) (fun u kA=>wpAny (model X.prog X.w) X.A (compareOp op v u) (EP X pins σ Q) X.xe kA) X.xe bB) X.xe s
theorem BF(b:Expr){op:CmpOp}(h:op≠.In)(h2:op≠.NotIn):behindInMarks op b=false:=by
 have e1:(op==CmpOp.In)=false:=by cases op<;>first|rfl|exact absurd rfl h
 have e2:(op==CmpOp.NotIn)=false:=by cases op<;>first|rfl|exact absurd rfl h2
 cases b<;>simp[behindInMarks,e1,e2]
def tB(t:TE):TT:=fun σ H Q=>t σ H fun x H1=>∃c,x= .bl c∧Q c H1
theorem Ud{op:CmpOp}{t:TE}(h:PC X op a b t)(h1:behindInMarks op b=false:=by first|exact BF _ (by decide) (by decide)|rfl):PT X (.Compare a [op] [b] pos) (tB t):=by
 intro pins s σ H Q I hw
 refine wpAny_isTrue_Compare1 (bH (h pins s σ H _ I hw) fun v s1 h1=>bH h1 fun u s2 h2=>bH h2 fun c s3 bq=>?_) h1
 obtain⟨x,H1,I1,r1,q1⟩:=bq
 obtain⟨d,rfl,q⟩:=q1
 cases r1
 exact wpAny_truthy_bool ⟨H1,I1,q⟩
theorem Gd{e:Expr}{t:TE}(h:PE X e t)(he:∀whole,isTrue e X.env whole=(do let v ←whole;standAt e.pos;holding [v] (truthy v)):=by intro _;rfl):PT X e (tB t):=by
 intro pins s σ H Q I hw
 refine isTrue_plain (bH (h pins s σ H _ I hw) fun v s1 bq=>?_) (he _)
 obtain⟨x,H1,I1,r1,q1⟩:=bq
 obtain⟨d,rfl,q⟩:=q1
 cases r1
 exact wpAny_truthy_bool ⟨H1,I1,q⟩
variable{tA Ge:TT}{rest:List Expr}
def dq(t u:TT):TT:=fun σ H Q=>t σ H fun c H1=>if c=true then u σ H1 Q else Q false H1
def mn(t u:TT):TT:=fun σ H Q=>t σ H fun c H1=>if c=true then Q true H1 else u σ H1 Q
def oR(t:TT):TT:=fun σ H Q=>t σ H fun c H1=>Q (!c) H1
theorem C1(ha:PT X a tA):PW X (.BoolOp .And [a] pos) tA:=by
 intro wh pins s σ H Q I h
 refine isTrue_and (bH (ha pins s σ H Q I h) fun c s1 e=>?_)
 cases c with
 |true=>exact isTrue_and_nil e
 |false=>exact e
theorem Gf(ha:PT X a tA):PW X (.BoolOp .Or [a] pos) tA:=by
 intro wh pins s σ H Q I h
 refine isTrue_or (bH (ha pins s σ H Q I h) fun c s1 e=>?_)
 cases c with
 |false=>exact isTrue_or_nil e
 |true=>exact e
theorem Gg(ha:PT X a tA)(hb:PW X (.BoolOp .And (b::rest) pos) Ge):PW X (.BoolOp .And (a::b::rest) pos) (dq tA Ge):=by
 intro wh pins s σ H Q I h
 refine isTrue_and (bH (ha pins s σ H _ I h) fun c s1 bq=>?_)
 obtain⟨H1,I1,q1⟩:=bq
 cases c with
 |true=>exact hb wh pins s1 σ H1 Q I1 q1
 |false=>exact⟨H1,I1,q1⟩
theorem JU(ha:PT X a tA)(hb:PW X (.BoolOp .Or (b::rest) pos) Ge):PW X (.BoolOp .Or (a::b::rest) pos) (mn tA Ge):=by
 intro wh pins s σ H Q I h
 refine isTrue_or (bH (ha pins s σ H _ I h) fun c s1 bq=>?_)
 obtain⟨H1,I1,q1⟩:=bq
 cases c with
 |true=>exact⟨H1,I1,q1⟩
 |false=>exact hb wh pins s1 σ H1 Q I1 q1
theorem Gh(ha:PT X a tA):PT X (.UnaryOp .Not a pos) (oR tA):=by
 intro pins s σ H Q I h
 exact isTrue_not (ha pins s σ H (fun c H1=>Q (!c) H1) I h)
def JV(ta tb:TE):TE:=fun σ H Q=>ta σ H fun x H1=>∃c,x= .bl c∧if c=true then tb σ H1 Q else Q (.bl false) H1
theorem Gi{op}{t:TE}(h:PE X a t):PE X (.BoolOp op [a] pos) t:=fun pins s σ H Q I hw=>BoolOp_one (h pins s σ H Q I hw)
theorem Gj(ha:PE X a ta)(hb:PE X (.BoolOp .And (b::rest) pos) tb):PE X (.BoolOp .And (a::b::rest) pos) (JV ta tb):=by
 intro pins s σ H Q I h
 refine BoolOp_and (bH (ha pins s σ H _ I h) fun v s1 bq=>?_)
 obtain⟨x,H1,I1,r1,q1⟩:=bq
 obtain⟨c,rfl,q1⟩:=q1
 cases r1
 refine wpAny_truthy_bool ?_
 cases c with
 |true=>exact hb pins s1 σ H1 Q I1 q1
 |false=>exact⟨.bl false,H1,I1,rfl,q1⟩
def Uq(t:TT)(ta tb:TE):TE:=fun σ H Q=>t σ H fun c H1=>if c=true then ta σ H1 Q else tb σ H1 Q
theorem BG{c:Expr}(hc:PT X c tA)(ha:PE X a ta)(hb:PE X b tb):PE X (.IfExp c a b pos) (Uq tA ta tb):=by
 intro pins s σ H Q I h
 refine wpAny_IfExp (bH (hc pins s σ H _ I h) fun d s1 bq=>?_)
 obtain⟨H1,I1,q1⟩:=bq
 cases d with
 |true=>exact ha pins s1 σ H1 Q I1 q1
 |false=>exact hb pins s1 σ H1 Q I1 q1
end
end L2
namespace L2
open PySem PySem.Spec PyProof.Rows
def cb(K:PySem.W.Frag)(H:Hp)(a:Addr)(xs:List V):Prop:=
 Rd H a (.lst xs)∨
  ∃(o:Obj) (its:Array Value) (n:Nat),K.lookup a=some o∧o.cls= .type "list"∧o.dict=none∧o.data= .seq its n∧its.size≤sizeLine∧Vals xs its.toList
def dc(K:PySem.W.Frag)(H:Hp)(a:Addr)(xs:List V):Prop:=
 Rd H a (.tup xs)∨
  ∃(o:Obj) (its:Array Value) (n:Nat),K.lookup a=some o∧o.cls= .type "tuple"∧o.data= .seq its n∧its.size≤sizeLine∧Vals xs its.toList
def N7:Value→Option V
 |.none=>some .bf
 |.bool b=>some (.bl b)
 |.int i _=>some (.int i)
 |.str x _=>some (.str x)
 |.bytes b _=>some (.qj b)
 |.float b _=>some (.JP b)
 |.ref a=>some (.ref a)
 |.type n=>some (.ty n)
 |_=>none
theorem RelV.abs{x:V}{u:Value}(r:RelV x u):N7 u=some x:=by
 cases x with
 |bf=>cases r;rfl
 |bl _=>cases r;rfl
 |int _=>obtain⟨t,rfl⟩:=r;rfl
 |str _=>obtain⟨t,rfl⟩:=r;rfl
 |qj _=>obtain⟨t,rfl⟩:=r;rfl
 |JP _=>obtain⟨t,rfl⟩:=r;rfl
 |ref _=>cases r;rfl
 |ty _=>cases r;rfl
theorem RelV.inj{x y:V}{u:Value}(r:RelV x u)(q:RelV y u):x=y:=Option.some.inj (r.abs.symm.trans q.abs)
theorem Vals.inj:∀{xs ys:List V}{us:List Value},Vals xs us→Vals ys us→xs=ys
 |_,_,_,.nil,.nil=>rfl
 |_,_,_,.cons r t,.cons r' t'=>by rw[r.inj r',Vals.inj t t']
section
variable{X:Cx}{pins:List (Addr×Obj)}{σ:St}{H:Hp}{s:Shared}{a:Addr}{xs ys:List V}
theorem cb.of{K:PySem.W.Frag}(h:H a=some (.lst xs)):cb K H a xs:=.inl (.inl h)
theorem dc.of{K:PySem.W.Frag}(h:H a=some (.tup xs)):dc K H a xs:=.inl (.inl h)
theorem Inv.list(I:Inv X pins σ H s)(h:cb X.K H a xs):∃its:List Value,Vals xs its∧PlainL s.heap a its.toArray∧xs.length≤sizeLine:=by
 rcases h with h|⟨o,its,n,hk,hc,hd,hs,hz,r⟩
 ·obtain⟨z,its,n,r,e⟩:=h.ok I.bt
  exact⟨its,r,⟨_,n,e,rfl,rfl,rfl⟩,z⟩
 ·refine⟨its.toList,r,⟨o,n,I.xw a o hk,hc,hd,by simpa using hs⟩,?_⟩
  have e:=r.length
  simp only[Array.length_toList]at e
  omega
theorem Inv.tuple(I:Inv X pins σ H s)(h:dc X.K H a xs):∃its:List Value,Vals xs its∧IsTup s.heap a its.toArray∧xs.length≤sizeLine:=by
 rcases h with h|⟨o,its,n,hk,hc,hs,hz,r⟩
 ·obtain⟨z,its,r,p⟩:=h.ok I.bt
  exact⟨its,r,p,z⟩
 ·refine⟨its.toList,r,⟨o,I.xw a o hk,hc,n,by simpa using hs⟩,?_⟩
  have e:=r.length
  simp only[Array.length_toList]at e
  omega
theorem Inv.m9(I:Inv X pins σ H s)(h:cb X.K H a xs)(h':cb X.K H a ys):xs=ys:=by
 obtain⟨its,r,⟨o,n,e,_,_,d⟩,_⟩:=I.list h
 obtain⟨its',r',⟨o',n',e',_,_,d'⟩,_⟩:=I.list h'
 rw[e]at e';cases e'
 rw[d]at d'
 injection d' with d1 _
 have:its=its':=by simpa using congrArg Array.toList d1
 subst this
 exact r.inj r'
theorem Inv.so(I:Inv X pins σ H s)(h:dc X.K H a xs)(h':dc X.K H a ys):xs=ys:=by
 obtain⟨its,r,⟨o,e,_,n,d⟩,_⟩:=I.tuple h
 obtain⟨its',r',⟨o',e',_,n',d'⟩,_⟩:=I.tuple h'
 rw[e]at e';cases e'
 rw[d]at d'
 injection d' with d1 _
 have:its=its':=by simpa using congrArg Array.toList d1
 subst this
 exact r.inj r'
end
abbrev Cx.nK(X:Cx)(E:Value→Shared→Prop):Cx:={ X with xe:=E }
abbrev Cx.xB(X:Cx):Cx:=X.nK fun _ _=>False
theorem Cx.Ok.nK{X:Cx}(ok:X.Ok)(E:Value→Shared→Prop):(X.nK E).Ok:=
 ⟨ok.mod,ok.kind,ok.glob,ok.blt,ok.above,ok.inj,ok.has,ok.CU,ok.hd,ok.frames,ok.FW,ok.FX,ok.bs,ok.xr,ok.xt,ok.xu,ok.mr,ok.BB⟩
theorem Cx.Ok.jF{X:Cx}{E:Value→Shared→Prop}(ok:(X.nK E).Ok):X.Ok:=
 ⟨ok.mod,ok.kind,ok.glob,ok.blt,ok.above,ok.inj,ok.has,ok.CU,ok.hd,ok.frames,ok.FW,ok.FX,ok.bs,ok.xr,ok.xt,ok.xu,ok.mr,ok.BB⟩
section
variable{X:Cx}{pins:List (Addr×Obj)}{σ:St}{H:Hp}{s:Shared}{E:Value→Shared→Prop}
theorem Inv.nK(I:Inv X pins σ H s)(E:Value→Shared→Prop):Inv (X.nK E) pins σ H s:=⟨I.ok.nK E,I.os,I.bare,I.base,I.loc,I.cell,I.free,I.j6,I.pin,I.bt,I.len⟩
theorem Inv.jF(I:Inv (X.nK E) pins σ H s):Inv X pins σ H s:=⟨I.ok.jF,I.os,I.bare,I.base,I.loc,I.cell,I.free,I.j6,I.pin,I.bt,I.len⟩
theorem SP.jF{D:Ends}{f:Flow}{s':Shared}(h:SP (X.nK E) pins D f s'):SP X pins D f s':=by
 cases f with
 |next=>obtain⟨σ',H',I,q⟩:=h;exact⟨σ',H',I.jF,q⟩
 |brk=>obtain⟨σ',H',I,q⟩:=h;exact⟨σ',H',I.jF,q⟩
 |cont=>obtain⟨σ',H',I,q⟩:=h;exact⟨σ',H',I.jF,q⟩
 |ret u=>obtain⟨v,σ',H',I,r,q⟩:=h;exact⟨v,σ',H',I.jF,r,q⟩
theorem mm.xB{st:List Stmt}{t:TS}(h:mm X.xB st t):mm X st t:=fun pins s σ H D I hw=>
 wpAny_mono (h pins s σ H D (I.nK _) hw) (fun _ _ q=>q.jF) fun _ _ z=>False.elim z
end
section
variable{X:Cx}{st:Stmt}{rest:List Stmt}{t u:TS}{e:Expr}{te:TE}{pos:Pos}
def JW:TS:=fun D σ H=>D.nx σ H
def N8(t u:TS):TS:=fun D σ H=>t { D with nx:=u D } σ H
theorem C2:mm X [] JW:=fun _ _ σ H _ I h=>wpAny_execs_nil ⟨σ,H,I,h⟩
theorem BH(h1:PS X st t)(h2:mm X rest u):mm X (st::rest) (N8 t u):=by
 intro pins s σ H D I h
 refine wpAny_execs_cons (bH (h1 pins s σ H { D with nx:=u D } I h) fun f s1 q=>?_)
 cases f with
 |next=>
  obtain⟨σ',H',I',q⟩:=q
  exact h2 pins s1 σ' H' D I' q
 |ret v=>exact q
 |brk=>exact q
 |cont=>exact q
theorem C3(h1:PS X st t):mm X [st] t:=by
 intro pins s σ H D I h
 refine wpAny_execs_cons (bH (h1 pins s σ H D I h) fun f s1 q=>?_)
 cases f with
 |next=>exact wpAny_execs_nil q
 |ret v=>exact q
 |brk=>exact q
 |cont=>exact q
theorem Inv.quiet{pins:List (Addr×Obj)}{σ:St}{H:Hp}{s:Shared}(I:Inv X pins σ H s):interactive X.env=false:=by simp[interactive,I.ok.kind]
def JX(te:TE):TS:=fun D σ H=>te σ H fun _ H1=>D.nx σ H1
theorem C4(he:PE X e te)(hs:swapsWith e none pos.line X.env=pure false:=by rfl):PS X (.Expr e pos) (JX te):=by
 intro pins s σ H D I h
 exact wpAny_Expr_any (bH (he pins s σ H _ I h) fun v s1 ⟨x,H1,I1,r1,q1⟩=>⟨σ,H1,I1,q1⟩) I.quiet hs
def N9(te:TE):TS:=fun D σ H=>te σ H D.rt
theorem Gk(he:PE X e te):PS X (.Return (some e) pos) (N9 te):=by
 intro pins s σ H D I h
 exact wpAny_Return_some (bH (he pins s σ H _ I h) fun v s1 ⟨x,H1,I1,r1,q1⟩=>⟨x,σ,H1,I1,r1,q1⟩)
def N_(c:TT)(t u:TS):TS:=fun D σ H=>c σ H fun b H1=>if b=true then t D σ H1 else u D σ H1
theorem JY{c:Expr}{a b:List Stmt}{tc:TT}(hc:PT X c tc)(ha:mm X a t)(hb:mm X b u):PS X (.If c a b pos) (N_ tc t u):=by
 intro pins s σ H D I h
 refine wpAny_If (bH (hc pins s σ H _ I h) fun d s1 bq=>?_)
 obtain⟨H1,I1,q1⟩:=bq
 cases d with
 |true=>exact ha pins s1 σ H1 D I1 q1
 |false=>exact hb pins s1 σ H1 D I1 q1
end
abbrev TG:=V→St→Hp→(St→Hp→Prop)→Prop
abbrev vW:=List V→St→Hp→(St→Hp→Prop)→Prop
namespace Zu
set_option allowUnsafeReducibility true in
@[scoped irreducible] def _root_.L2.PG(X:Cx)(target:Expr)(t:TG):Prop:=
 ∀(pins:List (Addr×Obj)) (s:Shared) (σ:St) (H:Hp) (v:V) (u:Value) (Q:St→Hp→Prop),Inv X pins σ H s→RelV v u→t v σ H Q→
  wpAny (model X.prog X.w) X.A (assign target X.env u) (fun _ s'=>∃σ' H',Inv X pins σ' H' s'∧Q σ' H') X.xe s
end Zu
namespace Zu
set_option allowUnsafeReducibility true in
@[scoped irreducible] def _root_.L2.xC(X:Cx)(ts:List Expr)(t:vW):Prop:=
 ∀(pins:List (Addr×Obj)) (s:Shared) (σ:St) (H:Hp) (vs:List V) (us:List Value) (Q:St→Hp→Prop),Inv X pins σ H s→Vals vs us→t vs σ H Q→
  wpAny (model X.prog X.w) X.A (assignInOrder ((assignEach ts X.env).map (·.2)) us) (fun _ s'=>∃σ' H',Inv X pins σ' H' s'∧Q σ' H') X.xe s
end Zu
abbrev C5:=V→V→V→Hp→(Hp→Prop)→Prop
def IW(X:Cx)(t:C5):Prop:=
 ∀(pins:List (Addr×Obj)) (s:Shared) (σ:St) (H:Hp) (o i v:V) (ov iv u:Value) (Q:Hp→Prop),Inv X pins σ H s→RelV o ov→RelV i iv→RelV v u→t o i v H Q→
  wpAny (model X.prog X.w) X.A (setItem ov iv u) (fun _ s'=>∃H',Inv X pins σ H' s'∧Q H') X.xe s
section
variable{X:Cx}{pos:Pos}
def aD(i:Nat):TG:=fun v σ H Q=>Q (σ.set i (some v)) H
theorem C6{i:Nat}{x:Str}(hN:X.N.Nodup)(hi:X.N[i]? =some x)(hx:Loc X.env.scope x)(hf:X.fn x=true∨X.env.scope.names.lookup x=some .local:=by first|exact .inl rfl|exact .inr rfl|assumption):PG X (.Name x pos) (aD i):=by
 intro pins s σ H v u Q I r h
 exact wpAny_assign_Name (m7 I hN hi hx r (fun s' I'=>⟨_,H,I',h⟩) hf)
def gh:vW:=fun vs σ H Q=>vs=[]∧Q σ H
def bP(t:TG)(u:vW):vW:=fun vs σ H Q=>∃v r,vs=v::r∧t v σ H fun σ' H'=>u r σ' H' Q
theorem C7:xC X [] gh:=by
 intro pins s σ H vs us Q I r h
 obtain⟨e,h⟩:=h
 subst e
 cases r
 exact assignInOrder_nil ⟨σ,H,I,h⟩
theorem BI{e:Expr}{es:List Expr}{t:TG}{u:vW}(h1:PG X e t)(h2:xC X es u)
  (hs:(assignEach (e::es) X.env).map (·.2)=assign e X.env::(assignEach es X.env).map (·.2):=by rfl):xC X (e::es) (bP t u):=by
 intro pins s σ H vs us Q I r h
 obtain⟨v,vr,e1,h⟩:=h
 subst e1
 cases r with
 |cons r rr=>
  rw[hs]
  refine assignInOrder_cons (bH (h1 pins s σ H _ _ _ I r h) fun _ s1 bq=>?_)
  obtain⟨σ1,H1,I1,q1⟩:=bq
  exact h2 pins s1 σ1 H1 _ _ Q I1 rr q1
def gj(K:PySem.W.Frag)(n:Nat)(t:vW):TG:=fun v σ H Q=>∃a xs,v= .ref a∧dc K H a xs∧xs.length=n∧t xs σ H Q
theorem Gm{es:List Expr}{k:Nat}{t:vW}{n:Nat}(hc:X.calm=true)(h:xC X es t)
  (hn:(assignEach es X.env).length=n:=by rfl)(mv:(assignEach es X.env).findIdx? (·.1)=none:=by rfl):PG X (.Tuple es k pos) (gj X.K n t):=by
 intro pins s σ H v u Q I r hw
 obtain⟨a,xs,e1,hq,hl,hw⟩:=hw
 subst e1
 cases r
 obtain⟨its,rv,ht,hz⟩:=I.tuple hq
 refine assign_Tuple_tuple (I.ok.hd hc) ht (by simp[hn,←hl,rv.length]) mv fun h' hx=>?_
 have I1:Inv X pins σ H { s with heap:=h' }:=I.kept (t':=s.toks) fun b o e=>hx b o (Nat.ne_of_lt (Heap.lt_size e)) e
 exact h pins _ σ H xs _ Q I1 (by simpa using rv) hw
def jc(to ti:TE)(t:C5):TG:=fun v σ H Q=>to σ H fun o H1=>ti σ H1 fun i H2=>t o i v H2 fun H3=>Q σ H3
theorem Gn{o i:Expr}{to ti:TE}{t:C5}(ho:PE X o to)(hi:PE X i ti)(hs:IW X t)
  (ha:∀v,assign (.Subscript o i pos) X.env v=(do
   let ov ←holding [v] (eval o X.env)
   let iv ←holding [v,ov] (eval i X.env)
   standAt pos
   holding [v,ov,iv] (setItem ov iv v)
   release [v,ov,iv] []):=by intro _;rfl):PG X (.Subscript o i pos) (jc to ti t):=by
 intro pins s σ H v u Q I r h
 rw[ha]
 refine wpAny_bind (wpAny_holding (bH (ho pins s σ H _ I h) fun ov s1 bq=>?_))
 obtain⟨x,H1,I1,r1,q1⟩:=bq
 refine wpAny_bind (wpAny_holding (bH (hi pins s1 σ H1 _ I1 q1) fun iv s2 bq=>?_))
 obtain⟨y,H2,I2,r2,q2⟩:=bq
 refine wpAny_bind (wpAny_standAt (wpAny_bind (wpAny_holding (bH (hs pins s2 σ H2 x y v ov iv u _ I2 r1 r2 r q2) fun _ s3 bq=>?_))))
 obtain⟨H3,I3,q3⟩:=bq
 exact wpAny_release ⟨σ,H3,I3,q3⟩
def IX(te:TE)(g:TG):TS:=fun D σ H=>te σ H fun x H1=>g x σ H1 D.nx
theorem Gp{tg e:Expr}{te:TE}{g:TG}(he:PE X e te)(hg:PG X tg g)(hs:swapsWithSole [tg] e pos.line X.env=pure false:=by rfl)(hw:swappedStores [tg] e X.env=pure none:=by rfl)
  (h1:(assignEach [tg] X.env).map (·.2)=[assign tg X.env]:=by rfl):PS X (.Assign [tg] e pos) (IX te g):=by
 intro pins s σ H D I h
 refine wpAny_Assign_stores (bH (he pins s σ H _ I h) fun v s1 bq=>?_) hs hw
 obtain⟨x,H1,I1,r1,q1⟩:=bq
 rw[h1]
 exact bH (hg pins s1 σ H1 x v _ I1 r1 q1) fun _ s2 q=>q
theorem Gq{i:Nat}{x:Str}{e:Expr}{te:TE}{pos':Pos}(hN:X.N.Nodup)(hi:X.N[i]? =some x)(hx:Loc X.env.scope x)(he:PE X e te)(hs:swapsWith e (some (.Name x pos')) pos.line X.env=pure false:=by rfl)(hf:X.fn x=true∨X.env.scope.names.lookup x=some .local:=by first|exact .inl rfl|exact .inr rfl|assumption):
  PS X (.Assign [.Name x pos'] e pos) (IX te (aD i)):=by
 intro pins s σ H D I h
 refine wpAny_Assign_Name (bH (he pins s σ H _ I h) fun v s1 bq=>?_) hs
 obtain⟨y,H1,I1,r1,q1⟩:=bq
 exact m7 I1 hN hi hx r1 (fun s2 I2=>⟨_,H1,I2,q1⟩) hf
def Oa(i j:Nat)(ta:TA):TS:=fun D σ H=>ta σ H fun vs H1=>∃v w,vs=[v,w]∧D.nx ((σ.set i (some v)).set j (some w)) H1
theorem Gr{i j:Nat}{x y:Str}{a b:Expr}{ta:TA}{px py pt:Pos}{kt k2 zf}(hc:X.calm=true)(hN:X.N.Nodup)(hi:X.N[i]? =some x)(hj:X.N[j]? =some y)(vX:i≠j)
  (hx:X.env.scope.names.lookup x=some .local)(hy:X.env.scope.names.lookup y=some .local)(ha:PA X [a,b] ta)
  (hw:swappedStores [.Tuple [.Name x px,.Name y py] kt pt] (.Tuple [a,b] k2 zf) X.env=pure (some [x,y]))
  (hs:swapsWithSole [.Tuple [.Name x px,.Name y py] kt pt] (.Tuple [a,b] k2 zf) pos.line X.env=pure false:=by rfl):
  PS X (.Assign [.Tuple [.Name x px,.Name y py] kt pt] (.Tuple [a,b] k2 zf) pos) (Oa i j ta):=by
 intro pins s σ H D I h
 rw[exec_Assign_arm]
 refine wpAny_bind (wpAny_standAt ?_)
 rw[hs]
 refine wpAny_bind (wpAny_pure ?_)
 rw[if_neg (by decide)]
 refine wpAny_bind (Tuple_ (bH (ha _ pins s σ H _ I h) fun us s1 bq=>?_))
 obtain⟨vs,H1,I1,r1,q1⟩:=bq
 obtain⟨v,w,e1,q1⟩:=q1
 subst e1
 obtain⟨u1,u2,rfl,rv,oS⟩:∃u1 u2,us=[u1,u2]∧RelV v u1∧RelV w u2:=by
  cases r1 with
  |cons p q=>
   cases q with
   |cons p' q'=>
    cases q'
    exact⟨_,_,rfl,p,p'⟩
 refine wpAny_newObj_type ?_ (by show 2≤sizeLine;decide)
 have I2:Inv X pins σ H1 { s1 with heap:=s1.heap.push { cls:=.type "tuple",data:=.seq [u1,u2].toArray } }:=I1.kept (t':=s1.toks) fun b o e=>Heap.get?_push_of_some _ e
 rw[hw]
 refine wpAny_bind (wpAny_pure ?_)
 show wpAny (model X.prog X.w) X.A (do rule "assign.swapped-stores";let items ←unpackItems (.ref s1.heap.objs.size) 2 none;assignInOrder [fun v=>bindName X.env y v,fun v=>bindName X.env x v] items.reverse;pure Flow.next) _ _ _
 refine wpAny_bind (wpAny_rule (wpAny_bind (unpackItems_tuple (items:=#[u1,u2]) (I.ok.hd hc) (IsTup.new s1.heap _) fun h' rE=>?_)))
 have I3:=I2.kept (h':=h') (t':=s1.toks) fun b o e=>rE b o (Nat.ne_of_lt (Heap.lt_size e)) e
 show wpAny _ _ (assignInOrder [fun v=>bindName X.env y v,fun v=>bindName X.env x v] [u2,u1] >>= fun _=>pure Flow.next) _ _ _
 refine wpAny_bind (assignInOrder_cons (wpAny_bindName (m7 I3 hN hj (.inl hy) oS (fun s2 I4=>?_) (.inr hy))))
 refine assignInOrder_cons (wpAny_bindName (m7 I4 hN hi (.inl hx) rv (fun s3 I5=>assignInOrder_nil (wpAny_pure ?_)) (.inr hx)))
 rw[List.set_comm _ _ (Ne.symm vX)]at I5
 exact⟨_,H1,I5,q1⟩
end
section
variable{X:Cx}{pos:Pos}
def Gs(c:TT)(tb:TS):TS:=fun D σ H=>∃W:Nat→St→Hp→Prop,(∃m,W m σ H)∧∀m σ H,W m σ H→
 c σ H fun b H1=>if b=true then ∃N:St→Hp→Prop,(∀σ' H',N σ' H'→∃m',m'<m∧W m' σ' H')∧tb { D with nx:=N,ct:=N,bk:=D.nx } σ H1 else D.nx σ H1
theorem BJ{c:Expr}{body:List Stmt}{tc:TT}{tb:TS}(hp:PassesOwn (model X.prog X.w) X.A X.env X.xe)(hc:PT X c tc)(hb:mm X body tb):PS X (.While c body [] pos) (Gs tc tb):=by
 intro pins s σ H D I h
 obtain⟨W,⟨m0,w0⟩,turn⟩:=h
 refine wpAny_While (codeAny_whileLoop (fun n s'=>∃σ' H',Inv X pins σ' H' s'∧W n σ' H') ?_ m0 ⟨σ,H,I,w0⟩)
 rintro n s1 ⟨σ1,H1,I1,w1⟩
 refine wpAny_passesOwn hp (bH (hc pins s1 σ1 H1 _ I1 (turn n σ1 H1 w1)) fun b s2 bq=>?_)
 obtain⟨H2,I2,q2⟩:=bq
 cases b with
 |true=>
  obtain⟨N,hN,q2⟩:=q2
  rw[if_pos rfl]
  refine wpAny_passesOwn hp (bH (hb pins s2 σ1 H2 _ I2 q2) fun f s3 q3=>?_)
  cases f with
  |next=>
   obtain⟨mq,H3,I3,n3⟩:=q3
   obtain⟨m',hm,w3⟩:=hN mq H3 n3
   exact⟨m',hm,mq,H3,I3,w3⟩
  |cont=>
   obtain⟨mq,H3,I3,n3⟩:=q3
   obtain⟨m',hm,w3⟩:=hN mq H3 n3
   exact⟨m',hm,mq,H3,I3,w3⟩
  |brk=>exact q3
  |ret v=>exact q3
 |false=>
  rw[if_neg Bool.false_ne_true]
  exact wpAny_execs_nil ⟨σ1,H2,I2,q2⟩
end
structure It where
 go:Nat→Hp→Prop
 BK:Nat→Hp→V→Hp→Prop
 stop:Nat→Hp→Prop
def iz(X:Cx)(pins:List (Addr×Obj))(H:Hp)(b:Addr):Prop:=
 H b=none∧b≠X.env.locals∧b∉X.fs∧(b∈X.ex∨X.bO.heap.objs.size≤b)∧(∀x c,X.env.cells.lookup x=some c→c≠b)∧∀p∈X.pn++pins,p.1≠b
theorem Inv.sr{X:Cx}{pins:List (Addr×Obj)}{σ:St}{H H':Hp}{s:Shared}{b:Addr}(I:Inv X pins σ H s)(hb:s.heap.objs.size≤b)(hn:H' b=none):iz X pins H' b:=by
 refine⟨hn,Nat.ne_of_gt (Nat.lt_of_lt_of_le I.lt hb),I.IV hb,.inr (Nat.le_trans I.sz hb),fun x c e z=>?_,fun p hp z=>?_⟩
 ·obtain⟨v,q⟩:=I.cell x c e
  exact absurd (Nat.lt_of_lt_of_le q.lt (by rw[z];exact hb)) (Nat.lt_irrefl _)
 ·exact absurd (Nat.lt_of_lt_of_le (Heap.lt_size (I.pin p hp).1) (by rw[z];exact hb)) (Nat.lt_irrefl _)
structure Turn(P:Program)(w:World)(K:PySem.W.Frag)(tg:Expr)(J:It)(fp:List Addr)(it:Addr)(tn:Nat→Heap→Prop):Prop where
 mem:it∈fp
 obj:∀i h,tn i h→∀b∈fp,∃o,h.get? b=some o∧∀v,o.data≠.cell v
 keep:∀i h h',tn i h→(∀b∈fp,∀o,h.get? b=some o→h'.get? b=some o)→tn i h'
 item:∀(X:Cx),X.prog=P→X.w=w→X.K=K→X.calm=true→∀(i:Nat) (pins:List (Addr×Obj)) (s:Shared) (σ:St) (H:Hp) (E:Value→Shared→Prop),Inv X pins σ H s→(∀b∈fp,iz X pins H b)→tn i s.heap→J.go i H→
  wpAny (model P w) X.A (pyNext (.ref it)) (fun r s1=>∃u,r=some u∧
   wpAny (model P w) X.A (letOwnedTupleGo tg (.ref it) u) (fun _ s2=>∃x H',Inv X pins σ H' s2∧RelV x u∧J.BK i H x H'∧tn (i+1) s2.heap∧∀b∈fp,H' b=none) E s1) E s
 done:∀(X:Cx),X.prog=P→X.w=w→X.K=K→X.calm=true→∀(i:Nat) (pins:List (Addr×Obj)) (s:Shared) (σ:St) (H:Hp) (E:Value→Shared→Prop),Inv X pins σ H s→(∀b∈fp,iz X pins H b)→tn i s.heap→J.stop i H→
  wpAny (model P w) X.A (pyNext (.ref it)) (fun r s1=>r=none∧Inv X pins σ H s1) E s
 self:∀(A:Around) (i:Nat) (s:Shared) (Q:Value→Shared→Prop) (E:Value→Shared→Prop),tn i s.heap→Q (.ref it) s→wpAny (model P w) A (pyIter (.ref it)) Q E s
abbrev TI:=St→Hp→(It→Hp→Prop)→Prop
def Ob(X:Cx)(pins:List (Addr×Obj))(σ:St)(tg:Expr)(R:It→Hp→Prop)(JZ:Value)(s2:Shared):Prop:=
 ∃(it:Addr) (fp:List Addr) (tn:Nat→Heap→Prop) (J:It) (H':Hp),JZ= .ref it∧Inv X pins σ H' s2∧Turn X.prog X.w X.K tg J fp it tn∧tn 0 s2.heap∧(∀b∈fp,iz X pins H' b)∧R J H'
namespace Zu
set_option allowUnsafeReducibility true in
@[scoped irreducible] def _root_.L2.PI(X:Cx)(tg iter:Expr)(wi:TI):Prop:=
 ∀(pins:List (Addr×Obj)) (s:Shared) (σ:St) (H:Hp) (R:It→Hp→Prop),Inv X pins σ H s→wi σ H R→
  wpAny (model X.prog X.w) X.A (eval iter X.env) (fun v s1=>wpAny (model X.prog X.w) X.A (pyIter v) (Ob X pins σ tg R) X.xe s1) X.xe s
end Zu
theorem vY{M:Model}{A:Around}{E:Value→Shared→Prop}{s:Shared}{tg:Expr}{it:Addr}{u:Value}{o:Obj}{n:String}{vs:Array Value}{Q:Unit→Shared→Prop}(ho:s.heap.get? it=some o)(hc:o.cls= .type n)(hd:o.data= .fields vs)
  (hn: ["enumerate","zip","dict_itemiterator","dict_reverseitemiterator","odict_iterator","itertools.zip_longest","itertools.pairwise"].contains n=false)(hQ:Q () s):wpAny M A (letOwnedTupleGo tg (.ref it) u) Q E s:=by
 unfold letOwnedTupleGo
 cases tg<;>first
  |exact wpAny_pure hQ
  |(cases u<;>first
    |exact wpAny_pure hQ
    |(refine wpAny_bind (wpAny_load ho ?_)
      rw[hc,hd]
      show wpAny M A (if (["enumerate","zip","dict_itemiterator","dict_reverseitemiterator","odict_iterator","itertools.zip_longest","itertools.pairwise"].contains n&&vs[0]?==some (rawInt _))=true then _ else _) Q E s
      rw[if_neg (by intro h;rw[hn,Bool.false_and]at h;cases h)]
      exact wpAny_pure hQ))
def Oc(K:PySem.W.Frag)(a:Addr):It:=
 ⟨fun i H=>∃xs x,cb K H a xs∧xs[i]? =some x,fun i H x H'=>H'=H∧∀xs,cb K H a xs→xs[i]? =some x,fun i H=>∃xs,cb K H a xs∧xs.length≤i⟩
def C8(lo:Int)(n:Nat):It:=⟨fun i _=>i<n,fun i H x H'=>H'=H∧x= .int (lo+i),fun i _=>n≤i⟩
theorem zg{P:Program}{w:World}{K:PySem.W.Frag}{tg:Expr}(a it:Addr):Turn P w K tg (Oc K a) [it] it (fun i h=>h.IsListIter it a i) where
 mem:=by simp
 obj:=fun i h st b hb=>by
  have e:b=it:=by simpa using hb
  subst e
  obtain⟨o,e,c,d⟩:=st
  exact⟨o,e,fun v z=>by rw[d]at z;cases z⟩
 keep:=fun i h h' st k=>st.at fun o e=>k it (by simp) o e
 item:=by
  intro X hP hw hK hc i pins s σ H E I hf st hg
  subst hP hw hK
  obtain⟨xs,x,hq,hx⟩:=hg
  obtain⟨its,rv,p,hz⟩:=I.list hq
  obtain⟨u,hu,ru⟩:=rv.get hx
  obtain⟨f0,f1,f2,f3,f4,f5⟩:=hf it (by simp)
  refine wpAny_pyNext_list_item st p.isList (x:=u) (by simpa using hu) fun h' xD sb=>?_
  have I1:Inv X pins σ H { s with heap:=h' }:=I.turned (t':=s.toks) (fun b o hb e=>(sb.2 b hb).trans e) f0 f1 f3 f4 f5
  obtain⟨o,e,c,d⟩:=id xD
  exact⟨u,rfl,vY (s:={ s with heap:=h' }) e c d (by decide) ⟨x,H,I1,ru,⟨rfl,fun ys hy=>by rw[I.m9 hy hq];exact hx⟩,xD,fun b hb=>(hf b hb).1⟩⟩
 done:=by
  intro X hP hw hK hc i pins s σ H E I hf st hg
  subst hP hw hK
  obtain⟨xs,hq,hx⟩:=hg
  obtain⟨its,rv,p,hz⟩:=I.list hq
  obtain⟨f0,f1,f2,f3,f4,f5⟩:=hf it (by simp)
  have hl:=rv.length
  exact wpAny_pyNext_list_end (I.ok.hd hc) st p.isList (by simp;omega) fun h' eb=>⟨rfl,I.turned (t':=s.toks) (fun b o hb e=>eb b o hb e) f0 f1 f3 f4 f5⟩
 self:=fun _ _ _ _ _ st h=>wpAny_pyIter_listiter st h
theorem xE{P:Program}{w:World}{K:PySem.W.Frag}{tg:Expr}(it:Addr)(lo:Int)(n:Nat):Turn P w K tg (C8 lo n) [it] it (fun i h=>IsRangeIter h it (lo+(i:Nat)*1) ((n:Int) - (i:Nat)) 1) where
 mem:=by simp
 obj:=fun i h st b hb=>by
  have e:b=it:=by simpa using hb
  subst e
  exact⟨_,st,fun v z=>by
   have z':Data.fields _=Data.cell v:=z
   cases z'⟩
 keep:=fun i h h' st k=>k it (by simp) _ st
 item:=by
  intro X hP hw hK hc i pins s σ H E I hf st hg
  subst hP hw hK
  obtain⟨f0,f1,f2,f3,f4,f5⟩:=hf it (by simp)
  have W:=Walks.range (prog:=X.prog) (w:=X.w) (I.ok.hd hc) it lo 1 n
  refine W.item i s _ _ hg st fun v h' tk hv xD kk=>?_
  obtain⟨t,rfl⟩:=hv
  have I1:Inv X pins σ H { s with heap:=h',toks:=tk }:=I.turned (fun b o hb e=>kk b o (by simpa using hb) e) f0 f1 f3 f4 f5
  refine⟨_,rfl,vY (s:={ s with heap:=h',toks:=tk }) (n:="range_iterator") xD rfl rfl (by decide) ⟨.int (lo+i),H,I1,⟨t,?_⟩,⟨rfl,rfl⟩,xD,fun b hb=>(hf b hb).1⟩⟩
  rw[Int.mul_one]
 done:=by
  intro X hP hw hK hc i pins s σ H E I hf st hg
  subst hP hw hK
  obtain⟨f0,f1,f2,f3,f4,f5⟩:=hf it (by simp)
  exact wpAny_pyNext_range_end (I.ok.hd hc) st (by have:n≤i:=hg;omega) fun h' eb=>⟨rfl,I.turned (t':=s.toks) (fun b o hb e=>eb b o hb e) f0 f1 f3 f4 f5⟩
 self:=fun _ _ _ _ _ st h=>wpAny_pyIter_rangeiter st h
end L2
namespace L2
open PySem PySem.Spec PyProof.Rows
section
variable{X:Cx}{tg:Expr}
def J3(K:PySem.W.Frag)(tl:TE):TI:=fun σ H R=>tl σ H fun x H1=>∃a,x= .ref a∧(∃xs,cb K H1 a xs)∧R (Oc K a) H1
theorem C9{l:Expr}{tl:TE}(hl:PE X l tl):PI X tg l (J3 X.K tl):=by
 intro pins s σ H R I h
 refine bH (hl pins s σ H _ I h) fun v s1 bq=>?_
 obtain⟨x,H1,I1,r1,q1⟩:=bq
 obtain⟨a,e,⟨xs,hq⟩,q⟩:=q1
 subst e
 cases r1
 obtain⟨its,rv,p,hz⟩:=I1.list hq
 refine wpAny_pyIter_list p.isList ?_
 refine⟨s1.heap.objs.size,[s1.heap.objs.size],_,_,H1,rfl,I1.kept (t':=s1.toks) fun b o e=>Heap.get?_push_of_some _ e,zg a _,⟨_,Heap.get?_push_size _ rfl,rfl,rfl⟩,fun b hb=>?_,q⟩
 have e:b=s1.heap.objs.size:=by simpa using hb
 subst e
 exact I1.sr (Nat.le_refl _) (I1.bt.fresh (Nat.le_refl _))
theorem vg{pins:List (Addr×Obj)}{σ:St}{H:Hp}{s:Shared}{R:It→Hp→Prop}{E:Value→Shared→Prop}{lo hi:Int}{t u v:Tok}{tk:Nat}(I:Inv X pins σ H s)(h1: -(2 ^ 62)≤lo)(h2:lo<2 ^ 62)(h3: -(2 ^ 62)≤hi)(h4:hi<2 ^ 62)
  (q:R (C8 lo (hi - lo).toNat) H):wpAny (model X.prog X.w) X.A (pyIter (.ref s.heap.objs.size)) (Ob X pins σ tg R) E { s with heap:=s.heap.push { cls:=.type "range",data:=.fields #[.int lo t,.int hi u,.int 1 v] },toks:=tk }:=by
 refine wpAny_pyIter_range (IsRange.new ..) (small_one h1 h2 h3 h4) ?_
 have I1:Inv X pins σ H { s with heap:=s.heap.push { cls:=.type "range",data:=.fields #[.int lo t,.int hi u,.int 1 v] },toks:=tk }:=I.kept fun b o e=>Heap.get?_push_of_some _ e
 refine⟨(s.heap.push { cls:=.type "range",data:=.fields #[.int lo t,.int hi u,.int 1 v] }).objs.size,[(s.heap.push { cls:=.type "range",data:=.fields #[.int lo t,.int hi u,.int 1 v] }).objs.size],_,_,H,rfl,
  I1.kept (t':=tk) fun b o e=>Heap.get?_push_of_some _ e,xE _ lo (hi - lo).toNat,?_,fun b hb=>?_,q⟩
 ·have e1:lo+((0:Nat):Int)*1=lo:=by simp
  have e2:(((hi - lo).toNat:Nat):Int) - ((0:Nat):Int)=Builtin.Range.rangeSize lo hi 1:=by rw[rangeSize_one];split<;>omega
  show IsRangeIter _ _ (lo+((0:Nat):Int)*1) ((((hi - lo).toNat:Nat):Int) - ((0:Nat):Int)) 1
  rw[e1,e2]
  exact Heap.get?_push_size _ rfl
 ·have e:b=(s.heap.push { cls:=.type "range",data:=.fields #[.int lo t,.int hi u,.int 1 v] }).objs.size:=by simpa using hb
  subst e
  exact I1.sr (Nat.le_refl _) (I1.bt.fresh (Nat.le_refl _))
def dX(ta:TA):TI:=fun σ H R=>ta σ H fun vs H1=>∃j:Int,vs=[.int j]∧-(2 ^ 62)≤j∧j<2 ^ 62∧R (C8 0 j.toNat) H1
def nV(ta:TA):TI:=fun σ H R=>ta σ H fun vs H1=>∃i j:Int,vs=[.int i,.int j]∧(-(2 ^ 62)≤i∧i<2 ^ 62∧-(2 ^ 62)≤j∧j<2 ^ 62)∧R (C8 i (j - i).toNat) H1
theorem zh{a:Expr}{ta:TA}{p pos:Pos}(hg:Gl X "range")(hm:X.mg "range" =none)(ha:PA X [a] ta)(hs:starEach [a] X.env=[(false,eval a X.env)]:=by rfl):PI X tg (.Call (.Name "range" p) [a] [] pos) (dX ta):=by
 intro pins s σ H R I h
 refine Call_ (iR I hg hm boot_range (PyProof.Rows.callWith_type1 (bH (ha pos pins s σ H _ I h) fun us s1 bq=>?_) hs rfl))
 obtain⟨vs,H1,I1,r1,q1⟩:=bq
 obtain⟨j,e,q1,q2,q⟩:=q1
 subst e
 cases r1 with
 |cons r rr=>
  cases rr
  obtain⟨t,rfl⟩:=r
  exact call_range_1 (vg I1 (by omega) (by omega) q1 q2 (by simpa using q))
theorem zi{a b:Expr}{ta:TA}{p pos:Pos}(hg:Gl X "range")(hm:X.mg "range" =none)(ha:PA X [a,b] ta)(hs:starEach [a,b] X.env=[(false,eval a X.env),(false,eval b X.env)]:=by rfl)(iI:starEach [b] X.env=[(false,eval b X.env)]:=by rfl):
  PI X tg (.Call (.Name "range" p) [a,b] [] pos) (nV ta):=by
 intro pins s σ H R I h
 refine Call_ (iR I hg hm boot_range (PyProof.Rows.callWith_type1 (bH (ha pos pins s σ H _ I h) fun us s1 bq=>?_) (by rw[hs,iI]) (by rw[iI];rfl)))
 obtain⟨vs,H1,I1,r1,q1⟩:=bq
 obtain⟨i,j,e,⟨q1,q2,q3,q4⟩,q⟩:=q1
 subst e
 cases r1 with
 |cons r rr=>
  cases rr with
  |cons r' rr=>
   cases rr
   obtain⟨t,rfl⟩:=r
   obtain⟨t',rfl⟩:=r'
   exact call_range_2 (vg I1 q1 q2 q3 q4 q)
def Od(wi:TI)(g:TG)(tb:TS):TS:=fun D σ H=>wi σ H fun J H1=>∃W:Nat→Nat→St→Hp→Prop,(∃m,W 0 m σ H1)∧∀i m σ H,W i m σ H→
 (J.stop i H∧D.nx σ H)∨(J.go i H∧∃N:St→Hp→Prop,(∀σ' H',N σ' H'→∃m',m'<m∧W (i+1) m' σ' H')∧∀x H',J.BK i H x H'→g x σ H' fun vZ H2=>tb { D with nx:=N,ct:=N,bk:=D.nx } vZ H2)
def oT(fp:List Addr)(h:Heap):List (Addr×Obj):=fp.filterMap fun b=>(h.get? b).map fun o=>(b,o)
theorem jG{fp:List Addr}{h:Heap}{b:Addr}{o:Obj}(hb:b∈fp)(e:h.get? b=some o):(b,o)∈oT fp h:=List.mem_filterMap.mpr ⟨b,hb,by rw[e];rfl⟩
theorem zj{fp:List Addr}{h:Heap}{p:Addr×Obj}(hp:p∈oT fp h):p.1∈fp∧h.get? p.1=some p.2:=by
 obtain⟨b,hb,e⟩:=List.mem_filterMap.mp hp
 cases q:h.get? b with
 |none=>rw[q]at e;cases e
 |some o=>
  rw[q]at e
  have e':(b,o)=p:=Option.some.inj e
  subst e'
  exact⟨hb,q⟩
theorem Inv.pinned{pins:List (Addr×Obj)}{σ:St}{H:Hp}{s:Shared}{fp:List Addr}(I:Inv X pins σ H s)(hf:∀b∈fp,iz X pins H b)(ho:∀b∈fp,∃o,s.heap.get? b=some o∧∀v,o.data≠.cell v):Inv X (pins++oT fp s.heap) σ H s:=
 I.xy fun p hp=>(List.mem_append.mp hp).elim (fun z=>I.pin p (List.mem_append_right _ z)) fun z=>by
  obtain⟨hb,e⟩:=zj z
  obtain⟨f0,f1,f2,_⟩:=hf p.1 hb
  obtain⟨o,e',d⟩:=ho p.1 hb
  rw[e]at e';cases e'
  exact⟨e,f0,f1,f2,d⟩
theorem Inv.m_{pins pl:List (Addr×Obj)}{σ:St}{H:Hp}{s:Shared}(I:Inv X (pins++pl) σ H s):Inv X pins σ H s:=I.xy fun p hp=>I.pin p (List.mem_append_right _ (List.mem_append_left _ hp))
theorem Gu{iter:Expr}{body:List Stmt}{wi:TI}{g:TG}{tb:TS}{pos:Pos}(hp:PassesOwn (model X.prog X.w) X.A X.env X.xe)(hc:X.calm=true)(hi:PI X tg iter wi)(hg:PG X tg g)(hb:mm X body tb)
  (hs:∀x,foldedSetIterable iter X.env x=pure x:=by intro _;rfl):PS X (.For tg iter body [] pos) (Od wi g tb):=by
 intro pins s σ H D I h
 refine wpAny_For (bH (hi pins s σ H _ I h) fun v s1 h1=>bH h1 fun JZ s2 h2=>?_) hs
 obtain⟨it,fp,tn,J,H2,e,I2,T,oU,f2,W,⟨m0,w0⟩,turn⟩:=h2
 subst e
 -- Yf stays true of nE IY objects through nE loop
 have C_:∀{H':Hp},(∀b∈fp,H' b=none)→∀b∈fp,iz X pins H' b:=fun hn b hb=>⟨hn b hb,(f2 b hb).2⟩
 refine codeAny_forLoop_any (fun n s'=>∃i σ' H',Inv X pins σ' H' s'∧tn i s'.heap∧(∀b∈fp,H' b=none)∧W i n σ' H') ?_ m0 ⟨0,σ,H2,I2,oU,fun b hb=>(f2 b hb).1,w0⟩
 rintro n s3 ⟨i,mq,H3,I3,Dc,Oe,w3⟩
 rcases turn i n mq H3 w3 with⟨stop,qn⟩|⟨go,N,hN,step⟩
 ·refine wpAny_passesOwn hp (bH (T.done X rfl rfl rfl hc i pins s3 mq H3 X.xe I3 (C_ Oe) Dc stop) fun r s4 bq=>?_)
  obtain⟨hr,I4⟩:=bq
  subst hr
  exact wpAny_execs_nil ⟨mq,H3,I4,qn⟩
 ·refine wpAny_passesOwn hp (bH (T.item X rfl rfl rfl hc i pins s3 mq H3 X.xe I3 (C_ Oe) Dc go) fun r s4 bq=>?_)
  obtain⟨u,hr,h4⟩:=bq
  subst hr
  refine wpAny_passesOwn hp (bH h4 fun _ s5 bq=>?_)
  obtain⟨x,H5,I5,r5,y5,Dd,Ur⟩:=bq
  have Us:=I5.pinned (C_ Ur) (T.obj _ _ Dd)
  refine wpAny_passesOwn hp (bH (hg _ s5 mq H5 x u _ Us r5 (step x H5 y5)) fun _ s6 bq=>?_)
  obtain⟨Ut,H6,I6,q6⟩:=bq
  refine wpAny_passesOwn hp (bH (hb _ s6 Ut H6 _ I6 q6) fun f s7 q7=>?_)
  have again:∀{su:St}{H7:Hp},Inv X (pins++oT fp s5.heap) su H7 s7→N su H7→∃m,m<n∧∃i σ' H',Inv X pins σ' H' s7∧tn i s7.heap∧(∀b∈fp,H' b=none)∧W i m σ' H':=fun {su H7} I7 n7=>by
   obtain⟨m',hm,w7⟩:=hN su H7 n7
   refine⟨m',hm,i+1,su,H7,I7.m_,T.keep _ _ _ Dd fun b hb o e=>(I7.pin (b,o) (List.mem_append_right _ (List.mem_append_right _ (jG hb e)))).1,fun b hb=>?_,w7⟩
   obtain⟨o,e,d⟩:=T.obj _ _ Dd b hb
   exact(I7.pin (b,o) (List.mem_append_right _ (List.mem_append_right _ (jG hb e)))).2.1
  cases f with
  |next=>obtain⟨su,H7,I7,n7⟩:=q7;exact again I7 n7
  |cont=>obtain⟨su,H7,I7,n7⟩:=q7;exact again I7 n7
  |brk=>obtain⟨su,H7,I7,q7⟩:=q7;exact⟨su,H7,I7.m_,q7⟩
  |ret v=>obtain⟨x7,su,H7,I7,r7,q7⟩:=q7;exact⟨x7,su,H7,I7.m_,r7,q7⟩
end
end L2
namespace L2
open PySem PySem.Spec PyProof.Rows
abbrev R2:=V→V→Hp→VK→Prop
def dr(X:Cx)(f:Value→Value→Sem Value)(r:R2):Prop:=
 ∀(pins:List (Addr×Obj)) (s:Shared) (σ:St) (H:Hp) (x y:V) (v u:Value) (Q:VK),Inv X pins σ H s→RelV x v→RelV y u→r x y H Q→
  wpAny (model X.prog X.w) X.A (f v u) (EP X pins σ Q) X.xe s
def J_(X:Cx)(f:Value→Sem Value)(r:V→Hp→VK→Prop):Prop:=
 ∀(pins:List (Addr×Obj)) (s:Shared) (σ:St) (H:Hp) (x:V) (v:Value) (Q:VK),Inv X pins σ H s→RelV x v→r x H Q→
  wpAny (model X.prog X.w) X.A (f v) (EP X pins σ Q) X.xe s
def gy(X:Cx)(f:Value)(r:List V→Hp→VK→Prop):Prop:=
 ∀(pins:List (Addr×Obj)) (s:Shared) (σ:St) (H:Hp) (xs:List V) (us:List Value) (Q:VK),Inv X pins σ H s→Vals xs us→r xs H Q→
  wpAny (model X.prog X.w) X.A (call f us) (EP X pins σ Q) X.xe s
def Of(X:Cx)(r:V→Hp→(Bool→Hp→Prop)→Prop):Prop:=
 ∀(pins:List (Addr×Obj)) (s:Shared) (σ:St) (H:Hp) (x:V) (v:Value) (Q:Bool→Hp→Prop),Inv X pins σ H s→RelV x v→r x H Q→
  wpAny (model X.prog X.w) X.A (truthy v) (TP X pins σ Q) X.xe s
def Df(r:R2)(ta tb:TE):TE:=fun σ H Q=>ta σ H fun x H1=>tb σ H1 fun y H2=>r x y H2 Q
def Uu(r:V→Hp→VK→Prop)(ta:TE):TE:=fun σ H Q=>ta σ H fun x H1=>r x H1 Q
def rI(C:Int→Int→Prop)(g:Int→Int→V):R2:=fun x y H Q=>∃i j,x= .int i∧y= .int j∧C i j∧Q (g i j) H
def nF(g:Int→Int→V):R2:=fun x y H Q=>∃i j,x= .int i∧y= .int j∧Q (g i j) H
def rU(g:Int→V):V→Hp→VK→Prop:=fun x H Q=>∃i,x= .int i∧Q (g i) H
section
variable{X:Cx}{a b c:Expr}{ta tb tc:TE}{pos:Pos}
theorem Dg(ha:PE X a ta)(hb:PE X b tb){pins:List (Addr×Obj)}{s:Shared}{σ:St}{H:Hp}{R:V→V→Hp→Prop}(I:Inv X pins σ H s)
  (h:ta σ H fun x H1=>tb σ H1 fun y H2=>R x y H2){Q:Value→Shared→Prop}{f:Value→Value→Sem Value}
  (hf:∀v u s2 x y H2,Inv X pins σ H2 s2→RelV x v→RelV y u→R x y H2→wpAny (model X.prog X.w) X.A (f v u) Q X.xe s2):
  wpAny (model X.prog X.w) X.A (eval a X.env) (fun v bB=>wpAny (model X.prog X.w) X.A (eval b X.env) (fun u kA=>wpAny (model X.prog X.w) X.A (f v u) Q X.xe kA) X.xe bB) X.xe s:=by
 refine bH (ha pins s σ H _ I h) fun v s1 bq=>?_
 obtain⟨x,H1,I1,r1,q1⟩:=bq
 refine bH (hb pins s1 σ H1 _ I1 q1) fun u s2 bq=>?_
 obtain⟨y,H2,I2,r2,q2⟩:=bq
 exact hf v u s2 x y H2 I2 r1 r2 q2
theorem Ka{op:Operator}{r:R2}(ho:dr X (binaryOp op) r)(ha:PE X a ta)(hb:PE X b tb):PE X (.BinOp a op b pos) (Df r ta tb):=by
 intro pins s σ H Q I h
 exact wpAny_BinOp (Dg ha hb I h fun v u s2 x y H2 I2 rx ry q=>ho pins s2 σ H2 x y v u Q I2 rx ry q)
theorem Kb{op:UnaryOp}{r:V→Hp→VK→Prop}(ho:J_ X (unaryOp op) r)(ha:PE X a ta):PE X (.UnaryOp op a pos) (Uu r ta):=by
 intro pins s σ H Q I h
 exact UnaryOp_ (bH (ha pins s σ H _ I h) fun v s1 ⟨x,H1,I1,r1,q1⟩=>ho pins s1 σ H1 x v Q I1 r1 q1)
theorem Dh{f:Value→Value→Sem Value}{C:Int→Int→Prop}{g:Int→Int→Int}
  (rule:∀(i j:Int) (t u:Tok) (s:Shared) (Q:Value→Shared→Prop) (E:Value→Shared→Prop),C i j→Q (.int (g i j) s.toks) { s with toks:=s.toks+1 }→wpAny (model X.prog X.w) X.A (f (.int i t) (.int j u)) Q E s):
  dr X f (rI C fun i j=>.int (g i j)):=by
 intro pins s σ H x y v u Q I rx ry h
 obtain⟨i,j,rfl,rfl,hc,q⟩:=h
 obtain⟨t,rfl⟩:=rx
 obtain⟨t',rfl⟩:=ry
 exact rule i j t t' s _ _ hc ⟨.int (g i j),H,I.tok _,⟨_,rfl⟩,q⟩
theorem IZ{f:Value→Value→Sem Value}{g:Int→Int→Int}
  (rule:∀(i j:Int) (t u:Tok) (s:Shared) (Q:Value→Shared→Prop) (E:Value→Shared→Prop),Q (.int (g i j) s.toks) { s with toks:=s.toks+1 }→wpAny (model X.prog X.w) X.A (f (.int i t) (.int j u)) Q E s):
  dr X f (nF fun i j=>.int (g i j)):=by
 intro pins s σ H x y v u Q I rx ry h
 obtain⟨i,j,rfl,rfl,q⟩:=h
 obtain⟨t,rfl⟩:=rx
 obtain⟨t',rfl⟩:=ry
 exact rule i j t t' s _ _ ⟨.int (g i j),H,I.tok _,⟨_,rfl⟩,q⟩
theorem AJ{f:Value→Value→Sem Value}{g:Int→Int→Bool}
  (rule:∀(i j:Int) (t u:Tok) (s:Shared) (Q:Value→Shared→Prop) (E:Value→Shared→Prop),Q (.bool (g i j)) s→wpAny (model X.prog X.w) X.A (f (.int i t) (.int j u)) Q E s):
  dr X f (nF fun i j=>.bl (g i j)):=by
 intro pins s σ H x y v u Q I rx ry h
 obtain⟨i,j,rfl,rfl,q⟩:=h
 obtain⟨t,rfl⟩:=rx
 obtain⟨t',rfl⟩:=ry
 exact rule i j t t' s _ _ ⟨.bl (g i j),H,I,rfl,q⟩
def I8(i j:Int):Prop:=0≤j∧j≤1000000∧i.natAbs<2 ^ 64
theorem Gv:dr X (binaryOp .Add) (nF fun i j=>.int (i+j)):=IZ fun _ _ _ _ _ _ _ q=>add_int q
theorem oV:dr X (binaryOp .Sub) (nF fun i j=>.int (i - j)):=IZ fun _ _ _ _ _ _ _ q=>sub_int q
theorem eK:dr X (binaryOp .Mod) (rI (fun _ j=>j≠0) fun i j=>.int (i.fmod j)):=Dh fun _ _ _ _ _ _ _ hc q=>mod_int' hc q
theorem AK:dr X (binaryOp .Pow) (rI I8 fun i j=>.int (i ^ j.toNat)):=Dh fun _ _ _ _ _ _ _ hc q=>pow_int_small hc.1 hc.2.1 hc.2.2 q
theorem Uv{f:Value→Sem Value}{g:Int→Int}
  (rule:∀(i:Int) (t:Tok) (s:Shared) (Q:Value→Shared→Prop) (E:Value→Shared→Prop),Q (.int (g i) s.toks) { s with toks:=s.toks+1 }→wpAny (model X.prog X.w) X.A (f (.int i t)) Q E s):
  J_ X f (rU fun i=>.int (g i)):=by
 intro pins s σ H x v Q I rx h
 obtain⟨i,rfl,q⟩:=h
 obtain⟨t,rfl⟩:=rx
 exact rule i t s _ _ ⟨.int (g i),H,I.tok _,⟨_,rfl⟩,q⟩
theorem Gw:J_ X (unaryOp .USub) (rU fun i=>.int (-i)):=Uv fun _ _ _ _ _ q=>neg_int q
end
def I9:V→V→Bool
 |.bf,.bf=>true|.bf,.int _=>true|.int _,.bf=>true|.bf,.bl _=>true|.bl _,.bf=>true|.bf,.str _=>true|.str _,.bf=>true
 |.int _,.int _=>true|.bl _,.bl _=>true|.str _,.str _=>true|.qj _,.qj _=>true
 |.int _,.str _=>true|.str _,.int _=>true|.bl _,.str _=>true|.str _,.bl _=>true
 |_,_=>false
def Gx:R2:=fun x y H Q=>I9 x y=true∧Q (.bl (decide (x=y))) H
def Kc:R2:=fun x y H Q=>I9 x y=true∧Q (.bl (!decide (x=y))) H
theorem xF{i j:Int}:decide (V.int i=V.int j)=(i==j):=by
 rw[Bool.eq_iff_iff]
 simp
theorem rP{i j:Bool}:decide (V.bl i=V.bl j)=(i==j):=by
 rw[Bool.eq_iff_iff]
 simp
theorem xG{i j:Str}:decide (V.str i=V.str j)=(i==j):=by
 rw[Bool.eq_iff_iff]
 simp
theorem xH{i j:Array UInt8}:decide (V.qj i=V.qj j)=(i.toList==j.toList):=by
 rw[Bool.eq_iff_iff]
 cases i
 cases j
 simp
section
variable{X:Cx}{a b c:Expr}{ta tb tc:TE}{pos:Pos}
theorem bA{pins:List (Addr×Obj)}{σ:St}{H:Hp}{s:Shared}{Q:VK}{k k':Bool}(I:Inv X pins σ H s)(q:Q (.bl k) H)(e:k=k'):EP X pins σ Q (.bool k') s:=by
 subst e
 exact⟨.bl k,H,I,rfl,q⟩
theorem Kd:dr X (compareOp .Eq) Gx:=by
 intro pins s σ H x y v u Q I rx ry h
 obtain⟨hs,q⟩:=h
 cases x with
 |bf=>
  cases rx
  cases y with
  |bf=>cases ry;exact PySem.EqNone.eq_none_none (bA I q (by simp))
  |bl j=>cases ry;exact PySem.EqNone.eq_none_bool (bA I q (by simp))
  |int j=>obtain⟨t',rfl⟩:=ry;exact PySem.EqNone.eq_none_int (bA I q (by simp))
  |str j=>obtain⟨t',rfl⟩:=ry;exact PySem.EqNone.eq_none_str (bA I q (by simp))
  |_=>exact absurd (show false=true from hs) Bool.false_ne_true
 |bl i=>
  cases rx
  cases y with
  |bf=>cases ry;exact PySem.EqNone.eq_bool_none (bA I q (by simp))
  |bl j=>cases ry;exact eq_bool (bA I q rP)
  |str j=>obtain⟨t',rfl⟩:=ry;exact PySem.EqMixed.eq_bool_str (bA I q (by simp))
  |_=>exact absurd (show false=true from hs) Bool.false_ne_true
 |int i=>
  obtain⟨t,rfl⟩:=rx
  cases y with
  |bf=>cases ry;exact PySem.EqNone.eq_int_none (bA I q (by simp))
  |int j=>obtain⟨t',rfl⟩:=ry;exact eq_int (bA I q xF)
  |str j=>obtain⟨t',rfl⟩:=ry;exact PySem.EqMixed.eq_int_str (bA I q (by simp))
  |_=>exact absurd (show false=true from hs) Bool.false_ne_true
 |str i=>
  obtain⟨t,rfl⟩:=rx
  cases y with
  |bf=>cases ry;exact PySem.EqNone.eq_str_none (bA I q (by simp))
  |bl j=>cases ry;exact PySem.EqMixed.eq_str_bool (bA I q (by simp))
  |int j=>obtain⟨t',rfl⟩:=ry;exact PySem.EqMixed.eq_str_int (bA I q (by simp))
  |str j=>obtain⟨t',rfl⟩:=ry;exact eq_str (bA I q xG)
  |_=>exact absurd (show false=true from hs) Bool.false_ne_true
 |qj i=>
  obtain⟨t,rfl⟩:=rx
  cases y with
  |qj j=>obtain⟨t',rfl⟩:=ry;exact PySem.W.eq_bytes (bA I q xH)
  |_=>exact absurd (show false=true from hs) Bool.false_ne_true
 |_=>cases y<;>exact absurd (show false=true from hs) Bool.false_ne_true
theorem Ke:dr X (compareOp .NotEq) Kc:=by
 intro pins s σ H x y v u Q I rx ry h
 obtain⟨hs,q⟩:=h
 cases x with
 |bf=>
  cases rx
  cases y with
  |bf=>cases ry;exact PySem.EqNone.ne_none_none (bA I q (by simp))
  |bl j=>cases ry;exact PySem.EqNone.ne_none_bool (bA I q (by simp))
  |int j=>obtain⟨t',rfl⟩:=ry;exact PySem.EqNone.ne_none_int (bA I q (by simp))
  |str j=>obtain⟨t',rfl⟩:=ry;exact PySem.EqNone.ne_none_str (bA I q (by simp))
  |_=>exact absurd (show false=true from hs) Bool.false_ne_true
 |bl i=>
  cases rx
  cases y with
  |bf=>cases ry;exact PySem.EqNone.ne_bool_none (bA I q (by simp))
  |bl j=>cases ry;exact ne_bool (bA I q (congrArg not rP))
  |str j=>obtain⟨t',rfl⟩:=ry;exact PySem.EqMixed.ne_bool_str (bA I q (by simp))
  |_=>exact absurd (show false=true from hs) Bool.false_ne_true
 |int i=>
  obtain⟨t,rfl⟩:=rx
  cases y with
  |bf=>cases ry;exact PySem.EqNone.ne_int_none (bA I q (by simp))
  |int j=>obtain⟨t',rfl⟩:=ry;exact ne_int (bA I q (congrArg not xF))
  |str j=>obtain⟨t',rfl⟩:=ry;exact PySem.EqMixed.ne_int_str (bA I q (by simp))
  |_=>exact absurd (show false=true from hs) Bool.false_ne_true
 |str i=>
  obtain⟨t,rfl⟩:=rx
  cases y with
  |bf=>cases ry;exact PySem.EqNone.ne_str_none (bA I q (by simp))
  |bl j=>cases ry;exact PySem.EqMixed.ne_str_bool (bA I q (by simp))
  |int j=>obtain⟨t',rfl⟩:=ry;exact PySem.EqMixed.ne_str_int (bA I q (by simp))
  |str j=>obtain⟨t',rfl⟩:=ry;exact ne_str (bA I q (congrArg not xG))
  |_=>exact absurd (show false=true from hs) Bool.false_ne_true
 |qj i=>
  obtain⟨t,rfl⟩:=rx
  cases y with
  |qj j=>obtain⟨t',rfl⟩:=ry;exact PySem.W.ne_bytes (bA I q (congrArg not xH))
  |_=>exact absurd (show false=true from hs) Bool.false_ne_true
 |_=>cases y<;>exact absurd (show false=true from hs) Bool.false_ne_true
theorem kP:dr X (compareOp .Lt) (nF fun i j=>.bl (decide (i<j))):=AJ fun _ _ _ _ _ _ _ q=>lt_int q
theorem Di:dr X (compareOp .LtE) (nF fun i j=>.bl (decide (i≤j))):=AJ fun _ _ _ _ _ _ _ q=>le_int q
theorem zk:dr X (compareOp .Gt) (nF fun i j=>.bl (decide (j<i))):=AJ fun _ _ _ _ _ _ _ q=>gt_int q
theorem Kf:dr X (compareOp .GtE) (nF fun i j=>.bl (decide (j≤i))):=AJ fun _ _ _ _ _ _ _ q=>ge_int q
theorem zm:dr X (compareOp .In) (fun x y H Q=>∃i j,x= .str i∧y= .str j∧Q (.bl (!(Builtin.Str.occurrences j i 0 j.length 1).isEmpty)) H):=by
 intro pins s σ H x y v u Q I rx ry h
 obtain⟨i,j,rfl,rfl,q⟩:=h
 obtain⟨t,rfl⟩:=rx
 obtain⟨t',rfl⟩:=ry
 exact in_str (bA I q rfl)
theorem oW:dr X (compareOp .Is) (fun x y H Q=>y= .bf∧Q (.bl (decide (x= .bf))) H):=by
 intro pins s σ H x y v u Q I rx ry h
 obtain⟨rfl,q⟩:=h
 cases ry
 refine is_none_gen (bA I q ?_)
 cases x<;>first
  |(cases rx;rfl)
  |(obtain⟨t,rfl⟩:=rx;rfl)
theorem dr.or{f:Value→Value→Sem Value}{r r':R2}(h:dr X f r)(h':dr X f r'):dr X f (fun x y H Q=>r x y H Q∨r' x y H Q):=by
 intro pins s σ H x y v u Q I rx ry q
 rcases q with q|q
 ·exact h pins s σ H x y v u Q I rx ry q
 ·exact h' pins s σ H x y v u Q I rx ry q
theorem aH(b:Expr){op:CmpOp}(h:op≠.In:=by decide)(h2:op≠.NotIn:=by decide):behindInMarks op b=false:=by
 have e1:(op==CmpOp.In)=false:=by cases op<;>first|rfl|exact absurd rfl h
 have e2:(op==CmpOp.NotIn)=false:=by cases op<;>first|rfl|exact absurd rfl h2
 cases b<;>simp[behindInMarks,e1,e2]
theorem xI{op:CmpOp}{r:R2}(ho:dr X (compareOp op) r)(ha:PE X a ta)(hb:PE X b tb)(hm:behindInMarks op b=false):PE X (.Compare a [op] [b] pos) (Df r ta tb):=by
 intro pins s σ H Q I h
 exact wpAny_Compare1 (Dg ha hb I h fun v u s2 x y H2 I2 rx ry q=>ho pins s2 σ H2 x y v u Q I2 rx ry q) hm
def Kg(t:TE):TT:=fun σ H Q=>t σ H fun x H'=>∃k,x= .bl k∧Q k H'
theorem Dj{op:CmpOp}{r:R2}(ho:dr X (compareOp op) r)(ha:PE X a ta)(hb:PE X b tb)(hm:behindInMarks op b=false):PT X (.Compare a [op] [b] pos) (Kg (Df r ta tb)):=by
 intro pins s σ H Q I h
 refine wpAny_isTrue_Compare1 (bH (ha pins s σ H _ I h) fun v s1 ⟨x,H1,I1,r1,q1⟩=>bH (hb pins s1 σ H1 _ I1 q1) fun u s2 ⟨y,H2,I2,r2,q2⟩=>
  bH (ho pins s2 σ H2 x y v u _ I2 r1 r2 q2) fun c s3 ⟨z,H3,I3,r3,k,e,q3⟩=>?_) hm
 subst e
 cases r3
 exact wpAny_truthy_bool ⟨H3,I3,q3⟩
def AL(r r':R2)(ta tb tc:TE):TE:=fun σ H Q=>ta σ H fun x H1=>tb σ H1 fun y H2=>r x y H2 fun z H3=>∃k,z= .bl k∧
 (if k=true then tc σ H3 fun w' H4=>r' y w' H4 Q else Q (.bl false) H3)
theorem BL{op zo:CmpOp}{r r':R2}(ho:dr X (compareOp op) r)(sk:dr X (compareOp zo) r')(ha:PE X a ta)(hb:PE X b tb)(hc:PE X c tc)
  (hm:lastMarks [op,zo] [b,c]=false:=by with_unfolding_all rfl):PE X (.Compare a [op,zo] [b,c] pos) (AL r r' ta tb tc):=by
 intro pins s σ H Q I h
 refine Compare_chain (bH (ha pins s σ H _ I h) fun v s1 ⟨x,H1,I1,r1,q1⟩=>chain_link (bH (hb pins s1 σ H1 _ I1 q1) fun u s2 ⟨y,H2,I2,r2,q2⟩=>
  bH (ho pins s2 σ H2 x y v u _ I2 r1 r2 q2) fun d s3 ⟨z,H3,I3,r3,k,e,q3⟩=>?_)) hm
 subst e
 cases r3
 refine wpAny_truthy_bool ?_
 cases k with
 |false=>exact ite_ff ⟨.bl false,H3,I3,rfl,q3⟩
 |true=>exact ite_tt (chain_last (bH (hc pins s3 σ H3 _ I3 q3) fun w' s4 ⟨z',H4,I4,r4,q4⟩=>sk pins s4 σ H4 y z' u w' Q I4 r2 r4 q4))
def I_(K:PySem.W.Frag)(x:V)(H:Hp)(k:Bool):Prop:=
 match x with
 |.bf=>k=false
 |.bl b=>k=b
 |.int i=>k=(i != 0)
 |.str y=>y.length≤sizeLine∧k=((y.length:Int) != 0)
 |.qj y=>y.size≤sizeLine∧k=((y.size:Int) != 0)
 |.ref p=>(∃xs,cb K H p xs∧k= !xs.isEmpty)∨(∃xs,dc K H p xs∧k= !xs.isEmpty)∨∃aG,H p=some (.dK aG)∧k= !aG.isEmpty
 |_=>False
theorem xJ{κ:Type}{aG:List (κ×V)}{vs:List (κ×Value)}(r:KV aG vs):(!vs.isEmpty)= !aG.isEmpty:=by
 cases r<;>rfl
theorem qU{xs:List V}{its:List Value}(r:Vals xs its):(!its.toArray.isEmpty)= !xs.isEmpty:=by
 cases r<;>simp
theorem kQ:(sizeLine:Nat)<2 ^ 63:=by rw[sizeLine_eq];decide
theorem Gy:Of X (fun x H Q=>∃k,I_ X.K x H k∧Q k H):=by
 intro pins s σ H x v Q I rx h
 obtain⟨k,e,q⟩:=h
 have hl:=kQ
 have hs:sizeLine=16777216:=sizeLine_eq
 cases x with
 |bf=>
  cases rx
  have e':k=false:=e
  subst e'
  exact truthy_none ⟨H,I,q⟩
 |bl b=>
  cases rx
  have e':k=b:=e
  subst e'
  exact wpAny_truthy_bool ⟨H,I,q⟩
 |int i=>
  obtain⟨t,rfl⟩:=rx
  have e':k=(i != 0):=e
  subst e'
  exact PySem.P.truthy_int ⟨H,I,q⟩
 |str y=>
  obtain⟨t,rfl⟩:=rx
  obtain⟨hy,e'⟩:y.length≤sizeLine∧k=((y.length:Int) != 0):=e
  subst e'
  exact PySem.P.truthy_str (by omega) ⟨H,I.tok _,q⟩
 |qj y=>
  obtain⟨t,rfl⟩:=rx
  obtain⟨hy,e'⟩:y.size≤sizeLine∧k=((y.size:Int) != 0):=e
  subst e'
  exact PySem.W.truthy_bytes (by omega) ⟨H,I.tok _,q⟩
 |ref p=>
  cases rx
  have e':(∃xs,cb X.K H p xs∧k= !xs.isEmpty)∨(∃xs,dc X.K H p xs∧k= !xs.isEmpty)∨∃aG,H p=some (.dK aG)∧k= !aG.isEmpty:=e
  rcases e' with⟨xs,hx,e'⟩|⟨xs,hx,e'⟩|⟨aG,hx,e'⟩
  ·subst e'
   obtain⟨its,r,pl,hz⟩:=I.list hx
   have hlen:=r.length
   exact wpAny_truthy_list pl.isList (by simp only[List.size_toArray];omega) ⟨H,I.tok _,by rw[qU r];exact q⟩
  ·subst e'
   obtain⟨its,r,pl,hz⟩:=I.tuple hx
   have hlen:=r.length
   exact truthy_tuple pl (by simp only[List.size_toArray];omega) ⟨H,I.tok _,by rw[qU r];exact q⟩
  ·subst e'
   obtain⟨hz,hS,vs,r,m⟩:aG.length≤sizeLine∧(p==sysModules)=false∧∃vs,KV aG vs∧s.heap.DictOf (cT X.prog X.w) p vs:=I.bt p _ hx
   have hlen:aG.length=vs.length:=Paired.length r
   exact wpAny_truthy_dict hS m (by omega) ⟨H,I.tok _,by rw[xJ r];exact q⟩
 |_=>exact(show False from e).elim
theorem BM(ha:PE X a ta)(he:∀whole,isTrue a X.env whole=(do let v ←whole;standAt a.pos;holding [v] (truthy v))):
  PT X a (fun σ H Q=>ta σ H fun x H'=>∃k,I_ X.K x H' k∧Q k H'):=by
 intro pins s σ H Q I h
 exact isTrue_plain (bH (ha pins s σ H _ I h) fun v s1 ⟨x,H1,I1,r1,q1⟩=>Gy pins s1 σ H1 x v Q I1 r1 q1) (he _)
theorem cX:dr X (binaryOp .Add) (fun x y H Q=>∃i j,x= .str i∧y= .str j∧i.length+j.length≤sizeLine∧Q (.str (i++j)) H):=by
 intro pins s σ H x y v u Q I rx ry h
 obtain⟨i,j,rfl,rfl,hz,q⟩:=h
 obtain⟨t,rfl⟩:=rx
 obtain⟨t',rfl⟩:=ry
 exact add_str (fun t' tk=>⟨.str (i++j),H,I.tok _,⟨_,rfl⟩,q⟩) hz
theorem vals1{x:V}{us:List Value}(r:Vals [x] us):∃u,us=[u]∧RelV x u:=by
 cases r with
 |cons r1 r2=>cases r2;exact⟨_,rfl,r1⟩
theorem vals2{x y:V}{us:List Value}(r:Vals [x,y] us):∃u w',us=[u,w']∧RelV x u∧RelV y w':=by
 cases r with
 |cons r1 r2=>
  cases r2 with
  |cons r3 r4=>cases r4;exact⟨_,_,rfl,r1,r3⟩
theorem ng:gy X (.builtin "abs") (fun xs H Q=>∃i,xs=[.int i]∧Q (.int (if i<0 then -i else i)) H):=by
 intro pins s σ H xs us Q I r h
 obtain⟨i,rfl,q⟩:=h
 obtain⟨u,rfl,t,rfl⟩:=vals1 r
 exact call_abs_int fun u tk=>⟨.int (if i<0 then -i else i),H,I.tok _,⟨_,rfl⟩,q⟩
theorem zp(hc:X.calm=true):gy X (.builtin "min") (fun xs H Q=>∃i j,xs=[.int i,.int j]∧Q (.int (if j<i then j else i)) H):=by
 intro pins s σ H xs us Q I r h
 obtain⟨i,j,rfl,q⟩:=h
 obtain⟨u,w',rfl,⟨t,rfl⟩,⟨t',rfl⟩⟩:=vals2 r
 refine min_two_ints (I.ok.hd hc) fun h' tk k=>⟨_,H,I.kept k,?_,q⟩
 by_cases hj:j<i
 ·rw[if_pos hj,if_pos hj];exact⟨_,rfl⟩
 ·rw[if_neg hj,if_neg hj];exact⟨_,rfl⟩
theorem nW:gy X (.type "int") (fun xs H Q=>(∃i,xs=[.int i]∧Q (.int i) H)∨∃k,xs=[.bl k]∧Q (.int (if k then 1 else 0)) H):=by
 intro pins s σ H xs us Q I r h
 rcases h with⟨i,rfl,q⟩|⟨k,rfl,q⟩
 ·obtain⟨u,rfl,t,rfl⟩:=vals1 r
  exact call_int_int ⟨.int i,H,I,⟨_,rfl⟩,q⟩
 ·obtain⟨u,rfl,r1⟩:=vals1 r
  cases r1
  exact call_int_bool ⟨.int (if k then 1 else 0),H,I.tok _,⟨_,rfl⟩,q⟩
theorem ic:gy X (.type "str") (fun xs H Q=>∃i,xs=[.int i]∧i.natAbs.log2<1920∧Q (.str (toString i)) H):=by
 intro pins s σ H xs us Q I r h
 obtain⟨i,rfl,hz,q⟩:=h
 obtain⟨u,rfl,t,rfl⟩:=vals1 r
 exact PySem.P.str_of_int hz ⟨.str _,H,I.tok _,⟨_,rfl⟩,q⟩
end
end L2
namespace L2
open PySem PySem.Spec PyProof.Rows
section
variable{prog:Program}{w:World}{A:Around}{E:Value→Shared→Prop}{s:Shared}{K:PySem.W.Frag}{x dx C f:Addr}{mA:Str→Option Value}{name:Str}{v:Value}
end
theorem qS.some_of{v:V}{o:Option Value}(r:qS (some v) o):∃u,o=some u∧RelV v u:=by
 cases o with
 |none=>exact(show False from r).elim
 |some u=>exact⟨u,rfl,r⟩
section
variable{P:Program}{w:World}{H H':Hp}{h h':Heap}{a C dx:Addr}{fs Um:List (Str×V)}
end
section
variable{X:Cx}{pins:List (Addr×Obj)}{σ:St}{H:Hp}{s:Shared}{a C dx:Addr}{fs:List (Str×V)}{f:Str}{v:V}{A:Around}{E:Value→Shared→Prop}
end
section
variable{X:Cx}{o e value:Expr}{f:Str}{pos pos' Og:Pos}{ta tv:TE}
end
section
variable{X:Cx}{pins:List (Addr×Obj)}{σ:St}{H:Hp}{s:Shared}{A:Around}{E:Value→Shared→Prop}{Q:Value→Shared→Prop}{c:Value}{b:Bool}
end
end L2
namespace L2
open PySem PySem.Spec PyProof.Rows
structure fy(k:Nat)(A:Around):Prop where
 hd:A.handled=none
 dp:A.depth+3*k+5<recursionLimit
 un:A.units+16*k+200<cLine
theorem fy.mono{j k:Nat}{A:Around}(r:fy k A)(h:j≤k):fy j A:=⟨r.hd,by have:=r.dp;omega,by have:=r.un;omega⟩
theorem fy.deeper{k:Nat}{A:Around}(r:fy (k+1) A)(env:Env):fy k (A.deeper env):=
 ⟨r.hd,by have:=r.dp;show A.depth+1+3*k+5<_;omega,by have:=r.un;show A.units+3+16*k+200<_;omega⟩
theorem fy.depth{k:Nat}{A:Around}(r:fy k A):A.depth<recursionLimit:=by have:=r.dp;omega
theorem fy.units{k:Nat}{A:Around}(r:fy k A):A.units+64<cLine:=by have:=r.un;omega
def Oh:TA:=fun _ H Q=>Q [] H
def Kh(ta:TE)(tr:TA):TA:=fun σ H Q=>ta σ H fun x H1=>tr σ H1 fun xs H2=>Q (x::xs) H2
section
variable{X:Cx}{e:Expr}{es:List Expr}{te:TE}{t:TA}{pos:Pos}
theorem AM:PA X [] Oh:=fun _ _ _ _ H Q I h=>Calls.spliced_nil ⟨[],H,I,.nil,h⟩
theorem xK(ha:PE X e te)(hr:PA X es t)(hs:starEach (e::es) X.env=(false,eval e X.env)::starEach es X.env:=by rfl):PA X (e::es) (Kh te t):=by
 intro pos pins s σ H Q I h
 rw[hs]
 show wpAny _ _ (spliced ((false,eval e X.env)::backTo pos (starEach es X.env))) _ _ s
 refine Calls.spliced_cons (bH (ha pins s σ H _ I h) fun u s1 bq=>?_)
 obtain⟨x,H1,I1,r1,q1⟩:=bq
 exact bH (hr pos pins s1 σ H1 _ I1 q1) fun us s2 ⟨xs,H2,I2,r2,q2⟩=>⟨x::xs,H2,I2,.cons r1 r2,q2⟩
def Oi(t:TA):TE:=fun σ H Q=>t σ H fun xs H1=>xs.length≤sizeLine∧∀p,H1 p=none→Q (.ref p) (upd H1 p (.tup xs))
def Oj(t:TA):TE:=fun σ H Q=>t σ H fun xs H1=>xs.length≤sizeLine∧∀p,H1 p=none→Q (.ref p) (upd H1 p (.lst xs))
theorem Gz{x1}(h:PA X es t):PE X (.Tuple es x1 pos) (Oi t):=by
 intro pins s σ H Q I hq
 refine wpAny_Tuple_spliced (bH (h pos pins s σ H _ I hq) fun us s1 ⟨xs,H1,I1,r,z,q⟩=>⟨by rw[←r.length];exact z,?_⟩)
 have hf:H1 s1.heap.objs.size=none:=I1.bt.fresh (Nat.le_refl _)
 refine⟨.ref s1.heap.objs.size,upd H1 s1.heap.objs.size (.tup xs),I1.laid (t':=s1.toks) (fun b u e=>Heap.get?_push_of_some _ e) (Nat.le_refl _) ?_,rfl,q _ hf⟩
 exact⟨z,us,r,⟨_,Heap.get?_push_size _ rfl,rfl,_,rfl⟩⟩
theorem GA(h:PA X es t):PE X (.List es pos) (Oj t):=by
 intro pins s σ H Q I hq
 refine wpAny_List_spliced (bH (h pos pins s σ H _ I hq) fun us s1 ⟨xs,H1,I1,r,z,q⟩=>⟨by rw[←r.length];exact z,?_⟩)
 have hf:H1 s1.heap.objs.size=none:=I1.bt.fresh (Nat.le_refl _)
 refine⟨.ref s1.heap.objs.size,upd H1 s1.heap.objs.size (.lst xs),I1.laid (t':=s1.toks) (fun b u e=>Heap.get?_push_of_some _ e) (Nat.le_refl _) ?_,rfl,q _ hf⟩
 exact⟨z,us,0,r,Heap.get?_push_size _ rfl⟩
end
abbrev Sp:=List V→Hp→VK→XK→Prop
abbrev sv:=List Env→Hp→Shared→XK→Value→Shared→Prop
structure AN(P:Program)(w:World)(K:PySem.W.Frag)(mg:Str→Option Value)(base:Heap)(A:Around)(outer:List Env)(s:Shared)(H:Hp):Prop where
 frames:A.frames=some outer
 mod:Mod K mg base
 bs:∀b o,base.get? b=some o→s.heap.get? b=some o∧H b=none
 xr:base.objs.size≤s.heap.objs.size
 mr:s.heap.FunFrames base outer
 BB:∀b∈si outer,H b=none
 bt:gx P w H s.heap
 bare:AllBare s.gens
def CE(outer:List Env)(P:Program)(w:World)(H:Hp)(s:Shared)(Q:VK)(u:Value)(s':Shared):Prop:=
 ∃v H',s'.os=s.os∧AllBare s'.gens∧Un (si outer) [] H H' s.heap s'.heap∧gx P w H' s'.heap∧RelV v u∧Q v H'
def CR(CX:sv)(outer:List Env)(P:Program)(w:World)(H:Hp)(s:Shared)(Q:VK)(E:XK)(r:Result)(s':Shared):Prop:=
 match r with
 |.ok (.ret u)=>CE outer P w H s Q u s'
 |.ok _=>False
 |.error e=>CX outer H s E e s'
structure bM(P:Program)(w:World)(K:PySem.W.Frag)(mg:Str→Option Value)(base:Heap)(CX:sv)(k:Nat)(f:Addr)(fd:FuncData)(ps:List Str)(sp:Sp):Prop where
 len:∀vs H Q E,sp vs H Q E→vs.length=ps.length
 run:∀(A:Around) (outer:List Env) (s:Shared) (H:Hp) (args:Args) (us:List Value) (vs:List V) (Q:VK) (E:XK),fy k A→AN P w K mg base A outer s H→BindsTo s fd args (ps.zip us)→Vals vs us→sp vs H Q E→
  codeAny (model P w) A (.call (.ref f) args) (CR CX outer P w H s Q E) s
section
variable{X:Cx}{pins:List (Addr×Obj)}{σ:St}{H:Hp}{s s':Shared}
theorem Inv.Ol(I:Inv X pins σ H s):AN X.prog X.w X.K X.mg X.base X.A X.stack s H:=
 ⟨I.ok.frames,I.ok.mod,I.bs,Nat.le_trans I.ok.xr I.sz,I.stack,I.xx,I.bt,I.bare⟩
theorem Inv.after{Q:VK}{u:Value}(I:Inv X pins σ H s)(h:CE X.stack X.prog X.w H s Q u s'):EP X pins σ Q u s':=by
 obtain⟨v,H',os,bare,un,bt,r,q⟩:=h
 obtain⟨hh,g,d,t,Uw⟩:=s'
 obtain rfl:Uw=s.os:=os
 exact⟨v,H',I.call (h':=hh) (g':=g) (d':=d) (t':=t) (ch:=[]) un bt bare (fun b z=>absurd z (by simp)),r,q⟩
end
def Dk(sp:Sp)(oX:List V)(E:XK)(t:TA):TE:=fun σ H Q=>t σ H fun vs H1=>sp (vs++oX) H1 Q E
def Binds(K:PySem.W.Frag)(fd:FuncData)(ps:List Str)(ds:List Value):Prop:=
 ∀(s:Shared) (us:List Value),K.In s.heap→(us++ds).length=ps.length→BindsTo s fd ⟨us,[]⟩ (ps.zip (us++ds))
theorem Binds.all{K:PySem.W.Frag}{fd:FuncData}{ps:List Str}(h:∀us:List Value,us.length=ps.length→bindArgs fd ⟨us,[]⟩=pure (ps.zip us)):Binds K fd ps []:=fun s us _ hl=>by
 rw[List.append_nil]at hl ⊢
 exact .of_eq (h us hl)
def Passes(CX:sv)(X:Cx)(E:XK):Prop:=∀(pins:List (Addr×Obj)) (σ:St) (H:Hp) (s:Shared) (e:Value) (s':Shared),Inv X pins σ H s→CX X.stack H s E e s'→X.xe e s'
section
variable{X:Cx}{CX:sv}{k:Nat}{f C:Addr}{fd:FuncData}{ps:List Str}{sp:Sp}{oX:List V}{ds:List Value}{E:XK}{x m:Str}{p pos apos:Pos}{e o:Expr}{es:List Expr}{ta:TE}{t:TA}
theorem GB{pins:List (Addr×Obj)}{σ:St}{H:Hp}{s:Shared}{Q:VK}{us:List Value}{vs:List V}(F:bM X.prog X.w X.K X.mg X.base CX k f fd ps sp)(hr:fy k X.A)(hb:Binds X.K fd ps ds)(hd:Vals oX ds)(hx:Passes CX X E)
  (I:Inv X pins σ H s)(r:Vals vs us)(h:sp (vs++oX) H Q E):wpAny (model X.prog X.w) X.A (call (.ref f) us) (EP X pins σ Q) X.xe s:=by
 have r2:Vals (vs++oX) (us++ds):=r.append hd
 have hl:(us++ds).length=ps.length:=by rw[←r2.length];exact F.len _ _ _ _ h
 refine wpAny_call (codeAny_mono (F.run X.A X.stack s H ⟨us,[]⟩ (us++ds) (vs++oX) Q E hr I.Ol (hb s us I.xw hl) r2 h) fun r s' hq=>?_)
 cases r with
 |error e=>exact hx pins σ H s e s' I hq
 |ok fl=>
  cases fl with
  |ret u=>exact I.after hq
  |next=>exact False.elim hq
  |brk=>exact False.elim hq
  |cont=>exact False.elim hq
theorem Dl(F:bM X.prog X.w X.K X.mg X.base CX k f fd ps sp)(hr:fy k X.A)(hg:Gl X x)(hm:X.mg x=some (.ref f))(hk:PySem.W.keepIn X.K (.ref f)=true)(hb:Binds X.K fd ps ds)(hd:Vals oX ds)(hx:Passes CX X E)
  (ha:PA X (e::es) t)(nX:(x==("__debug__":Str))=false:=by decide)(he:starEach (e::es) X.env=(false,eval e X.env)::starEach es X.env:=by rfl)(iA:(backTo pos (starEach es X.env)).any (·.1)=false:=by rfl):
  PE X (.Call (.Name x p) (e::es) [] pos) (Dk sp oX E t):=by
 intro pins s σ H Q I h
 refine wpAny_Call_Name_kw (xA I hg hm ?_ nX)
 refine PySem.W.callWith_K (h₀:=X.base) I.ok.mod.zd hk (bH (ha pos pins s σ H _ I h) fun us s1 ⟨vs,H1,I1,r,q⟩=>⟨I1.xw,?_⟩) he iA
 exact GB F hr hb hd hx I1 r q
end
section
variable{X:Cx}{CX:sv}{k:Nat}{f C:Addr}{fd:FuncData}{ps ks:List Str}{sp:Sp}{E:XK}{x m:Str}{p pos apos Yg:Pos}{e o:Expr}{es:List Expr}{Yo:List Keyword}{te ta:TE}{t tk:TA}{nm:Option Str}
variable{g:List Value→List Value→List Value}{gV:List V→List V→List V}
end
structure aU(N P:List Str)(sc:Scope):Prop where
 kind:sc.kind= .function
 co:sc.isCoroutine=false
 gen:sc.isGenerator=false
 nd:N.Nodup
 pre:N.take P.length=P
 par:∀x∈P,sc.names.lookup x=some .local∨sc.names.lookup x=some .cell
 GC:∀y∈sc.names,y.2≠.free
theorem sx{kindOf:Str→Option NameKind}{x:Str}:∀{binds:List (Str×Value)}{m:Str→Option Value},(∀v,(x,v)∉binds)→bindL kindOf binds m x=m x
 |[],_,_=>rfl
 |(n,v)::r,m,h=>by
  unfold bindL
  rw[sx fun w hw=>h w (List.mem_cons_of_mem _ hw)]
  split
  ·have:x≠n:=by rintro rfl;exact h v List.mem_cons_self
   simp[this]
  ·rfl
theorem sy{kindOf:Str→Option NameKind}{x:Str}:∀{binds:List (Str×Value)}{m:Str→Option Value},(∀v,(x,v)∉binds)→bindC kindOf binds m x=m x
 |[],_,_=>rfl
 |(n,v)::r,m,h=>by
  unfold bindC
  rw[sy fun w hw=>h w (List.mem_cons_of_mem _ hw)]
  split
  ·rfl
  ·have:x≠n:=by rintro rfl;exact h v List.mem_cons_self
   simp[this]
theorem sA{kindOf:Str→Option NameKind}{x:Str}{v:Value}:∀{P:List Str}{vs:List Value}{i:Nat}{m:Str→Option Value},P.Nodup→P[i]? =some x→vs[i]? =some v→kindOf x=some .local→
  bindL kindOf (P.zip vs) m x=some v
 |[],_,_,_,_,h,_,_=>by simp at h
 |_::_,[],_,_,_,_,h,_=>by simp at h
 |p::P,w::vs,0,m,nd,h1,h2,hk=>by
  simp at h1 h2;subst h1;subst h2
  show bindL kindOf ((p,w)::P.zip vs) m p=_
  unfold bindL
  rw[sx fun v hv=>(List.nodup_cons.mp nd).1 (List.of_mem_zip hv).1,if_pos hk]
  simp
 |p::P,w::vs,i+1,m,nd,h1,h2,hk=>by
  show bindL kindOf ((p,w)::P.zip vs) m x=_
  unfold bindL
  exact sA (i:=i) (List.nodup_cons.mp nd).2 (by simpa using h1) (by simpa using h2) hk
theorem sC{kindOf:Str→Option NameKind}{x:Str}{v:Value}:∀{P:List Str}{vs:List Value}{i:Nat}{m:Str→Option Value},P.Nodup→P[i]? =some x→vs[i]? =some v→kindOf x≠some .local→
  bindC kindOf (P.zip vs) m x=some v
 |[],_,_,_,_,h,_,_=>by simp at h
 |_::_,[],_,_,_,_,h,_=>by simp at h
 |p::P,w::vs,0,m,nd,h1,h2,hk=>by
  simp at h1 h2;subst h1;subst h2
  show bindC kindOf ((p,w)::P.zip vs) m p=_
  unfold bindC
  rw[sy fun v hv=>(List.nodup_cons.mp nd).1 (List.of_mem_zip hv).1,if_neg hk]
  simp
 |p::P,w::vs,i+1,m,nd,h1,h2,hk=>by
  show bindC kindOf ((p,w)::P.zip vs) m x=_
  unfold bindC
  exact sC (i:=i) (List.nodup_cons.mp nd).2 (by simpa using h1) (by simpa using h2) hk
def start(N:List Str)(vs:List V):St:=vs.map some++List.replicate (N.length - vs.length) none
def oY(CX:sv)(P:Program)(w:World)(K:PySem.W.Frag)(mg:Str→Option Value)(base:Heap)(N:List Str)(qual:Str)(scope:Scope)(f:Addr)(cd:Value)(A:Around)(outer:List Env)(s:Shared)(H:Hp)(E:XK):Cx where
 prog:=P
 w:=w
 K:=K
 mg:=mg
 base:=base
 A:=A.deeper (envOfC qual scope s.heap.objs.size f cd)
 N:=N
 bO:=s
 eu:=H
 env:=envOfC qual scope s.heap.objs.size f cd
 outer:=outer
 stack:=envOfC qual scope s.heap.objs.size f cd::outer
 ex:=[]
 calm:=true
 fn:=fun _=>true
 pn:=[]
 xe:=fun e s'=>wpAny (model P w) (A.deeper (envOfC qual scope s.heap.objs.size f cd)) (leaving (envOfC qual scope s.heap.objs.size f cd) e) (fun _ Ki=>CX outer H s E e Ki) (fun e' Ki=>CX outer H s E e' Ki) s'
theorem vh{sc:Scope}{n:Nat}{x:Str}(h:sc.names.lookup x=some .cell):∃c,(cellsFrom n sc.names []).lookup x=some c:=by
 have q:=PySem.W.cellsFrom_some sc.names n [] (.inl h)
 exact Option.isSome_iff_exists.mp q
theorem zq{CX:sv}{P:Program}{w:World}{K:PySem.W.Frag}{mg:Str→Option Value}{base:Heap}{N ps:List Str}{qual:Str}{scope:Scope}{f:Addr}{cd:Value}{A:Around}{outer:List Env}{s s1:Shared}{H:Hp}{E:XK}{us:List Value}{vs:List V}
  (S:aU N ps scope)(hd:A.handled=none)(e0:AN P w K mg base A outer s H)(hl:vs.length=ps.length)(r:Vals vs us)
  (x:InCallC s s.heap.objs.size (bindL (envOfC qual scope s.heap.objs.size f cd).kindOf (ps.zip us) fun _=>none) (cellsFrom (s.heap.objs.size+1) scope.names []) (bindC (envOfC qual scope s.heap.objs.size f cd).kindOf (ps.zip us) fun _=>none) s1):
  Inv (oY CX P w K mg base N qual scope f cd A outer s H E) [] (start N vs) H s1:=by
 have iA:ps.length≤N.length:=by have:=congrArg List.length S.pre;rw[List.length_take]at this;omega
 obtain⟨h1,tk,rfl,hk⟩:=x.done
 have Dm:∀b:Addr,b∉(oY CX P w K mg base N qual scope f cd A outer s H E).ex:=fun b z=>absurd (show b∈([]:List Addr)from z) (by simp)
 refine⟨⟨e0.mod,S.kind,rfl,rfl,Nat.le_refl _,fun y z c h1 h2=>?_,fun y hy=>?_,fun y c _ h=>?_,fun _=>hd,Around.frames_deeper e0.frames,.inr ⟨rfl,rfl⟩,fun b z=>absurd z (Dm b),e0.bs,e0.xr,fun b _ _=>Dm b,fun b z=>absurd z (Dm b),e0.mr,e0.BB⟩,
  rfl,e0.bare,Un.kept hk,⟨_,x.toInCall.ns,fun i y v h1 h2 h3=>?_⟩,fun y c h=>⟨_,x.cell y c h⟩,e0.bt.fresh (Nat.le_refl _),fun y c h=>?_,fun p hp=>absurd (show p∈([]:List (Addr×Obj))from hp) (by simp),e0.bt.kept hk,?_⟩
 ·exact name_of_addr x.apart (PySem.mem_of_lookup h1) (PySem.mem_of_lookup h2)
 ·have hy:scope.names.lookup y=some .cell∨scope.names.lookup y=some .free:=hy
  rcases hy with hy|hy
  ·exact vh hy
  ·exact absurd rfl (S.GC _ (PySem.mem_of_lookup hy))
 ·exact Nat.le_of_lt (x.above y c (PySem.mem_of_lookup h))
 ·have hi:i<vs.length:=by
   unfold start at h2
   by_cases hi:i<vs.length
   ·exact hi
   ·rw[List.getElem?_append_right (by simpa using hi)]at h2
    rw[List.getElem?_replicate]at h2
    split at h2<;>cases h2
  have ha:vs[i]? =some v:=by
   unfold start at h2
   rw[List.getElem?_append_left (by simpa using hi),List.getElem?_map]at h2
   cases e:vs[i]? with
   |none=>rw[e]at h2;cases h2
   |some a=>rw[e]at h2;cases h2;rfl
  obtain⟨u,hu,rv⟩:=r.get ha
  have hp:ps[i]? =some y:=by
   rw[←S.pre,List.getElem?_take_of_lt (by omega)];exact h1
  have Om:ps.Nodup:=by rw[←S.pre];exact S.nd.sublist (List.take_sublist _ _)
  refine⟨u,rv,?_⟩
  rcases S.par y (List.mem_of_getElem? hp)with k|k
  ·exact .inl ⟨k,sA Om hp hu k⟩
  ·obtain⟨c,e⟩:=vh (n:=s.heap.objs.size+1) k
   refine .inr ⟨.inl k,c,e,?_⟩
   have q:=x.cell y c e
   rw[sC Om hp hu (by show scope.names.lookup y≠_;rw[k];decide)]at q
   exact q
 ·exact .inl (e0.bt.fresh (Nat.le_of_lt (x.above y c (PySem.mem_of_lookup h))))
 ·unfold start
  show _=N.length
  rw[List.length_append,List.length_map,List.length_replicate]
  omega
theorem Dn{CX:sv}{P:Program}{w:World}{K:PySem.W.Frag}{mg:Str→Option Value}{base:Heap}{k:Nat}{f:Addr}{name qual:Str}{params:Arguments}{body:List Stmt}{scope:Scope}{dV kV doc pm bF ct oc:Value}{an od:Option Addr}
  {oZ:Array (Option Value)}{N ps:List Str}{sp:Sp}(lk:K.lookup f=some ⟨oc,od,.func (PySem.W.fnOf name qual params body scope dV kV doc pm an bF ct),oZ⟩)(qm:PySem.W.codeIn K bF qual=true)(S:aU N ps scope)
  (len:∀vs H Q E,sp vs H Q E→vs.length=ps.length)
  (kR:∀(A:Around) (outer:List Env) (s:Shared) (H:Hp) (vs:List V) (Q:VK) (E:XK),fy k (A.deeper (envOfC qual scope s.heap.objs.size f bF))→sp vs H Q E→
   ∃t,mm (oY CX P w K mg base N qual scope f bF A outer s H E) body t∧t { nx:=fun _ H'=>Q .bf H',rt:=Q } (start N vs) H):
  bM P w K mg base CX (k+1) f (PySem.W.fnOf name qual params body scope dV kV doc pm an bF ct) ps sp:=by
 refine⟨len,fun A outer s H args us vs Q E hr e0 hb r uH=>?_⟩
 have hl:=len _ _ _ _ uH
 have KX:K.In s.heap:=e0.mod.zd.keeps fun b o e=>(e0.bs b o e).1
 have lim:s.heap.NoLimit:=e0.mod.nolimit.keeps fun b o e=>(e0.bs b o e).1
 have Kj:∀y∈ps.zip us,scope.names.lookup y.1=some .local∨(scope.names.lookup y.1=some .cell∧((cellsFrom (s.heap.objs.size+1) scope.names []).lookup y.1).isSome=true):=by
  rintro⟨n,v⟩ hy
  rcases S.par n (List.of_mem_zip hy).1 with q|q
  ·exact .inl q
  ·exact .inr ⟨q,PySem.W.cellsFrom_some _ _ _ (.inl q)⟩
 refine codeAny_call_function hr.depth (KX _ _ lk) rfl S.co S.gen rfl (PySem.W.codeRec_of KX qm) (hb _ _ _ _ ?_)
 refine wpAny_newFunctionEnv_cells S.kind Kj fun env he s1 x=>?_
 subst he
 refine⟨lim.keeps x.toInCall.keep,codeAny_func ?_⟩
 obtain⟨t,ht,hq⟩:=kR A outer s H vs Q E (hr.deeper _) uH
 have I:Inv (oY CX P w K mg base N qual scope f bF A outer s H E) [] (start N vs) H s1:=zq S hr.hd e0 hl r x
 refine wpAny_mono (ht [] s1 (start N vs) H _ I hq) (fun fl s' hs=>?_) fun e s' hs=>hs
 have fin:∀{σ':St}{H':Hp}{v:V}{u:Value},Inv (oY CX P w K mg base N qual scope f bF A outer s H E) [] σ' H' s'→RelV v u→Q v H'→CE outer P w H s Q u s':=
  fun {σ' H' v u} J rv q=>⟨v,H',J.os,J.bare,J.base,J.bt,rv,q⟩
 cases fl with
 |ret u=>
  obtain⟨v,σ',H',J,rv,q⟩:=hs
  exact fin J rv q
 |next=>
  obtain⟨σ',H',J,q⟩:=hs
  exact fin (v:=V.bf) (u:=Value.none) J rfl q
 |brk=>
  obtain⟨_,_,_,q⟩:=hs
  exact False.elim q
 |cont=>
  obtain⟨_,_,_,q⟩:=hs
  exact False.elim q
end L2
namespace L2
open PySem PySem.Spec PyProof.Rows
section
variable{X:Cx}{x:Str}{p pos:Pos}{e:Expr}{es:List Expr}{t:TA}{id T:String}{r:List V→Hp→VK→Prop}
def Kk(r:List V→Hp→VK→Prop)(t:TA):TE:=fun σ H Q=>t σ H fun vs H1=>r vs H1 Q
theorem BN(hc:gy X (.builtin id) r)(hg:Gl X x)(hm:X.mg x=none)(hv:bootBuiltins x=some (.builtin id))(ha:PA X (e::es) t)(hn:x≠"__name__":=by decide)(nX:(x==("__debug__":Str))=false:=by decide)
  (he:starEach (e::es) X.env=(false,eval e X.env)::starEach es X.env:=by rfl)(iA:(backTo pos (starEach es X.env)).any (·.1)=false:=by rfl):PE X (.Call (.Name x p) (e::es) [] pos) (Kk r t):=by
 intro pins s σ H Q I h
 refine wpAny_Call_Name_kw (iR I hg hm hv ?_ hn nX)
 exact PyProof.Rows.callWith_builtin1 (bH (ha pos pins s σ H _ I h) fun us s1 ⟨vs,H1,I1,r1,q1⟩=>hc pins s1 σ H1 vs us Q I1 r1 q1) he iA
theorem zt(hc:gy X (.type T) r)(hg:Gl X x)(hm:X.mg x=none)(hv:bootBuiltins x=some (.type T))(ha:PA X (e::es) t)(hn:x≠"__name__":=by decide)(nX:(x==("__debug__":Str))=false:=by decide)
  (he:starEach (e::es) X.env=(false,eval e X.env)::starEach es X.env:=by rfl)(iA:(backTo pos (starEach es X.env)).any (·.1)=false:=by rfl):PE X (.Call (.Name x p) (e::es) [] pos) (Kk r t):=by
 intro pins s σ H Q I h
 refine wpAny_Call_Name_kw (iR I hg hm hv ?_ hn nX)
 exact PyProof.Rows.callWith_type1 (bH (ha pos pins s σ H _ I h) fun us s1 ⟨vs,H1,I1,r1,q1⟩=>hc pins s1 σ H1 vs us Q I1 r1 q1) he iA
end
end L2
namespace HT
open PySem PyProof.Rows
section
open PySem.SeqAt
open PySem.AutoSeq1 (wpAny_loadPart')
open PySem.MeetsSeq PySem.MeetsSeq2 PySem.MeetsSeq3
end
section
variable{prog:Program}{w:World}{A:Around}{E:Value→Shared→Prop}{s:Shared}
theorem Dp{t b:Addr}{vs ws:List Value}{Q:Value→Shared→Prop}(ht:IsTup s.heap t vs.toArray)(hb:IsTup s.heap b ws.toArray)(hv:vs≠[])
  (h1:ws=[]→Q (.ref t) s)(h2:ws≠[]→Q (.ref s.heap.objs.size) { s with heap:=s.heap.push { cls:=.type "tuple",data:=.seq (vs++ws).toArray } })
  (zu:vs.length+ws.length≤sizeLine):wpAny (model prog w) A (binaryOp .Add (.ref t) (.ref b)) Q E s:=by
 obtain⟨⟨cls,dd,data,sl⟩,ho,hc,n,hd⟩:=id ht
 obtain⟨⟨Yh,Oo,data2,GD⟩,By,uI,n2,hd2⟩:=id hb
 simp only at hc hd uI hd2
 subst hc hd uI hd2
 have e:vs.toArray++ws.toArray=(vs++ws).toArray:=by simp
 by_cases hw:ws=[]
 ·exact concat_meets ⟨_,ho,rfl⟩ ⟨_,By,rfl⟩ noFill_tuple_add seq_tuple_add PySem.F.slot_tuple_add PySem.F.entry_tuple_add (PySem.F.args_tuple_add_2 _ _)
   (tuple_addW1 t b vs.toArray ws.toArray n n2 dd Oo sl GD (by simpa using hv) (by simp[hw])) ⟨ho,By,h1 hw⟩
 ·refine concat_meets ⟨_,ho,rfl⟩ ⟨_,By,rfl⟩ noFill_tuple_add seq_tuple_add PySem.F.slot_tuple_add PySem.F.entry_tuple_add (PySem.F.args_tuple_add_2 _ _)
   (tuple_addW2 t b vs.toArray ws.toArray n n2 dd Oo sl GD (by simpa using hv) (by simpa using hw) (by rw[List.size_toArray,List.size_toArray];exact zu)) ⟨ho,By,?_⟩
  rw[e]
  exact h2 hw
def bY(n d:Nat):Option Int→Nat
 |none=>d
 |some v=>if v<0 then(v+(n:Int)).toNat else min v.toNat n
theorem GF(n d:Nat)(hd:d≤n)(o:Option Int):bY n d o≤n:=by
 cases o with
 |none=>exact hd
 |some v=>
  show(if v<0 then(v+(n:Int)).toNat else min v.toNat n)≤n
  by_cases hv:v<0
  ·rw[if_pos hv];omega
  ·rw[if_neg hv];exact Nat.min_le_right _ _
theorem xM(v:Int)(n d:Nat):(if v<0 then max (v+(n:Int)) 0 else min v (n:Int))=((bY n d (some v):Nat):Int):=by
 show(if v<0 then max (v+(n:Int)) 0 else min v (n:Int))=(((if v<0 then(v+(n:Int)).toNat else min v.toNat n):Nat):Int)
 by_cases hv:v<0
 ·simp only[if_pos hv];omega
 ·simp only[if_neg hv];omega
theorem xN(lo hi:Option Int)(n:Nat):Builtin.Slice.sliceAdjust lo hi 1 (n:Int)=(((bY n 0 lo:Nat):Int),((bY n n hi:Nat):Int)):=by
 have h1:¬((1:Int)<0):=by omega
 unfold Builtin.Slice.sliceAdjust
 simp only[h1,if_false]
 refine Prod.ext ?_ ?_
 ·cases lo with
  |none=>rfl
  |some v=>exact xM v n 0
 ·cases hi with
  |none=>rfl
  |some v=>exact xM v n n
theorem xO(i j:Nat):Builtin.Slice.slicePlaces (i:Int) (j:Int) 1=j - i:=by
 unfold Builtin.Slice.slicePlaces
 have h1:(1:Int) > 0:=by omega
 simp only[h1,if_true,Int.ediv_one]
 split<;>omega
theorem qV{v:Value}{o:Option Int}{Q:Option Int→Shared→Prop}(p:IsPart v o)(h:Q o s):wpAny (model prog w) A (Builtin.Slice.slicePartIndex v) Q E s:=by
 cases p with
 |none=>exact slicePart_none h
 |int i t=>exact slicePart_int h
theorem jH{sl:Addr}{vl vu:Value}{lo hi:Option Int}{n:Nat}{Q:Int×Int×Nat→Shared→Prop}(hs:s.heap.IsSliceOf sl vl vu .none)(pl:IsPart vl lo)(pu:IsPart vu hi)
  (h:Q (((bY n 0 lo:Nat):Int),1,bY n n hi - bY n 0 lo) s):wpAny (model prog w) A (Builtin.Slice.sliceApplied (.ref sl) (pure (n:Int))) Q E s:=by
 obtain⟨os,zv,GG,Dq⟩:=id hs
 unfold Builtin.Slice.sliceApplied Builtin.Slice.sliceFields
 refine wpAny_bind (wpAny_bind (wpAny_field zv Dq (x:=vl) rfl (wpAny_bind (wpAny_field zv Dq (x:=vu) rfl (wpAny_bind (wpAny_field zv Dq (x:=.none) rfl (wpAny_pure ?_)))))))
 refine wpAny_bind (slicePart_none ?_)
 show wpAny _ _ (if ((1:Int)==0)=true then _ else _) _ _ s
 rw[if_neg (by decide)]
 refine wpAny_bind (qV pl (wpAny_bind (qV pu (wpAny_bind (wpAny_pure ?_)))))
 show wpAny _ _ (match Builtin.Slice.sliceAdjust lo hi 1 (n:Int)with|(lo,hi)=>pure (lo,(1:Int),Builtin.Slice.slicePlaces lo hi 1)) _ _ s
 rw[xN lo hi n]
 show wpAny _ _ (pure (((bY n 0 lo:Nat):Int),(1:Int),Builtin.Slice.slicePlaces ((bY n 0 lo:Nat):Int) ((bY n n hi:Nat):Int) 1)) _ _ s
 rw[xO]
 exact wpAny_pure h
theorem BO(xs:Array Value)(i k:Nat):((List.range k).filterMap fun(m:Nat)=>xs[((i:Int)+(m:Int)*1).toNat]?).toArray=((xs.toList.drop i).take k).toArray:=by
 have e:(fun(m:Nat)=>xs[((i:Int)+(m:Int)*1).toNat]?)=fun m=>xs[i+m]? :=by
  funext m
  have:((i:Int)+(m:Int)*1).toNat=i+m:=by omega
  rw[this]
 rw[e]
 have:=pick_run xs i k
 rw[List.filterMap_map]at this
 have e2:((fun x=>xs[x]?) ∘ fun x=>i+x)=fun m=>xs[i+m]? :=rfl
 rw[e2]at this
 rw[this]
theorem nY{t sl:Addr}{items:Array Value}{vl vu:Value}{lo hi:Option Int}{Q:Value→Shared→Prop}(ht:IsTup s.heap t items)(hs:s.heap.IsSliceOf sl vl vu .none)(pl:IsPart vl lo)(pu:IsPart vu hi)
  (hw:¬(bY items.size 0 lo=0∧bY items.size items.size hi=items.size))
  (h:Q (.ref s.heap.objs.size) { s with heap:=s.heap.push { cls:=.type "tuple",data:=.seq ((items.toList.drop (bY items.size 0 lo)).take (bY items.size items.size hi - bY items.size 0 lo)).toArray } })
  (zu:items.size≤sizeLine):wpAny (model prog w) A (getItem (.ref t) (.ref sl)) Q E s:=by
 have v3:sizeOk (.seq ((items.toList.drop (bY items.size 0 lo)).take (bY items.size items.size hi - bY items.size 0 lo)).toArray):=by
  show((items.toList.drop (bY items.size 0 lo)).take (bY items.size items.size hi - bY items.size 0 lo)).toArray.size≤sizeLine
  rw[List.size_toArray,List.length_take,List.length_drop,Array.length_toList]
  omega
 have hj:bY items.size items.size hi≤items.size:=GF _ _ (Nat.le_refl _) hi
 obtain⟨os,zv,GG,Dq⟩:=id hs
 have Kl:s.TypeIs (.ref sl) "slice":=⟨os,zv,GG⟩
 unfold getItem
 try with_reducible refine wpAny_holding ?_
 first|refine wpAny_bind (wpAny_pure ?_)|skip
 refine wpAny_bind (wpAny_sequenceKey ht.typeIs (by decide) ?_)
 refine wpAny_bind (wpAny_callSpecial?_slot (name:=Str.ofString "__getitem__") ht.typeIs PyProof.Rows.slot_tuple_getitem
  (wpAny_call_entry PyProof.Rows.slot_tuple_getitem ht.typeIs entry_tuple_getitem ?_ (args_tuple_getitem _ _)))
 show wpAny _ _ (Builtin.Tuple.tupleItemsOf (.ref t) >>= _) _ _ s
 refine wpAny_bind (tupleItemsOf_ ht ?_)
 refine wpAny_bind (wpAny_typeOf Kl ?_)
 rw[if_pos (by decide)]
 refine wpAny_bind (jH hs pl pu ?_)
 have Ux:¬((((bY items.size 0 lo:Nat):Int)==0&&(1:Int)==1&&(bY items.size items.size hi - bY items.size 0 lo)==items.size)=true):=by
  intro q
  rw[Bool.and_eq_true,Bool.and_eq_true]at q
  have q1:((bY items.size 0 lo:Nat):Int)=0:=eq_of_beq q.1.1
  have q2:bY items.size items.size hi - bY items.size 0 lo=items.size:=eq_of_beq q.2
  exact hw ⟨by omega,by omega⟩
 show wpAny _ _ (if (((bY items.size 0 lo:Nat):Int)==0&&(1:Int)==1&&(bY items.size items.size hi - bY items.size 0 lo)==items.size)=true then _ else _) _ _ s
 rw[if_neg Ux,BO]
 first
  |exact wpAny_bind (m:=Builtin.Tuple.tupleExact _) (wpAny_newObj_type (wpAny_pure ⟨_,rfl,wpAny_pure h⟩) v3)
  |exact wpAny_bind (m:=Builtin.Tuple.tupleExact _) (wpAny_newObj_type (wpAny_bind (wpAny_pure (wpAny_pure ⟨_,rfl,wpAny_pure h⟩))) v3)
  |exact wpAny_bind (wpAny_bind (m:=Builtin.Tuple.tupleExact _) (wpAny_newObj_type (wpAny_pure (wpAny_pure ⟨_,rfl,wpAny_pure h⟩)) v3))
  |exact wpAny_bind (wpAny_bind (m:=Builtin.Tuple.tupleExact _) (wpAny_newObj_type (wpAny_pure ⟨_,rfl,wpAny_pure h⟩) v3))
end
end HT
namespace L2
open PySem PySem.Spec PyProof.Rows
abbrev TO:=St→Hp→(Option Int→Hp→Prop)→Prop
namespace Zu
set_option allowUnsafeReducibility true in
@[scoped irreducible] def _root_.L2.PO(X:Cx)(e:Option Expr)(t:TO):Prop:=
 ∀(pins:List (Addr×Obj)) (s:Shared) (σ:St) (H:Hp) (Q:Option Int→Hp→Prop),Inv X pins σ H s→t σ H Q→
  wpAny (model X.prog X.w) X.A (evalPart e X.env) (fun u s'=>∃o H',Inv X pins σ H' s'∧IsPart u o∧Q o H') X.xe s
end Zu
def Ds:TO:=fun _ H Q=>Q none H
def Km(t:TE):TO:=fun σ H Q=>t σ H fun x H1=>∃i,x= .int i∧Q (some i) H1
section
variable{X:Cx}{e:Expr}{te:TE}{lo hi:Option Expr}{tl th:TO}{pos p2:Pos}
theorem xP:PO X none Ds:=by
 intro pins s σ H Q I h
 rw[evalPart_none]
 exact wpAny_pure ⟨none,H,I,.none,h⟩
theorem xQ(h:PE X e te):PO X (some e) (Km te):=by
 intro pins s σ H Q I hw
 rw[evalPart_some]
 refine bH (h pins s σ H _ I hw) fun u s1 bq=>?_
 obtain⟨x,H1,I1,r1,q1⟩:=bq
 obtain⟨i,rfl,q⟩:=q1
 obtain⟨t,rfl⟩:=r1
 exact⟨some i,H1,I1,.int i t,q⟩
def uJ(X:Cx)(r:V→Option Int→Option Int→Hp→VK→Prop):Prop:=
 ∀(pins:List (Addr×Obj)) (s:Shared) (σ:St) (H:Hp) (x:V) (v vl vu:Value) (lo hi:Option Int) (sl:Addr) (Q:VK),Inv X pins σ H s→RelV x v→s.heap.IsSliceOf sl vl vu .none→IsPart vl lo→IsPart vu hi→r x lo hi H Q→
  ∃T id,typeLookup (.type T) "__getitem__" =pure (some (.builtin id))∧s.TypeIs v T∧wpAny (model X.prog X.w) X.A (getItem v (.ref sl)) (EP X pins σ Q) X.xe s
theorem uJ.or{r r':V→Option Int→Option Int→Hp→VK→Prop}(h:uJ X r)(h':uJ X r'):uJ X (fun x lo hi H Q=>r x lo hi H Q∨r' x lo hi H Q):=by
 intro pins s σ H x v vl vu lo hi sl Q I rx hs pl pu q
 rcases q with q|q
 ·exact h pins s σ H x v vl vu lo hi sl Q I rx hs pl pu q
 ·exact h' pins s σ H x v vl vu lo hi sl Q I rx hs pl pu q
def Uy(r:V→Option Int→Option Int→Hp→VK→Prop)(te:TE)(tl th:TO):TE:=fun σ H Q=>te σ H fun x H1=>tl σ H1 fun l H2=>th σ H2 fun u H3=>r x l u H3 Q
theorem vj{r:V→Option Int→Option Int→Hp→VK→Prop}(hr:uJ X r)(he:PE X e te)(hl:PO X lo tl)(hu:PO X hi th):PE X (.Subscript e (.Slice lo hi none p2) pos) (Uy r te tl th):=by
 intro pins s σ H Q I h
 refine Subscript_ (bH (he pins s σ H _ I h) fun v s1 bq=>?_)
 obtain⟨x,H1,I1,r1,q1⟩:=bq
 refine wpAny_Slice (bH (hl pins s1 σ H1 _ I1 q1) fun vl s2 ⟨l,H2,I2,pl,q2⟩=>bH (hu pins s2 σ H2 _ I2 q2) fun vu s3 bq=>?_)
 obtain⟨u,H3,I3,pu,q3⟩:=bq
 rw[evalPart_none]
 refine wpAny_pure ?_
 have I4:Inv X pins σ H3 { s3 with heap:=s3.heap.push { cls:=.type "slice",data:=.fields #[vl,vu,.none] } }:=I3.kept (t':=s3.toks) fun b ob q=>Heap.get?_push_of_some _ q
 obtain⟨T,id,hT,ht,hg⟩:=hr pins { s3 with heap:=s3.heap.push { cls:=.type "slice",data:=.fields #[vl,vu,.none] } } σ H3 x v vl vu l u s3.heap.objs.size Q I4 r1 (Heap.IsSliceOf.new ..) pl pu q3
 show wpAny (model X.prog X.w) X.A (subscriptTail e (.Slice lo hi none p2) v (.ref s3.heap.objs.size)) (EP X pins σ Q) X.xe { s3 with heap:=s3.heap.push { cls:=.type "slice",data:=.fields #[vl,vu,.none] } }
 exact tail_any (ops:=[.ref s3.heap.objs.size,v]) ht hT hg (by with_unfolding_all rfl)
def mw(xs:List V)(lo hi:Option Int):List V:=(xs.drop (HT.bY xs.length 0 lo)).take (HT.bY xs.length xs.length hi - HT.bY xs.length 0 lo)
theorem o6(xs:List V)(lo hi:Option Int):(mw xs lo hi).length≤xs.length:=by
 unfold mw
 rw[List.length_take,List.length_drop]
 omega
def Ja(K:PySem.W.Frag):V→Option Int→Option Int→Hp→VK→Prop:=fun x lo hi H Q=>∃a xs,x= .ref a∧dc K H a xs∧
 ¬(HT.bY xs.length 0 lo=0∧HT.bY xs.length xs.length hi=xs.length)∧∀p,H p=none→Q (.ref p) (upd H p (.tup (mw xs lo hi)))
theorem GH:uJ X (Ja X.K):=by
 intro pins s σ H x v vl vu lo hi sl Q I rx hs pl pu h
 obtain⟨a,xs,rfl,hx,hw,q⟩:=h
 cases rx
 obtain⟨its,r,ht,hz⟩:=I.tuple hx
 have hlen:its.toArray.size=xs.length:=by rw[List.size_toArray];exact r.length.symm
 refine⟨"tuple",_,PyProof.Rows.slot_tuple_getitem.lookup,ht.typeIs,?_⟩
 refine HT.nY ht hs pl pu (by rw[hlen];exact hw) ?_ (by rw[hlen];exact hz)
 rw[hlen]
 refine⟨.ref s.heap.objs.size,_,I.laid (t':=s.toks) (o:=.tup (mw xs lo hi)) (fun b ob q=>Heap.get?_push_of_some _ q) (Nat.le_refl _) ?_,rfl,q _ (I.bt.fresh (Nat.le_refl _))⟩
 exact⟨Nat.le_trans (o6 xs lo hi) hz,_,(r.drop (HT.bY xs.length 0 lo)).take (HT.bY xs.length xs.length hi - HT.bY xs.length 0 lo),IsTup.new _ _⟩
def zw(K:PySem.W.Frag):R2:=fun x y H Q=>∃a b xs ys,x= .ref a∧y= .ref b∧dc K H a xs∧dc K H b ys∧xs≠[]∧xs.length+ys.length≤sizeLine∧
 (ys=[]→Q (.ref a) H)∧(ys≠[]→∀p,H p=none→Q (.ref p) (upd H p (.tup (xs++ys))))
theorem Vals.sD{xs:List V}{us:List Value}(r:Vals xs us):us=[]↔xs=[]:=by
 cases r with
 |nil=>simp
 |cons _ _=>simp
theorem Dt:dr X (binaryOp .Add) (zw X.K):=by
 intro pins s σ H x y v u Q I rx ry h
 obtain⟨a,b,xs,ys,rfl,rfl,ha,hb,hx,hz,q1,q2⟩:=h
 cases rx
 cases ry
 obtain⟨its,r1,p1,_⟩:=I.tuple ha
 obtain⟨qW,r2,p2,_⟩:=I.tuple hb
 refine HT.Dp p1 p2 (fun z=>hx (r1.sD.mp z)) (fun z=>⟨.ref a,H,I,rfl,q1 (r2.sD.mp z)⟩) (fun z=>?_) (by rw[←r1.length,←r2.length];exact hz)
 refine⟨.ref s.heap.objs.size,_,I.laid (t':=s.toks) (o:=.tup (xs++ys)) (fun b ob q=>Heap.get?_push_of_some _ q) (Nat.le_refl _) ?_,rfl,q2 (fun w=>z (r2.sD.mpr w)) _ (I.bt.fresh (Nat.le_refl _))⟩
 exact⟨by rw[List.length_append];exact hz,_,r1.append r2,IsTup.new _ _⟩
end
end L2
namespace L2
open PySem PySem.Spec PyProof.Rows
def zx(n:Nat)(i:Int):Option Nat:=if 0≤i then(if i<n then some i.toNat else none)else if -(n:Int)≤i then some (i+n).toNat else none
def zy{α:Type}(xs:List α)(i:Int):Option α:=(zx xs.length i).bind fun j=>xs[j]?
theorem xR{n:Nat}{i:Int}{j:Nat}(h:zx n i=some j):seqIndex? i n=some j∧j<n∧-(n:Int)≤i∧i<n:=by
 unfold zx at h
 by_cases h0: 0≤i
 ·rw[if_pos h0]at h
  by_cases h1:i<n
  ·rw[if_pos h1]at h
   have e:i.toNat=j:=Option.some.inj h
   exact⟨by rw[seqIndex_of h0 h1,e],by omega,by omega,h1⟩
  ·rw[if_neg h1]at h;cases h
 ·rw[if_neg h0]at h
  by_cases h1: -(n:Int)≤i
  ·rw[if_pos h1]at h
   have e:(i+n).toNat=j:=Option.some.inj h
   exact⟨by rw[seqIndex_neg (by omega) h1,e],by omega,h1,by omega⟩
  ·rw[if_neg h1]at h;cases h
theorem sE{α:Type}{xs:List α}{i:Int}{v:α}(h:zy xs i=some v):∃j,seqIndex? i xs.length=some j∧xs[j]? =some v∧j<xs.length∧-(xs.length:Int)≤i∧i<xs.length:=by
 unfold zy at h
 cases e:zx xs.length i with
 |none=>rw[e]at h;cases h
 |some j=>
  rw[e]at h
  obtain⟨h1,h2,h3,h4⟩:=xR e
  exact⟨j,h1,h,h2,h3,h4⟩
def o7(b:Expr):Prop:=∀o i,subscripted b false o i=operate [o,i] (getItem o i)
def uK(X:Cx)(r:R2):Prop:=
 ∀(value slice:Expr) (pins:List (Addr×Obj)) (s:Shared) (σ:St) (H:Hp) (x y:V) (v u:Value) (Q:VK),Inv X pins σ H s→RelV x v→RelV y u→r x y H Q→
  subscripted slice false v u=operate [v,u] (getItem v u)→wpAny (model X.prog X.w) X.A (subscriptTail value slice v u) (EP X pins σ Q) X.xe s
def zF(X:Cx)(id:String)(r:V→List V→Hp→VK→Prop):Prop:=
 ∀(pins:List (Addr×Obj)) (s:Shared) (σ:St) (H:Hp) (x:V) (xs:List V) (v:Value) (us:List Value) (Q:VK),Inv X pins σ H s→RelV x v→Vals xs us→r x xs H Q→
  wpAny (model X.prog X.w) X.A (call (.builtin id) (v::us)) (EP X pins σ Q) X.xe s
section
variable{X:Cx}{a b:Expr}{ta tb:TE}{pos:Pos}
theorem uK.or{r r':R2}(h:uK X r)(h':uK X r'):uK X (fun x y H Q=>r x y H Q∨r' x y H Q):=by
 intro value slice pins s σ H x y v u Q I rx ry q hs
 rcases q with q|q
 ·exact h value slice pins s σ H x y v u Q I rx ry q hs
 ·exact h' value slice pins s σ H x y v u Q I rx ry q hs
theorem Kn{r:R2}(hr:uK X r)(ha:PE X a ta)(hb:PE X b tb)(hs:o7 b):PE X (.Subscript a b pos) (Df r ta tb):=by
 intro pins s σ H Q I h
 exact Subscript_ (Dg ha hb I h fun v u s2 x y H2 I2 rx ry q=>hr a b pins s2 σ H2 x y v u Q I2 rx ry q (hs _ _))
def Jb(K:PySem.W.Frag):R2:=fun x y H Q=>∃p xs i v,x= .ref p∧y= .int i∧cb K H p xs∧zy xs i=some v∧Q v H
def Jc(K:PySem.W.Frag):R2:=fun x y H Q=>∃p xs i v,x= .ref p∧y= .int i∧dc K H p xs∧zy xs i=some v∧Q v H
def Du:R2:=fun x y H Q=>∃z i c,x= .str z∧y= .int i∧z.length≤sizeLine∧zy z.cps.toList i=some c∧Q (.str ⟨#[c]⟩) H
theorem Dv:uK X (Jb X.K):=by
 intro value slice pins s σ H x y v u Q I rx ry h hs
 obtain⟨p,xs,i,z,rfl,rfl,hq,he,q⟩:=h
 cases rx
 obtain⟨t,rfl⟩:=ry
 obtain⟨its,r,pl,hz⟩:=I.list hq
 obtain⟨j,h1,h2,h3,h4,h5⟩:=sE he
 obtain⟨w,ew,oS⟩:=r.get h2
 have hl:=r.length
 have hn:=kQ
 have fin:EP X pins σ Q w s:=⟨z,H,I,oS,q⟩
 by_cases h0: 0≤i
 ·have hj:i.toNat=j:=by
   rw[seqIndex_of h0 h5]at h1
   exact Option.some.inj h1
  exact item_listR pl.isList h0 (by omega) (by rw[hj];simpa using ew) fin hs
 ·have hj:(i+(its.toArray.size:Int)).toNat=j:=by
   rw[seqIndex_neg (by omega) h4]at h1
   rw[List.size_toArray,←hl]
   exact Option.some.inj h1
  exact subscriptTail_builtinR (x:=w) pl.isList.typeIs slot_list_getitem.lookup
   (wpAny_getItem_list_neg (Q:=fun r s'=>r=w∧EP X pins σ Q r s') pl.isList (by omega) (by rw[List.size_toArray]<;>omega) (by omega) (by rw[hj];simpa using ew) ⟨rfl,fin⟩) hs
theorem GI:uK X (Jc X.K):=by
 intro value slice pins s σ H x y v u Q I rx ry h hs
 obtain⟨p,xs,i,z,rfl,rfl,hq,he,q⟩:=h
 cases rx
 obtain⟨t,rfl⟩:=ry
 obtain⟨its,r,pl,hz⟩:=I.tuple hq
 obtain⟨j,h1,h2,h3,h4,h5⟩:=sE he
 obtain⟨w,ew,oS⟩:=r.get h2
 have hl:=r.length
 have hn:=kQ
 have fin:EP X pins σ Q w s:=⟨z,H,I,oS,q⟩
 exact subscriptTail_builtinR (x:=w) pl.typeIs slot_tuple_getitem.lookup
  (getItem_tuple (j:=j) (Q:=fun r s'=>r=w∧EP X pins σ Q r s') pl (by omega) (by omega) (by rw[List.size_toArray,←hl];exact h1) (by simpa using ew) ⟨rfl,fin⟩) hs
theorem AO:uK X Du:=by
 intro value slice pins s σ H x y v u Q I rx ry h hs
 obtain⟨z,i,c,rfl,rfl,hz,he,q⟩:=h
 obtain⟨t,rfl⟩:=rx
 obtain⟨t',rfl⟩:=ry
 obtain⟨j,h1,h2,h3,h4,h5⟩:=sE he
 have hl:z.cps.toList.length=z.length:=by simp[Str.length]
 rw[hl]at h1 h4 h5
 have hn:=kQ
 exact tail_any (typeIs_str s z t) slot_str_getitem.lookup (getItem_str (c:=c) (by
  have e1:decide (i< -(2 ^ 63:Int))=false:=decide_eq_false (by omega)
  have e2:decide (i≥2 ^ 63)=false:=decide_eq_false (by omega)
  rw[e1,e2,Bool.or_false]) (by rw[h1];simpa using h2) ⟨.str ⟨#[c]⟩,H,I.tok _,⟨_,rfl⟩,q⟩) hs
def Oq(K:PySem.W.Frag):R2:=fun x y H Q=>Jb K x y H Q∨Jc K x y H Q∨Du x y H Q
theorem GJ:uK X (Oq X.K):=Dv.or (GI.or AO)
theorem xS(its:List Value)(n j:Nat)(u:Value):Obj.mapSeq (·.setIfInBounds j u) { cls:=.type "list",data:=.seq its.toArray n } = { cls:=.type "list",data:=.seq (its.set j u).toArray n }:=by
 simp[Obj.mapSeq]
theorem Inv.lst{pins:List (Addr×Obj)}{σ:St}{H:Hp}{s:Shared}{p:Addr}{xs:List V}(I:Inv X pins σ H s)(h:H p=some (.lst xs)):
  ∃(its:List Value) (n:Nat),Vals xs its∧s.heap.get? p=some { cls:=.type "list",data:=.seq its.toArray n }∧xs.length≤sizeLine:=by
 obtain⟨z,its,n,r,e⟩:=I.bt p _ h
 exact⟨its,n,r,e,z⟩
theorem Inv.GK{pins:List (Addr×Obj)}{σ:St}{H:Hp}{s:Shared}{p:Addr}{xs ys:List V}{its its':List Value}{n n':Nat}{f:Obj→Obj}(I:Inv X pins σ H s)(h:H p=some (.lst xs))
  (ho:s.heap.get? p=some { cls:=.type "list",data:=.seq its.toArray n })(hf:f { cls:=.type "list",data:=.seq its.toArray n } = { cls:=.type "list",data:=.seq its'.toArray n' })(r:Vals ys its')(hz:ys.length≤sizeLine)(t:Nat):
  Inv X pins σ (upd H p (.lst ys)) { s with heap:=s.heap.update p f,toks:=t }:=by
 have e:(s.heap.update p f).get? p=some { cls:=.type "list",data:=.seq its'.toArray n' }:=by
  rw[Heap.get?_update_self f ho (by rw[hf]<;>rfl),hf]
 refine I.write (x:=p) (e:=p) (by rw[h];trivial) (.inl rfl) (fun b u hb q=>(Heap.get?_update_other _ _ (Ne.symm hb)).trans q) ⟨_,e⟩ ?_
 exact⟨hz,its',n',r,e⟩
def Ko:V→V→V→Hp→(Hp→Prop)→Prop:=fun o i v H Q=>∃p xs k j,o= .ref p∧i= .int k∧H p=some (.lst xs)∧zx xs.length k=some j∧Q (upd H p (.lst (xs.set j v)))
theorem set_list:IW X Ko:=by
 intro pins s σ H o i v ov iv u Q I ro ri rv h
 obtain⟨p,xs,k,j,rfl,rfl,hp,hj,q⟩:=h
 cases ro
 obtain⟨t,rfl⟩:=ri
 obtain⟨its,n,r,ho,hz⟩:=I.lst hp
 obtain⟨h1,h2,h3,h4⟩:=xR hj
 have hl:=r.length
 have hn:=kQ
 have I':Inv X pins σ (upd H p (.lst (xs.set j v))) { s with heap:=s.heap.update p (Obj.mapSeq (·.setIfInBounds j u)) }:=
  I.GK hp ho (xS its n j u) (r.set rv j) (by rw[List.length_set];exact hz) s.toks
 by_cases h0: 0≤k
 ·have hk:k.toNat=j:=by
   rw[seqIndex_of h0 h4]at h1
   exact Option.some.inj h1
  exact PySem.W.ki_setAt ho h0 (by omega) (by rw[List.size_toArray,←hl];exact h4) (by rw[hk];exact⟨_,I',q⟩)
 ·have hk:(k+(its.toArray.size:Int)).toNat=j:=by
   rw[seqIndex_neg (by omega) h3]at h1
   rw[List.size_toArray,←hl]
   exact Option.some.inj h1
  exact PySem.W.ki_setBack ho (by omega) (by rw[List.size_toArray,←hl];exact h3) (by omega) (by rw[hk];exact⟨_,I',q⟩)
theorem uL(lo hi:Option Int)(n:Nat):(sliceBounds lo hi none n).1=((HT.bY n 0 lo:Nat):Int)∧(sliceBounds lo hi none n).2.1=((HT.bY n n hi:Nat):Int)∧(sliceBounds lo hi none n).2.2=1:=by
 refine⟨?_,?_,rfl⟩
 ·cases lo with
  |none=>simp[sliceBounds,HT.bY]
  |some i=>
   simp only[sliceBounds,HT.bY,Option.getD_none,show(1:Int) > 0 by decide,if_true]
   by_cases h:i<0
   ·simp only[h,if_true]<;>omega
   ·simp only[h,if_false]<;>omega
 ·cases hi with
  |none=>simp[sliceBounds,HT.bY]
  |some i=>
   simp only[sliceBounds,HT.bY,Option.getD_none,show(1:Int) > 0 by decide,if_true]
   by_cases h:i<0
   ·simp only[h,if_true]<;>omega
   ·simp only[h,if_false]<;>omega
theorem sF(its:List Value)(lo hi:Option Int):slicePick its.toArray lo hi none=((its.drop (HT.bY its.length 0 lo)).take (HT.bY its.length its.length hi - HT.bY its.length 0 lo)).toArray:=by
 obtain⟨h1,h2,h3⟩:=uL lo hi its.toArray.size
 unfold slicePick
 rw[h1,h2,h3]
 simp only[sliceRange_one,pick_run,List.size_toArray]<;>rfl
def Jd(K:PySem.W.Frag):V→Option Int→Option Int→Hp→VK→Prop:=fun x lo hi H Q=>∃a xs,x= .ref a∧cb K H a xs∧∀p,H p=none→Q (.ref p) (upd H p (.lst (mw xs lo hi)))
theorem Dw:uJ X (Jd X.K):=by
 intro pins s σ H x v vl vu lo hi sl Q I rx hs pl pu h
 obtain⟨a,xs,rfl,hx,q⟩:=h
 cases rx
 obtain⟨its,r,ht,hz⟩:=I.list hx
 have hlen:=r.length
 refine⟨"list",_,slot_list_getitem.lookup,ht.isList.typeIs,?_⟩
 refine wpAny_getItem_list_slice ht.isList hs pl pu .none (by simp) ?_ (by rw[List.size_toArray]<;>omega)
 rw[sF,←hlen]
 refine⟨.ref s.heap.objs.size,_,I.laid (t':=s.toks) (o:=.lst (mw xs lo hi)) (fun b ob q=>Heap.get?_push_of_some _ q) (Nat.le_refl _) ?_,rfl,q _ (I.bt.fresh (Nat.le_refl _))⟩
 exact⟨Nat.le_trans (o6 xs lo hi) hz,_,0,(r.drop (HT.bY xs.length 0 lo)).take (HT.bY xs.length xs.length hi - HT.bY xs.length 0 lo),Heap.get?_push_size _ rfl⟩
theorem nL:dr X (compareOp .NotIn) (fun x y H Q=>∃i j,x= .str i∧y= .str j∧Q (.bl (!(!(Builtin.Str.occurrences j i 0 j.length 1).isEmpty))) H):=by
 intro pins s σ H x y v u Q I rx ry h
 obtain⟨i,j,rfl,rfl,q⟩:=h
 obtain⟨t,rfl⟩:=rx
 obtain⟨t',rfl⟩:=ry
 exact notIn_str ⟨.bl _,H,I,rfl,q⟩
theorem bU:gy X (.builtin "len") (fun xs H Q=>∃p ys,xs=[.ref p]∧(cb X.K H p ys∨dc X.K H p ys)∧Q (.int ys.length) H):=by
 intro pins s σ H xs us Q I r h
 obtain⟨p,ys,rfl,hq,q⟩:=h
 obtain⟨u,rfl,rx⟩:=vals1 r
 cases rx
 have hn:=kQ
 rcases hq with hq|hq
 ·obtain⟨its,r',pl,hz⟩:=I.list hq
  have hlen:=r'.length
  exact Calls.call_len_list pl.isList (by simp only[List.size_toArray]<;>omega) ⟨.int ys.length,H,I.tok _,⟨s.toks+1,by rw[List.size_toArray,hlen]⟩,q⟩
 ·obtain⟨its,r',pl,hz⟩:=I.tuple hq
  have hlen:=r'.length
  exact len_tuple pl (by simp only[List.size_toArray]<;>omega) ⟨.int ys.length,H,I.tok _,⟨s.toks+1,by rw[List.size_toArray,hlen]⟩,q⟩
theorem uM:gy X (.builtin "len") (fun xs H Q=>∃z,xs=[.str z]∧z.length≤sizeLine∧Q (.int z.length) H):=by
 intro pins s σ H xs us Q I r h
 obtain⟨z,rfl,hz,q⟩:=h
 obtain⟨u,rfl,t,rfl⟩:=vals1 r
 have hn:=kQ
 exact len_str (by omega) ⟨.int z.length,H,I.tok _,⟨_,rfl⟩,q⟩
theorem uN:gy X (.type "list") (fun xs H Q=>∃p ys,xs=[.ref p]∧(cb X.K H p ys∨dc X.K H p ys)∧∀l,H l=none→Q (.ref l) (upd H l (.lst ys))):=by
 intro pins s σ H xs us Q I r h
 obtain⟨p,ys,rfl,hq,q⟩:=h
 obtain⟨u,rfl,rx⟩:=vals1 r
 cases rx
 have fin:∀(its:List Value),Vals ys its→ys.length≤sizeLine→∀(h':Heap) (c':Nat),(∀b o',s.heap.get? b=some o'→h'.get? b=some o')→
   h'.get? s.heap.objs.size=some { cls:=.type "list",dict:=none,data:=.seq its.toArray c',slots:=#[] }→EP X pins σ Q (.ref s.heap.objs.size) { s with heap:=h' }:=fun its r' hz h' c' kp e=>
  ⟨.ref s.heap.objs.size,_,I.laid (t':=s.toks) kp (Nat.le_refl _) (show cP X.prog X.w _ h' _ (.lst ys)from⟨hz,its,c',r',e⟩),rfl,q _ (I.bt.fresh (Nat.le_refl _))⟩
 rcases hq with hq|hq
 ·obtain⟨its,r',pl,hz⟩:=I.list hq
  have hlen:=r'.length
  obtain⟨o,ho,hc,n,hd⟩:=pl.isList
  exact call_list_seq p (.inl rfl) ho hc hd (fun h' c' kp e=>fin its r' hz h' c' kp e) (by simp only[List.size_toArray]<;>omega)
 ·obtain⟨its,r',pl,hz⟩:=I.tuple hq
  have hlen:=r'.length
  obtain⟨o,ho,hc,n,hd⟩:=pl
  exact call_list_seq p (.inr rfl) ho hc hd (fun h' c' kp e=>fin its r' hz h' c' kp e) (by simp only[List.size_toArray]<;>omega)
def GL(K:PySem.W.Frag)(T:String)(x:V)(H:Hp):Prop:=match x with
 |.str _=>T= "str"
 |.int _=>T= "int"
 |.ref p=>(T= "list"∧∃xs,cb K H p xs)∨(T= "tuple"∧∃o,K.lookup p=some o∧o.cls= .type "tuple"∧o.dict=none)∨
   (T= "dict"∧((∃aG,H p=some (.dK aG))∨∃aG,H p=some (.dT aG)))∨(T= "set"∧∃S n,H p=some (.set S n))
 |_=>False
theorem AR{pins:List (Addr×Obj)}{σ:St}{H:Hp}{s:Shared}{T:String}{x:V}{v:Value}(I:Inv X pins σ H s)(r:RelV x v)(ty:GL X.K T x H):
  s.TypeIs v T∧∀a,v= .ref a→∃ob,s.heap.get? a=some ob∧ob.dict=none:=by
 cases x with
 |str z=>
  obtain⟨t,rfl⟩:=r
  cases (show T= "str" from ty)
  exact⟨typeIs_str s z t,fun _ e=>nomatch e⟩
 |int i=>
  obtain⟨t,rfl⟩:=r
  cases (show T= "int" from ty)
  exact⟨typeIs_int s i t,fun _ e=>nomatch e⟩
 |ref p=>
  cases r
  rcases ty with⟨rfl,xs,hq⟩|⟨rfl,o,hk,hc,hd⟩|⟨rfl,hk⟩|⟨rfl,S,n,hk⟩
  ·obtain⟨its,_,pl,_⟩:=I.list hq
   refine⟨pl.isList.typeIs,fun a e=>?_⟩
   cases e
   obtain⟨o,n,e,c,hd,_⟩:=pl
   exact⟨o,e,hd⟩
  ·refine⟨⟨o,I.xw p o hk,hc⟩,fun a e=>?_⟩
   cases e
   exact⟨o,I.xw _ o hk,hd⟩
  ·have z:∃o,s.heap.get? p=some o∧o.ExactDict:=by
    rcases hk with⟨aG,hk⟩|⟨aG,hk⟩
    ·obtain⟨_,_,_,_,o,_,_,e,ex,_⟩:=I.bt p _ hk
     exact⟨o,e,ex⟩
    ·obtain⟨_,_,_,_,o,_,_,e,ex,_⟩:=I.bt p _ hk
     exact⟨o,e,ex⟩
   obtain⟨o,e,ex⟩:=z
   refine⟨⟨o,e,ex.1⟩,fun a e2=>?_⟩
   cases e2
   exact⟨o,e,ex.2.1⟩
  ·obtain⟨o,_,_,_,e,ex,_⟩:=I.bt p _ hk
   refine⟨⟨o,e,ex.1⟩,fun a e2=>?_⟩
   cases e2
   exact⟨o,e,ex.2.1⟩
 |_=>exact False.elim ty
def Ot(K:PySem.W.Frag)(T:String)(r:V→List V→Hp→VK→Prop)(to:TE):TE:=fun σ H Q=>to σ H fun x H1=>GL K T x H1∧r x [] H1 Q
def Uz(K:PySem.W.Frag)(T:String)(r:V→List V→Hp→VK→Prop)(to:TE)(t:TA):TE:=fun σ H Q=>to σ H fun x H1=>GL K T x H1∧t σ H1 fun xs H2=>r x xs H2 Q
variable{o e:Expr}{es:List Expr}{to:TE}{t:TA}{name:Str}{apos bR:Pos}{T id:String}{r:V→List V→Hp→VK→Prop}
theorem GN(pa:PlainAttrs T)(slot:Slot T name id)(v5:typeOf (.builtin id)=pure (.type "method_descriptor"))(hm:zF X id r)(ho:PE X o to)
  (g9:attributeBase o name X.env (eval o X.env)=eval o X.env:=by rfl)(eL:(apos.endLine==bR.line)=true:=by rfl):PE X (.Call (.Attribute o name apos) [] [] bR) (Ot X.K T r to):=by
 intro pins s σ H Q I h
 refine wpAny_Call_method0_late g9 eL (bH (ho pins s σ H _ I h) fun v s1 bq=>?_)
 obtain⟨x,H1,I1,r1,ty,q1⟩:=bq
 obtain⟨h1,h2⟩:=AR I1 r1 ty
 exact⟨T,id,pa,slot,v5,h1,h2,Calls.callWith_builtin rfl (PySem.evalArgs_none (hm pins s1 σ H1 x [] v [] Q I1 r1 .nil q1))⟩
theorem zG(pa:PlainAttrs T)(slot:Slot T name id)(v5:typeOf (.builtin id)=pure (.type "method_descriptor"))(hm:zF X id r)(ho:PE X o to)(ha:PA X (e::es) t)
  (g9:attributeBase o name X.env (eval o X.env)=eval o X.env:=by rfl)
  (kB:((backTo bR (starEach (e::es) X.env)).all (fun x=>!x.1)&&(backToKw bR (keywordEach [] X.env)).all (fun x=>x.1.isSome)
   &&decide ((e::es).length+([]:List Keyword).length+(if ([]:List Keyword).isEmpty then 0 else 1)<30))=true:=by rfl)
  (eL:(apos.endLine==bR.line)=true:=by rfl)(hs:starEach (e::es) X.env=(false,eval e X.env)::starEach es X.env:=by rfl)(o8:(backTo bR (starEach es X.env)).any (·.1)=false:=by rfl):
  PE X (.Call (.Attribute o name apos) (e::es) [] bR) (Uz X.K T r to t):=by
 intro pins s σ H Q I h
 refine wpAny_Call_method_late g9 kB eL rfl (bH (ho pins s σ H _ I h) fun v s1 bq=>?_)
 obtain⟨x,H1,I1,r1,ty,q1⟩:=bq
 obtain⟨h1,h2⟩:=AR I1 r1 ty
 refine⟨T,id,pa,slot,v5,h1,h2,?_⟩
 have hA:=ha bR pins s1 σ H1 _ I1 q1
 rw[hs]at hA ⊢
 refine Calls.callWith_builtin (by show(false||(backTo bR (starEach es X.env)).any (·.1))=false;rw[o8]<;>rfl) (Calls.evalArgs_plain ?_)
 exact bH hA fun us s2 ⟨vs,H2,I2,r2,q2⟩=>hm pins s2 σ H2 x vs v us Q I2 r1 r2 q2
end
end L2
namespace L2
open PySem PySem.Spec PyProof.Rows
def Dx(X:Cx)(id:String)(r:V→List V→Hp→VK→Prop):Prop:=
 ∀(pins:List (Addr×Obj)) (s:Shared) (σ:St) (H:Hp) (x:V) (xs:List V) (v:Value) (us:List Value) (Q:VK),Inv X pins σ H s→RelV x v→Vals xs us→r x xs H Q→
  wpAny (model X.prog X.w) X.A (call (.builtin id) (v::us)) (EP X pins σ Q) X.xe s
theorem Vals.one:∀{x:V}{us:List Value},Vals [x] us→∃u,us=[u]∧RelV x u
 |_,_,.cons r .nil=>⟨_,rfl,r⟩
theorem Vals.two:∀{x y:V}{us:List Value},Vals [x,y] us→∃u v,us=[u,v]∧RelV x u∧RelV y v
 |_,_,_,.cons r (.cons q .nil)=>⟨_,_,rfl,r,q⟩
theorem Vals.zero:∀{us:List Value},Vals [] us→us=[]
 |_,.nil=>rfl
theorem Vals.dropLast{xs:List V}{us:List Value}(h:Vals xs us):Vals xs.dropLast us.dropLast:=by
 induction h with
 |nil=>exact .nil
 |cons r t ih=>
  cases t with
  |nil=>exact .nil
  |cons q t'=>exact .cons r ih
theorem Vals.reverse{xs:List V}{us:List Value}(h:Vals xs us):Vals xs.reverse us.reverse:=by
 induction h with
 |nil=>exact .nil
 |cons r t ih=>rw[List.reverse_cons,List.reverse_cons];exact Vals.append ih (.cons r .nil)
theorem mx{α:Type}(l:List α):l.eraseIdx (l.length - 1)=l.dropLast:=by
 induction l with
 |nil=>rfl
 |cons a r ih=>
  cases r with
  |nil=>rfl
  |cons b r=>
   have e:(a::b::r).length - 1=((b::r).length - 1)+1:=by
    have h1:(a::b::r).length=r.length+2:=rfl
    have h2:(b::r).length=r.length+1:=rfl
    omega
   rw[e,List.eraseIdx_cons_succ,ih]
   all_goals rfl
section
variable{X:Cx}{pins:List (Addr×Obj)}{σ:St}{H:Hp}{s:Shared}{l b:Addr}{xs ys zs:List V}
theorem Inv.Dy{its its':List Value}{n:Nat}{f:Array Value→Array Value}{t':Nat}(I:Inv X pins σ H s)(hH:H l=some (.lst xs))
  (e:s.heap.get? l=some { cls:=.type "list",data:=.seq its.toArray n })(hf:f its.toArray=its'.toArray)(hv:Vals ys its')(hz:ys.length≤sizeLine):
  Inv X pins σ (upd H l (.lst ys)) { s with heap:=s.heap.update l (Obj.mapSeq f),toks:=t' }:=by
 have q:=PySem.IsL.update e f
 rw[hf]at q
 refine I.write (x:=l) (e:=l) (by rw[hH];exact trivial) (.inl rfl) (fun b' u hb hu=>(Heap.get?_update_other s.heap (Obj.mapSeq f) (Ne.symm hb)).trans hu) ⟨_,q⟩ ?_
 exact⟨hz,its',_,hv,q⟩
theorem Inv.Je{its:List Value}{t':Nat}(I:Inv X pins σ H s)(hv:Vals ys its)(hz:ys.length≤sizeLine):
  Inv X pins σ (upd H s.heap.objs.size (.lst ys)) { s with heap:=s.heap.push { cls:=.type "list",data:=.seq its.toArray },toks:=t' }:=
 I.laid (fun _ _ q=>Heap.get?_push_of_some _ q) (Nat.le_refl _) ⟨hz,its,0,hv,Heap.get?_push_size _ rfl⟩
theorem Inv.fresh(I:Inv X pins σ H s):H s.heap.objs.size=none:=I.bt.fresh (Nat.le_refl _)
theorem Inv.sG(I:Inv X pins σ H s)(hH:H l=some (.lst xs)):xs.length≤sizeLine∧∃(its:List Value) (n:Nat),Vals xs its∧xs.length=its.length∧s.heap.get? l=some { cls:=.type "list",data:=.seq its.toArray n }:=by
 obtain⟨z,its,n,r,e⟩:=I.bt l _ hH
 exact⟨z,its,n,r,r.length,e⟩
theorem BP{n:Nat}(h:n≤sizeLine):Builtin.List.listTooLong n=false:=by
 unfold Builtin.List.listTooLong
 exact decide_eq_false (by omega)
end
section
variable{X:Cx}
def xT:V→List V→Hp→VK→Prop:=fun x vs H Q=>∃l xs y,x= .ref l∧vs=[y]∧H l=some (.lst xs)∧xs.length<sizeLine∧Q .bf (upd H l (.lst (xs++[y])))
theorem b_:Dx X "list.append" xT:=by
 intro pins s σ H x vs v us Q I rx rv h
 obtain⟨l,xs,y,rfl,rfl,hH,hz,q⟩:=h
 cases rx
 obtain⟨u,rfl,ru⟩:=rv.one
 obtain⟨z,its,n,r,hl,e⟩:=I.sG hH
 refine call_meets F.slot_list_append ⟨_,e,rfl⟩ F.entry_list_append (F.args_list_append_2 _ _) (PySem.list_append l its.toArray n u (by rw[List.size_toArray];omega)) ⟨e,?_⟩
 refine⟨.bf,_,I.Dy (its':=its++[u]) hH e (by simp) (r.append (.cons ru .nil)) ?_,rfl,q⟩
 rw[List.length_append,List.length_singleton]
 omega
def Dz:V→List V→Hp→VK→Prop:=fun x vs H Q=>∃l b xs zs,x= .ref l∧vs=[.ref b]∧H l=some (.lst xs)∧H b=some (.lst zs)∧xs.length+zs.length≤sizeLine∧Q .bf (upd H l (.lst (xs++zs)))
theorem Kp:Dx X "list.extend" Dz:=by
 intro pins s σ H x vs v us Q I rx rv h
 obtain⟨l,b,xs,zs,rfl,rfl,hH,hB,hz,q⟩:=h
 cases rx
 obtain⟨u,rfl,ru⟩:=rv.one
 cases ru
 obtain⟨z,its,n,r,hl,e⟩:=I.sG hH
 obtain⟨z2,qW,n2,r2,DA,e2⟩:=I.sG hB
 have zu:its.toArray.size+qW.toArray.size≤sizeLine:=by rw[List.size_toArray,List.size_toArray];omega
 have Kr:¬(!its.toArray.isEmpty&&Builtin.List.listTooLong (its.toArray.size+qW.toArray.size))=true:=by
  rw[BP zu,Bool.and_false]
  exact Bool.false_ne_true
 refine call_meets F.slot_list_extend ⟨_,e,rfl⟩ F.entry_list_extend (F.args_list_extend_2 _ _)
  (AutoSeq1.list_extend_list_list_0 l its.toArray n b qW.toArray n2 Kr (by rw[List.size_toArray];omega) (by omega)) ⟨e,e2,?_⟩
 refine⟨.bf,_,I.Dy (its':=its++qW) hH e (by simp) (r.append r2) ?_,rfl,q⟩
 rw[List.length_append]
 omega
def Jf:V→List V→Hp→VK→Prop:=fun x vs H Q=>∃l xs y,x= .ref l∧vs=[]∧H l=some (.lst xs)∧xs[xs.length - 1]? =some y∧Q y (upd H l (.lst xs.dropLast))
theorem GO:Dx X "list.pop" Jf:=by
 intro pins s σ H x vs v us Q I rx rv h
 obtain⟨l,xs,y,rfl,rfl,hH,hy,q⟩:=h
 cases rx
 have UA:=rv.zero
 subst UA
 obtain⟨z,its,n,r,hl,e⟩:=I.sG hH
 obtain⟨u,hu,ru⟩:=r.get hy
 have oM:its.toArray[its.toArray.size - 1]? =some u:=by
  show its.toArray[its.length - 1]? =some u
  rw[←Array.getElem?_toList,←hl]
  exact hu
 refine call_meets F.slot_list_pop ⟨_,e,rfl⟩ F.entry_list_pop (F.args_list_pop_1 _) (MeetsSeq.list_pop_last l its.toArray n u oM (by rw[List.size_toArray];omega)) ⟨e,?_⟩
 refine⟨y,_,I.Dy (its':=its.dropLast) hH e ?_ r.dropLast ?_,ru,q⟩
 ·show its.toArray.eraseIdxIfInBounds (its.toArray.size - 1)=its.dropLast.toArray
  rw[List.size_toArray,List.eraseIdxIfInBounds_toArray,mx]
 ·rw[List.length_dropLast]
  omega
def DB:R2:=fun x y H Q=>∃l b xs zs,x= .ref l∧y= .ref b∧H l=some (.lst xs)∧H b=some (.lst zs)∧xs.length+zs.length≤sizeLine∧∀p,H p=none→Q (.ref p) (upd H p (.lst (xs++zs)))
theorem GP:dr X (binaryOp .Add) DB:=by
 intro pins s σ H x y v u Q I rx ry h
 obtain⟨l,b,xs,zs,rfl,rfl,hH,hB,hz,q⟩:=h
 cases rx
 cases ry
 obtain⟨z,its,n,r,hl,e⟩:=I.sG hH
 obtain⟨z2,qW,n2,r2,DA,e2⟩:=I.sG hB
 refine PySem.P.add_list e e2 ?_ (by rw[List.size_toArray,List.size_toArray];omega)
 have ea:its.toArray++qW.toArray=(its++qW).toArray:=by simp
 rw[ea]
 exact⟨.ref _,_,I.Je (t':=s.toks) (r.append r2) (by rw[List.length_append];omega),rfl,q _ I.fresh⟩
end
section
variable{prog:Program}{w:World}{A:Around}{E:Value→Shared→Prop}{s:Shared}
end
section
variable{X:Cx}
end
end L2
namespace Ou
open PySem PySem.W PySem.Calls PyProof.Rows
theorem qo{P:Params}{h:Heap}:∀(ns:List Int) (vs:List Value),WellAll P h vs (ns.map WData.int)→IntsAre vs ns:=by
 intro ns
 induction ns with
 |nil=>
  intro vs w
  rw[List.map_nil]at w
  cases w
  exact .nil
 |cons n ns ih=>
  intro vs w
  rw[List.map_cons]at w
  cases w with
  |cons a b=>
   cases a
   exact .cons _ _ (ih _ b)
theorem zH{l:OpenLaw}{n:Nat}(hn:l.most=some n){P:Params}{h:Heap}{args:List WData}{vals:List Value}
  (AS:l.row.toRowW.claim.pre args=true)(GR:WellAll P h vals args):
  ∃a vs ns,vals=[Value.ref a]∧args=[WData.list (ns.map WData.int)]∧h.get? a=some { cls:=.type "list",data:=.seq vs.toArray }∧IntsAre vs ns∧ns.length≤n:=by
 have UB:WShape.hasAll [] args [.list .int]=true:=(pre_splitW AS).1
 have hc:l.pre.holds [] { args:=args } =true:=(pre_splitW AS).2
 obtain⟨d,r,rfl,h1,h2⟩:=hasAllW_cons UB
 obtain rfl:=hasAllW_nil h2
 obtain⟨xs,rfl,h3⟩:=hasW_list h1
 obtain⟨ns,rfl⟩:=items_int h3
 have hlen:ns.length≤n:=by
  unfold OpenLaw.pre at hc
  have h4:(WTm.not (.lt (.lit (.int (n:Int))) (.len (.arg 0)))).holds [] { args:=[.list (ns.map .int)] } =true:=by
   have h4:=(holds_andW hc).1
   rw[hn]at h4
   exact h4
  have h5:=condW_of h4 (w_not (w_lt w_lit (w_len_list (w_arg rfl))))
  rw[List.length_map]at h5
  refine Nat.le_of_not_lt fun q=>?_
  have q':(n:Int)<((ns.length:Nat):Int):=by omega
  first
   |(rw[decide_eq_true q']at h5;exact absurd h5 (by decide))
   |(simp at h5;omega)
 cases GR with
 |cons w1 w2=>
  cases w2
  cases w1 with
  |list ho ma=>exact⟨_,_,ns,rfl,rfl,ho,qo ns _ ma,hlen⟩
theorem zI(l:OpenLaw)(args:List WData):l.row.toRowW.claim.post args (.bool true) args=true:=
 postW_of (r:=l.row.toRowW) (X:=(true==true))
  (show WShape.has [] (.bool true) .bool=true by first|rfl|decide|simp[WShape.has,WShape.arms,WShape.armsAll])
  (show(WTm.eq .res (.lit (.bool true))).value [] { args:=args,res:=some (.bool true),after:=args } =some (.bool (true==true))from w_eq_bool (w_res rfl) w_lit) rfl
theorem v7{l:OpenLaw}{n:Nat}{q:Program}{loose:List Str}{XP:(Str→Option Value)→Heap→Prop}{YP:World→Heap→Prop}{d:DefRec}
  (hn:l.most=some n)(DC:d.params.defaults=[])
  (call:∀(w:World) (bO bB:Shared) (mg mb:Str→Option Value) (fa:Addr) (o:Obj) (pm cd doc:Value) (a:Addr) (vs:List Value) (ns:List Int),
   Ground q loose [] XP w bO mg mb bB.heap→YP w bB.heap→
   bB.heap.get? fa=some o→o.data= .func (docDef d.name d.params d.body d.scope pm cd doc)→bB.heap.CodeRec cd d.name→mg d.name=some (.ref fa)→
   bB.heap.get? a=some { cls:=.type "list",data:=.seq vs.toArray }→IntsAre vs ns→ns.length≤n→bB.gens= #[]→
   codeAny (model l.prog w) callerA (.call (.ref fa) ⟨[.ref a],[]⟩) (fun r s'=>r= .ok (.ret (.bool true))∧OldK bB.heap s'.heap∧s'.os=bB.os∧AllBare s'.gens) bB):
  WalkO q loose XP YP l.row.toRowW d [] (fun f vs=>PySem.call f vs):=by
 intro w bO bB mg mb G Y fa o pm cd doc dV kV ho hd qm hD DD hg args vals as AS Yi Yp GR Yq
 obtain rfl:dV= .none:=Dflts.none hD DC
 obtain rfl:kV= .none:=Dflts.noKw hD
 obtain⟨a,vs,ns,rfl,rfl,DE,hints,hlen⟩:=zH hn AS GR
 refine enter_call (codeAny_mono (call w bO bB mg mb fa o pm cd doc a vs ns G Y ho (fd_plain hd) qm DD DE hints hlen hg) fun r s' hq=>?_)
 obtain⟨rfl,h2,h3,h4⟩:=hq
 exact⟨.inl ⟨.bool true,.bool true,[],rfl,fun _=>rfl,.bool true,zI l _,fun _=>⟨List.Pairwise.nil,fun _ hm=>(nomatch hm)⟩⟩,h2,h3,h4⟩
section
variable{prog:Program}{w:World}{A:Around}{E:Value→Shared→Prop}{s:Shared}{K:Frag}
end
end Ou
namespace L2
open PySem PySem.Spec PyProof.Rows
theorem sH:∀{vs:List Value}{ns:List Int},IntsAre vs ns→Vals (ns.map V.int) vs
 |_,_,.nil=>.nil
 |_,_,.cons n t h=>.cons ⟨t,rfl⟩ (sH h)
def xU(H:Hp):Prop:=∀b,H b=none∨∃o xs,H b=some (.iu o (.lst xs))
theorem BR{P:Program}{w:World}{K:PySem.W.Frag}{mg mb:Str→Option Value}{CX:sv}{k:Nat}{fa a:Addr}{fd:FuncData}{x:Str}{sp:Sp}{bB:Shared}{vs:List Value}{ns:List Int}
  (KX:K.In bB.heap)(GS:bB.heap.Ns mainGlobals mg)(hb:bB.heap.Ns builtinsNs mb)(UC:∀x:Str,x≠"__name__"→mb x=bootBuiltins x)(Ov:bB.heap.NoLimit)(UD:∃bm ob,mg "__builtins__" =some (.ref bm)∧bm≠builtinsNs∧bB.heap.get? bm=some ob∧ob.cls= .type "module"∧ob.dict=some builtinsNs∧ob.data= .plain)(hg:bB.gens= #[])
  (ha:bB.heap.get? a=some { cls:=.type "list",data:=.seq vs.toArray })(hi:IntsAre vs ns)(hl:ns.length≤sizeLine)(hr:fy k callerA)
  (F:∀base:Heap,K.In base→base.Ns mainGlobals mg→bM P w K mg base CX k fa fd [x] sp)(Ks:∀(s:Shared) (u:Value),BindsTo s fd ⟨[u],[]⟩ [(x,u)])
  (uH:∀H:Hp,xU H→cb K H a (ns.map V.int)→sp [.ref a] H (fun v _=>v= .bl true) fun _ _ _=>False)
  (Kt:∀H e s',CX [] H bB (fun _ _ _=>False) e s'→False):
  codeAny (model P w) callerA (.call (.ref fa) ⟨[.ref a],[]⟩) (fun r s'=>r= .ok (.ret (.bool true))∧OldK bB.heap s'.heap∧s'.os=bB.os∧AllBare s'.gens) bB:=by
 have rv:=sH hi
 have Ow:=hi.length
 -- from an abstract heap in UE nothing but nE GU may be tracked
 have core:∀H:Hp,xU H→cb K H a (ns.map V.int)→gx P w H bB.heap→(∀b,H b≠none→b=a)→(H a≠none→K.lookup a=none)→
   codeAny (model P w) callerA (.call (.ref fa) ⟨[.ref a],[]⟩) (fun r s'=>r= .ok (.ret (.bool true))∧OldK bB.heap s'.heap∧s'.os=bB.os∧AllBare s'.gens) bB:=by
  intro H hO hS bt hA hK
  have sJ:∀{b:Addr}{o:Obj},bB.heap.get? b=some o→H b=none→(oP bB.heap H).get? b=some o:=fun e n=>BA e n
  have Dm:∀{b:Addr}{o:Obj}{es:Array DictEntry}{ep:Nat},bB.heap.get? b=some o→o.data= .dict es ep→H b=none:=fun {b o es ep} e d=>by
   cases q:H b with
   |none=>rfl
   |some u=>
    have e':b=a:=hA b (by rw[q];simp)
    subst e'
    rw[ha]at e;cases e
    have d':Data.seq vs.toArray _=Data.dict es ep:=d
    cases d'
  have GV:∀{b:Addr}{m:Str→Option Value},bB.heap.Ns b m→(oP bB.heap H).Ns b m:=fun {b m} ⟨o,es,ep,e,d,r⟩=>⟨o,es,ep,sJ e (Dm e d),d,r⟩
  have Ox:K.In (oP bB.heap H):=fun b o e=>sJ (KX b o e) (by
   cases q:H b with
   |none=>rfl
   |some u=>
    have e':b=a:=hA b (by rw[q];simp)
    subst e'
    rw[hK (by rw[q];simp)]at e;cases e)
  have hM:Mod K mg (oP bB.heap H):=⟨Ox,GV GS,⟨mb,GV hb,UC⟩,let ⟨mc,h1,h2⟩:=Ov;⟨mc,GV h1,h2⟩,let ⟨bm,ob,b1,b2,b3,b4,b5,b6⟩:=UD;⟨bm,ob,b1,b2,sJ b3 (by
   cases q:H bm with
   |none=>rfl
   |some u=>
    have e':bm=a:=hA bm (by rw[q];simp)
    rw[e',ha]at b3;cases b3
    cases b6),b4,b5,b6⟩⟩
  have e0:AN P w K mg (oP bB.heap H) callerA [] bB H:=⟨rfl,hM,fun b o e=>CQ e,Nat.le_of_eq (y_ _ _),trivial,fun b hb=>absurd (show b∈([]:List Addr)from hb) (by simp),bt,.of_eq hg⟩
  refine codeAny_mono ((F _ Ox (GV GS)).run callerA [] bB H ⟨[.ref a],[]⟩ [.ref a] [.ref a] _ _ hr e0 (Ks bB (.ref a)) (.cons rfl .nil) (uH H hO hS)) fun r s' h=>?_
  cases r with
  |error e=>exact(Kt H e s' h).elim
  |ok fl=>
   cases fl with
   |next=>exact False.elim h
   |brk=>exact False.elim h
   |cont=>exact False.elim h
   |ret u=>
    obtain⟨v,H',os,bare,un,vk,r',q⟩:=h
    have q':v= .bl true:=q
    subst q'
    obtain rfl:u=Value.bool true:=r'
    refine⟨rfl,OldK.of_keep fun b o e=>?_,os,bare⟩
    cases q:H b with
    |none=>exact un.keep b o e q (by intro z;exact absurd (show b∈([]:List Addr)from z) (by simp)) (by simp)
    |some u=>
     rcases hO b with z|⟨ob,xs,z⟩
     ·rw[q]at z;cases z
     ·have z2:=un.md b ob _ z
      obtain⟨e1,_⟩:=bt b _ z
      obtain⟨e2,_⟩:=vk b _ z2
      rw[e]at e1;cases e1
      exact e2
 cases hk:K.lookup a with
 |some o=>
  -- nE GU is one of nE NT own objects
  have e:=KX a o hk
  rw[ha]at e
  cases e
  refine core (fun _=>none) (fun _=>.inl rfl) (.inr ⟨_,vs.toArray,_,hk,rfl,rfl,rfl,by rw[List.size_toArray,Ow];exact hl,by simpa using rv⟩) (fun b u z=>by have z':(none:Option HO)=some u:=z;cases z') (fun b z=>absurd rfl z) fun z=>absurd rfl z
 |none=>
  refine core (fun b=>if b=a then some (.iu { cls:=.type "list",data:=.seq vs.toArray } (.lst (ns.map V.int)))else none) (fun b=>?_) (.inl (.inr ⟨{ cls:=.type "list",data:=.seq vs.toArray },if_pos rfl⟩)) (fun b u z=>?_) (fun b z=>?_) fun _=>hk
  ·by_cases hb:b=a
   ·exact .inr ⟨_,_,if_pos hb⟩
   ·exact .inl (if_neg hb)
  ·by_cases hb:b=a
   ·have z':=(if_pos hb).symm.trans z
    cases z'
    subst hb
    exact⟨ha,by rw[List.length_map];exact hl,vs,_,rv,ha⟩
   ·have z':=(if_neg hb).symm.trans z
    cases z'
  ·by_cases hb:b=a
   ·exact hb
   ·exact absurd (if_neg hb) z
end L2
namespace L2
open PySem PySem.Spec PyProof.Rows
abbrev Oy{K:PySem.W.Frag}{h:Heap}(_:K.In h):PySem.W.Frag:=K
theorem DF{l:PySem.W.OpenLaw}{n k:Nat}{q:Program}{loose:List Str}{XP:(Str→Option Value)→Heap→Prop}{YP:World→Heap→Prop}{d:DefRec}{K:Params→PySem.W.Frag}{CX:World→sv}{sp:World→Sp}{x:Str}
  (hn:l.most=some n)(BS:n≤sizeLine)(DC:d.params.defaults=[])(hr:fy k callerA)
  (hY:∀(w:World) (h:Heap),YP w h→(K w.params).In h)
  (F:∀(w:World) (mg:Str→Option Value) (fa:Addr) (h:Heap),(K w.params).In h→h.Ns mainGlobals mg→mg d.name=some (.ref fa)→
   ∃fd:FuncData,(∀(s:Shared) (u:Value),BindsTo s fd ⟨[u],[]⟩ [(x,u)])∧
    ∀base:Heap,(K w.params).In base→base.Ns mainGlobals mg→bM l.prog w (K w.params) mg base (CX w) k fa fd [x] (sp w))
  (uH:∀(w:World) (H:Hp) (a:Addr) (ns:List Int),ns.length≤n→xU H→cb (K w.params) H a (ns.map V.int)→sp w [.ref a] H (fun v _=>v= .bl true) fun _ _ _=>False)
  (Kt:∀(w:World) (H:Hp) (s:Shared) (e:Value) (s':Shared),CX w [] H s (fun _ _ _=>False) e s'→False):
  PySem.W.WalkO q loose XP YP l.row.toRowW d [] (fun f vs=>PySem.call f vs):=by
 refine Ou.v7 hn DC fun w bO bB mg mb fa o pm cd doc a vs ns G Y ho hd qm DD DE hints hlen hg=>?_
 have KX:=hY w _ Y
 obtain⟨fd,hb,hF⟩:=F w mg fa _ KX G.T.g DD
 exact BR KX G.T.g G.T.b G.T.builtins G.T.nolimit G.T.bmain hg DE hints (Nat.le_trans hlen BS) hr hF hb (fun H hO hS=>uH w H a ns hlen hO hS) fun H e s'=>Kt w H bB e s'
end L2
namespace L2
open PySem PySem.Spec PyProof.Rows
def aQ(s:Stmt):Arguments:=match s with
 |.FunctionDef _ a _ _ _ _ _ _ _ _=>a
 |_=>{ posonlyargs:=[],args:=[],vararg:=none,kwonlyargs:=[],kw_defaults:=[],kwarg:=none,defaults:=[] }
def aM(s:Stmt):List Stmt:=match s with
 |.FunctionDef _ _ b _ _ _ _ _ _ _=>b
 |_=>[]
def av(s:Stmt):Scope:=match s with
 |.FunctionDef _ _ _ _ _ _ sc _ _ _=>sc
 |_=>{ kind:=.function,names:=[],isGenerator:=false,isCoroutine:=false }
abbrev dj:sv:=fun _ _ _ _ _ _=>False
abbrev E0:XK:=fun _ _ _=>False
theorem Ku{X:Cx}:Passes dj X E0:=fun _ _ _ _ _ _ _ h=>h.elim
structure eJ(K:PySem.W.Frag)(x qual:Str)(st:Stmt)(f:Addr)(fd:FuncData):Prop where
 ex:∃(oc:Value) (od:Option Addr) (kV doc pm:Value) (an:Option Addr) (bF ct:Value) (oZ:Array (Option Value)),
  fd=PySem.W.fnOf x qual (aQ st) (aM st) (av st) .none kV doc pm an bF ct∧K.lookup f=some ⟨oc,od,.func fd,oZ⟩∧PySem.W.codeIn K bF qual=true
 kp:PySem.W.keepIn K (.ref f)=true
section
variable{P:Program}{w:World}{K:PySem.W.Frag}{mg:Str→Option Value}{base:Heap}
theorem eJ.ok{x qual:Str}{st:Stmt}{f:Addr}{fd:FuncData}{N ps:List Str}{k:Nat}{sp:Sp}(F:eJ K x qual st f fd)(S:aU N ps (av st))(len:∀vs H Q E,sp vs H Q E→vs.length=ps.length)
  (kR:∀(bF:Value) (A:Around) (outer:List Env) (s:Shared) (H:Hp) (vs:List V) (Q:VK) (E:XK),fy k (A.deeper (envOfC qual (av st) s.heap.objs.size f bF))→sp vs H Q E→
   ∃t,mm (oY dj P w K mg base N qual (av st) f bF A outer s H E).xB (aM st) t∧t { nx:=fun _ H'=>Q .bf H',rt:=Q } (start N vs) H):bM P w K mg base dj (k+1) f fd ps sp:=by
 obtain⟨oc,od,kV,doc,pm,an,bF,ct,oZ,rfl,lk,qm⟩:=F.ex
 refine Dn lk qm S len fun A outer s H vs Q E hr uH=>?_
 obtain⟨t,h,q⟩:=kR bF A outer s H vs Q E hr uH
 exact⟨t,h.xB,q⟩
theorem eJ.binds{x qual:Str}{st:Stmt}{f:Addr}{fd:FuncData}{ps:List Str}(F:eJ K x qual st f fd)
  (h:∀(kV doc pm:Value) (an:Option Addr) (bF ct:Value) (us:List Value),us.length=ps.length→bindArgs (PySem.W.fnOf x qual (aQ st) (aM st) (av st) .none kV doc pm an bF ct) ⟨us,[]⟩=pure (ps.zip us)):Binds K fd ps []:=by
 obtain⟨oc,od,kV,doc,pm,an,bF,ct,oZ,rfl,lk,qm⟩:=F.ex
 exact .all (h kV doc pm an bF ct)
theorem bI{x qual:Str}{st:Stmt}{f:Addr}{oc:Value}{od an:Option Addr}{oZ:Array (Option Value)}{kV doc pm bF ct:Value}(l:K.lookup f=some ⟨oc,od,.func (PySem.W.fnOf x qual (aQ st) (aM st) (av st) .none kV doc pm an bF ct),oZ⟩)
  (c:PySem.W.codeIn K bF qual=true)(k:PySem.W.keepIn K (.ref f)=true):eJ K x qual st f (PySem.W.fnOf x qual (aQ st) (aM st) (av st) .none kV doc pm an bF ct):=⟨⟨oc,od,kV,doc,pm,an,bF,ct,oZ,rfl,l,c⟩,k⟩
end
section
variable{X:Cx}
theorem pv(i:Nat){x:Str}{pos:Pos}(hN:X.N[i]? =some x:=by rfl)(hv:CT X.env.scope x:=by first|exact Or.inl rfl|exact Or.inr (Or.inl rfl)|exact Or.inr (Or.inr rfl))(hd:(x==("__debug__":Str))=false:=by decide)
  (qm:(x==("__classdict__":Str))=false:=by decide):PE X (.Name x pos) (C0 i):=Ga hN hv hd qm
end
def Jg(H H':Hp):Prop:=∀b o,H b=some o→H' b=some o
end L2
namespace L2
open PySem PySem.Spec PyProof.Rows
section
variable{κ:Type}[DecidableEq κ]
def kC(aG:List (κ×V))(k:κ):Option V:=(aG.find? fun kv=>decide (kv.1=k)).map (·.2)
def putK(aG:List (κ×V))(k:κ)(v:V):List (κ×V):=
 if (aG.any fun kv=>decide (kv.1=k))=true then aG.map (fun kv=>if kv.1=k then(kv.1,v)else kv)else aG++[(k,v)]
theorem qp{p:κ×V}{r:List (κ×V)}{k:κ}(e:p.1=k):kC (p::r) k=some p.2:=by simp[kC,List.find?_cons,e]
theorem nh{p:κ×V}{r:List (κ×V)}{k:κ}(e:¬p.1=k):kC (p::r) k=kC r k:=by simp[kC,List.find?_cons,e]
theorem v8(aG:List (κ×V))(k:κ)(v:V):(putK aG k v).length≤aG.length+1:=by
 unfold putK
 split
 ·rw[List.length_map];omega
 ·rw[List.length_append,List.length_cons,List.length_nil];omega
theorem KV.val{aG:List (κ×V)}{vs:List (κ×Value)}(r:KV aG vs)(k:κ):qS (kC aG k) (valueAt vs k):=by
 unfold KV at r
 induction r with
 |nil=>exact True.intro
 |@cons p q ps qs h t ih=>
  obtain⟨h1,h2⟩:=h
  by_cases e:p.1=k
  ·have e':q.1=k:=h1.symm.trans e
   have b:valueAt (q::qs) k=some q.2:=by simp[valueAt,List.find?_cons,e']
   rw[qp e,b];exact h2
  ·have e':¬q.1=k:=fun z=>e (h1.trans z)
   have b:valueAt (q::qs) k=valueAt qs k:=by simp[valueAt,List.find?_cons,e']
   rw[nh e,b];exact ih
theorem KV.any{aG:List (κ×V)}{vs:List (κ×Value)}(r:KV aG vs)(k:κ):(aG.any fun kv=>decide (kv.1=k))=vs.any fun kv=>decide (kv.1=k):=by
 unfold KV at r
 induction r with
 |nil=>rfl
 |cons h t ih=>rw[List.any_cons,List.any_cons,ih,h.1]
theorem KV.Oz{aG:List (κ×V)}{vs:List (κ×Value)}(r:KV aG vs)(k:κ){y:V}{u:Value}(ry:RelV y u):
  KV (aG.map fun kv=>if kv.1=k then(kv.1,y)else kv) (vs.map fun kv=>if kv.1=k then(kv.1,u)else kv):=by
 unfold KV at r ⊢
 induction r with
 |nil=>exact .nil
 |@cons p q ps qs h t ih=>
  rw[List.map_cons,List.map_cons]
  refine .cons ?_ ih
  obtain⟨h1,h2⟩:=h
  by_cases e:p.1=k
  ·rw[if_pos e,if_pos (h1.symm.trans e)];exact⟨h1,ry⟩
  ·rw[if_neg e,if_neg (fun z=>e (h1.trans z))];exact⟨h1,h2⟩
theorem KV.put{aG:List (κ×V)}{vs:List (κ×Value)}(r:KV aG vs)(k:κ){y:V}{u:Value}(ry:RelV y u):KV (putK aG k y) (stored vs k u):=by
 unfold putK stored
 rw[r.any k]
 by_cases e:(vs.any fun kv=>decide (kv.1=k))=true
 ·rw[if_pos e,if_pos e];exact r.Oz k ry
 ·rw[if_neg e,if_neg e];exact Paired.snoc r ⟨rfl,ry⟩
theorem KV.length{aG:List (κ×V)}{vs:List (κ×Value)}(r:KV aG vs):aG.length=vs.length:=Paired.length r
end
theorem zJ{P:Program}{w:World}{k:Key}{u:Value}(r:RelV (kV k) u):(cT P w).is k u=true:=by
 cases k with
 |inl i=>obtain⟨t,e⟩:=(show ∃t,u=Value.int i t from r);subst e;exact vS P w i t
 |inr x=>obtain⟨t,e⟩:=(show ∃t,u=Value.str x t from r);subst e;exact vT P w x t
theorem sL{P:Program}{w:World}:∀{ks:List Key}{us:List Value},Vals (ks.map kV) us→ItemsAre (cT P w) ks us
 |[],_,r=>by rw[List.map_nil]at r;cases r;exact .nil
 |k::ks,_,r=>by
  rw[List.map_cons]at r
  cases r with
  |cons h t=>exact .cons (zJ h) (sL t)
abbrev KT(H:Hp):List (List Key×V)→List (List Key×Addr×Value)→Prop:=Paired fun p q=>p.1=q.1∧H q.2.1=some (.tup (p.1.map kV))∧RelV p.2 q.2.2
theorem KT.val{H:Hp}{aG:List (List Key×V)}{xs:List (List Key×Addr×Value)}(r:KT H aG xs)(k:List Key):qS (kC aG k) ((atKey xs k).map (·.2)):=by
 induction r with
 |nil=>exact True.intro
 |@cons p q ps qs h t ih=>
  obtain⟨h1,_,h2⟩:=h
  by_cases e:p.1=k
  ·have e':q.1=k:=h1.symm.trans e
   have b:atKey (q::qs) k=some q.2:=by simp[atKey,List.find?_cons,e']
   rw[qp e,b];exact h2
  ·have e':¬q.1=k:=fun z=>e (h1.trans z)
   have b:atKey (q::qs) k=atKey qs k:=by simp[atKey,List.find?_cons,e']
   rw[nh e,b];exact ih
section
variable{P:Program}{w:World}{H:Hp}{h:Heap}{a:Addr}
theorem DG{u:HO}(ok:gx P w H h)(e:Rd H a u):cP P w H h a u:=e.ok ok
theorem zK{aG:List (Key×V)}(ok:gx P w H h)(e:Rd H a (.dK aG)):aG.length≤sizeLine∧(a==sysModules)=false∧∃vs,KV aG vs∧h.DictOf (cT P w) a vs:=
 show cP P w H h a (.dK aG)from DG ok e
theorem Kv{aG:List (Key×V)}(ok:gx P w H h)(e:H a=some (.dK aG)):aG.length≤sizeLine∧(a==sysModules)=false∧∃vs,KV aG vs∧h.DictOf (cT P w) a vs:=zK ok (.inl e)
theorem AU{ks:List Key}(ok:gx P w H h)(e:H a=some (.tup (ks.map kV))):(tupleKind (cT P w)).is h ks a:=by
 obtain⟨_,its,r,o,h1,h2,n,h3⟩:=(show cP P w H h a (.tup (ks.map kV))from ok a _ e)
 exact⟨o,its.toArray,n,h1,h2,h3,by simpa using sL r⟩
theorem DH{aG:List (List Key×V)}(ok:gx P w H h)(e:Rd H a (.dT aG)):aG.length≤sizeLine∧(a==sysModules)=false∧
  ∃xs,KT H aG xs∧h.DictOfH (tupleKind (cT P w)) a xs:=by
 obtain⟨z,y,xs,r,o,es,ep,h1,h2,h3,h4,h5⟩:=(show cP P w H h a (.dT aG)from DG ok e)
 refine⟨z,y,xs,r,o,es,ep,h1,h2,h3,h4,fun x hx=>?_,h5⟩
 have all:∀{l:List (List Key×V)}{m:List (List Key×Addr×Value)},KT H l m→∀x∈m,(tupleKind (cT P w)).is h x.1 x.2.1:=by
  intro l m q
  induction q with
  |nil=>intro x hx;exact nomatch hx
  |@cons p q ps qs hq t ih=>
   intro x hx
   rcases List.mem_cons.mp hx with e|hx
   ·subst e
    exact AU ok (by rw[←hq.1];exact hq.2.1)
   ·exact ih x hx
 exact all r x hx
end
def qX(H:Hp)(a:Addr)(y:V)(r:Option V):Prop:=
 (∃aG k,Rd H a (.dK aG)∧y=kV k∧r=kC aG k)∨∃aG k b,Rd H a (.dT aG)∧y= .ref b∧H b=some (.tup (k.map kV))∧r=kC aG k
def AV(H:Hp)(a:Addr)(y v:V)(H':Hp):Prop:=
 (∃aG k,H a=some (.dK aG)∧y=kV k∧aG.length<sizeLine∧H'=upd H a (.dK (putK aG k v)))∨
 ∃aG k b,H a=some (.dT aG)∧y= .ref b∧H b=some (.tup (k.map kV))∧aG.length<sizeLine∧H'=upd H a (.dT (putK aG k v))
theorem qX.k{H:Hp}{a:Addr}{aG:List (Key×V)}{k:Key}(e:H a=some (.dK aG)):qX H a (kV k) (kC aG k):=.inl ⟨aG,k,.inl e,rfl,rfl⟩
theorem qX.t{H:Hp}{a b:Addr}{aG:List (List Key×V)}{k:List Key}(e:H a=some (.dT aG))(eb:H b=some (.tup (k.map kV))):qX H a (.ref b) (kC aG k):=.inr ⟨aG,k,b,.inl e,rfl,eb,rfl⟩
theorem AV.k{H:Hp}{a:Addr}{aG:List (Key×V)}{k:Key}{v:V}(e:H a=some (.dK aG))(hl:aG.length<sizeLine):AV H a (kV k) v (upd H a (.dK (putK aG k v))):=.inl ⟨aG,k,e,rfl,hl,rfl⟩
theorem AV.t{H:Hp}{a b:Addr}{aG:List (List Key×V)}{k:List Key}{v:V}(e:H a=some (.dT aG))(eb:H b=some (.tup (k.map kV)))(hl:aG.length<sizeLine):
  AV H a (.ref b) v (upd H a (.dT (putK aG k v))):=.inr ⟨aG,k,b,e,rfl,eb,hl,rfl⟩
section
variable{X:Cx}{pins:List (Addr×Obj)}{σ:St}{H:Hp}{s:Shared}{a:Addr}{y v:V}{u r:Value}{o:Option V}{A:Around}{E:Value→Shared→Prop}
theorem Inv.big(I:Inv X pins σ H s):sysModules<s.heap.objs.size:=by
 have h:mainGlobals<s.heap.objs.size:=(I.mod.glob.keeps I.bk).lt
 exact Nat.lt_trans (by decide) h
theorem zL{Q:Value→Shared→Prop}(hu:A.units+1<cLine)(I:Inv X pins σ H s)(g:qX H a y (some v))(ry:RelV y u)(h:∀w' s',Inv X pins σ H s'→RelV v w'→Q w' s'):
  wpAny (model X.prog X.w) A (getItem (.ref a) u) Q E s:=by
 rcases g with⟨aG,k,e,ey,l⟩|⟨aG,k,b,e,ey,eb,l⟩
 ·subst ey
  obtain⟨z,hd,vs,rel,dd⟩:=zK I.bt e
  obtain⟨w',hw,oS⟩:=qS.some_of (v:=v) (o:=valueAt vs k) (by rw[l];exact rel.val k)
  exact wpAny_getItem_of (zJ ry) dd.mapOf hw (h w' _ (I.tok _) oS)
 ·subst ey
  cases (show u=Value.ref b from ry)
  obtain⟨z,hd,xs,rel,dd⟩:=DH I.bt e
  obtain⟨w',hw,oS⟩:=qS.some_of (v:=v) (o:=(atKey xs k).map (·.2)) (by rw[l];exact rel.val k)
  obtain⟨p,hp,UG⟩:=Option.map_eq_some_iff.mp hw
  refine wpAny_getItem_heap (tupleKind_room_in1 hu) (AU I.bt eb) dd hp ?_
  rw[UG]
  exact h w' _ (I.tok _) oS
theorem DI{h':Heap}{t':Nat}{ob:HO}(I:Inv X pins σ H s)(mu:CP (H a))(hs:Heap.SameBut a s.heap h')(he:∃q,h'.get? a=some q)(new:cP X.prog X.w (upd H a ob) h' a ob):
  Inv X pins σ (upd H a ob) { s with heap:=h',toks:=t' }:=
 I.write (x:=a) (e:=a) mu (.inl rfl) (fun b q hb z=>(hs.2 b hb).trans z) he new
theorem GW{P:Program}{w:World}{H':Hp}{h':Heap}{aG:List (Key×V)}{vs:List (Key×Value)}(z:aG.length≤sizeLine)(hd:(a==sysModules)=false)(rel:KV aG vs)(dd:h'.DictOf (cT P w) a vs):
  cP P w H' h' a (.dK aG):=⟨z,hd,vs,rel,dd⟩
end
section
variable{X:Cx}{pins:List (Addr×Obj)}{σ:St}{H:Hp}{s:Shared}{a:Addr}{aG:List (Key×V)}{k:Key}{u:Value}{A:Around}{E:Value→Shared→Prop}
end
def DJ(i:Expr):Prop:=∀ov iv,subscripted i false ov iv=operate [ov,iv] (getItem ov iv)
theorem DK{prog:Program}{w:World}{A:Around}{E:Value→Shared→Prop}{s:Shared}{env:Env}{value slice:Expr}{pos:Pos}{T id:String}{Q:Value→Shared→Prop}
  (hl:typeLookup (.type T) "__getitem__" =pure (some (.builtin id)))(hs:DJ slice)
  (h:wpAny (model prog w) A (eval value env) (fun o bB=>wpAny (model prog w) A (eval slice env) (fun i kA=>kA.TypeIs o T∧wpAny (model prog w) A (getItem o i) Q E kA) E bB) E s):
  wpAny (model prog w) A (eval (.Subscript value slice pos) env) Q E s:=by
 refine Subscript_ (wpAny_mono h (fun o bB me=>wpAny_mono me (fun i kA xV=>?_) fun _ _ x=>x) fun _ _ x=>x)
 obtain⟨hT,xV⟩:=xV
 unfold subscriptTail
 refine wpAny_bind ?_
 rw[getitemInPython_of_ne hT.not_modules]
 refine wpAny_bind (wpAny_specialOf hT hl ?_)
 have fin:wpAny (model prog w) A (subscripted slice false o i) (fun r qY=>wpAny (model prog w) A (letTemporaryGo value o r >>= fun _=>pure r) Q E qY) E kA:=by
  rw[hs o i]
  exact wpAny_operating (wpAny_mono xV (fun r qY AW=>wpAny_bind (wpAny_letTemporaryGo (wpAny_pure AW))) fun _ _ x=>x)
 first
  |exact wpAny_pure (wpAny_bind fin)
  |exact wpAny_bind (wpAny_pure (wpAny_bind fin))
  |exact wpAny_bind fin
theorem v9{X:Cx}{pins:List (Addr×Obj)}{σ:St}{H:Hp}{s:Shared}{a:Addr}{y:V}{o:Option V}(I:Inv X pins σ H s)(g:qX H a y o):s.TypeIs (.ref a) "dict":=by
 rcases g with⟨aG,k,e,_,_⟩|⟨aG,k,b,e,_,_,_⟩
 ·obtain⟨_,_,vs,_,dd⟩:=zK I.bt e
  exact dd.typeIs
 ·obtain⟨_,_,xs,_,dd⟩:=DH I.bt e
  exact dd.typeIs
def Kw(td ty:TE):TE:=fun σ H Q=>td σ H fun x H1=>ty σ H1 fun y H2=>∃a v,x= .ref a∧qX H2 a y (some v)∧Q v H2
section
variable{X:Cx}{o i e value:Expr}{pos pos' Og:Pos}{td ty tv:TE}
theorem DL(hu:X.A.units+1<cLine)(ho:PE X o td)(hi:PE X i ty)(hs:DJ i):PE X (.Subscript o i pos) (Kw td ty):=by
 intro pins s σ H Q I h
 refine DK PySem.F.slot_dict_getitem.lookup hs (bH (ho pins s σ H _ I h) fun u s1 ⟨x,H1,I1,rx,q1⟩=>bH (hi pins s1 σ H1 _ I1 q1) fun iv s2 bq=>?_)
 obtain⟨y,H2,I2,ry,a,v,ex,g,q2⟩:=bq
 subst ex
 obtain rfl:u=Value.ref a:=rx
 exact⟨v9 I2 g,zL hu I2 g ry fun w' s3 I3 oS=>⟨v,H2,I3,oS,q2⟩⟩
end
theorem BU{P:Program}{w:World}{H:Hp}(h:Heap)(hb:sysModules<h.objs.size):cP P w H (h.push { cls:=.type "dict",data:=.dict #[] }) h.objs.size (.dK []):=
 ⟨Nat.zero_le _,beq_eq_false_iff_ne.mpr (Ne.symm (Nat.ne_of_lt hb)),[],.nil,Heap.DictOf.new h⟩
section
variable{X:Cx}{pos:Pos}
end
def v_:List (TE×TE)→St→Hp→(List (V×V)→Hp→Prop)→Prop
 |[],_,H,Q=>Q [] H
 |(tk,tv)::r,σ,H,Q=>tk σ H fun x H1=>tv σ H1 fun y H2=>v_ r σ H2 fun ps H3=>Q ((x,y)::ps) H3
abbrev VV:List (V×V)→List (Value×Value)→Prop:=Paired fun p q=>RelV p.1 q.1∧RelV p.2 q.2
def DM(X:Cx)(pos:Pos)(keys:List (Option Expr))(values:List Expr)(wa:List (TE×TE)):Prop:=
 ∀(pins:List (Addr×Obj)) (s:Shared) (σ:St) (H:Hp) (Q:List (V×V)→Hp→Prop),Inv X pins σ H s→v_ wa σ H Q→
  wpAny (model X.prog X.w) X.A (evalPairs (pairTrees keys values X.env pos)) (fun vs s'=>∃ps H',Inv X pins σ H' s'∧VV ps vs∧Q ps H') X.xe s
theorem DN{X:Cx}{pos:Pos}:DM X pos [] [] []:=fun pins s σ H Q I h=>pairTrees_nil_walk ⟨[],H,I,.nil,h⟩
theorem vm{X:Cx}{pos:Pos}{k v:Expr}{ks:List (Option Expr)}{vs:List Expr}{tk tv:TE}{wa:List (TE×TE)}(hk:PE X k tk)(hv:PE X v tv)(hr:DM X pos ks vs wa):
  DM X pos (some k::ks) (v::vs) ((tk,tv)::wa):=fun pins s σ H Q I h=>
 pairTrees_cons_walk (bH (hk pins s σ H _ I h) fun u s1 ⟨x,H1,I1,rx,q1⟩=>bH (hv pins s1 σ H1 _ I1 q1) fun w2 s2 ⟨y,H2,I2,ry,q2⟩=>
  bH (hr pins s2 σ H2 _ I2 q2) fun ws s3 ⟨ps,H3,I3,rel,q3⟩=>⟨(x,y)::ps,H3,I3,.cons ⟨rx,ry⟩ rel,q3⟩)
def iS(aG more:List (Key×V)):List (Key×V):=more.foldl (fun acc kv=>putK acc kv.1 kv.2) aG
theorem KV.merge:∀{more:List (Key×V)}{rs:List (Key×Value)}{aG:List (Key×V)}{vs:List (Key×Value)},KV more rs→KV aG vs→KV (iS aG more) (merged vs rs):=by
 intro more rs aG vs r
 unfold KV at r
 induction r generalizing aG vs with
 |nil=>intro q;exact q
 |@cons p q ps qs h t ih=>
  intro r0
  have e:KV (putK aG p.1 p.2) (stored vs q.1 q.2):=by
   have:=r0.put p.1 h.2
   rw[←h.1];exact this
  exact ih e
theorem mz:∀(more aG:List (Key×V)),(iS aG more).length≤aG.length+more.length
 |[],aG=>by show aG.length≤aG.length+0;omega
 |p::r,aG=>by
  have h1:=mz r (putK aG p.1 p.2)
  have h2:=v8 aG p.1 p.2
  show(iS (putK aG p.1 p.2) r).length≤_
  rw[List.length_cons];omega
theorem qZ{P:Program}{w:World}:∀{aG:List (Key×V)}{ws:List (Value×Value)},VV (aG.map fun kv=>(kV kv.1,kv.2)) ws→∃rs,Carries (cT P w) ws rs∧KV aG rs
 |[],_,r=>by rw[List.map_nil]at r;cases r;exact⟨[],True.intro,.nil⟩
 |p::aG,_,r=>by
  rw[List.map_cons]at r
  cases r with
  |@cons a b as bs h t=>
   obtain⟨rs,c,q⟩:=qZ (P:=P) (w:=w) t
   obtain⟨b1,b2⟩:=b
   exact⟨(p.1,b2)::rs,⟨zJ h.1,rfl,c⟩,.cons ⟨rfl,h.2⟩ q⟩
def Kx(wa:List (TE×TE)):TE:=fun σ H Q=>∀p,H p=none→v_ wa σ (upd H p (.dK [])) fun ps H2=>H2 p=some (.dK [])∧∃aG:List (Key×V),ps=aG.map (fun kv=>(kV kv.1,kv.2))∧aG.length≤15∧Q (.ref p) (upd H2 p (.dK (iS [] aG)))
theorem DO{X:Cx}{pos:Pos}{keys:List (Option Expr)}{values:List Expr}{wa:List (TE×TE)}(h:DM X pos keys values wa)(ma:keys.all (·.isSome)=true)(hl:keys.length=values.length)(h0:keys≠[])
  (UH:keys.length≤15):PE X (.Dict keys values pos) (Kx wa):=by
 intro pins s σ H Q I q
 have hn:=I.bt.fresh (Nat.le_refl s.heap.objs.size)
 have I1:=I.laid (a:=s.heap.objs.size) (o:=.dK []) (h':=s.heap.push { cls:=.type "dict",data:=.dict #[] }) (t':=s.toks) (fun _ _ q=>Heap.get?_push_of_some _ q) (Nat.le_refl _) (BU s.heap I.big)
 refine wpAny_Dict_walk (knd:=cT X.prog X.w) ma hl h0 UH (bH (h pins _ σ _ _ I1 (q _ hn)) fun ws s2 bq=>?_)
 obtain⟨ps,H2,I2,rel,e,aG,ep,lk,q2⟩:=bq
 subst ep
 obtain⟨rs,c,rk⟩:=qZ (P:=X.prog) (w:=X.w) rel
 obtain⟨z,hd,GX,r0,dd⟩:=Kv I2.bt e
 cases r0
 refine⟨rs,c,dd,fun h' OA hs=>⟨.ref s.heap.objs.size,_,?_,rfl,q2⟩⟩
 have hz:(iS [] aG).length≤sizeLine:=by
  have h1:=mz aG []
  rw[List.length_nil]at h1
  rw[sizeLine_eq];omega
 have he:∃q,h'.get? s.heap.objs.size=some q:=let ⟨q,_,_,hq,_⟩:=OA;⟨q,hq⟩
 exact DI I2 (by rw[e];exact True.intro) hs he (GW hz hd (rk.merge .nil) OA)
section
variable{X:Cx}{pins:List (Addr×Obj)}{σ:St}{H:Hp}{s:Shared}{a:Addr}{y d:V}{u r:Value}{o:Option V}{A:Around}{E:Value→Shared→Prop}
end
section
variable{X:Cx}{o e f:Expr}{apos bR:Pos}{td ty tx:TE}
end
section
variable{X:Cx}{pins:List (Addr×Obj)}{σ:St}{H:Hp}{s:Shared}{a:Addr}{aG:List (Key×V)}{A:Around}{E:Value→Shared→Prop}
end
section
variable{X:Cx}{pins:List (Addr×Obj)}{σ:St}{H:Hp}{s:Shared}{a:Addr}{y:V}{u:Value}{A:Around}{E:Value→Shared→Prop}
end
end L2
namespace My
structure Bd(k:Nat)(x:Int):Prop where
 lt:x.natAbs<2 ^ k
theorem Bd.mono{j k:Nat}{x:Int}(h:Bd j x)(e:j≤k):Bd k x:=⟨Nat.lt_of_lt_of_le h.lt (Nat.pow_le_pow_right (by decide) e)⟩
theorem Bd.mul{j k:Nat}{x y:Int}(h:Bd j x)(g:Bd k y):Bd (j+k) (x*y):=by
 refine⟨?_⟩
 rw[Int.natAbs_mul,Nat.pow_add]
 exact Nat.mul_lt_mul_of_lt_of_lt h.lt g.lt
theorem Bd.add{j k:Nat}{x y:Int}(h:Bd j x)(g:Bd k y):Bd (max j k+1) (x+y):=by
 have h':=(h.mono (Nat.le_max_left j k)).lt
 have g':=(g.mono (Nat.le_max_right j k)).lt
 refine⟨?_⟩
 rw[Nat.pow_succ]
 omega
theorem Bd.neg{k:Nat}{x:Int}(h:Bd k x):Bd k (-x):=⟨by have:=h.lt;omega⟩
theorem Bd.sub{j k:Nat}{x y:Int}(h:Bd j x)(g:Bd k y):Bd (max j k+1) (x - y):=by
 rw[Int.sub_eq_add_neg];exact h.add g.neg
theorem Bd.of_le{k:Nat}{x y:Int}(h:Bd k y)(e:x.natAbs≤y.natAbs):Bd k x:=⟨Nat.lt_of_le_of_lt e h.lt⟩
theorem Bd.log2{k:Nat}{x:Int}(h:Bd k x)(hk: 0<k):x.natAbs.log2<k:=by
 have h:=h.lt
 by_cases z:x.natAbs=0
 ·rw[z];simpa using hk
 ·exact(Nat.log2_lt z).mpr h
theorem rF(n:Int){m:Int}(h:m≠0):(n.fmod m).natAbs<m.natAbs:=by
 rcases Int.lt_or_gt_of_ne h with hm|hm
 ·have e:n.fmod m= -((-n).fmod (-m)):=by
   rw[Int.fmod_def,Int.fmod_def,Int.neg_fdiv_neg]
   grind
  have h1: 0≤(-n).fmod (-m):=Int.fmod_nonneg_of_pos _ (by omega)
  have h2:(-n).fmod (-m)< -m:=Int.fmod_lt_of_pos _ (by omega)
  rw[e];omega
 ·have h1: 0≤n.fmod m:=Int.fmod_nonneg_of_pos _ hm
  have h2:n.fmod m<m:=Int.fmod_lt_of_pos _ hm
  omega
theorem BV(n m:Int):Int.gcd m (n.fmod m)=Int.gcd n m:=by
 rw[Int.fmod_def,Int.mul_comm,Int.gcd_sub_mul_right_right,Int.gcd_comm]
theorem BW(n m:Int):Int.gcd m (n % m)=Int.gcd n m:=by
 rw[Int.emod_def,Int.mul_comm,Int.gcd_sub_mul_right_right,Int.gcd_comm]
theorem gcd_zero(n:Int):((Int.gcd n 0:Nat):Int)=if n<0 then -n else n:=by
 rw[Int.gcd_zero_right];split<;>omega
theorem DP(n m:Int):Int.gcd (if n<0 then -n else n) (if m<0 then -m else m)=Int.gcd n m:=by
 split<;>split<;>simp[Int.gcd_neg,Int.neg_gcd]
def sg(n d:Int):Int:=if d<0 then -(Int.gcd n d:Int)else(Int.gcd n d:Int)
def nm(n d:Int):Int:=n.fdiv (sg n d)
def dn(n d:Int):Int:=d.fdiv (sg n d)
theorem sM{n d:Int}(h:d≠0):(0:Int)<(Int.gcd n d:Int):=by
 have:=Int.gcd_pos_of_ne_zero_right n h
 omega
theorem DQ{n d:Int}(h:d≠0):sg n d≠0:=by
 have:=sM (n:=n) h
 unfold sg;split<;>omega
theorem BX(n d:Int):sg n d ∣ n:=by
 unfold sg;split
 ·exact Int.neg_dvd.mpr (Int.gcd_dvd_left n d)
 ·exact Int.gcd_dvd_left n d
theorem BY(n d:Int):sg n d ∣ d:=by
 unfold sg;split
 ·exact Int.neg_dvd.mpr (Int.gcd_dvd_right n d)
 ·exact Int.gcd_dvd_right n d
theorem AX(n d:Int):sg n d*nm n d=n:=Int.mul_fdiv_cancel' (BX n d)
theorem wb(n d:Int):sg n d*dn n d=d:=Int.mul_fdiv_cancel' (BY n d)
theorem GY{n d:Int}(h:d≠0): 0<dn n d:=by
 have e:=wb n d
 have g:=sM (n:=n) h
 unfold sg at e
 split at e
 ·rename_i hd
  refine Int.not_le.mp fun hle=>?_
  have: 0≤-(Int.gcd n d:Int)*dn n d:=Int.mul_nonneg_of_nonpos_of_nonpos (by omega) hle
  omega
 ·rename_i hd
  refine Int.not_le.mp fun hle=>?_
  have:(Int.gcd n d:Int)*dn n d≤0:=Int.mul_nonpos_of_nonneg_of_nonpos (by omega) hle
  omega
theorem sN(n d:Int):(sg n d).natAbs=Int.gcd n d:=by
 unfold sg;split<;>omega
theorem zM{n d:Int}(h:d≠0):Int.gcd (nm n d) (dn n d)=1:=by
 have e1:=AX n d
 have e2:=wb n d
 have e3:Int.gcd (sg n d*nm n d) (sg n d*dn n d)=(sg n d).natAbs*Int.gcd (nm n d) (dn n d):=Int.gcd_mul_left _ _ _
 rw[e1,e2,sN]at e3
 have g:=Int.gcd_pos_of_ne_zero_right n h
 have:Int.gcd n d*1=Int.gcd n d*Int.gcd (nm n d) (dn n d):=by rw[Nat.mul_one];exact e3
 exact(Nat.eq_of_mul_eq_mul_left g this).symm
theorem Ky{n d:Int}(h:d≠0):(nm n d).natAbs≤n.natAbs:=by
 have e:=congrArg Int.natAbs (AX n d)
 rw[Int.natAbs_mul]at e
 have: 0<(sg n d).natAbs:=by have:=DQ (n:=n) h;omega
 rw[←e]
 exact Nat.le_mul_of_pos_left _ this
end My
namespace My
def sgn(n:Int):Int:=if 0<n then 1 else if n<0 then -1 else 0
end My
namespace My
end My
namespace My
def m0(a0 a1 a2 b0 b1 b2 c0 c1 c2 d0 d1 d2:Int):Int:=(a2*b0 - a0*b2)*(c0*d1 - c1*d0) - (a0*b1 - a1*b0)*(c2*d0 - c0*d2)
def m1(a0 a1 a2 b0 b1 b2 c0 c1 c2 d0 d1 d2:Int):Int:=(a0*b1 - a1*b0)*(c1*d2 - c2*d1) - (a1*b2 - a2*b1)*(c0*d1 - c1*d0)
def m2(a0 a1 a2 b0 b1 b2 c0 c1 c2 d0 d1 d2:Int):Int:=(a1*b2 - a2*b1)*(c2*d0 - c0*d2) - (a2*b0 - a0*b2)*(c1*d2 - c2*d1)
section
variable(a0 a1 a2 b0 b1 b2 c0 c1 c2 d0 d1 d2:Int)
def u0:Int:=b0*(a2*c2*d2) - a0*(b2*c2*d2)
def u1:Int:=b1*(a2*c2*d2) - a1*(b2*c2*d2)
def v1:Int:=d1*(a2*b2*c2) - c1*(a2*b2*d2)
def z0:Int:=c0*(a2*b2*d2) - a0*(b2*c2*d2)
def z1:Int:=c1*(a2*b2*d2) - a1*(b2*c2*d2)
end
section
variable{a0 a1 a2 b0 b1 b2 c0 c1 c2 d0 d1 d2:Int}
end
end My
namespace L2
open PySem PySem.Spec PyProof.Rows
section
variable{X:Cx}{a b:Expr}{ta tb:TE}{pos:Pos}
theorem sO:dr X (binaryOp .Mult) (rI IntMulOk fun i j=>.int (i*j)):=Dh fun _ _ _ _ _ _ _ hc q=>mul_int q hc
def zN(_i j:Int):Prop:=j≠0∧j.natAbs.log2<9000
theorem dM:dr X (binaryOp .FloorDiv) (rI zN fun i j=>.int (i.fdiv j)):=Dh fun _ _ _ _ _ _ _ hc q=>floordiv_int hc.1 q (.inl (PyProof.noPylong_of_log2 hc.2))
end
section
variable{X:Cx}{K:PySem.W.Frag}
end
theorem aI{H:Hp}{p q:Addr}{x z:HO}(h:H p=some x)(hq:H q=none):upd H q z p=some x:=by
 rw[bh (cG h hq)];exact h
theorem g_{H:Hp}{q:Addr}{z:HO}(hq:H q=none):Jg H (upd H q z):=fun _ _ h=>aI h hq
theorem OB{us:List Value}{v:Value}(h:(us++[v]).length=2):∃a,us=[a]:=by
 match us,h with
 |[a],_=>exact⟨a,rfl⟩
 |[],h=>simp at h
 |_::_::_,h=>simp at h
theorem Kz{us:List Value}(h:(us++[]).length=2):∃a b,us=[a,b]:=by
 match us,h with
 |[a,b],_=>exact⟨a,b,rfl⟩
 |[],h=>simp at h
 |[_],h=>simp at h
 |_::_::_::_,h=>simp at h
structure vn(K:PySem.W.Frag)(x qual:Str)(st:Stmt)(f:Addr)(fd:FuncData):Prop where
 ex:∃(oc:Value) (od:Option Addr) (dV kV doc pm:Value) (an:Option Addr) (bF ct:Value) (oZ:Array (Option Value)),
  fd=PySem.W.fnOf x qual (aQ st) (aM st) (av st) dV kV doc pm an bF ct∧K.lookup f=some ⟨oc,od,.func fd,oZ⟩∧PySem.W.codeIn K bF qual=true
 kp:PySem.W.keepIn K (.ref f)=true
section
variable{P:Program}{w:World}{K:PySem.W.Frag}{mg:Str→Option Value}{base:Heap}
theorem vn.ok{x qual:Str}{st:Stmt}{f:Addr}{fd:FuncData}{N ps:List Str}{k:Nat}{sp:Sp}(F:vn K x qual st f fd)(S:aU N ps (av st))(len:∀vs H Q E,sp vs H Q E→vs.length=ps.length)
  (kR:∀(bF:Value) (A:Around) (outer:List Env) (s:Shared) (H:Hp) (vs:List V) (Q:VK) (E:XK),fy k (A.deeper (envOfC qual (av st) s.heap.objs.size f bF))→sp vs H Q E→
   ∃t,mm (oY dj P w K mg base N qual (av st) f bF A outer s H E).xB (aM st) t∧t { nx:=fun _ H'=>Q .bf H',rt:=Q } (start N vs) H):bM P w K mg base dj (k+1) f fd ps sp:=by
 obtain⟨oc,od,dV,kV,doc,pm,an,bF,ct,oZ,rfl,lk,qm⟩:=F.ex
 refine Dn lk qm S len fun A outer s H vs Q E hr uH=>?_
 obtain⟨t,h,q⟩:=kR bF A outer s H vs Q E hr uH
 exact⟨t,h.xB,q⟩
theorem DR{x qual:Str}{st:Stmt}{f:Addr}{oc:Value}{od an:Option Addr}{oZ:Array (Option Value)}{dV kV doc pm bF ct:Value}(l:K.lookup f=some ⟨oc,od,.func (PySem.W.fnOf x qual (aQ st) (aM st) (av st) dV kV doc pm an bF ct),oZ⟩)
  (c:PySem.W.codeIn K bF qual=true)(k:PySem.W.keepIn K (.ref f)=true):vn K x qual st f (PySem.W.fnOf x qual (aQ st) (aM st) (av st) dV kV doc pm an bF ct):=⟨⟨oc,od,dV,kV,doc,pm,an,bF,ct,oZ,rfl,l,c⟩,k⟩
end
end L2
namespace My
open PySem PyProof.Rows
theorem bits_le{k:Nat}{x:Int}(h:Bd k x):PySem.Builtin.Int.intBits x≤k:=by
 unfold PySem.Builtin.Int.intBits
 split
 ·exact Nat.zero_le _
 ·rename_i z
  have z':x.natAbs≠0:=by
   intro e
   apply z
   have:x=0:=by omega
   rw[this];rfl
  have:=(Nat.log2_lt z').mpr h.lt
  omega
theorem KA{x y:Int}{j k:Nat}(hx:Bd j x)(hy:Bd k y)(h:(decide (j≤100000)&&decide (k≤100000))=true):PySem.IntMulOk x y:=by
 rw[Bool.and_eq_true,decide_eq_true_eq,decide_eq_true_eq]at h
 have e:(2:Nat) ^ 20=1048576:=by decide
 exact PySem.IntMulOk.of_bits (by have:=bits_le hx;omega) (by have:=bits_le hy;omega)
theorem GZ{x y:Int}(h1: -(2 ^ 64)<x)(h2:x<2 ^ 64):PySem.IntMulOk x y:=PySem.IntMulOk.of_left (PySem.intBits_le_64 h1 h2)
theorem G0{x y:Int}(h1: -(2 ^ 64)<y)(h2:y<2 ^ 64):PySem.IntMulOk x y:=PySem.IntMulOk.of_right (PySem.intBits_le_64 h1 h2)
end My
namespace L2
open PySem PySem.Spec PyProof.Rows
theorem rQ:bootBuiltins "abs" =some (.builtin "abs"):=by decide +kernel
theorem fL:bootBuiltins "len" =some (.builtin "len"):=by decide +kernel
theorem G3:bootBuiltins "min" =some (.builtin "min"):=by decide +kernel
theorem bw:bootBuiltins "isinstance" =some (.builtin "isinstance"):=by decide +kernel
theorem iT:bootBuiltins "int" =some (.type "int"):=by decide +kernel
theorem xW:bootBuiltins "bool" =some (.type "bool"):=by decide +kernel
theorem ni:bootBuiltins "tuple" =some (.type "tuple"):=by decide +kernel
theorem o9:bootBuiltins "list" =some (.type "list"):=by decide +kernel
theorem kS:bootBuiltins "str" =some (.type "str"):=by decide +kernel
def Pl(H:Hp)(p:Addr):Prop:=∃a b:Int,H p=some (.lst [.int a,.int b])∧0≤a∧0≤b
theorem Pl.new{H:Hp}{p:Addr}{a b:Int}(h1: 0≤a)(h2: 0≤b):Pl (upd H p (.lst [.int a,.int b])) p:=⟨a,b,cy,h1,h2⟩
theorem OC{i j:Int}{k:Nat}(h0:j≠0)(h:My.Bd k j)(hk:(decide (0<k)&&decide (k≤9000))=true):zN i j:=by
 rw[Bool.and_eq_true,decide_eq_true_eq,decide_eq_true_eq]at hk
 exact⟨h0,Nat.lt_of_lt_of_le (My.Bd.log2 h hk.1) hk.2⟩
end L2
namespace L2
open PySem PySem.Spec PyProof.Rows
def fM(cells:List (Str×Addr)):List (Str×NameKind)→List (Str×Addr)→List (Str×Addr)
 |[],cs=>cs
 |(n,k)::r,cs=>fM cells r (if k==.free then(match cells.lookup n with|some a=>(n,a)::cs|none=>cs)else cs)
theorem mB{env:Env}:∀(names:List (Str×NameKind)) (cs:List (Str×Addr)),(∀y∈names,y.2= .free→∃c,env.cells.lookup y.1=some c)→
  (forIn names cs (fun(x:Str×NameKind) (r:List (Str×Addr))=>(do
   if x.2==.free then
    let a ←cellOf env x.1
    pure (ForInStep.yield ((x.1,a)::r))
   else pure (ForInStep.yield r):Sem (ForInStep (List (Str×Addr))))))=(pure (fM env.cells names cs):Sem _)
 |[],cs,_=>rfl
 |(n,k)::r,cs,h=>by
  rw[List.forIn_cons]
  have hr:∀y∈r,y.2= .free→∃c,env.cells.lookup y.1=some c:=fun y hy=>h y (List.mem_cons_of_mem _ hy)
  by_cases hk:k= .free
  ·subst hk
   obtain⟨c,hc⟩:=h (n,.free) List.mem_cons_self rfl
   have br:env.cells.lookup n=some c:=hc
   simp only[beq_self_eq_true,if_true,cellOf,br,pure_bind,fM]
   exact mB r _ hr
  ·have hb:(k==NameKind.free)=false:=by simpa using hk
   simp only[hb,Bool.false_eq_true,if_false,pure_bind,fM]
   exact mB r _ hr
theorem sQ{scope:Scope}{env:Env}(h:∀y∈scope.names,y.2= .free→∃c,env.cells.lookup y.1=some c):closureFor scope env=pure (fM env.cells scope.names []):=by
 have e:=mB (env:=env) scope.names [] h
 unfold closureFor
 simp only[bind_pure_comp]at e ⊢
 first
  |(simpa using e)
  |(rw[←e];rfl)
theorem q_{cells:List (Str×Addr)}{x:Str}{c:Addr}:∀{names:List (Str×NameKind)}{cs:List (Str×Addr)},(fM cells names cs).lookup x=some c→(∀c',cs.lookup x=some c'→cells.lookup x=some c')→cells.lookup x=some c
 |[],cs,h,hc=>hc c h
 |(n,k)::r,cs,h,hc=>by
  refine q_ (names:=r) h fun c' br=>?_
  by_cases hk:(k==NameKind.free)=true
  ·rw[if_pos hk]at br
   cases e:cells.lookup n with
   |none=>rw[e]at br;exact hc c' br
   |some a=>
    rw[e]at br
    by_cases hx:x=n
    ·subst hx
     simp only[List.lookup_cons,beq_self_eq_true]at br
     rw[e];exact br
    ·have hb:(x==n)=false:=beq_eq_false_iff_ne.mpr hx
     simp only[List.lookup_cons,hb]at br
     exact hc c' br
  ·rw[if_neg hk]at br
   exact hc c' br
theorem o_{cells:List (Str×Addr)}{x:Str}:∀{names:List (Str×NameKind)}{cs:List (Str×Addr)},(∃c,cs.lookup x=some c)→∃c,(fM cells names cs).lookup x=some c
 |[],_,h=>h
 |(n,k)::r,cs,h=>by
  refine o_ (names:=r) ?_
  split
  ·split
   ·rename_i a _
    by_cases hx:x=n
    ·subst hx;exact⟨a,by simp⟩
    ·have hb:(x==n)=false:=beq_eq_false_iff_ne.mpr hx
     simpa[List.lookup_cons,hb]using h
   ·exact h
  ·exact h
theorem mC{cells:List (Str×Addr)}{x:Str}:∀{names:List (Str×NameKind)}{cs:List (Str×Addr)},(x,NameKind.free)∈names→(∃c,cells.lookup x=some c)→∃c,(fM cells names cs).lookup x=some c
 |[],_,h,_=>nomatch h
 |(n,k)::r,cs,h,hc=>by
  rcases List.mem_cons.mp h with e|h
  ·cases e
   refine o_ (names:=r) ?_
   obtain⟨c,hc⟩:=hc
   rw[if_pos (by rfl),hc]
   exact⟨c,by simp⟩
  ·exact mC (names:=r) h hc
theorem uO{prog:Program}{w:World}{A:Around}{R:Result→Shared→Prop}{s:Shared}{elt target iter:Expr}{ifs:List Expr}{scope:Scope}{pos:Pos}{it acc:Value}{env:Env}(I:Nat→Shared→Prop)
  (turn:∀n s,I n s→wpAny (model prog w) A (pyNext it) (fun r bB=>match r with
   |none=>R (.ok .next) bB
   |some v=>wpAny (model prog w) A (letOwnedTupleGo target it v) (fun _ bO=>wpAny (model prog w) A (assign target env v) (fun _ kA=>
     wpAny (model prog w) A (forIn ifs true fun c r=>if r=true then do let ok ←isTrue c env (eval c env);pure (ForInStep.yield ok)else pure (ForInStep.yield r)) (fun ok qY=>
      if ok=true then wpAny (model prog w) A (eval elt env) (fun x AY=>
       wpAny (model prog w) A (call (.builtin "list.append") [acc,x]) (fun _ Jh=>∃m,m<n∧I m Jh) (fun _ _=>False) AY) (fun _ _=>False) qY
      else ∃m,m<n∧I m qY) (fun _ _=>False) kA) (fun _ _=>False) bO) (fun _ _=>False) bB) (fun _ _=>False) s)
  (n:Nat)(h:I n s):
  codeAny (model prog w) A (.compLoop (.ListComp elt [⟨target,iter,ifs,0⟩] scope pos) 0 it acc env) R s:=by
 refine codeAny_loop rfl I (fun n s hI=>?_) n h
 show wpAny _ A ((compTurn (.ListComp elt [⟨target,iter,ifs,0⟩] scope pos) 0 it acc env).onRaise (fun x=>do noteFrame x env;theTreesLotGoes x)) _ _ s
 refine wpAny_noted ?_
 rw[compTurn_list]
 refine wpAny_bind (wpAny_standAt (wpAny_bind (wpAny_mono (turn n s hI) (fun r bB me=>?_) fun _ _ h'=>h'.elim)))
 cases r with
 |none=>exact wpAny_pure me
 |some v=>
  refine wpAny_bind (wpAny_mono me (fun _ bO h₀=>?_) fun _ _ h'=>h'.elim)
  refine wpAny_bind (wpAny_mono h₀ (fun _ kA xV=>wpAny_bind (wpAny_mono xV (fun ok qY AW=>?_) fun _ _ h'=>h'.elim)) fun _ _ h'=>h'.elim)
  cases ok with
  |false=>exact wpAny_pure ⟨rfl,AW⟩
  |true=>
   exact wpAny_bind (wpAny_bind (wpAny_mono AW (fun x AY OD=>wpAny_bind (wpAny_mono OD (fun _ Jh OE=>wpAny_pure (wpAny_pure ⟨rfl,OE⟩)) fun _ _ h'=>h'.elim)) fun _ _ h'=>h'.elim))
abbrev Cx.kT(X:Cx)(scope:Scope)(C:Addr)(N':List Str)(bO:Shared)(eu:Hp)(fp:List Addr):Cx:=
 { X with N:=N',bO:=bO,eu:=eu,env:=compEnvC scope (fM X.env.cells scope.names []) C X.env,outer:=X.stack,ex:=fp,fn:=fun _=>false,pn:=[],xe:=fun _ _=>False }
def rG(σ:St)(cap:List (Option Nat)):St:=cap.map fun o=>match o with
 |some i=>(match σ[i]? with|some v=>v|none=>none)
 |none=>none
structure sT(X:Cx)(scope:Scope)(N':List Str)(cap:List (Option Nat)):Prop where
 kind:scope.kind= .function
 zO:∀y∈scope.names,y.2≠.cell
 names:∀y∈scope.names,y.2= .local→scope.names.lookup y.1=some .local
 frees:∀y∈scope.names,y.2= .free→X.env.kindOf y.1=some .cell∨X.env.kindOf y.1=some .free
 len:cap.length=N'.length
 OF:∀(j i:Nat) (x:Str),cap[j]? =some (some i)→N'[j]? =some x→X.N[i]? =some x∧(x,NameKind.free)∈scope.names
 UI:∀(j i:Nat) (x:Str),cap[j]? =some (some i)→N'[j]? =some x→CT X.env.scope x
 un:∀(j i:Nat) (x:Str),cap[j]? =some (some i)→N'[j]? =some x→∀z∈scope.names,z.1=x→z.2= .free
def gz(sc scope:Scope)(NN:List Str):List Str→List (Option Nat)→Bool
 |[],[]=>true
 |_::N,none::c=>gz sc scope NN N c
 |x::N,some i::c=>decide (NN[i]? =some x)&&decide ((x,NameKind.free)∈scope.names)&&(decide (sc.names.lookup x=some .local)||decide (sc.names.lookup x=some .cell)||decide (sc.names.lookup x=some .free))&&decide (∀z∈scope.names,z.1=x→z.2= .free)&&gz sc scope NN N c
 |_,_=>false
theorem nZ{sc scope:Scope}{NN:List Str}:∀{N':List Str}{cap:List (Option Nat)},gz sc scope NN N' cap=true→cap.length=N'.length
 |[],[],_=>rfl
 |_::_,none::_,h=>congrArg (·+1) (nZ (by simpa only[gz]using h))
 |_::_,some _::_,h=>congrArg (·+1) (nZ (by simp only[gz,Bool.and_eq_true]at h;exact h.2))
 |[],_::_,h=>by simp[gz]at h
 |_::_,[],h=>by simp[gz]at h
theorem ja{sc scope:Scope}{NN:List Str}:∀{N':List Str}{cap:List (Option Nat)},gz sc scope NN N' cap=true→∀(j i:Nat) (x:Str),cap[j]? =some (some i)→N'[j]? =some x→
  NN[i]? =some x∧(x,NameKind.free)∈scope.names∧CT sc x∧∀z∈scope.names,z.1=x→z.2= .free
 |[],[],_,j,i,x,e,_=>by simp at e
 |_::_,none::_,h,0,i,x,e,_=>by simp at e
 |_::_,none::_,h,j+1,i,x,e,e'=>ja (by simpa only[gz]using h) j i x (by simpa using e) (by simpa using e')
 |y::_,some k::_,h,0,i,x,e,e'=>by
  simp only[List.getElem?_cons_zero,Option.some.injEq]at e e'
  subst e e'
  simp only[gz,Bool.and_eq_true,Bool.or_eq_true,decide_eq_true_eq]at h
  obtain⟨⟨⟨⟨h1,h2⟩,h3⟩,h4⟩,_⟩:=h
  refine⟨h1,h2,?_,h4⟩
  rcases h3 with(h3|h3)|h3
  ·exact .inl h3
  ·exact .inr (.inl h3)
  ·exact .inr (.inr h3)
 |_::_,some _::_,h,j+1,i,x,e,e'=>ja (by simp only[gz,Bool.and_eq_true]at h;exact h.2) j i x (by simpa using e) (by simpa using e')
 |[],_::_,h,_,_,_,_,_=>by simp[gz]at h
 |_::_,[],h,_,_,_,_,_=>by simp[gz]at h
theorem pb{X:Cx}{sc scope:Scope}{NN N':List Str}{cap:List (Option Nat)}(e:X.env.scope=sc)(eN:X.N=NN)(h1:scope.kind= .function)(h2:∀y∈scope.names,y.2≠.cell)(h3:∀y∈scope.names,y.2= .local→scope.names.lookup y.1=some .local)
  (h4:∀y∈scope.names,y.2= .free→sc.names.lookup y.1=some .cell∨sc.names.lookup y.1=some .free)(h5:gz sc scope NN N' cap=true):sT X scope N' cap:=by
 subst e eN
 exact⟨h1,h2,h3,h4,nZ h5,fun j i x a b=>⟨(ja h5 j i x a b).1,(ja h5 j i x a b).2.1⟩,fun j i x a b=>(ja h5 j i x a b).2.2.1,fun j i x a b=>(ja h5 j i x a b).2.2.2⟩
def DS(wi:TI)(cap:List (Option Nat))(g:TG)(tt:TT)(te:TE):TE:=fun σ H Q=>wi σ H fun J H1=>∀l,H1 l=none→
 ∃W:Nat→Nat→St→Hp→Prop,(∃m,W 0 m (rG σ cap) (upd H1 l (.lst [])))∧∀i m τ H2,W i m τ H2→
  (J.stop i H2∧Q (.ref l) H2)∨(J.go i H2∧∃N:St→Hp→Prop,(∀nG H',N nG H'→∃m',m'<m∧W (i+1) m' nG H')∧
   ∀x H',J.BK i H2 x H'→g x τ H' fun wc H3=>tt wc H3 fun b H4=>if b=true then te wc H4 fun y H5=>∃ys,H5 l=some (.lst ys)∧ys.length<sizeLine∧N wc (upd H5 l (.lst (ys++[y])))else N wc H4)
def iQ:TT:=fun _ H Q=>Q true H
namespace Zu
set_option allowUnsafeReducibility true in
@[scoped irreducible] def _root_.L2.rf(X:Cx)(ifs:List Expr)(t:TT):Prop:=
 ∀(pins:List (Addr×Obj)) (s:Shared) (σ:St) (H:Hp) (Q:Bool→Hp→Prop),Inv X pins σ H s→t σ H Q→
  wpAny (model X.prog X.w) X.A (forIn ifs true fun c r=>if r=true then do let ok ←isTrue c X.env (eval c X.env);pure (ForInStep.yield ok)else pure (ForInStep.yield r)) (TP X pins σ Q) X.xe s
end Zu
theorem BZ{X:Cx}:rf X [] iQ:=fun _ _ _ H _ I h=>wpAny_tests_nil ⟨H,I,h⟩
theorem DT{X:Cx}{c:Expr}{t:TT}(h:PT X c t):rf X [c] t:=fun pins s σ H Q I q=>wpAny_tests_one (h pins s σ H Q I q)
section
variable{X:Cx}{pos:Pos}{elt iter tg:Expr}{ifs:List Expr}{scope:Scope}{N':List Str}{cap:List (Option Nat)}{wi:TI}{g:TG}{tt:TT}{te:TE}
theorem j7{X:Cx}:∀{names:List (Str×NameKind)}{y:Str}{k:NameKind},(names.map fun(n,k)=>if (k==NameKind.free&&X.env.scope.kind==.function&&X.env.kindOf n==some .cell)then(n,NameKind.cell)else(n,k)).lookup y=some k→
  (k= .cell∨k= .free)→(∀z∈names,z.2≠.cell)→(y,NameKind.free)∈names
 |[],_,_,h,_,_=>by simp at h
 |(n,k0)::r,y,k,h,hk,hc=>by
  have UJ:∀z∈r,z.2≠.cell:=fun z hz=>hc z (List.mem_cons_of_mem _ hz)
  have h0:k0≠.cell:=hc (n,k0) List.mem_cons_self
  rw[List.map_cons]at h
  dsimp only at h
  by_cases hy:y=n
  ·subst hy
   have:k0= .free:=by
    by_cases hf:k0= .free
    ·exact hf
    ·exfalso
     have hb:(k0==NameKind.free)=false:=by simpa using hf
     simp only[hb,Bool.false_and,Bool.false_eq_true,if_false,List.lookup_cons,beq_self_eq_true]at h
     cases h
     rcases hk with e|e
     ·exact h0 e
     ·exact hf e
   subst this
   exact List.mem_cons_self
  ·have hb:(y==n)=false:=beq_eq_false_iff_ne.mpr hy
   have h':(r.map fun(n,k)=>if (k==NameKind.free&&X.env.scope.kind==.function&&X.env.kindOf n==some .cell)then(n,NameKind.cell)else(n,k)).lookup y=some k:=by
    split at h<;>simpa only[List.lookup_cons,hb]using h
   exact List.mem_cons_of_mem _ (j7 (X:=X) h' hk UJ)
theorem nM{X:Cx}:∀{names:List (Str×NameKind)}{y:Str},(y,NameKind.free)∈names→(∀z∈names,z.1=y→z.2= .free)→∃k,(k=NameKind.cell∨k= .free)∧
  (names.map fun(n,k)=>if (k==NameKind.free&&X.env.scope.kind==.function&&X.env.kindOf n==some .cell)then(n,NameKind.cell)else(n,k)).lookup y=some k
 |[],_,h,_=>nomatch h
 |(n,k0)::r,y,h,hu=>by
  rw[List.map_cons]
  dsimp only
  by_cases hy:y=n
  ·subst hy
   have:k0= .free:=hu (y,k0) List.mem_cons_self rfl
   subst this
   split
   ·exact⟨.cell,.inl rfl,by simp⟩
   ·exact⟨.free,.inr rfl,by simp⟩
  ·have hb:(y==n)=false:=beq_eq_false_iff_ne.mpr hy
   have hm:(y,NameKind.free)∈r:=by
    rcases List.mem_cons.mp h with e|h
    ·cases e;exact absurd rfl hy
    ·exact h
   obtain⟨k,hk,e⟩:=nM (X:=X) hm fun z hz=>hu z (List.mem_cons_of_mem _ hz)
   refine⟨k,hk,?_⟩
   split<;>simpa only[List.lookup_cons,hb]using e
theorem DU{pins:List (Addr×Obj)}{σ:St}{H:Hp}{s:Shared}{fp:List Addr}{h1:Heap}{m:Str→Option Value}{t':Nat}(B:sT X scope N' cap)
  (I:Inv X pins σ H s)(hf:∀b∈fp,iz X pins H b)(ho:∀b∈fp,∃o,s.heap.get? b=some o)(keep:∀b o,s.heap.get? b=some o→h1.get? b=some o)(GS:h1.Ns s.heap.objs.size m):
  Inv (X.kT scope s.heap.objs.size N' s H fp) [] (rG σ cap) H { s with heap:=h1,toks:=t' }:=by
 have I1:Inv X pins σ H { s with heap:=h1,toks:=t' }:=I.kept keep
 have vo:∀y c,(fM X.env.cells scope.names []).lookup y=some c→X.env.cells.lookup y=some c:=fun y c h=>q_ h fun c' br=>by simp at br
 refine⟨⟨I.ok.mod,B.kind,I.ok.glob,I.ok.blt,Nat.le_refl _,fun y z c e1 e2=>I.ok.inj y z c (vo y c e1) (vo z c e2),fun y hy=>?_,fun y c e _=>absurd e (by simp),I.ok.hd,I.ok.frames,.inl rfl,fun b hb=>⟨?_,fun y c e=>(hf b hb).2.2.2.2.1 y c (vo y c e)⟩,fun b o e=>I.bs b o e,Nat.le_trans I.ok.xr I.sz,fun b o e hb=>?_,fun b hb hs=>?_,I.stack,I.xx⟩,
  rfl,I.bare,Un.kept keep,⟨m,GS,fun j y v e1 e2 e3=>?_⟩,fun y c e=>I1.cell y c (vo y c e),I.bt.fresh (Nat.le_refl _),fun y c e=>(I.j6 y c (vo y c e)).imp id fun z=>⟨rfl,z.2⟩,fun p hp=>absurd hp (by simp),I1.bt,?_⟩
 ·-- has
  have oM:(y,NameKind.free)∈scope.names:=by
   rcases hy with hy|hy
   ·exact j7 (X:=X) (k:=.cell) hy (.inl rfl) B.zO
   ·exact j7 (X:=X) (k:=.free) hy (.inr rfl) B.zO
  exact mC oM (I.ok.has y (B.frees (y,.free) oM rfl))
 ·-- fp below nE OG frame
  obtain⟨o,e⟩:=ho b hb
  exact Nat.ne_of_lt (Heap.lt_size e)
 ·-- base
  rcases(hf b hb).2.2.2.1 with z|z
  ·exact I.ok.xt b o e z
  ·exact absurd (Nat.lt_of_lt_of_le (Heap.lt_size e) (Nat.le_trans I.ok.xr z)) (Nat.lt_irrefl _)
 ·-- frames
  rcases List.mem_cons.mp (I.vU b hs)with z|z
  ·exact(hf b hb).2.1 z
  ·exact(hf b hb).2.2.1 z
 ·-- NU values
  have hc:∃i,cap[j]? =some (some i)∧σ[i]? =some (some v):=by
   unfold rG at e2
   rw[List.getElem?_map]at e2
   cases e:cap[j]? with
   |none=>rw[e]at e2;cases e2
   |some o=>
    rw[e]at e2
    cases o with
    |none=>simp at e2
    |some i=>
     refine⟨i,rfl,?_⟩
     simp only[Option.map_some,Option.some.injEq]at e2
     cases q:σ[i]? with
     |none=>rw[q]at e2;cases e2
     |some w=>
      rw[q]at e2
      have UK:w=some v:=e2
      rw[UK]
  obtain⟨i,hi,hv⟩:=hc
  obtain⟨hN,kO⟩:=B.OF j i y hi e1
  obtain⟨m1,_,hl⟩:=I1.loc
  obtain⟨u,r,l⟩:=hl i y v hN hv (B.UI j i y hi e1)
  refine⟨u,r,.inr ?_⟩
  obtain⟨k,hk,ek⟩:=nM (X:=X) kO (B.un j i y hi e1)
  have vV:∃c,X.env.cells.lookup y=some c∧h1.IsCell c (some u):=by
   rcases l with⟨k1,_⟩|⟨_,c,e,z⟩
   ·rcases B.frees (y,.free) kO rfl with q|q
    ·rw[show X.env.kindOf y=some NameKind.local from k1]at q;cases q
    ·rw[show X.env.kindOf y=some NameKind.local from k1]at q;cases q
   ·exact⟨c,e,z⟩
  obtain⟨c,ec,zc⟩:=vV
  obtain⟨c',OH⟩:=mC (cs:=[]) kO ⟨c,ec⟩
  have:c'=c:=by have:=vo y c' OH;rw[ec]at this;cases this;rfl
  subst this
  refine⟨?_,c',OH,zc⟩
  rcases hk with rfl|rfl
  ·exact .inl ek
  ·exact .inr ek
 ·show(rG σ cap).length=N'.length
  unfold rG
  rw[List.length_map];exact B.len
theorem zP{RR:Value→Addr→Result→Shared→Prop}{pins:List (Addr×Obj)}{σ:St}{H2:Hp}{s2:Shared}{it:Addr}{fp:List Addr}{tn:Nat→Heap→Prop}{J:It}{Q:VK}(B:sT X scope N' cap)(hc:X.calm=true)
  (hg:∀C bO eu fp,PG (X.kT scope C N' bO eu fp) tg g)(ht:∀C bO eu fp,rf (X.kT scope C N' bO eu fp) ifs tt)(he:∀C bO eu fp,PE (X.kT scope C N' bO eu fp) elt te)
  (I2:Inv X pins σ H2 s2)(T:Turn X.prog X.w X.K tg J fp it tn)(oU:tn 0 s2.heap)(f2:∀b∈fp,iz X pins H2 b)
  (zQ:∀l,H2 l=none→∃W:Nat→Nat→St→Hp→Prop,(∃m,W 0 m (rG σ cap) (upd H2 l (.lst [])))∧∀i m τ H2,W i m τ H2→
   (J.stop i H2∧Q (.ref l) H2)∨(J.go i H2∧∃N:St→Hp→Prop,(∀nG H',N nG H'→∃m',m'<m∧W (i+1) m' nG H')∧
    ∀x H',J.BK i H2 x H'→g x τ H' fun wc H3=>tt wc H3 fun b H4=>if b=true then te wc H4 fun y H5=>∃ys,H5 l=some (.lst ys)∧ys.length<sizeLine∧N wc (upd H5 l (.lst (ys++[y])))else N wc H4))
  (fin:∀(D C:Addr) (o:Obj) (m:Str→Option Value) (H5:Hp) (s5:Shared),Inv X pins σ H5 s5→iz X pins H5 C→s5.heap.get? C=some o→(∀v,o.data≠.cell v)→s5.heap.Ns C m→Q (.ref D) H5→RR (.ref D) C (.ok .next) s5):
  wpAny (model X.prog X.w) X.A (newList []) (fun acc qY=>wpAny (model X.prog X.w) X.A (newFunctionEnv scope X.env.globals (fM X.env.cells scope.names []) [] X.env.qual none .none (some X.env)) (fun Ji AY=>
   codeAny (model X.prog X.w) X.A (.compStart (.ListComp elt [⟨tg,iter,ifs,0⟩] scope pos) 0 (.ref it) acc { Ji with scope:=relabel scope X.env }) (RR acc Ji.locals) AY) X.xe qY) X.xe s2:=by
 refine wpAny_newObj_type (wpAny_newFunctionEnv B.zO (by intro y hy;simp at hy) (fun me we AZ=>?_) B.kind)
 dsimp only at we AZ ⊢
 have I3:Inv X pins σ (upd H2 s2.heap.objs.size (.lst [])) { s2 with heap:=s2.heap.push { cls:=.type "list",dict:=none,data:=.seq ([]:List Value).toArray } }:=I2.Je (t':=s2.toks) (its:=[]) (ys:=[]) .nil (Nat.zero_le _)
 have hD:H2 s2.heap.objs.size=none:=I2.fresh
 have OI:∀b∈fp,b≠s2.heap.objs.size:=fun b hb=>by
  obtain⟨o,e,_⟩:=T.obj 0 _ oU b hb
  exact Nat.ne_of_lt (Heap.lt_size e)
 have f3:∀b∈fp,iz X pins (upd H2 s2.heap.objs.size (.lst [])) b:=fun b hb=>⟨by rw[bh (OI b hb)];exact(f2 b hb).1,(f2 b hb).2⟩
 obtain⟨W,⟨m0,w0⟩,turn⟩:=zQ s2.heap.objs.size hD
 generalize G4:({ s2 with heap:=s2.heap.push { cls:=.type "list",dict:=none,data:=.seq ([]:List Value).toArray } }:Shared)=s3 at I3
 have G5:s3.heap=s2.heap.push { cls:=.type "list",dict:=none,data:=.seq ([]:List Value).toArray }:=by rw[←G4]
 have keep:∀b o,s3.heap.get? b=some o→me.get? b=some o:=fun b o e=>by
  have hC:=Heap.lt_size e
  rw[G5]at e hC
  exact AZ.extBut b o (Nat.ne_of_lt hC) (Heap.get?_push_of_some _ e)
 have UL:∀b∈fp,∃o,s3.heap.get? b=some o:=fun b hb=>by
  obtain⟨o,e,_⟩:=T.obj 0 _ oU b hb
  exact⟨o,by rw[G5];exact Heap.get?_push_of_some _ e⟩
 have OJ:s3.heap.objs.size=(s2.heap.push { cls:=.type "list",dict:=none,data:=.seq ([]:List Value).toArray }).objs.size:=by rw[G5]
 rw[←OJ]at we ⊢
 have J0:Inv (X.kT scope s3.heap.objs.size N' s3 (upd H2 s2.heap.objs.size (.lst [])) fp) [] (rG σ cap) (upd H2 s2.heap.objs.size (.lst [])) { s3 with heap:=me,toks:=s3.toks }:=DU (t':=s3.toks) B I3 f3 UL keep we
 have OK:tn 0 me:=T.keep 0 s2.heap me oU fun b hb o e=>keep b o (by rw[G5];exact Heap.get?_push_of_some _ e)
 have es:({ s2 with heap:=me,toks:=s2.toks+([]:List (Str×Value)).length }:Shared)= { s3 with heap:=me,toks:=s3.toks }:=by
  rw[←G4];rfl
 have KC:∀{s5:Shared}{H5:Hp}{OL:St},Inv (X.kT scope s3.heap.objs.size N' s3 (upd H2 s2.heap.objs.size (.lst [])) fp) [] OL H5 s5→Inv X pins σ H5 s5:=fun {s5 H5 OL} J5=>
  I3.JS (ch:=fp) J5.os J5.base J5.bt J5.bare fun b hb=>⟨(f3 b hb).2.2.2.1,(f3 b hb).2.1,(f3 b hb).2.2.2.2.1,(f3 b hb).2.2.2.2.2⟩
 have KD:∀{H':Hp},(∀b∈fp,H' b=none)→∀b∈fp,iz (X.kT scope s3.heap.objs.size N' s3 (upd H2 s2.heap.objs.size (.lst [])) fp) [] H' b:=fun {H'} hn b hb=>
  ⟨hn b hb,(J0.ok.FX b hb).1,J0.ok.xu b hb,.inl hb,(J0.ok.FX b hb).2,fun p hp=>absurd hp (by simp)⟩
 have loop:codeAny (model X.prog X.w) X.A (.compLoop (.ListComp elt [⟨tg,iter,ifs,0⟩] scope pos) 0 (.ref it) (.ref s2.heap.objs.size) (compEnvC scope (fM X.env.cells scope.names []) s3.heap.objs.size X.env))
   (RR (.ref s2.heap.objs.size) s3.heap.objs.size) { s3 with heap:=me,toks:=s3.toks }:=by
  refine uO (fun n s'=>∃i τ H',Inv (X.kT scope s3.heap.objs.size N' s3 (upd H2 s2.heap.objs.size (.lst [])) fp) [] τ H' s'∧tn i s'.heap∧(∀b∈fp,H' b=none)∧W i n τ H') ?_ m0 ⟨0,_,_,J0,OK,fun b hb=>(f3 b hb).1,w0⟩
  rintro n s4 ⟨i,τ,H4,J4,G6,OM,w4⟩
  rcases turn i n τ H4 w4 with⟨stop,q⟩|⟨go,N,hN,step⟩
  ·refine wpAny_mono (T.done (X.kT scope s3.heap.objs.size N' s3 (upd H2 s2.heap.objs.size (.lst [])) fp) rfl rfl rfl hc i [] s4 τ H4 (fun _ _=>False) J4 (KD OM) G6 stop) (fun r s5 bq=>?_) (fun _ _ f=>f)
   obtain⟨hr,J5⟩:=bq
   subst hr
   obtain⟨m5,DV,_⟩:=J5.loc
   have I5:Inv X pins σ H4 s5:=KC J5
   obtain⟨o5,Yr,Ys,UM,UN,_⟩:=id DV
   refine fin _ _ o5 m5 H4 s5 I5 ⟨J5.free,fun e=>?_,I3.IV (Nat.le_refl _),.inr I3.sz,fun y c e z=>?_,fun p hp z=>?_⟩ UM (fun v e=>?_) DV q
   ·have:=I3.lt
    rw[←e]at this
    exact Nat.lt_irrefl _ this
   ·obtain⟨v,o,BD,_⟩:=I3.cell y c e
    have:=Heap.lt_size BD
    rw[z]at this
    exact Nat.lt_irrefl _ this
   ·have:=Heap.lt_size (I3.pin p hp).1
    rw[z]at this
    exact Nat.lt_irrefl _ this
   ·rw[UN]at e;cases e
  ·refine wpAny_mono (T.item (X.kT scope s3.heap.objs.size N' s3 (upd H2 s2.heap.objs.size (.lst [])) fp) rfl rfl rfl hc i [] s4 τ H4 (fun _ _=>False) J4 (KD OM) G6 go) (fun r s5 bq=>?_) (fun _ _ f=>f)
   obtain⟨u,hr,h5⟩:=bq
   subst hr
   refine wpAny_mono h5 (fun _ s6 bq=>?_) (fun _ _ f=>f)
   obtain⟨xv,H6,J6,r6,y6,KG,UO⟩:=bq
   have UP:=J6.pinned (KD UO) (T.obj _ _ KG)
   have again:∀{s7:Shared}{uP:St}{H7:Hp},Inv (X.kT scope s3.heap.objs.size N' s3 (upd H2 s2.heap.objs.size (.lst [])) fp) ([]++oT fp s6.heap) uP H7 s7→N uP H7→∃m,m<n∧∃i τ H',Inv (X.kT scope s3.heap.objs.size N' s3 (upd H2 s2.heap.objs.size (.lst [])) fp) [] τ H' s7∧tn i s7.heap∧(∀b∈fp,H' b=none)∧W i m τ H':=fun {s7 uP H7} J7 n7=>by
    obtain⟨m',hm,w7⟩:=hN uP H7 n7
    refine⟨m',hm,i+1,uP,H7,J7.m_,T.keep _ _ _ KG fun b hb o e=>(J7.pin (b,o) (List.mem_append_right _ (List.mem_append_right _ (jG hb e)))).1,fun b hb=>?_,w7⟩
    obtain⟨o,e,d⟩:=T.obj _ _ KG b hb
    exact(J7.pin (b,o) (List.mem_append_right _ (List.mem_append_right _ (jG hb e)))).2.1
   refine wpAny_mono (hg s3.heap.objs.size s3 (upd H2 s2.heap.objs.size (.lst [])) fp _ s6 τ H6 xv u _ UP r6 (step xv H6 y6)) (fun _ s7 bq=>?_) (fun _ _ f=>f)
   obtain⟨uP,H7,J7,q7⟩:=bq
   refine wpAny_mono (ht s3.heap.objs.size s3 (upd H2 s2.heap.objs.size (.lst [])) fp _ s7 uP H7 _ J7 q7) (fun ok s8 bq=>?_) (fun _ _ f=>f)
   obtain⟨H8,J8,q8⟩:=bq
   cases ok with
   |false=>
    rw[if_neg (by decide)]at q8 ⊢
    exact again J8 q8
   |true=>
    rw[if_pos rfl]at q8 ⊢
    refine wpAny_mono (he s3.heap.objs.size s3 (upd H2 s2.heap.objs.size (.lst [])) fp _ s8 uP H8 _ J8 q8) (fun yv s9 bq=>?_) (fun _ _ f=>f)
    obtain⟨y,H9,J9,r9,q9⟩:=bq
    obtain⟨ys,hl,hz,n9⟩:=q9
    exact wpAny_mono (b_ (X:=X.kT scope s3.heap.objs.size N' s3 (upd H2 s2.heap.objs.size (.lst [])) fp) _ s9 uP H9 (.ref s2.heap.objs.size) [y] (.ref s2.heap.objs.size) [yv] (fun _ H'=>N uP H') J9 rfl (.cons r9 .nil) ⟨_,ys,y,rfl,rfl,hl,hz,n9⟩) (fun _ Yt ⟨_,Yu,UQ,_,UR⟩=>again UQ UR) (fun _ _ f=>f)
 rw[es]
 exact codeAny_compStart_list loop (T.self _ 0 _ _ _ OK loop)
theorem DW(B:sT X scope N' cap)(hc:X.calm=true)
  (hi:PI X tg iter wi)(hg:∀C bO eu fp,PG (X.kT scope C N' bO eu fp) tg g)(ht:∀C bO eu fp,rf (X.kT scope C N' bO eu fp) ifs tt)(he:∀C bO eu fp,PE (X.kT scope C N' bO eu fp) elt te)
  (hs:∀x,foldedSetIterable iter X.env x=pure x:=by intro _;rfl):
  PE X (.ListComp elt [⟨tg,iter,ifs,0⟩] scope pos) (DS wi cap g tt te):=by
 intro pins s σ H Q I h
 rw[eval_ListComp]
 refine wpAny_comprehension_free (use:=none) rfl hs (sQ fun y hy hf=>I.ok.has y.1 (B.frees y hy hf)) B.kind B.names ?_
 refine bH (hi pins s σ H _ I h) fun v s1 h1=>bH h1 fun JZ s2 h2=>?_
 obtain⟨it,fp,tn,J,H2,e,I2,T,oU,f2,zQ⟩:=h2
 subst e
 refine zP (RR:=fun acc C=>compPost (model X.prog X.w) X.A X.xe none (EP X pins σ Q) acc C) B hc hg ht he I2 T oU f2 zQ fun D C o m H5 s5 I5 f5 ho hd hn q=>?_
 refine⟨m,hn,fun h' DX=>?_⟩
 exact⟨.ref D,H5,I5.turned (t':=s5.toks) (it:=C) (fun b o hb e=>DX.extBut b o hb e) f5.1 (fun e=>f5.2.1 e) f5.2.2.2.1 f5.2.2.2.2.1 f5.2.2.2.2.2,rfl,q⟩
end
end L2
namespace L2
open PySem PySem.Spec PyProof.Rows
end L2
namespace L2
open PySem PySem.Spec PyProof.Rows
end L2
namespace L2
open PySem PySem.Spec PyProof.Rows
mutual
inductive jd(K:PySem.W.Frag)(H:Hp):V→PyData→Prop
 |bf:jd K H .bf .none
 |bl (b:Bool):jd K H (.bl b) (.bool b)
 |int (i:Int):jd K H (.int i) (.int i)
 |str (x:Str):jd K H (.str x) (.str x)
 |tup {p:Addr}{xs:List V}{ds:List PyData}:dc K H p xs→n8 K H xs ds→jd K H (.ref p) (.tuple ds)
 |lst {p:Addr}{xs:List V}{ds:List PyData}:cb K H p xs→n8 K H xs ds→jd K H (.ref p) (.list ds)
inductive n8(K:PySem.W.Frag)(H:Hp):List V→List PyData→Prop
 |nil:n8 K H [] []
 |cons {x:V}{xs:List V}{d:PyData}{ds:List PyData}:jd K H x d→n8 K H xs ds→n8 K H (x::xs) (d::ds)
end
section
variable{X:Cx}{pins:List (Addr×Obj)}{σ:St}{H:Hp}{s:Shared}
mutual
theorem jd.reads(I:Inv X pins σ H s):∀{x:V}{d:PyData},jd X.K H x d→∀{v:Value},RelV x v→∃as,Reads s.heap v d as
 |_,_,.bf,v,r=>by cases (show v=Value.none from r);exact⟨_,.none⟩
 |_,_,.bl b,v,r=>by cases (show v=Value.bool b from r);exact⟨_,.bool b⟩
 |_,_,.int i,v,r=>by
  obtain⟨t,e⟩:=(show ∃t,v=Value.int i t from r)
  cases e
  exact⟨_,.int i t⟩
 |_,_,.str x,v,r=>by
  obtain⟨t,e⟩:=(show ∃t,v=Value.str x t from r)
  cases e
  exact⟨_,.str x t⟩
 |_,_,.tup (p:=p) h a,v,r=>by
  cases (show v=Value.ref p from r)
  obtain⟨its,hv,⟨o,ho,hc,n,hd⟩,_⟩:=I.tuple h
  obtain⟨as,ra⟩:=n8.reads I a hv
  exact⟨as,.tuple ho hc hd (by simpa using ra)⟩
 |_,_,.lst (p:=p) h a,v,r=>by
  cases (show v=Value.ref p from r)
  obtain⟨its,hv,pl,_⟩:=I.list h
  obtain⟨o,ho,hc,n,hd⟩:=pl.isList
  obtain⟨as,ra⟩:=n8.reads I a hv
  exact⟨_,.list ho hc hd (by simpa using ra)⟩
theorem n8.reads(I:Inv X pins σ H s):∀{xs:List V}{ds:List PyData},n8 X.K H xs ds→∀{us:List Value},Vals xs us→∃as,ReadsAll s.heap us ds as
 |_,_,.nil,_,.nil=>⟨_,.nil⟩
 |_,_,.cons h a,_,.cons r t=>by
  obtain⟨as,ra⟩:=jd.reads I h r
  obtain⟨bs,rb⟩:=n8.reads I a t
  exact⟨_,.cons ra rb⟩
end
end
def sV(K:PySem.W.Frag)(neg:Bool):R2:=fun x y H Q=>∃d e,jd K H x d∧jd K H y e∧SeqAt.shaped d=true∧SeqAt.shaped e=true∧Q (.bl (if neg then !PyData.eqv d e else PyData.eqv d e)) H
section
variable{X:Cx}
theorem G7(hu:X.A.units+64<cLine):dr X (compareOp .Eq) (sV X.K false):=by
 intro pins s σ H x y v u Q I rx ry h
 obtain⟨d,e,h1,h2,s1,s2,q⟩:=h
 obtain⟨as,ra⟩:=h1.reads I rx
 obtain⟨bs,rb⟩:=h2.reads I ry
 exact eq_dataH ra rb s1 s2 hu ⟨.bl (PyData.eqv d e),H,I,rfl,q⟩
theorem G8(hu:X.A.units+64<cLine):dr X (compareOp .NotEq) (sV X.K true):=by
 intro pins s σ H x y v u Q I rx ry h
 obtain⟨d,e,h1,h2,s1,s2,q⟩:=h
 obtain⟨as,ra⟩:=h1.reads I rx
 obtain⟨bs,rb⟩:=h2.reads I ry
 exact ne_dataH ra rb s1 s2 hu ⟨.bl (!PyData.eqv d e),H,I,rfl,q⟩
end
section
variable{X:Cx}
theorem nN{h:Heap}{d:PyData}{e:Value→Bool}:∀{us:List Value}{ds:List PyData}{as:List Addr},ReadsAll h us ds as→(∀u d' wg,u∈us→d'∈ds→Reads h u d' wg→e u=PyData.eqv d' d)→us.any e=ds.any fun d'=>PyData.eqv d' d
 |_,_,_,.nil,_=>rfl
 |_,_,_,.cons r t,h=>by
  rw[List.any_cons,List.any_cons,h _ _ _ List.mem_cons_self List.mem_cons_self r,nN t fun u d' wg hu hd r'=>h u d' wg (List.mem_cons_of_mem _ hu) (List.mem_cons_of_mem _ hd) r']
theorem readsAll_mem{h:Heap}:∀{us:List Value}{ds:List PyData}{as:List Addr},ReadsAll h us ds as→∀u∈us,∃d'∈ds,∃wg,Reads h u d' wg
 |_,_,_,.nil,_,hu=>nomatch hu
 |_,_,_,.cons r t,u,hu=>by
  rcases List.mem_cons.mp hu with rfl|hu
  ·exact⟨_,List.mem_cons_self,_,r⟩
  ·obtain⟨d',hd,wg,r'⟩:=readsAll_mem t u hu
   exact⟨d',List.mem_cons_of_mem _ hd,wg,r'⟩
open Classical in
noncomputable def pd(h:Heap)(d:PyData)(u:Value):Bool:=if e:∃d',PyData.canLay0 d'=true∧∃as,Reads h u d' as then PyData.eqv (Classical.choose e) d else false
theorem xX{h:Heap}{d d':PyData}{u:Value}{as:List Addr}(c:PyData.canLay0 d'=true)(r:Reads h u d' as):pd h d u=PyData.eqv d' d:=by
 have e:∃d',PyData.canLay0 d'=true∧∃as,Reads h u d' as:=⟨d',c,as,r⟩
 unfold pd
 rw[dif_pos e]
 obtain⟨c1,Yv,r1⟩:=Classical.choose_spec e
 rw[SeqAt.Reads.unique _ _ _ _ _ c1 r1 r]
end
end L2
namespace L2
open PySem PySem.W PySem.Spec
abbrev vE:List Value:=[.type "ValueError",.type "Exception",.type "BaseException",.type "object"]
structure US(K:Frag)(C S:Addr)(cd:ClassData):Prop where
 cls:clsIn K C=some cd
 mro:cd.mro= .ref C::.ref S::vE
 kD:cd.hasDict=true
 ty:typeIn K (.ref C)=some (.type "type")
 sa:findIn K (.ref C) "__setattr__" =some (some (.builtin "object.__setattr__"))
 ga:findIn K (.ref C) "__getattribute__" =some (some (.builtin "BaseException.__getattribute__"))
 gt:findIn K (.ref C) "__getattr__" =some none
 cl:findIn K (.ref C) "__class__" =some (some (.builtin "object.__class__"))
def xm(a:Addr)(o:Obj):HO:=.ext fun h=>h.get? a=some o
def xh(a:Addr)(o:Obj):HO:=.iu o (xm a o)
abbrev xo(C:Addr)(d:Option Addr)(vs:Array Value)(sl:Array (Option Value)):Obj:=⟨.ref C,d,.fields vs,sl⟩
def ON(H:Hp):Option Addr→Option Obj→Prop
 |some dx,some od=>H dx=some (xh dx od)
 |none,none=>True
 |_,_=>False
structure A0(K:Frag)(H:Hp)(a C S:Addr)(vs:List (Key×V)):Prop where
 ex:∃(cd:ClassData) (d:Option Addr) (GX:Array Value) (sl:Array (Option Value)) (B0:Option Obj),US K C S cd∧H a=some (xh a (xo C d GX sl))∧ON H d B0∧
  ∀(f:Str) (v:V),(Sum.inr f,v)∈vs→findIn K (.ref C) f=some none∧∃od u,B0=some od∧lookIn f od=some (some u)∧RelV v u
theorem A0.up{K:Frag}{H H':Hp}{a C S:Addr}{vs:List (Key×V)}(h:A0 K H a C S vs)(fz:∀p o x,H p=some (.iu o x)→H' p=some (.iu o x)):A0 K H' a C S vs:=by
 obtain⟨cd,d,GX,sl,B0,h1,h2,h3,h4⟩:=h.ex
 refine⟨cd,d,GX,sl,B0,h1,fz _ _ _ h2,?_,h4⟩
 cases d with
 |none=>
  cases B0 with
  |none=>exact True.intro
  |some od=>exact h3
 |some dx=>
  cases B0 with
  |none=>exact h3
  |some od=>exact fz _ _ _ h3
end L2
namespace Qm
open PySem
structure A1 where
 params:Arguments
 body:Expr
 scope:Scope
 qual:Str
 code:Nat
 pos:Pos
 free:List Str
end Qm
namespace L2
open PySem PySem.W PySem.Spec PyProof.Rows
structure A2(H:Hp)(a:Addr)(t:Qm.A1)(vs:List V):Prop where
 ex:∃(sW:List (Str×Addr)) (pm KH:Value) (c':Addr) (oc:Obj) (fs:Array Value) (tk:Tok),H a=some (xh a (kla_obj "<lambda>" t.qual t.params t.body t.scope sW pm c' KH))∧
  H c'=some (xh c' oc)∧oc.data= .fields fs∧fs[1]? =some (.str t.qual tk)∧(∀x y c,sW.lookup x=some c→sW.lookup y=some c→x=y)∧
  (∀x c,sW.lookup x=some c→x∈t.free)∧vs.length=t.free.length∧
  ∀(i:Nat) (x:Str) (v:V),t.free[i]? =some x→vs[i]? =some v→∃c o u u0,sW.lookup x=some c∧H c=some (.iu o u0)∧o.data= .cell (some u)∧RelV v u
theorem A2.up{H H':Hp}{a:Addr}{t:Qm.A1}{vs:List V}(h:A2 H a t vs)(fz:∀p o x,H p=some (.iu o x)→H' p=some (.iu o x)):A2 H' a t vs:=by
 obtain⟨sW,pm,KH,c',oc,fs,tk,h1,h2,h3,h4,h5,h6,h7,h8⟩:=h.ex
 refine⟨sW,pm,KH,c',oc,fs,tk,fz _ _ _ h1,fz _ _ _ h2,h3,h4,h5,h6,h7,fun i x v e1 e2=>?_⟩
 obtain⟨c,o,u,u0,g1,g2,g3⟩:=h8 i x v e1 e2
 exact⟨c,o,u,u0,g1,fz _ _ _ g2,g3⟩
structure vp(K:Frag)(H:Hp)(cd:Addr)(q:Str)(P:Addr):Prop where
 hd:codeHdIn K cd P=true
 ex:∃ps:Array Value,H P=some (.xp ps)∧TriplesOk ps.toList∧∀pos cv,codeAmong pos ps.toList=some cv→∃c' oc fs tk,cv= .ref c'∧H c'=some (xh c' oc)∧oc.data= .fields fs∧fs[1]? =some (.str q tk)
theorem vp.up{K:Frag}{H H':Hp}{cd P:Addr}{q:Str}(h:vp K H cd q P)(fz:∀p o x,H p=some (.iu o x)→H' p=some (.iu o x))(hs:∀o,H P=some o→H' P=some o):vp K H' cd q P:=by
 obtain⟨ps,h1,h2,h3⟩:=h.ex
 refine⟨h.hd,ps,hs _ h1,h2,fun pos cv e=>?_⟩
 obtain⟨c',oc,fs,tk,g1,g2,g3⟩:=h3 pos cv e
 exact⟨c',oc,fs,tk,g1,fz _ _ _ g2,g3⟩
end L2
namespace Qm
open PySem
noncomputable section
inductive D where
 |bf|bl(b:Bool)|int(i:Int)|str(x:Str)|tup(xs:List D)|ref(n:Nat)|ty(n:String)|adr(a:Nat)|DY(t:A1)(bs:List D)
inductive Cell where
 |lst(xs:List D)
 |ro(xs:List D)
 |kD(ps:List (Str×D))
 |uQ(ps:List (Str×D))
 |DZ(ps:List (List Int×D))
 |D0(ps:List (List (List Int)×D))
 |vq(ps:List (List (List Int)×D))
 |exc(C S:Nat)(fs:List (Str×D))
 |tab(cd:Nat)(q:Str)
def Cell.mt:Cell→Bool
 |.ro _=>false
 |.uQ _=>false
 |.vq _=>false
 |.exc _ _ _=>false
 |_=>true
abbrev Cells:=List Cell
abbrev Env:=List (Option D)
abbrev XE:=Env→Cells→Option (D×Cells)
abbrev XA:=Env→Cells→Option (List D×Cells)
abbrev XT:=Env→Cells→Option (Bool×Cells)
abbrev XO:=Env→Cells→Option (Option Int×Cells)
inductive Fl where
 |nx|rt(d:D)|bk|ct
abbrev XS:=Env→Cells→Option (Fl×Env×Cells)
abbrev XG:=D→Env→Cells→Option (Env×Cells)
abbrev uR:=List D→Env→Cells→Option (Env×Cells)
abbrev FN:=List D→Cells→Option (D×Cells)
structure Itm where
 ds:List D
 ks:List (Nat×Cell)
abbrev XI:=Env→Cells→Option (Itm×Cells)
abbrev G1:=D→Cells→Option (D×Cells)
abbrev G2:=D→D→Cells→Option (D×Cells)
def cU:Nat:=Classical.choose (⟨10000000,rfl⟩:∃n:Nat,n=10000000)
theorem pe:cU=10000000:=Classical.choose_spec (⟨10000000,rfl⟩:∃n:Nat,n=10000000)
def eC(d:D):XE:=fun _ c=>some (d,c)
def eV(i:Nat):XE:=fun σ c=>(σ[i]?.join).bind fun d=>some (d,c)
def e1(g:G1)(a:XE):XE:=fun σ c=>(a σ c).bind fun p=>g p.1 p.2
def e2(g:G2)(a b:XE):XE:=fun σ c=>(a σ c).bind fun p=>(b σ p.2).bind fun q=>g p.1 q.1 q.2
def mD(d:D):Option Bool:=match d with
 |.bl b=>some b
 |_=>none
def sX(a b:XE):XE:=fun σ c=>(a σ c).bind fun p=>(mD p.1).bind fun k=>if k=true then b σ p.2 else some (.bl false,p.2)
def UT(a b:XE):XE:=fun σ c=>(a σ c).bind fun p=>(mD p.1).bind fun k=>if k=true then some (.bl true,p.2)else b σ p.2
def OO(a:XE):XE:=fun σ c=>(a σ c).bind fun p=>(mD p.1).bind fun k=>some (.bl (!k),p.2)
def qq(t:XT)(a b:XE):XE:=fun σ c=>(t σ c).bind fun p=>if p.1=true then a σ p.2 else b σ p.2
def ak:XA:=fun _ c=>some ([],c)
def ag(a:XE)(r:XA):XA:=fun σ c=>(a σ c).bind fun p=>(r σ p.2).bind fun q=>some (p.1::q.1,q.2)
def cc(a:XA):XE:=fun σ c=>(a σ c).bind fun p=>if p.1.length≤cU then some (.tup p.1,p.2)else none
def bC(a:XA):XE:=fun σ c=>(a σ c).bind fun p=>if p.1.length≤cU then some (.ref p.2.length,p.2++[.lst p.1])else none
def aw(F:FN)(ds:List D)(a:XA):XE:=fun σ c=>(a σ c).bind fun p=>F (p.1++ds) p.2
def eB(F:FN)(a:XA):XE:=fun σ c=>(a σ c).bind fun p=>F p.1 p.2
def qr:XO:=fun _ c=>some (none,c)
def j8(a:XE):XO:=fun σ c=>(a σ c).bind fun p=>match p.1 with
 |.int i=>some (some i,p.2)
 |_=>none
def B4(g:D→Option Int→Option Int→Cells→Option (D×Cells))(a:XE)(lo hi:XO):XE:=fun σ c=>(a σ c).bind fun p=>(lo σ p.2).bind fun l=>(hi σ l.2).bind fun h=>g p.1 l.1 h.1 h.2
def pf(g h:G2)(a b d:XE):XE:=fun σ c=>(a σ c).bind fun p=>(b σ p.2).bind fun q=>(g p.1 q.1 q.2).bind fun z=>(mD z.1).bind fun k=>
 if k=true then(d σ z.2).bind fun u=>h q.1 u.1 u.2 else some (.bl false,z.2)
def tV(a:XE):XT:=fun σ c=>(a σ c).bind fun p=>(mD p.1).bind fun k=>some (k,p.2)
def dq(a b:XT):XT:=fun σ c=>(a σ c).bind fun p=>if p.1=true then b σ p.2 else some (false,p.2)
def mn(a b:XT):XT:=fun σ c=>(a σ c).bind fun p=>if p.1=true then some (true,p.2)else b σ p.2
def oR(a:XT):XT:=fun σ c=>(a σ c).bind fun p=>some (!p.1,p.2)
def bp:XS:=fun σ c=>some (.nx,σ,c)
def aA(a b:XS):XS:=fun σ c=>(a σ c).bind fun p=>match p.1 with
 |.nx=>b p.2.1 p.2.2
 |_=>some p
def aF(i:Nat)(e:XE):XS:=fun σ c=>(e σ c).bind fun p=>some (.nx,σ.set i (some p.1),p.2)
def jI(e:XE)(g:XG):XS:=fun σ c=>(e σ c).bind fun p=>(g p.1 σ p.2).bind fun q=>some (.nx,q.1,q.2)
def A3(is:List Nat)(a:XA):XS:=fun σ c=>(a σ c).bind fun p=>if p.1.length=is.length then some (.nx,(is.zip p.1).foldl (fun σ q=>σ.set q.1 (some q.2)) σ,p.2)else none
def bV(t:XT)(a b:XS):XS:=fun σ c=>(t σ c).bind fun p=>if p.1=true then a σ p.2 else b σ p.2
def bx(e:XE):XS:=fun σ c=>(e σ c).bind fun p=>some (.rt p.1,σ,p.2)
def bW(e:XE):XS:=fun σ c=>(e σ c).bind fun p=>some (.nx,σ,p.2)
def aD(i:Nat):XG:=fun d σ c=>some (σ.set i (some d),c)
def gh:uR:=fun ds σ c=>match ds with
 |[]=>some (σ,c)
 |_=>none
def bP(g:XG)(r:uR):uR:=fun ds σ c=>match ds with
 |d::t=>(g d σ c).bind fun p=>r t p.1 p.2
 |[]=>none
def gj(n:Nat)(g:uR):XG:=fun d σ c=>match d with
 |.tup xs=>if xs.length=n then g xs σ c else none
 |_=>none
def stays(ks:List (Nat×Cell))(c:Cells):Prop:=∀p∈ks,c[p.1]? =some p.2
open Classical in
def cj(ks:List (Nat×Cell))(g:XG)(body:XS):List D→XS
 |[],σ,c=>if stays ks c then some (.nx,σ,c)else none
 |d::r,σ,c=>if stays ks c then(g d σ c).bind fun p=>(body p.1 p.2).bind fun q=>(match q.1 with
   |.nx=>cj ks g body r q.2.1 q.2.2
   |.ct=>cj ks g body r q.2.1 q.2.2
   |.bk=>some (.nx,q.2.1,q.2.2)
   |.rt d=>some (.rt d,q.2.1,q.2.2))else none
def g6(it:XI)(g:XG)(body:XS):XS:=fun σ c=>(it σ c).bind fun p=>cj p.1.ks g body p.1.ds σ p.2
def iB(t:XT)(b:XS):Nat→XS
 |0,_,_=>none
 |n+1,σ,c=>(t σ c).bind fun p=>if p.1=true then(b σ p.2).bind fun q=>(match q.1 with
   |.nx=>iB t b n q.2.1 q.2.2
   |.ct=>iB t b n q.2.1 q.2.2
   |.bk=>some (.nx,q.2.1,q.2.2)
   |.rt d=>some (.rt d,q.2.1,q.2.2))else some (.nx,σ,p.2)
open Classical in
def dH(t:XT)(b:XS):XS:=fun σ c=>if h:∃n r,iB t b n σ c=some r then iB t b (Classical.choose h) σ c else none
def sY(σ:Env)(cap:List (Option Nat)):Env:=cap.map fun o=>match o with
 |some i=>(match σ[i]? with|some v=>v|none=>none)
 |none=>none
open Classical in
def eU(L:Nat)(ks:List (Nat×Cell))(g:XG)(tt:XT)(te:XE):List D→Env→Cells→Option Cells
 |[],_,c=>if stays ks c then some c else none
 |d::r,τ,c=>if stays ks c then(g d τ c).bind fun p=>(tt p.1 p.2).bind fun b=>if b.1=true then(te p.1 b.2).bind fun y=>
   (match y.2[L]? with
    |some (.lst ys)=>if ys.length<cU then eU L ks g tt te r p.1 (y.2.set L (.lst (ys++[y.1])))else none
    |_=>none)else eU L ks g tt te r p.1 b.2 else none
def fU(it:XI)(cap:List (Option Nat))(g:XG)(tt:XT)(te:XE):XE:=fun σ c=>(it σ c).bind fun p=>
 (eU p.2.length p.1.ks g tt te p.1.ds (sY σ cap) (p.2++[.lst []])).bind fun c'=>some (.ref p.2.length,c')
def iQ:XT:=fun _ c=>some (true,c)
def dE(n N:Nat)(b:XS):FN:=fun ds c=>if ds.length=n then(b (ds.map some++List.replicate (N - n) none) c).bind fun p=>(match p.1 with
 |.rt d=>some (d,p.2.2)
 |.nx=>some (.bf,p.2.2)
 |_=>none)else none
def ck(d:D)(c:Cells):Option (List D):=match d with
 |.tup xs=>some xs
 |.ref n=>(match c[n]? with
  |some (.lst xs)=>some xs
  |some (.ro xs)=>some xs
  |_=>none)
 |_=>none
def bg(d:D)(c:Cells):Option (Nat×List D):=match d with
 |.ref n=>(match c[n]? with
  |some (.lst xs)=>some (n,xs)
  |_=>none)
 |_=>none
def qt(d:D):Option Int:=match d with
 |.int i=>some i
 |_=>none
def ii(f:Int→Int→Option D):G2:=fun x y c=>(qt x).bind fun i=>(qt y).bind fun j=>(f i j).bind fun d=>some (d,c)
def MulOk(i j:Int):Prop:=(My.Bd 90000 i∧My.Bd 90000 j)∨(My.Bd 64 i∨My.Bd 64 j)
open Classical in
def vt:G2:=ii fun i j=>if MulOk i j then some (.int (i*j))else none
def jc:G2:=ii fun i j=>some (.int (i - j))
open Classical in
def dY:G2:=ii fun i j=>if j≠0∧My.Bd 8900 j then some (.int (i.fdiv j))else none
def eA:G2:=ii fun i j=>if j≠0 then some (.int (i.fmod j))else none
def sZ:G2:=ii fun i j=>if 0≤j∧j≤100∧i.natAbs<1000 then some (.int (i ^ j.toNat))else none
def j9:G2:=ii fun i j=>some (.bl (decide (i<j)))
def G9:G2:=ii fun i j=>some (.bl (decide (i≤j)))
def rH:G2:=ii fun i j=>some (.bl (decide (j<i)))
def G_:G2:=ii fun i j=>some (.bl (decide (j≤i)))
def cn:G2:=fun x y c=>match x,y with
 |.int i,.int j=>some (.int (i+j),c)
 |.tup xs,.tup ys=>if xs≠[]∧xs.length+ys.length≤cU then some (.tup (xs++ys),c)else none
 |x,y=>(bg x c).bind fun p=>(bg y c).bind fun q=>if p.2.length+q.2.length≤cU then some (.ref c.length,c++[.lst (p.2++q.2)])else none
def je:G1:=fun x c=>(qt x).bind fun i=>some (.int (-i),c)
def omap{α β:Type}(f:α→Option β):List α→Option (List β)
 |[]=>some []
 |x::xs=>(f x).bind fun d=>(omap f xs).bind fun ds=>some (d::ds)
def data(c:Cells):Nat→D→Option PyData
 |0,_=>none
 |k+1,d=>match d with
  |.bf=>some .none
  |.int i=>some (.int i)
  |.str x=>if x.cps.all (·<1114112)=true then some (.str x)else none
  |.tup xs=>(omap (data c k) xs).bind fun ds=>some (.tuple ds)
  |.ref n=>(match c[n]? with
   |some (.lst xs)=>(omap (data c k) xs).bind fun ds=>some (.list ds)
   |some (.ro xs)=>(omap (data c k) xs).bind fun ds=>some (.list ds)
   |_=>none)
  |_=>none
open Classical in
def wj(x y:D)(c:Cells):Option Bool:=match x,y with
 |.bl a,.bl b=>some (a==b)
 |x,y=>(data c 6 x).bind fun d=>(data c 6 y).bind fun e=>some (decide (d=e))
def cQ:G2:=fun x y c=>(wj x y c).bind fun b=>some (.bl b,c)
def jD:G2:=fun x y c=>(wj x y c).bind fun b=>some (.bl (!b),c)
def kE:G2:=fun x y c=>match y with
 |.bf=>some (.bl (match x with|.bf=>true|_=>false),c)
 |_=>none
open Classical in
def KI(x y:D)(c:Cells):Option Bool:=(ck y c).bind fun xs=>(data c 5 x).bind fun d=>(omap (data c 5) xs).bind fun ds=>some (decide (d∈ds))
def Ha:G2:=fun x y c=>(KI x y c).bind fun b=>some (.bl b,c)
def n_(n:Nat)(i:Int):Option Nat:=if 0≤i then(if i<n then some i.toNat else none)else if -(n:Int)≤i then some (i+n).toNat else none
def fA{α:Type}(xs:List α)(i:Int):Option α:=(n_ xs.length i).bind fun j=>xs[j]?
def aZ:G2:=fun x y c=>(ck x c).bind fun xs=>(qt y).bind fun i=>(fA xs i).bind fun d=>some (d,c)
def xY(n d:Nat):Option Int→Nat
 |none=>d
 |some v=>if v<0 then(v+n).toNat else min v.toNat n
def cutD{α:Type}(xs:List α)(lo hi:Option Int):List α:=(xs.drop (xY xs.length 0 lo)).take (xY xs.length xs.length hi - xY xs.length 0 lo)
def pg(x:D)(lo hi:Option Int)(c:Cells):Option (D×Cells):=match x with
 |.tup xs=>some (.tup (cutD xs lo hi),c)
 |x=>(ck x c).bind fun xs=>some (.ref c.length,c++[.lst (cutD xs lo hi)])
def s_(o i:XE):XG:=fun d σ c=>(o σ c).bind fun p=>(i σ p.2).bind fun q=>(bg p.1 q.2).bind fun l=>(qt q.1).bind fun k=>(n_ l.2.length k).bind fun j=>some (σ,q.2.set l.1 (.lst (l.2.set j d)))
def one(g:G1):FN:=fun ds c=>match ds with
 |[x]=>g x c
 |_=>none
def two(g:G2):FN:=fun ds c=>match ds with
 |[x,y]=>g x y c
 |_=>none
def rg:FN:=one fun x c=>(qt x).bind fun i=>some (.int (if i<0 then -i else i),c)
def eD:FN:=one fun x c=>(ck x c).bind fun xs=>some (.int xs.length,c)
def tf:FN:=one fun x c=>match x with
 |.int i=>some (.int i,c)
 |.bl k=>some (.int (if k then 1 else 0),c)
 |_=>none
def KJ:FN:=two (ii fun i j=>some (.int (if j > i then j else i)))
def wk:FN:=two (ii fun i j=>some (.int (if j<i then j else i)))
def qu:FN:=one fun x c=>(ck x c).bind fun xs=>some (.ref c.length,c++[.lst xs])
def vv:FN:=one fun x c=>(bg x c).bind fun l=>(omap mD l.2).bind fun bs=>some (.bl (bs.all id),c)
def fq(xs ys:List D):List D:=(xs.zip ys).map fun p=>.tup [p.1,p.2]
def NV:FN:=fun ds c=>match ds with
 |[.tup xs,.tup ys]=>some (.ref c.length,c++[.lst (fq xs ys)])
 |_=>none
def eM(g:D→FN)(o:XE)(a:XA):XE:=fun σ c=>(o σ c).bind fun p=>(bg p.1 p.2).bind fun _=>(a σ p.2).bind fun q=>g p.1 q.1 q.2
def aW(o:D):FN:=one fun y c=>(bg o c).bind fun l=>if l.2.length<cU then some (.bf,c.set l.1 (.lst (l.2++[y])))else none
def gr(a:XE):XI:=fun σ c=>(a σ c).bind fun p=>match p.1 with
 |.ref n=>(p.2[n]?).bind fun z=>(ck (.ref n) p.2).bind fun xs=>some (⟨xs,[(n,z)]⟩,p.2)
 |_=>none
def xZ(a:XA):XI:=fun σ c=>(a σ c).bind fun p=>match p.1 with
 |[.tup xs,.tup ys]=>some (⟨fq xs ys,[]⟩,p.2)
 |_=>none
def fT(lo:Int)(n:Nat):List D:=(List.range n).map fun(i:Nat)=>.int (lo+i)
structure KL(j:Int):Prop where
 lo: -(2 ^ 62)≤j
 hi:j<2 ^ 62
open Classical in
def dX(a:XA):XI:=fun σ c=>(a σ c).bind fun p=>match p.1 with
 |[.int j]=>if KL j then some (⟨fT 0 j.toNat,[]⟩,p.2)else none
 |_=>none
open Classical in
def nV(a:XA):XI:=fun σ c=>(a σ c).bind fun p=>match p.1 with
 |[.int i,.int j]=>if KL i∧KL j then some (⟨fT i (j - i).toNat,[]⟩,p.2)else none
 |_=>none
theorem kU{t:XT}{b:XS}:∀{n k:Nat}{σ:Env}{c:Cells}{r},iB t b n σ c=some r→iB t b (n+k) σ c=some r
 |0,_,_,_,_,h=>by simp[iB]at h
 |n+1,k,σ,c,r,h=>by
  rw[show n+1+k=(n+k)+1 by omega]
  simp only[iB]at h ⊢
  cases ht:t σ c with
  |none=>rw[ht]at h;simp at h
  |some p=>
   rw[ht]at h
   simp only[Option.bind_some]at h ⊢
   split
   ·rename_i hp
    rw[if_pos hp]at h
    cases hb:b σ p.2 with
    |none=>rw[hb]at h;simp at h
    |some q=>
     rw[hb]at h
     simp only[Option.bind_some]at h ⊢
     obtain⟨f,σ',c'⟩:=q
     cases f with
     |nx=>exact kU h
     |ct=>exact kU h
     |bk=>exact h
     |rt d=>exact h
   ·rename_i hp
    rw[if_neg hp]at h
    exact h
theorem tj{t:XT}{b:XS}{n:Nat}{σ:Env}{c:Cells}{r}(h:iB t b n σ c=some r):dH t b σ c=some r:=by
 have hx:∃n r,iB t b n σ c=some r:=⟨n,r,h⟩
 unfold dH
 rw[dif_pos hx]
 obtain⟨r',h'⟩:=Classical.choose_spec hx
 have h1:=kU (k:=n) h'
 have h2:=kU (k:=Classical.choose hx) h
 rw[Nat.add_comm]at h2
 rw[h']
 exact h1.symm.trans h2
theorem tm{t:XT}{b:XS}{σ:Env}{c:Cells}{r}(h:dH t b σ c=some r):∃n,iB t b n σ c=some r:=by
 unfold dH at h
 split at h
 ·exact⟨_,h⟩
 ·cases h
theorem gA{t:XT}{b:XS}{σ:Env}{c c':Cells}(h:t σ c=some (false,c')):dH t b σ c=some (.nx,σ,c'):=
 tj (n:=1) (by simp[iB,h])
theorem oa{t:XT}{b:XS}{σ σ':Env}{c c' c2:Cells}{r}(h:t σ c=some (true,c'))(hb:b σ c'=some (.nx,σ',c2))(hr:dH t b σ' c2=some r):dH t b σ c=some r:=by
 obtain⟨n,hn⟩:=tm hr
 exact tj (n:=n+1) (by simp[iB,h,hb,hn])
end
end Qm
namespace L2
open PySem PySem.Spec PyProof.Rows
theorem aE{α β:Type}{x:Option α}{f:α→Option β}{z:β}(h:x.bind f=some z):∃a,x=some a∧f a=some z:=by
 cases x with
 |none=>cases h
 |some a=>exact⟨a,rfl,h⟩
theorem jf{n:Nat}(h:n≤Qm.cU):n≤sizeLine:=Nat.le_trans h (by rw[Qm.pe,sizeLine_eq];decide)
theorem x8{n:Nat}(h:n<Qm.cU):n<sizeLine:=Nat.lt_of_lt_of_le h (by rw[Qm.pe,sizeLine_eq];decide)
mutual
inductive RD(K:PySem.W.Frag)(ρ:Nat→Addr)(N:Nat)(H:Hp):Qm.D→V→Prop
 |bf:RD K ρ N H .bf .bf
 |bl (b:Bool):RD K ρ N H (.bl b) (.bl b)
 |int (i:Int):RD K ρ N H (.int i) (.int i)
 |str (x:Str):RD K ρ N H (.str x) (.str x)
 |ty (n:String):RD K ρ N H (.ty n) (.ty n)
 |tup {p:Addr}{xs:List V}{ds:List Qm.D}:H p=some (.tup xs)→RA K ρ N H ds xs→RD K ρ N H (.tup ds) (.ref p)
 |ref {n:Nat}:n<N→RD K ρ N H (.ref n) (.ref (ρ n))
 |adr (a:Nat):RD K ρ N H (.adr a) (.ref a)
 |DY {a:Addr}{t:Qm.A1}{ds:List Qm.D}{vs:List V}:A2 H a t vs→RA K ρ N H ds vs→RD K ρ N H (.DY t ds) (.ref a)
inductive RA(K:PySem.W.Frag)(ρ:Nat→Addr)(N:Nat)(H:Hp):List Qm.D→List V→Prop
 |nil:RA K ρ N H [] []
 |cons {d:Qm.D}{ds:List Qm.D}{x:V}{xs:List V}:RD K ρ N H d x→RA K ρ N H ds xs→RA K ρ N H (d::ds) (x::xs)
end
structure Up(K:PySem.W.Frag)(ρ:Nat→Addr)(N:Nat)(H:Hp)(aV:Nat→Addr)(N':Nat)(H':Hp):Prop where
 agree:∀n,n<N→aV n=ρ n
 len:N≤N'
 ts:∀p xs,H p=some (.tup xs)→H' p=some (.tup xs)
 fz:∀p o x,H p=some (.iu o x)→H' p=some (.iu o x)
section
variable{K:PySem.W.Frag}{ρ aV x9:Nat→Addr}{N N' OP:Nat}{H H' D1:Hp}
theorem Up.refl:Up K ρ N H ρ N H:=⟨fun _ _=>rfl,Nat.le_refl _,fun _ _ h=>h,fun _ _ _ h=>h⟩
theorem Up.trans(a:Up K ρ N H aV N' H')(b:Up K aV N' H' x9 OP D1):Up K ρ N H x9 OP D1:=
 ⟨fun n h=>(b.agree n (Nat.lt_of_lt_of_le h a.len)).trans (a.agree n h),Nat.le_trans a.len b.len,fun p xs h=>b.ts p xs (a.ts p xs h),fun p o x h=>b.fz p o x (a.fz p o x h)⟩
mutual
theorem RD.up(u:Up K ρ N H aV N' H'):∀{d:Qm.D}{v:V},RD K ρ N H d v→RD K aV N' H' d v
 |_,_,.bf=>.bf
 |_,_,.bl b=>.bl b
 |_,_,.int i=>.int i
 |_,_,.str x=>.str x
 |_,_,.ty n=>.ty n
 |_,_,.adr a=>.adr a
 |_,_,.DY h a=>.DY (h.up u.fz) (RA.up u a)
 |_,_,.tup h a=>.tup (u.ts _ _ h) (RA.up u a)
 |_,_,.ref (n:=n) h=>by rw[←u.agree n h];exact .ref (Nat.lt_of_lt_of_le h u.len)
theorem RA.up(u:Up K ρ N H aV N' H'):∀{ds:List Qm.D}{vs:List V},RA K ρ N H ds vs→RA K aV N' H' ds vs
 |_,_,.nil=>.nil
 |_,_,.cons h a=>.cons (RD.up u h) (RA.up u a)
end
theorem RA.length:∀{ds:List Qm.D}{vs:List V},RA K ρ N H ds vs→ds.length=vs.length
 |_,_,.nil=>rfl
 |_,_,.cons _ a=>congrArg (·+1) (RA.length a)
theorem RA.append:∀{ds es:List Qm.D}{vs us:List V},RA K ρ N H ds vs→RA K ρ N H es us→RA K ρ N H (ds++es) (vs++us)
 |_,_,_,_,.nil,b=>b
 |_,_,_,_,.cons h a,b=>.cons h (RA.append a b)
theorem RA.get:∀{ds:List Qm.D}{vs:List V}{i:Nat}{d:Qm.D},RA K ρ N H ds vs→ds[i]? =some d→∃v,vs[i]? =some v∧RD K ρ N H d v
 |_,_,_,_,.nil,e=>by simp at e
 |_,_,0,_,.cons h _,e=>by simp at e;subst e;exact⟨_,rfl,h⟩
 |_,_,i+1,d,.cons _ a,e=>by
  obtain⟨v,h1,h2⟩:=RA.get (i:=i) (d:=d) a (by simpa using e)
  exact⟨v,by simpa using h1,h2⟩
theorem RA.take:∀{ds:List Qm.D}{vs:List V} (n:Nat),RA K ρ N H ds vs→RA K ρ N H (ds.take n) (vs.take n)
 |_,_,0,_=>.nil
 |_,_,_+1,.nil=>.nil
 |_,_,n+1,.cons h a=>.cons h (RA.take n a)
theorem RA.drop:∀{ds:List Qm.D}{vs:List V} (n:Nat),RA K ρ N H ds vs→RA K ρ N H (ds.drop n) (vs.drop n)
 |_,_,0,a=>a
 |_,_,_+1,.nil=>.nil
 |_,_,n+1,.cons _ a=>RA.drop n a
theorem RA.set{d:Qm.D}{v:V}(r:RD K ρ N H d v):∀{ds:List Qm.D}{vs:List V} (n:Nat),RA K ρ N H ds vs→RA K ρ N H (ds.set n d) (vs.set n v)
 |_,_,_,.nil=>.nil
 |_,_,0,.cons _ a=>.cons r a
 |_,_,n+1,.cons h a=>.cons h (RA.set r n a)
theorem RA.one{d:Qm.D}{v:V}(h:RD K ρ N H d v):RA K ρ N H [d] [v]:=.cons h .nil
theorem RA.jg{d:Qm.D}{vs:List V}(h:RA K ρ N H [d] vs):∃v,vs=[v]∧RD K ρ N H d v:=by
 cases h with
 |cons r t=>cases t;exact⟨_,rfl,r⟩
theorem RA.tp{d e:Qm.D}{vs:List V}(h:RA K ρ N H [d,e] vs):∃v u,vs=[v,u]∧RD K ρ N H d v∧RD K ρ N H e u:=by
 cases h with
 |cons r t=>obtain⟨u,rfl,q⟩:=RA.jg t;exact⟨_,_,rfl,r,q⟩
theorem RA.OR{vs:List V}(h:RA K ρ N H [] vs):vs=[]:=by cases h;rfl
theorem RD.fv{i:Int}{v:V}(h:RD K ρ N H (.int i) v):v= .int i:=by cases h;rfl
theorem RD.rJ{b:Bool}{v:V}(h:RD K ρ N H (.bl b) v):v= .bl b:=by cases h;rfl
theorem RD.D2{v:V}(h:RD K ρ N H .bf v):v= .bf:=by cases h;rfl
theorem RD.nO{ds:List Qm.D}{v:V}(h:RD K ρ N H (.tup ds) v):∃p xs,v= .ref p∧H p=some (.tup xs)∧RA K ρ N H ds xs:=by cases h with|tup a b=>exact⟨_,_,rfl,a,b⟩
theorem RD.ph{n:Nat}{v:V}(h:RD K ρ N H (.ref n) v):v= .ref (ρ n)∧n<N:=by cases h with|ref h=>exact⟨rfl,h⟩
end
def vw(K:PySem.W.Frag)(H:Hp)(a:Addr)(xs:List V):Prop:=(∃o,H a=some (.iu o (.lst xs)))∨cb K (fun _=>none) a xs
theorem vw.seq{K:PySem.W.Frag}{H:Hp}{a:Addr}{xs:List V}(h:vw K H a xs):cb K H a xs:=by
 rcases h with⟨o,h⟩|h
 ·exact .inl (.inr ⟨o,h⟩)
 ·rcases h with(h|⟨o,h⟩)|h
  ·cases h
  ·cases h
  ·exact .inr h
theorem vw.of{K:PySem.W.Frag}{H:Hp}{a:Addr}{xs:List V}(hO:xU H)(h:cb K H a xs):vw K H a xs:=by
 rcases h with(h|⟨o,h⟩)|h
 ·rcases hO a with z|⟨o,ys,z⟩
  ·rw[z]at h;cases h
  ·rw[z]at h;cases h
 ·exact .inl ⟨o,h⟩
 ·exact .inr (.inr h)
inductive RK(K:PySem.W.Frag)(ρ:Nat→Addr)(N:Nat)(H:Hp):List (Str×Qm.D)→List (Key×V)→Prop
 |nil:RK K ρ N H [] []
 |cons {k:Str}{d:Qm.D}{ds:List (Str×Qm.D)}{x:V}{xs:List (Key×V)}:RD K ρ N H d x→RK K ρ N H ds xs→RK K ρ N H ((k,d)::ds) ((.inr k,x)::xs)
theorem RK.up{K:PySem.W.Frag}{ρ aV:Nat→Addr}{N N':Nat}{H H':Hp}(u:Up K ρ N H aV N' H'):∀{ds:List (Str×Qm.D)}{vs:List (Key×V)},RK K ρ N H ds vs→RK K aV N' H' ds vs
 |_,_,.nil=>.nil
 |_,_,.cons h a=>.cons (h.up u) (RK.up u a)
inductive pj(K:PySem.W.Frag)(ρ:Nat→Addr)(N:Nat)(H:Hp):List (List Int×Qm.D)→List (List Key×V)→Prop
 |nil:pj K ρ N H [] []
 |cons {k:List Int}{d:Qm.D}{ds:List (List Int×Qm.D)}{x:V}{xs:List (List Key×V)}:RD K ρ N H d x→pj K ρ N H ds xs→pj K ρ N H ((k,d)::ds) ((k.map Sum.inl,x)::xs)
inductive og(K:PySem.W.Frag)(ρ:Nat→Addr)(N:Nat)(H:Hp):List (List (List Int)×Qm.D)→List (List (List Key)×V)→Prop
 |nil:og K ρ N H [] []
 |cons {k:List (List Int)}{d:Qm.D}{ds:List (List (List Int)×Qm.D)}{x:V}{xs:List (List (List Key)×V)}:RD K ρ N H d x→og K ρ N H ds xs→og K ρ N H ((k,d)::ds) ((k.map (List.map Sum.inl),x)::xs)
theorem pj.up{K:PySem.W.Frag}{ρ aV:Nat→Addr}{N N':Nat}{H H':Hp}(u:Up K ρ N H aV N' H'):∀{ds:List (List Int×Qm.D)}{vs:List (List Key×V)},pj K ρ N H ds vs→pj K aV N' H' ds vs
 |_,_,.nil=>.nil
 |_,_,.cons h a=>.cons (h.up u) (pj.up u a)
theorem og.up{K:PySem.W.Frag}{ρ aV:Nat→Addr}{N N':Nat}{H H':Hp}(u:Up K ρ N H aV N' H'):∀{ds:List (List (List Int)×Qm.D)}{vs:List (List (List Key)×V)},og K ρ N H ds vs→og K aV N' H' ds vs
 |_,_,.nil=>.nil
 |_,_,.cons h a=>.cons (h.up u) (og.up u a)
def CO(K:PySem.W.Frag)(ρ:Nat→Addr)(N:Nat)(H:Hp)(a:Addr):Qm.Cell→Prop
 |.lst ds=>∃vs,H a=some (.lst vs)∧RA K ρ N H ds vs
 |.ro ds=>∃vs,vw K H a vs∧RA K ρ N H ds vs
 |.kD ds=>∃vs,H a=some (.dK vs)∧RK K ρ N H ds vs
 |.uQ ds=>∃o vs,H a=some (.iu o (.dK vs))∧RK K ρ N H ds vs
 |.DZ ds=>∃vs,H a=some (.dT vs)∧pj K ρ N H ds vs
 |.D0 ds=>∃vs,H a=some (.dU vs)∧og K ρ N H ds vs
 |.vq ds=>∃o vs,H a=some (.iu o (.dU vs))∧og K ρ N H ds vs
 |.exc C S ds=>∃vs,A0 K H a C S vs∧RK K ρ N H ds vs
 |.tab cd q=>vp K H cd q a
structure RS(K:PySem.W.Frag)(ρ:Nat→Addr)(c:Qm.Cells)(H:Hp):Prop where
 inj:∀(i j:Nat) (z y:Qm.Cell),c[i]? =some z→c[j]? =some y→z.mt=true→y.mt=true→ρ i=ρ j→i=j
 ok:∀(n:Nat) (z:Qm.Cell),c[n]? =some z→CO K ρ c.length H (ρ n) z
structure RE(K:PySem.W.Frag)(ρ:Nat→Addr)(N:Nat)(H:Hp)(env:Qm.Env)(σ:St):Prop where
 len:env.length=σ.length
 at_:∀(i:Nat) (d:Qm.D),env[i]? =some (some d)→∃v:V,σ[i]? =some (some v)∧RD K ρ N H d v
structure Nx(K:PySem.W.Frag)(ρ:Nat→Addr)(c:Qm.Cells)(H:Hp)(aV:Nat→Addr)(c':Qm.Cells)(H':Hp):Prop where
 up:Up K ρ c.length H aV c'.length H'
 rs:RS K aV c' H'
section
variable{K:PySem.W.Frag}{ρ aV x9:Nat→Addr}{N N':Nat}{c c' tq:Qm.Cells}{H H' D1:Hp}{env:Qm.Env}{σ:St}
theorem RE.up(h:RE K ρ N H env σ)(u:Up K ρ N H aV N' H'):RE K aV N' H' env σ:=⟨h.len,fun i d e=>let ⟨v,h1,h2⟩:=h.at_ i d e;⟨v,h1,h2.up u⟩⟩
theorem Nx.refl(r:RS K ρ c H):Nx K ρ c H ρ c H:=⟨Up.refl,r⟩
theorem Nx.trans(a:Nx K ρ c H aV c' H')(b:Nx K aV c' H' x9 tq D1):Nx K ρ c H x9 tq D1:=⟨a.up.trans b.up,b.rs⟩
theorem CO.up{a:Addr}{z:Qm.Cell}(h:CO K ρ N H a z)(u:Up K ρ N H aV N' H')(hs:∀o,H a=some o→H' a=some o):CO K aV N' H' a z:=by
 cases z with
 |lst ds=>obtain⟨vs,h1,h2⟩:=h;exact⟨vs,hs _ h1,h2.up u⟩
 |ro ds=>
  obtain⟨vs,h1,h2⟩:=h
  refine⟨vs,?_,h2.up u⟩
  rcases h1 with⟨o,h1⟩|h1
  ·exact .inl ⟨o,hs _ h1⟩
  ·exact .inr h1
 |kD ds=>obtain⟨vs,h1,h2⟩:=h;exact⟨vs,hs _ h1,h2.up u⟩
 |uQ ds=>obtain⟨o,vs,h1,h2⟩:=h;exact⟨o,vs,hs _ h1,h2.up u⟩
 |DZ ds=>obtain⟨vs,h1,h2⟩:=h;exact⟨vs,hs _ h1,h2.up u⟩
 |D0 ds=>obtain⟨vs,h1,h2⟩:=h;exact⟨vs,hs _ h1,h2.up u⟩
 |vq ds=>obtain⟨o,vs,h1,h2⟩:=h;exact⟨o,vs,hs _ h1,h2.up u⟩
 |exc C S ds=>obtain⟨vs,h1,h2⟩:=h;exact⟨vs,h1.up u.fz,h2.up u⟩
 |tab cd q=>exact vp.up h u.fz hs
theorem CO.obj{a:Addr}{z:Qm.Cell}(h:CO K ρ N H a z)(m:z.mt=true):∃o,H a=some o∧(∀xs,o≠.tup xs)∧∀q x,o≠.iu q x:=by
 cases z with
 |lst ds=>obtain⟨vs,h1,_⟩:=h;exact⟨_,h1,(fun _ z=>by cases z),(fun _ _ z=>by cases z)⟩
 |ro ds=>cases m
 |uQ ds=>cases m
 |kD ds=>obtain⟨vs,h1,_⟩:=h;exact⟨_,h1,(fun _ z=>by cases z),(fun _ _ z=>by cases z)⟩
 |DZ ds=>obtain⟨vs,h1,_⟩:=h;exact⟨_,h1,(fun _ z=>by cases z),(fun _ _ z=>by cases z)⟩
 |D0 ds=>obtain⟨vs,h1,_⟩:=h;exact⟨_,h1,(fun _ z=>by cases z),(fun _ _ z=>by cases z)⟩
 |vq ds=>cases m
 |exc C S ds=>cases m
 |tab cd q=>obtain⟨ps,h1,_⟩:=vp.ex h;exact⟨_,h1,(fun _ z=>by cases z),(fun _ _ z=>by cases z)⟩
theorem RE.set{d:Qm.D}{v:V}{i:Nat}(h:RE K ρ N H env σ)(r:RD K ρ N H d v):RE K ρ N H (env.set i (some d)) (σ.set i (some v)):=by
 refine⟨by rw[List.length_set,List.length_set];exact h.len,fun j e he=>?_⟩
 rw[List.getElem?_set]at he ⊢
 have hl:=h.len
 by_cases vX:i=j
 ·rw[if_pos vX]at he ⊢
  subst vX
  split at he
  ·rename_i hC
   rw[if_pos (by omega)]
   cases he
   exact⟨v,rfl,r⟩
  ·cases he
 ·rw[if_neg vX]at he ⊢
  exact h.at_ j e he
theorem Nx.same(r:RS K ρ c H)(e:Jg H H'):Nx K ρ c H ρ c H':=by
 have u:Up K ρ c.length H ρ c.length H':=⟨fun _ _=>rfl,Nat.le_refl _,fun p xs h=>e _ _ h,fun p o x h=>e _ _ h⟩
 exact⟨u,r.inj,fun n z hz=>(r.ok n z hz).up u (fun o h=>e _ _ h)⟩
theorem Nx.A4(r:RS K ρ c H){l:Addr}(hl:H l=none){z:Qm.Cell}{o:HO}(hz:∀aV N' H',Up K ρ c.length H aV N' H'→H' l=some o→CO K aV N' H' l z):Nx K ρ c H (fun n=>if n=c.length then l else ρ n) (c++[z]) (upd H l o)∧RD K (fun n=>if n=c.length then l else ρ n) (c++[z]).length (upd H l o) (.ref c.length) (.ref l):=by
 have hlen:(c++[z]).length=c.length+1:=by simp
 have u:Up K ρ c.length H (fun n=>if n=c.length then l else ρ n) (c++[z]).length (upd H l o):=by
  refine⟨fun n h=>if_neg (by omega),by omega,fun p xs h=>aI h hl,fun p o x h=>aI h hl⟩
 refine⟨⟨u,fun i j x y h1 h2 m1 m2 e=>?_,fun n z' x_=>?_⟩,?_⟩
 ·have Yw:i<c.length+1:=by rw[←hlen];exact(List.getElem?_eq_some_iff.mp h1).1
  have Yx:j<c.length+1:=by rw[←hlen];exact(List.getElem?_eq_some_iff.mp h2).1
  have fresh:∀k y,k<c.length→(c++[z])[k]? =some y→y.mt=true→ρ k≠l:=fun k y hk hz m e'=>by
   rw[List.getElem?_append_left hk]at hz
   obtain⟨o',h',_⟩:=(r.ok k _ hz).obj m
   rw[e',hl]at h';cases h'
  by_cases hi:i=c.length<;>by_cases hj:j=c.length
  ·omega
  ·exfalso
   simp only[hi,if_true,if_neg hj]at e
   exact fresh j y (by omega) h2 m2 e.symm
  ·exfalso
   simp only[hj,if_true,if_neg hi]at e
   exact fresh i x (by omega) h1 m1 e
  ·simp only[if_neg hi,if_neg hj]at e
   rw[List.getElem?_append_left (by omega)]at h1 h2
   exact r.inj i j x y h1 h2 m1 m2 e
 ·have lt:n<c.length+1:=by rw[←hlen];exact(List.getElem?_eq_some_iff.mp x_).1
  by_cases hn:n=c.length
  ·subst hn
   have:z'=z:=by simpa using x_.symm
   subst this
   simp only[if_true]
   exact hz _ _ _ u cy
  ·simp only[if_neg hn]
   rw[List.getElem?_append_left (by omega)]at x_
   exact(r.ok n z' x_).up u (fun o h=>aI h hl)
 ·have:=RD.ref (K:=K) (ρ:=fun n=>if n=c.length then l else ρ n) (N:=(c++[z]).length) (H:=upd H l o) (n:=c.length) (by omega)
  simpa using this
theorem Nx.alloc(r:RS K ρ c H){l:Addr}(hl:H l=none){ds:List Qm.D}{vs:List V}(a:RA K ρ c.length H ds vs):Nx K ρ c H (fun n=>if n=c.length then l else ρ n) (c++[.lst ds]) (upd H l (.lst vs))∧RD K (fun n=>if n=c.length then l else ρ n) (c++[Qm.Cell.lst ds]).length (upd H l (.lst vs)) (.ref c.length) (.ref l):=
 Nx.A4 r hl fun _ _ _ u h=>⟨vs,h,a.up u⟩
theorem Nx.Hb(r:RS K ρ c H){l:Addr}(hl:H l=none){ds:List (Str×Qm.D)}{vs:List (Key×V)}(a:RK K ρ c.length H ds vs):Nx K ρ c H (fun n=>if n=c.length then l else ρ n) (c++[.kD ds]) (upd H l (.dK vs))∧RD K (fun n=>if n=c.length then l else ρ n) (c++[Qm.Cell.kD ds]).length (upd H l (.dK vs)) (.ref c.length) (.ref l):=
 Nx.A4 r hl fun _ _ _ u h=>⟨vs,h,a.up u⟩
theorem Nx.OS(r:RS K ρ c H){n:Nat}{y z:Qm.Cell}(hn:c[n]? =some y)(my:y.mt=true){o:HO}(hz:∀N' H',Up K ρ c.length H ρ N' H'→H' (ρ n)=some o→CO K ρ N' H' (ρ n) z):Nx K ρ c H ρ (c.set n z) (upd H (ρ n) o):=by
 obtain⟨w,hw,hk⟩:=(r.ok n _ hn).obj my
 have hC:n<c.length:=(List.getElem?_eq_some_iff.mp hn).1
 have D3:∀{p:Addr}{q:HO},H p=some q→((∃ys,q= .tup ys)∨∃o x,q= .iu o x)→p≠ρ n:=fun {p q} h h1 e=>by
  rw[e,hw]at h;cases h
  rcases h1 with⟨_,rfl⟩|⟨_,_,rfl⟩
  ·exact hk.1 _ rfl
  ·exact hk.2 _ _ rfl
 have u:Up K ρ c.length H ρ (c.set n z).length (upd H (ρ n) o):=by
  refine⟨fun _ _=>rfl,by rw[List.length_set];exact Nat.le_refl _,fun p ys h=>?_,fun p q x h=>?_⟩
  ·rw[bh (D3 h (.inl ⟨_,rfl⟩))];exact h
  ·rw[bh (D3 h (.inr ⟨_,_,rfl⟩))];exact h
 have look:∀{j:Nat}{x:Qm.Cell},j≠n→(c.set n z)[j]? =some x→c[j]? =some x:=fun {j x} hj hx=>by
  rw[List.getElem?_set,if_neg (fun e=>hj e.symm)]at hx;exact hx
 have back:∀{j:Nat}{x:Qm.Cell},(c.set n z)[j]? =some x→x.mt=true→∃x',c[j]? =some x'∧x'.mt=true:=fun {j x} hx m=>by
  by_cases hj:j=n
  ·subst hj;exact⟨y,hn,my⟩
  ·exact⟨x,look hj hx,m⟩
 refine⟨u,fun i j p q h1 h2 m1 m2 e=>?_,fun j x hx=>?_⟩
 ·obtain⟨_,g1,w1⟩:=back h1 m1
  obtain⟨_,g2,w2⟩:=back h2 m2
  exact r.inj i j _ _ g1 g2 w1 w2 e
 ·by_cases hj:j=n
  ·subst hj
   have:x=z:=by
    rw[List.getElem?_set,if_pos rfl,if_pos hC]at hx;cases hx;rfl
   subst this
   exact hz _ _ u cy
  ·have rE:=look hj hx
   by_cases hm:x.mt=true
   ·have hp:ρ j≠ρ n:=fun e=>hj (r.inj j n _ _ rE hn hm my e)
    exact(r.ok j _ rE).up u (fun ys h=>by rw[bh hp];exact h)
   ·cases x with
    |lst zs=>exact absurd rfl hm
    |kD zs=>exact absurd rfl hm
    |DZ zs=>exact absurd rfl hm
    |D0 zs=>exact absurd rfl hm
    |tab cd q=>exact absurd rfl hm
    |uQ zs=>
     obtain⟨o',fV,h1,h2⟩:=r.ok j _ rE
     exact⟨o',fV,by rw[bh (D3 h1 (.inr ⟨_,_,rfl⟩))];exact h1,h2.up u⟩
    |vq zs=>
     obtain⟨o',fV,h1,h2⟩:=r.ok j _ rE
     exact⟨o',fV,by rw[bh (D3 h1 (.inr ⟨_,_,rfl⟩))];exact h1,h2.up u⟩
    |exc C S zs=>
     obtain⟨fV,h1,h2⟩:=r.ok j _ rE
     exact⟨fV,h1.up u.fz,h2.up u⟩
    |ro zs=>
     obtain⟨fV,h1,h2⟩:=r.ok j _ rE
     refine⟨fV,?_,h2.up u⟩
     rcases h1 with⟨o,h1⟩|h1
     ·exact .inl ⟨o,by rw[bh (D3 h1 (.inr ⟨_,_,rfl⟩))];exact h1⟩
     ·exact .inr h1
theorem Nx.put(r:RS K ρ c H){n:Nat}{xs:List Qm.D}(hn:c[n]? =some (.lst xs)){ds:List Qm.D}{vs:List V}(a:RA K ρ c.length H ds vs):Nx K ρ c H ρ (c.set n (.lst ds)) (upd H (ρ n) (.lst vs)):=
 Nx.OS r hn rfl fun _ _ u h=>⟨vs,h,a.up u⟩
theorem RS.lst(r:RS K ρ c H){n:Nat}{ds:List Qm.D}(h:c[n]? =some (.lst ds)):∃vs,H (ρ n)=some (.lst vs)∧RA K ρ c.length H ds vs:=r.ok n _ h
theorem RS.seq(r:RS K ρ c H){d:Qm.D}{ds:List Qm.D}{v:V}(h:RD K ρ c.length H d v)(e:Qm.ck d c=some ds):∃p vs,v= .ref p∧(cb K H p vs∨H p=some (.tup vs))∧RA K ρ c.length H ds vs:=by
 unfold Qm.ck at e
 split at e
 ·cases e
  obtain⟨p,xs,rfl,h1,h2⟩:=h.nO
  exact⟨p,xs,rfl,.inr h1,h2⟩
 ·rename_i n
  obtain⟨rfl,hn⟩:=h.ph
  split at e
  ·rename_i xs hx
   cases e
   obtain⟨vs,h1,h2⟩:=r.lst hx
   exact⟨_,vs,rfl,.inl (cb.of h1),h2⟩
  ·rename_i xs hx
   cases e
   obtain⟨vs,h1,h2⟩:=r.ok n _ hx
   exact⟨_,vs,rfl,.inl h1.seq,h2⟩
  ·cases e
 ·cases e
theorem wm{d:Qm.D}{c:Qm.Cells}{ds:List Qm.D}(e:Qm.ck d c=some ds):d= .tup ds∨∃n,d= .ref n:=by
 unfold Qm.ck at e
 split at e
 ·cases e;exact .inl rfl
 ·exact .inr ⟨_,rfl⟩
 ·cases e
theorem RS.D4(r:RS K ρ c H){n:Nat}{ds:List Qm.D}{v:V}(h:RD K ρ c.length H (.ref n) v)(e:Qm.ck (.ref n) c=some ds):∃vs,v= .ref (ρ n)∧cb K H (ρ n) vs∧RA K ρ c.length H ds vs:=by
 obtain⟨rfl,hn⟩:=h.ph
 unfold Qm.ck at e
 dsimp only at e
 split at e
 ·rename_i xs hx
  cases e
  obtain⟨vs,h1,h2⟩:=r.lst hx
  exact⟨vs,rfl,cb.of h1,h2⟩
 ·rename_i xs hx
  cases e
  obtain⟨vs,h1,h2⟩:=r.ok n _ hx
  exact⟨vs,rfl,h1.seq,h2⟩
 ·cases e
theorem RS.bg(r:RS K ρ c H){d:Qm.D}{n:Nat}{ds:List Qm.D}{v:V}(h:RD K ρ c.length H d v)(e:Qm.bg d c=some (n,ds)):d= .ref n∧c[n]? =some (.lst ds)∧∃vs,v= .ref (ρ n)∧H (ρ n)=some (.lst vs)∧RA K ρ c.length H ds vs:=by
 unfold Qm.bg at e
 split at e
 ·obtain⟨rfl,hn⟩:=h.ph
  split at e
  ·rename_i xs hx
   cases e
   obtain⟨vs,h1,h2⟩:=r.lst hx
   exact⟨rfl,hx,vs,rfl,h1,h2⟩
  ·cases e
 ·cases e
end
def TQ(K:PySem.W.Frag)(f:Qm.XE):TE:=fun σ H Q=>∃ρ env c d c',RS K ρ c H∧RE K ρ c.length H env σ∧f env c=some (d,c')∧∀aV v H',Nx K ρ c H aV c' H'→RD K aV c'.length H' d v→Q v H'
def AQ(K:PySem.W.Frag)(f:Qm.XA):TA:=fun σ H Q=>∃ρ env c ds c',RS K ρ c H∧RE K ρ c.length H env σ∧f env c=some (ds,c')∧∀aV vs H',Nx K ρ c H aV c' H'→RA K aV c'.length H' ds vs→Q vs H'
def BQ(K:PySem.W.Frag)(f:Qm.XT):TT:=fun σ H Q=>∃ρ env c b c',RS K ρ c H∧RE K ρ c.length H env σ∧f env c=some (b,c')∧∀aV H',Nx K ρ c H aV c' H'→Q b H'
def OQ(K:PySem.W.Frag)(f:Qm.XO):TO:=fun σ H Q=>∃ρ env c o c',RS K ρ c H∧RE K ρ c.length H env σ∧f env c=some (o,c')∧∀aV H',Nx K ρ c H aV c' H'→Q o H'
def OT(K:PySem.W.Frag)(ρ:Nat→Addr)(c:Qm.Cells)(H:Hp)(env:Qm.Env)(D:Ends):Qm.Fl→Prop
 |.nx=>∀σ,RE K ρ c.length H env σ→D.nx σ H
 |.bk=>∀σ,RE K ρ c.length H env σ→D.bk σ H
 |.ct=>∀σ,RE K ρ c.length H env σ→D.ct σ H
 |.rt d=>∀v,RD K ρ c.length H d v→D.rt v H
def SQ(K:PySem.W.Frag)(f:Qm.XS):TS:=fun D σ H=>∃ρ env c fl cA c',RS K ρ c H∧RE K ρ c.length H env σ∧f env c=some (fl,cA,c')∧∀aV H',Nx K ρ c H aV c' H'→OT K aV c' H' cA D fl
def GQ(K:PySem.W.Frag)(g:Qm.XG):TG:=fun v σ H Q=>∃ρ env c d cA c',RS K ρ c H∧RE K ρ c.length H env σ∧RD K ρ c.length H d v∧g d env c=some (cA,c')∧∀aV H' σ',Nx K ρ c H aV c' H'→RE K aV c'.length H' cA σ'→Q σ' H'
def UU(K:PySem.W.Frag)(g:Qm.uR):vW:=fun vs σ H Q=>∃ρ env c ds cA c',RS K ρ c H∧RE K ρ c.length H env σ∧RA K ρ c.length H ds vs∧g ds env c=some (cA,c')∧∀aV H' σ',Nx K ρ c H aV c' H'→RE K aV c'.length H' cA σ'→Q σ' H'
def Jj(K:PySem.W.Frag)(zR:Nat→Addr)(N0:Nat)(H0:Hp)(m:Qm.Itm)(J:It):Prop:=∀ρ c H,Up K zR N0 H0 ρ c.length H→RS K ρ c H→Qm.stays m.ks c→
 (∀i,i<m.ds.length→J.go i H)∧J.stop m.ds.length H∧∀i d x H',m.ds[i]? =some d→J.BK i H x H'→Nx K ρ c H ρ c H'∧RD K ρ c.length H' d x
def IQ(K:PySem.W.Frag)(f:Qm.XI):TI:=fun σ H R=>∃ρ env c m c',RS K ρ c H∧RE K ρ c.length H env σ∧f env c=some (m,c')∧∀aV J H',Nx K ρ c H aV c' H'→Jj K aV c'.length H' m J→R J H'
abbrev QE(X:Cx)(e:Expr)(f:Qm.XE):Prop:=PE X e (TQ X.K f)
abbrev QA(X:Cx)(es:List Expr)(f:Qm.XA):Prop:=PA X es (AQ X.K f)
abbrev QT(X:Cx)(e:Expr)(f:Qm.XT):Prop:=PT X e (BQ X.K f)
abbrev QW(X:Cx)(e:Expr)(f:Qm.XT):Prop:=PW X e (BQ X.K f)
abbrev QO(X:Cx)(e:Option Expr)(f:Qm.XO):Prop:=PO X e (OQ X.K f)
abbrev QS(X:Cx)(e:Stmt)(f:Qm.XS):Prop:=PS X e (SQ X.K f)
abbrev uS(X:Cx)(e:List Stmt)(f:Qm.XS):Prop:=mm X e (SQ X.K f)
abbrev QG(X:Cx)(e:Expr)(f:Qm.XG):Prop:=PG X e (GQ X.K f)
abbrev Hc(X:Cx)(e:List Expr)(f:Qm.uR):Prop:=xC X e (UU X.K f)
abbrev QI(X:Cx)(tg e:Expr)(f:Qm.XI):Prop:=PI X tg e (IQ X.K f)
abbrev D5(X:Cx)(e:List Expr)(f:Qm.XT):Prop:=rf X e (BQ X.K f)
section
variable{X:Cx}
theorem PE.imp{e:Expr}{t t':TE}(h:PE X e t)(k:∀σ H Q,t' σ H Q→t σ H Q):PE X e t':=fun pins s σ H Q I q=>h pins s σ H Q I (k σ H Q q)
theorem PT.imp{e:Expr}{t t':TT}(h:PT X e t)(k:∀σ H Q,t' σ H Q→t σ H Q):PT X e t':=fun pins s σ H Q I q=>h pins s σ H Q I (k σ H Q q)
theorem PW.imp{e:Expr}{t t':TT}(h:PW X e t)(k:∀σ H Q,t' σ H Q→t σ H Q):PW X e t':=fun wh pins s σ H Q I q=>h wh pins s σ H Q I (k σ H Q q)
theorem PA.imp{e:List Expr}{t t':TA}(h:PA X e t)(k:∀σ H Q,t' σ H Q→t σ H Q):PA X e t':=fun pos pins s σ H Q I q=>h pos pins s σ H Q I (k σ H Q q)
theorem PS.imp{e:Stmt}{t t':TS}(h:PS X e t)(k:∀D σ H,t' D σ H→t D σ H):PS X e t':=fun pins s σ H D I q=>h pins s σ H D I (k D σ H q)
theorem mm.imp{e:List Stmt}{t t':TS}(h:mm X e t)(k:∀D σ H,t' D σ H→t D σ H):mm X e t':=fun pins s σ H D I q=>h pins s σ H D I (k D σ H q)
theorem PO.imp{e:Option Expr}{t t':TO}(h:PO X e t)(k:∀σ H Q,t' σ H Q→t σ H Q):PO X e t':=fun pins s σ H Q I q=>h pins s σ H Q I (k σ H Q q)
theorem PG.imp{e:Expr}{t t':TG}(h:PG X e t)(k:∀v σ H Q,t' v σ H Q→t v σ H Q):PG X e t':=fun pins s σ H x v Q I r q=>h pins s σ H x v Q I r (k x σ H Q q)
theorem xC.imp{e:List Expr}{t t':vW}(h:xC X e t)(k:∀v σ H Q,t' v σ H Q→t v σ H Q):xC X e t':=fun pins s σ H x v Q I r q=>h pins s σ H x v Q I r (k x σ H Q q)
theorem PI.imp{tg e:Expr}{t t':TI}(h:PI X tg e t)(k:∀σ H Q,t' σ H Q→t σ H Q):PI X tg e t':=fun pins s σ H R I q=>h pins s σ H R I (k σ H R q)
theorem rf.imp{e:List Expr}{t t':TT}(h:rf X e t)(k:∀σ H Q,t' σ H Q→t σ H Q):rf X e t':=fun pins s σ H Q I q=>h pins s σ H Q I (k σ H Q q)
end
end L2
namespace L2
open PySem PySem.Spec PyProof.Rows
section
variable{X:Cx}{a b e:Expr}{es:List Expr}{fa fb fc fe:Qm.XE}{ft fu:Qm.XT}{pos:Pos}
theorem aj(i:Nat)(h:PE X e (C0 i)):QE X e (Qm.eV i):=h.imp <| by
 rintro σ H Q ⟨ρ,env,c,d,c',rs,re,e,k⟩
 unfold Qm.eV at e
 obtain⟨d',e1,e2⟩:=aE e
 cases e2
 have e3:env[i]? =some (some d):=by
  cases h:env[i]? with
  |none=>rw[h]at e1;cases e1
  |some o=>rw[h]at e1;rw[show o=some d from e1]
 obtain⟨v,h1,h2⟩:=re.at_ i d e3
 exact⟨v,h1,k ρ v H (Nx.refl rs) h2⟩
theorem fB{v:V}(d:Qm.D)(h:PE X e (tC v))(r:∀ρ N H,RD X.K ρ N H d v):QE X e (Qm.eC d):=h.imp <| by
 rintro σ H Q ⟨ρ,env,c,d',c',rs,re,e,k⟩
 unfold Qm.eC at e
 cases e
 exact k ρ v H (Nx.refl rs) (r _ _ _)
theorem ar{i:Int}{j pos}:QE X (.Constant (.int i) j pos) (Qm.eC (.int i)):=fB _ AI fun _ _ _=>.int i
theorem zS{i:Bool}{j pos}:QE X (.Constant (.bool i) j pos) (Qm.eC (.bl i)):=fB _ JT fun _ _ _=>.bl i
theorem dZ{j pos}:QE X (.Constant .none j pos) (Qm.eC .bf):=fB _ Gb fun _ _ _=>.bf
theorem aN{x:Str}{j pos}:QE X (.Constant (.str x) j pos) (Qm.eC (.str x)):=fB _ m8 fun _ _ _=>.str x
def eW(K:PySem.W.Frag)(r:R2)(g:Qm.G2):Prop:=∀ρ c H x y d c' v u Q,RS K ρ c H→RD K ρ c.length H x v→RD K ρ c.length H y u→g x y c=some (d,c')→(∀aV w H',Nx K ρ c H aV c' H'→RD K aV c'.length H' d w→Q w H')→r v u H Q
theorem wo{K:PySem.W.Frag}{r:R2}{g:Qm.G2}(hl:eW K r g){σ:St}{H:Hp}{Q:VK}(h:TQ K (Qm.e2 g fa fb) σ H Q):Df r (TQ K fa) (TQ K fb) σ H Q:=by
 obtain⟨ρ,env,c,d,c',rs,re,e,k⟩:=h
 obtain⟨p,e1,e⟩:=aE e
 obtain⟨q,e2,e3⟩:=aE e
 exact⟨ρ,env,c,p.1,p.2,rs,re,e1,fun aO v H1 n1 r1=>⟨aO,env,p.2,q.1,q.2,n1.rs,re.up n1.up,e2,fun jh u H2 n2 r2=>
  hl jh q.2 H2 p.1 q.1 d c' v u Q n2.rs (r1.up n2.up) r2 e3 fun aV w H' n3 r3=>k aV w H' (n1.trans (n2.trans n3)) r3⟩⟩
theorem aL{op:Operator}{r:R2}{g:Qm.G2}(ho:dr X (binaryOp op) r)(hl:eW X.K r g)(ha:QE X a fa)(hb:QE X b fb):QE X (.BinOp a op b pos) (Qm.e2 g fa fb):=(Ka ho ha hb).imp fun _ _ _ h=>wo hl h
theorem kW{op:CmpOp}{r:R2}{g:Qm.G2}(ho:dr X (compareOp op) r)(hl:eW X.K r g)(ha:QE X a fa)(hb:QE X b fb)(hm:behindInMarks op b=false):QE X (.Compare a [op] [b] pos) (Qm.e2 g fa fb):=(xI ho ha hb hm).imp fun _ _ _ h=>wo hl h
theorem D6{r:R2}{g:Qm.G2}(hr:uK X r)(hl:eW X.K r g)(ha:QE X a fa)(hb:QE X b fb)(hs:o7 b):QE X (.Subscript a b pos) (Qm.e2 g fa fb):=(Kn hr ha hb hs).imp fun _ _ _ h=>wo hl h
theorem gB{d:Qm.D}{i:Int}(h:Qm.qt d=some i):d= .int i:=by
 unfold Qm.qt at h
 split at h
 ·cases h;rfl
 ·cases h
theorem rR{d:Qm.D}{i:Bool}(h:Qm.mD d=some i):d= .bl i:=by
 unfold Qm.mD at h
 split at h
 ·cases h;rfl
 ·cases h
theorem pk{K:PySem.W.Frag}{C:Int→Int→Prop}{g:Int→Int→V}{f:Int→Int→Option Qm.D}(h:∀i j d,f i j=some d→C i j∧∀ρ N H,RD K ρ N H d (g i j)):eW K (rI C g) (Qm.ii f):=by
 intro ρ c H x y d c' v u Q rs rx ry e k
 obtain⟨i,e1,e⟩:=aE e
 obtain⟨j,e2,e⟩:=aE e
 obtain⟨d',e3,e⟩:=aE e
 cases e
 cases gB e1;cases gB e2
 cases rx.fv;cases ry.fv
 obtain⟨hc,hr⟩:=h i j d e3
 exact⟨i,j,rfl,rfl,hc,k ρ _ H (Nx.refl rs) (hr _ _ _)⟩
theorem mE{K:PySem.W.Frag}{g:Int→Int→V}{f:Int→Int→Option Qm.D}(h:∀i j d,f i j=some d→∀ρ N H,RD K ρ N H d (g i j)):eW K (nF g) (Qm.ii f):=by
 intro ρ c H x y d c' v u Q rs rx ry e k
 obtain⟨i,e1,e⟩:=aE e
 obtain⟨j,e2,e⟩:=aE e
 obtain⟨d',e3,e⟩:=aE e
 cases e
 cases gB e1;cases gB e2
 cases rx.fv;cases ry.fv
 exact⟨i,j,rfl,rfl,k ρ _ H (Nx.refl rs) (h i j d e3 _ _ _)⟩
theorem pz{K:PySem.W.Frag}:eW K (nF fun i j=>.int (i - j)) Qm.jc:=mE fun i j d e ρ N H=>by cases e;exact .int _
theorem wq{K:PySem.W.Frag}:eW K (rI IntMulOk fun i j=>.int (i*j)) Qm.vt:=pk fun i j d e=>by
 split at e
 ·rename_i h
  cases e
  refine⟨?_,fun _ _ _=>.int _⟩
  have Yy:(2:Nat) ^ 64=18446744073709551616:=by decide
  rcases h with h|h|h
  ·exact My.KA h.1 h.2 rfl
  ·have:=h.lt
   exact My.GZ (by omega) (by omega)
  ·have:=h.lt
   exact My.G0 (by omega) (by omega)
 ·cases e
theorem eO{K:PySem.W.Frag}:eW K (rI zN fun i j=>.int (i.fdiv j)) Qm.dY:=pk fun i j d e=>by
 split at e
 ·rename_i h
  cases e
  exact⟨OC h.1 h.2 rfl,fun _ _ _=>.int _⟩
 ·cases e
theorem gC{K:PySem.W.Frag}:eW K (rI (fun _ j=>j≠0) fun i j=>.int (i.fmod j)) Qm.eA:=pk fun i j d e=>by
 split at e
 ·rename_i h
  cases e
  exact⟨h,fun _ _ _=>.int _⟩
 ·cases e
theorem A5{K:PySem.W.Frag}:eW K (rI I8 fun i j=>.int (i ^ j.toNat)) Qm.sZ:=pk fun i j d e=>by
 split at e
 ·rename_i h
  cases e
  exact⟨⟨h.1,by omega,by(have:=h.2.2;have:(2:Nat) ^ 64=18446744073709551616:=(by decide);omega)⟩,fun _ _ _=>.int _⟩
 ·cases e
theorem kX{K:PySem.W.Frag}:eW K (nF fun i j=>.bl (decide (i<j))) Qm.j9:=mE fun i j d e ρ N H=>by cases e;exact .bl _
theorem D7{K:PySem.W.Frag}:eW K (nF fun i j=>.bl (decide (i≤j))) Qm.G9:=mE fun i j d e ρ N H=>by cases e;exact .bl _
theorem zT{K:PySem.W.Frag}:eW K (nF fun i j=>.bl (decide (j<i))) Qm.rH:=mE fun i j d e ρ N H=>by cases e;exact .bl _
theorem KN{K:PySem.W.Frag}:eW K (nF fun i j=>.bl (decide (j≤i))) Qm.G_:=mE fun i j d e ρ N H=>by cases e;exact .bl _
theorem du{K:PySem.W.Frag}:eW K (fun x y H Q=>(nF fun i j=>.int (i+j)) x y H Q∨(zw K x y H Q∨DB x y H Q)) Qm.cn:=by
 intro ρ c H x y d c' v u Q rs rx ry e k
 unfold Qm.cn at e
 split at e
 ·cases e
  cases rx.fv;cases ry.fv
  exact .inl ⟨_,_,rfl,rfl,k ρ _ H (Nx.refl rs) (.int _)⟩
 ·rename_i xs ys
  split at e
  ·rename_i h
   cases e
   obtain⟨p,vs,rfl,h1,a1⟩:=rx.nO
   obtain⟨q,us,rfl,h2,a2⟩:=ry.nO
   have l1:=a1.length
   have l2:=a2.length
   refine .inr (.inl ⟨p,q,vs,us,rfl,rfl,dc.of h1,dc.of h2,?_,jf (by omega),fun z=>?_,fun _ l hl=>?_⟩)
   ·intro z;subst z
    have:xs=[]:=List.length_eq_zero_iff.mp (by simpa using l1)
    exact h.1 this
   ·subst z
    have:ys=[]:=List.length_eq_zero_iff.mp (by simpa using l2)
    subst this
    rw[List.append_nil]at k
    exact k ρ _ H (Nx.refl rs) (.tup h1 a1)
   ·have n:=Nx.same rs (g_ (z:=.tup (vs++us)) hl)
    exact k ρ _ _ n (.tup cy ((a1.append a2).up n.up))
  ·cases e
 ·obtain⟨p,e1,e⟩:=aE e
  obtain⟨q,e2,e⟩:=aE e
  split at e
  ·rename_i h
   cases e
   obtain⟨_,hp,vs,rfl,h1,a1⟩:=rs.bg rx e1
   obtain⟨_,hq,us,rfl,h2,a2⟩:=rs.bg ry e2
   have l1:=a1.length
   have l2:=a2.length
   refine .inr (.inr ⟨_,_,vs,us,rfl,rfl,h1,h2,jf (by omega),fun l hl=>?_⟩)
   obtain⟨n,r⟩:=Nx.alloc rs hl (a1.append a2)
   exact k _ _ _ n r
  ·cases e
theorem cH:dr X (binaryOp .Add) (fun x y H Q=>(nF fun i j=>.int (i+j)) x y H Q∨(zw X.K x y H Q∨DB x y H Q)):=Gv.or (Dt.or GP)
theorem kY{α:Type}{xs:List α}{i:Int}:Qm.fA xs i=zy xs i:=rfl
theorem KO{K:PySem.W.Frag}:eW K (Oq K) Qm.aZ:=by
 intro ρ c H x y d c' v u Q rs rx ry e k
 obtain⟨xs,e1,e⟩:=aE e
 obtain⟨i,e2,e⟩:=aE e
 obtain⟨d',e3,e⟩:=aE e
 cases e
 cases gB e2
 cases ry.fv
 obtain⟨p,vs,rfl,h,a⟩:=rs.seq rx e1
 obtain⟨j,hj,hx⟩:=aE (show(Qm.n_ xs.length i).bind (fun j=>xs[j]?)=some d from e3)
 obtain⟨w,hw,oS⟩:=a.get hx
 have OU:zy vs i=some w:=by
  show(zx vs.length i).bind (fun j=>vs[j]?)=some w
  rw[←a.length,show zx xs.length i=some j from hj]
  exact hw
 rcases h with h|h
 ·exact .inl ⟨p,vs,i,w,rfl,rfl,h,OU,k ρ _ H (Nx.refl rs) oS⟩
 ·exact .inr (.inl ⟨p,vs,i,w,rfl,rfl,dc.of h,OU,k ρ _ H (Nx.refl rs) oS⟩)
theorem aJ(ha:QE X a fa)(hb:QE X b fb)(hs:o7 b):QE X (.Subscript a b pos) (Qm.e2 Qm.aZ fa fb):=D6 GJ KO ha hb hs
theorem jJ(ha:QE X a fa):QE X (.UnaryOp .USub a pos) (Qm.e1 Qm.je fa):=(Kb Gw ha).imp <| by
 rintro σ H Q ⟨ρ,env,c,d,c',rs,re,e,k⟩
 obtain⟨p,e1,e⟩:=aE e
 obtain⟨i,e2,e⟩:=aE e
 cases e
 refine⟨ρ,env,c,p.1,p.2,rs,re,e1,fun aO v H1 n1 r1=>?_⟩
 rw[gB e2]at r1
 cases r1.fv
 exact⟨i,rfl,k aO _ H1 n1 (.int _)⟩
theorem rS{op}(h:QE X a fa):QE X (.BoolOp op [a] pos) fa:=Gi h
theorem pA{rest:List Expr}(ha:QE X a fa)(hb:QE X (.BoolOp .And (b::rest) pos) fb):QE X (.BoolOp .And (a::b::rest) pos) (Qm.sX fa fb):=(Gj ha hb).imp <| by
 rintro σ H Q ⟨ρ,env,c,d,c',rs,re,e,k⟩
 obtain⟨p,e1,e⟩:=aE e
 obtain⟨i,e2,e⟩:=aE e
 refine⟨ρ,env,c,p.1,p.2,rs,re,e1,fun aO v H1 n1 r1=>?_⟩
 rw[rR e2]at r1
 cases r1.rJ
 refine⟨i,rfl,?_⟩
 split at e
 ·rename_i hi
  rw[if_pos hi]
  exact⟨aO,env,p.2,d,c',n1.rs,re.up n1.up,e,fun aV w H' n r=>k aV w H' (n1.trans n) r⟩
 ·rename_i hi
  rw[if_neg hi]
  cases e
  exact k aO _ H1 n1 (.bl _)
theorem hJ{c0:Expr}(hc:QT X c0 ft)(ha:QE X a fa)(hb:QE X b fb):QE X (.IfExp c0 a b pos) (Qm.qq ft fa fb):=(BG hc ha hb).imp <| by
 rintro σ H Q ⟨ρ,env,c,d,c',rs,re,e,k⟩
 obtain⟨p,e1,e⟩:=aE e
 refine⟨ρ,env,c,p.1,p.2,rs,re,e1,fun aO H1 n1=>?_⟩
 split at e
 ·rename_i hi
  rw[if_pos hi]
  exact⟨aO,env,p.2,d,c',n1.rs,re.up n1.up,e,fun aV w H' n r=>k aV w H' (n1.trans n) r⟩
 ·rename_i hi
  rw[if_neg hi]
  exact⟨aO,env,p.2,d,c',n1.rs,re.up n1.up,e,fun aV w H' n r=>k aV w H' (n1.trans n) r⟩
theorem B5{K:PySem.W.Frag}{r r':R2}{g g':Qm.G2}(hl:eW K r g)(yZ:eW K r' g'){σ:St}{H:Hp}{Q:VK}(h:TQ K (Qm.pf g g' fa fb fc) σ H Q):AL r r' (TQ K fa) (TQ K fb) (TQ K fc) σ H Q:=by
 obtain⟨ρ,env,c,d,c',rs,re,e,k⟩:=h
 obtain⟨p,e1,e⟩:=aE e
 obtain⟨q,e2,e⟩:=aE e
 obtain⟨z,e3,e⟩:=aE e
 obtain⟨i,e4,e⟩:=aE e
 refine⟨ρ,env,c,p.1,p.2,rs,re,e1,fun aO v H1 n1 r1=>⟨aO,env,p.2,q.1,q.2,n1.rs,re.up n1.up,e2,fun jh u H2 n2 r2=>?_⟩⟩
 refine hl jh q.2 H2 p.1 q.1 z.1 z.2 v u _ n2.rs (r1.up n2.up) r2 e3 fun zU w H3 n3 r3=>?_
 rw[rR e4]at r3
 cases r3.rJ
 refine⟨i,rfl,?_⟩
 split at e
 ·rename_i hi
  rw[if_pos hi]
  obtain⟨s,e5,e⟩:=aE e
  refine⟨zU,env,z.2,s.1,s.2,n3.rs,re.up (n1.trans (n2.trans n3)).up,e5,fun pB w4 H4 n4 r4=>?_⟩
  exact yZ pB s.2 H4 q.1 s.1 d c' u w4 Q n4.rs ((r2.up n3.up).up n4.up) r4 e fun KP w5 H5 n5 r5=>k KP w5 H5 (n1.trans (n2.trans (n3.trans (n4.trans n5)))) r5
 ·rename_i hi
  rw[if_neg hi]
  cases e
  exact k zU _ H3 (n1.trans (n2.trans n3)) (.bl _)
theorem B6{op zo:CmpOp}{r r':R2}{g g':Qm.G2}{c0:Expr}(ho:dr X (compareOp op) r)(hl:eW X.K r g)(sk:dr X (compareOp zo) r')(yZ:eW X.K r' g')(ha:QE X a fa)(hb:QE X b fb)(hc:QE X c0 fc)
  (hm:lastMarks [op,zo] [b,c0]=false:=by with_unfolding_all rfl):QE X (.Compare a [op,zo] [b,c0] pos) (Qm.pf g g' fa fb fc):=(BL ho sk ha hb hc hm).imp fun σ H Q h=>B5 hl yZ h
theorem ao:QA X [] Qm.ak:=AM.imp <| by
 rintro σ H Q ⟨ρ,env,c,ds,c',rs,re,e,k⟩
 cases e
 exact k ρ [] H (Nx.refl rs) .nil
theorem ah{fr:Qm.XA}(ha:QE X e fa)(hr:QA X es fr)(hs:starEach (e::es) X.env=(false,eval e X.env)::starEach es X.env:=by rfl):QA X (e::es) (Qm.ag fa fr):=(xK ha hr hs).imp <| by
 rintro σ H Q ⟨ρ,env,c,ds,c',rs,re,e,k⟩
 obtain⟨p,e1,e⟩:=aE e
 obtain⟨q,e2,e⟩:=aE e
 cases e
 exact⟨ρ,env,c,p.1,p.2,rs,re,e1,fun aO v H1 n1 r1=>⟨aO,env,p.2,q.1,q.2,n1.rs,re.up n1.up,e2,fun jh vs H2 n2 r2=>k jh (v::vs) H2 (n1.trans n2) (.cons (r1.up n2.up) r2)⟩⟩
theorem cC{x1}{f:Qm.XA}(h:QA X es f):QE X (.Tuple es x1 pos) (Qm.cc f):=(Gz h).imp <| by
 rintro σ H Q ⟨ρ,env,c,d,c',rs,re,e,k⟩
 obtain⟨p,e1,e⟩:=aE e
 split at e
 ·rename_i hz
  cases e
  refine⟨ρ,env,c,p.1,p.2,rs,re,e1,fun aO vs H1 n1 r1=>⟨jf (by rw[←r1.length];exact hz),fun l hl=>?_⟩⟩
  have n:=Nx.same n1.rs (g_ (z:=.tup vs) hl)
  exact k aO _ _ (n1.trans n) (.tup cy (r1.up n.up))
 ·cases e
theorem bQ{f:Qm.XA}(h:QA X es f):QE X (.List es pos) (Qm.bC f):=(GA h).imp <| by
 rintro σ H Q ⟨ρ,env,c,d,c',rs,re,e,k⟩
 obtain⟨p,e1,e⟩:=aE e
 split at e
 ·rename_i hz
  cases e
  refine⟨ρ,env,c,p.1,p.2,rs,re,e1,fun aO vs H1 n1 r1=>⟨jf (by rw[←r1.length];exact hz),fun l hl=>?_⟩⟩
  obtain⟨n,r⟩:=Nx.alloc n1.rs hl r1
  exact k _ _ _ (n1.trans n) r
 ·cases e
def dN(K:PySem.W.Frag)(F:Qm.FN):Sp:=fun vs H Q _=>∃ρ c ds d c',RS K ρ c H∧RA K ρ c.length H ds vs∧F ds c=some (d,c')∧∀aV v H',Nx K ρ c H aV c' H'→RD K aV c'.length H' d v→Q v H'
theorem D8{K:PySem.W.Frag}{F:Qm.FN}{f:Qm.XA}{ds:List Qm.D}{oX:List V}{E:XK}(hd:∀ρ N H,RA K ρ N H ds oX){σ:St}{H:Hp}{Q:VK}(h:TQ K (Qm.aw F ds f) σ H Q):Dk (dN K F) oX E (AQ K f) σ H Q:=by
 obtain⟨ρ,env,c,d,c',rs,re,e,k⟩:=h
 obtain⟨p,e1,e⟩:=aE e
 exact⟨ρ,env,c,p.1,p.2,rs,re,e1,fun aO vs H1 n1 r1=>⟨aO,p.2,p.1++ds,d,c',n1.rs,r1.append (hd _ _ _),e,fun aV v H' n r=>k aV v H' (n1.trans n) r⟩⟩
theorem aB{k:Nat}{f:Addr}{fd:FuncData}{ps:List Str}{F:Qm.FN}{oX:List V}{ds:List Value}{x:Str}{p:Pos}{fx:Qm.XA}(qs:List Qm.D)(G:bM X.prog X.w X.K X.mg X.base dj k f fd ps (dN X.K F))(hr:fy k X.A)(hg:Gl X x)(hm:X.mg x=some (.ref f))(hk:PySem.W.keepIn X.K (.ref f)=true)(hb:Binds X.K fd ps ds)(hd:Vals oX ds)(hq:∀ρ N H,RA X.K ρ N H qs oX)
  (ha:QA X (e::es) fx)(nX:(x==("__debug__":Str))=false:=by decide)(he:starEach (e::es) X.env=(false,eval e X.env)::starEach es X.env:=by rfl)(iA:(backTo pos (starEach es X.env)).any (·.1)=false:=by rfl):
  QE X (.Call (.Name x p) (e::es) [] pos) (Qm.aw F qs fx):=(Dl (E:=E0) G hr hg hm hk hb hd Ku ha nX he iA).imp fun _ _ _ h=>D8 hq h
def qv(K:PySem.W.Frag)(r:List V→Hp→VK→Prop)(F:Qm.FN):Prop:=∀ρ c H ds d c' vs Q,RS K ρ c H→RA K ρ c.length H ds vs→F ds c=some (d,c')→(∀aV w H',Nx K ρ c H aV c' H'→RD K aV c'.length H' d w→Q w H')→r vs H Q
theorem D9{K:PySem.W.Frag}{r:List V→Hp→VK→Prop}{F:Qm.FN}(hl:qv K r F){f:Qm.XA}{σ:St}{H:Hp}{Q:VK}(h:TQ K (Qm.eB F f) σ H Q):Kk r (AQ K f) σ H Q:=by
 obtain⟨ρ,env,c,d,c',rs,re,e,k⟩:=h
 obtain⟨p,e1,e⟩:=aE e
 exact⟨ρ,env,c,p.1,p.2,rs,re,e1,fun aO vs H1 n1 r1=>hl aO p.2 H1 p.1 d c' vs Q n1.rs r1 e fun aV v H' n r=>k aV v H' (n1.trans n) r⟩
theorem aS{id:String}{r:List V→Hp→VK→Prop}{F:Qm.FN}{x:Str}{p:Pos}{f:Qm.XA}(hc:gy X (.builtin id) r)(hl:qv X.K r F)(hg:Gl X x)(hm:X.mg x=none)(hv:bootBuiltins x=some (.builtin id))(ha:QA X (e::es) f)(hn:x≠"__name__":=by decide)(nX:(x==("__debug__":Str))=false:=by decide)
  (he:starEach (e::es) X.env=(false,eval e X.env)::starEach es X.env:=by rfl)(iA:(backTo pos (starEach es X.env)).any (·.1)=false:=by rfl):QE X (.Call (.Name x p) (e::es) [] pos) (Qm.eB F f):=(BN hc hg hm hv ha hn nX he iA).imp fun _ _ _ h=>D9 hl h
theorem cR{id:String}{r:List V→Hp→VK→Prop}{F:Qm.FN}{x:Str}{p:Pos}{f:Qm.XA}(hc:gy X (.type id) r)(hl:qv X.K r F)(hg:Gl X x)(hm:X.mg x=none)(hv:bootBuiltins x=some (.type id))(ha:QA X (e::es) f)(hn:x≠"__name__":=by decide)(nX:(x==("__debug__":Str))=false:=by decide)
  (he:starEach (e::es) X.env=(false,eval e X.env)::starEach es X.env:=by rfl)(iA:(backTo pos (starEach es X.env)).any (·.1)=false:=by rfl):QE X (.Call (.Name x p) (e::es) [] pos) (Qm.eB F f):=(zt hc hg hm hv ha hn nX he iA).imp fun _ _ _ h=>D9 hl h
end
end L2
namespace L2
open PySem PySem.Spec PyProof.Rows
section
variable{X:Cx}{a b e:Expr}{es:List Expr}{fa fb fc fe:Qm.XE}{ft fu:Qm.XT}{pos:Pos}
theorem Jk{K:PySem.W.Frag}{t:TE}{f:Qm.XE}(ht:∀σ H Q,TQ K f σ H Q→t σ H Q){σ:St}{H:Hp}{Q:Bool→Hp→Prop}(h:BQ K (Qm.tV f) σ H Q):t σ H fun x H1=>∃k,x= .bl k∧Q k H1:=by
 obtain⟨ρ,env,c,d,c',rs,re,e,k⟩:=h
 obtain⟨p,e1,e⟩:=aE e
 obtain⟨i,e2,e⟩:=aE e
 cases e
 refine ht σ H _ ⟨ρ,env,c,p.1,p.2,rs,re,e1,fun aO v H1 n1 r1=>?_⟩
 rw[rR e2]at r1
 cases r1.rJ
 exact⟨_,rfl,k aO H1 n1⟩
theorem iU(h:QE X e fe)(he:∀whole,isTrue e X.env whole=(do let v ←whole;standAt e.pos;holding [v] (truthy v)):=by intro _;rfl):QT X e (Qm.tV fe):=(Gd h he).imp fun _ _ _ q=>Jk (fun _ _ _ z=>z) q
theorem aK{op:CmpOp}{r:R2}{g:Qm.G2}(ho:dr X (compareOp op) r)(hl:eW X.K r g)(ha:QE X a fa)(hb:QE X b fb)(hm:behindInMarks op b=false):QT X (.Compare a [op] [b] pos) (Qm.tV (Qm.e2 g fa fb)):=(Dj ho ha hb hm).imp fun _ _ _ q=>Jk (fun _ _ _ z=>wo hl z) q
theorem kF(ha:QT X a ft):QW X (.BoolOp .And [a] pos) ft:=C1 ha
theorem kZ(ha:QT X a ft):QW X (.BoolOp .Or [a] pos) ft:=Gf ha
theorem iV{rest:List Expr}(ha:QT X a ft)(hb:QW X (.BoolOp .And (b::rest) pos) fu):QW X (.BoolOp .And (a::b::rest) pos) (Qm.dq ft fu):=(Gg ha hb).imp <| by
 rintro σ H Q ⟨ρ,env,c,d,c',rs,re,e,k⟩
 obtain⟨p,e1,e⟩:=aE e
 refine⟨ρ,env,c,p.1,p.2,rs,re,e1,fun aO H1 n1=>?_⟩
 split at e
 ·rename_i hi
  rw[if_pos hi]
  exact⟨aO,env,p.2,d,c',n1.rs,re.up n1.up,e,fun aV H' n=>k aV H' (n1.trans n)⟩
 ·rename_i hi
  rw[if_neg hi]
  cases e
  exact k aO H1 n1
theorem k_{rest:List Expr}(ha:QT X a ft)(hb:QW X (.BoolOp .Or (b::rest) pos) fu):QW X (.BoolOp .Or (a::b::rest) pos) (Qm.mn ft fu):=(JU ha hb).imp <| by
 rintro σ H Q ⟨ρ,env,c,d,c',rs,re,e,k⟩
 obtain⟨p,e1,e⟩:=aE e
 refine⟨ρ,env,c,p.1,p.2,rs,re,e1,fun aO H1 n1=>?_⟩
 split at e
 ·rename_i hi
  rw[if_pos hi]
  cases e
  exact k aO H1 n1
 ·rename_i hi
  rw[if_neg hi]
  exact⟨aO,env,p.2,d,c',n1.rs,re.up n1.up,e,fun aV H' n=>k aV H' (n1.trans n)⟩
theorem rT(ha:QT X a ft):QT X (.UnaryOp .Not a pos) (Qm.oR ft):=(Gh ha).imp <| by
 rintro σ H Q ⟨ρ,env,c,d,c',rs,re,e,k⟩
 obtain⟨p,e1,e⟩:=aE e
 cases e
 exact⟨ρ,env,c,p.1,p.2,rs,re,e1,fun aO H1 n1=>k aO H1 n1⟩
theorem tu:QO X none Qm.qr:=xP.imp <| by
 rintro σ H Q ⟨ρ,env,c,d,c',rs,re,e,k⟩
 cases e
 exact k ρ H (Nx.refl rs)
theorem tD(h:QE X e fe):QO X (some e) (Qm.j8 fe):=(xQ h).imp <| by
 rintro σ H Q ⟨ρ,env,c,d,c',rs,re,e,k⟩
 obtain⟨p,e1,e⟩:=aE e
 refine⟨ρ,env,c,p.1,p.2,rs,re,e1,fun aO v H1 n1 r1=>?_⟩
 split at e
 ·rename_i i hi
  cases e
  rw[hi]at r1
  cases r1.fv
  exact⟨_,rfl,k aO H1 n1⟩
 ·cases e
theorem qw{K:PySem.W.Frag}{ρ:Nat→Addr}{N:Nat}{H:Hp}{ds:List Qm.D}{vs:List V}(a:RA K ρ N H ds vs)(lo hi:Option Int):RA K ρ N H (Qm.cutD ds lo hi) (mw vs lo hi):=by
 have e:∀n d o,Qm.xY n d o=HT.bY n d o:=fun n d o=>by cases o<;>rfl
 unfold Qm.cutD mw
 rw[e,e,a.length]
 exact(a.drop _).take _
end
section
variable{prog:Program}{w:World}{A:Around}{E:Value→Shared→Prop}{s:Shared}
theorem mF{t sl:Addr}{items:Array Value}{vl vu:Value}{lo hi:Option Int}{Q:Value→Shared→Prop}(ht:IsTup s.heap t items)(hs:s.heap.IsSliceOf sl vl vu .none)(pl:IsPart vl lo)(pu:IsPart vu hi)
  (hw:HT.bY items.size 0 lo=0∧HT.bY items.size items.size hi=items.size)(h:Q (.ref t) s):wpAny (model prog w) A (getItem (.ref t) (.ref sl)) Q E s:=by
 obtain⟨os,zv,GG,Dq⟩:=id hs
 have Kl:s.TypeIs (.ref sl) "slice":=⟨os,zv,GG⟩
 unfold getItem
 try with_reducible refine wpAny_holding ?_
 first|refine wpAny_bind (wpAny_pure ?_)|skip
 refine wpAny_bind (wpAny_sequenceKey ht.typeIs (by decide) ?_)
 refine wpAny_bind (wpAny_callSpecial?_slot (name:=Str.ofString "__getitem__") ht.typeIs PyProof.Rows.slot_tuple_getitem
  (wpAny_call_entry PyProof.Rows.slot_tuple_getitem ht.typeIs entry_tuple_getitem ?_ (args_tuple_getitem _ _)))
 show wpAny _ _ (Builtin.Tuple.tupleItemsOf (.ref t) >>= _) _ _ s
 refine wpAny_bind (tupleItemsOf_ ht ?_)
 refine wpAny_bind (wpAny_typeOf Kl ?_)
 rw[if_pos (by decide)]
 refine wpAny_bind (HT.jH hs pl pu ?_)
 have OV:(((HT.bY items.size 0 lo:Nat):Int)==0&&(1:Int)==1&&(HT.bY items.size items.size hi - HT.bY items.size 0 lo)==items.size)=true:=by
  rw[hw.1,hw.2];simp
 show wpAny _ _ (if (((HT.bY items.size 0 lo:Nat):Int)==0&&(1:Int)==1&&(HT.bY items.size items.size hi - HT.bY items.size 0 lo)==items.size)=true then _ else _) _ _ s
 rw[if_pos OV]
 unfold Builtin.Tuple.tupleIsExact
 refine wpAny_bind (wpAny_bind (wpAny_typeOf ht.typeIs (wpAny_pure ?_)))
 rw[if_pos (by decide)]
 refine wpAny_bind (wpAny_rule ?_)
 exact wpAny_pure ⟨_,rfl,wpAny_pure h⟩
end
section
variable{X:Cx}{a b e:Expr}{es:List Expr}{fa fb fc fe:Qm.XE}{ft fu:Qm.XT}{pos p2:Pos}{lo hi:Option Expr}{fl fh:Qm.XO}
def D_(K:PySem.W.Frag):V→Option Int→Option Int→Hp→VK→Prop:=fun x lo hi H Q=>∃a xs,x= .ref a∧dc K H a xs∧(HT.bY xs.length 0 lo=0∧HT.bY xs.length xs.length hi=xs.length)∧Q (.ref a) H
theorem Ea:uJ X (D_ X.K):=by
 intro pins s σ H x v vl vu lo hi sl Q I rx hs pl pu h
 obtain⟨a,xs,rfl,hx,hw,q⟩:=h
 cases rx
 obtain⟨its,r,ht,hz⟩:=I.tuple hx
 have hlen:its.toArray.size=xs.length:=by rw[List.size_toArray];exact r.length.symm
 refine⟨"tuple",_,PyProof.Rows.slot_tuple_getitem.lookup,ht.typeIs,?_⟩
 exact mF ht hs pl pu (by rw[hlen];exact hw) ⟨.ref a,H,I,rfl,q⟩
def Jl(K:PySem.W.Frag):V→Option Int→Option Int→Hp→VK→Prop:=fun x lo hi H Q=>Ja K x lo hi H Q∨(D_ K x lo hi H Q∨Jd K x lo hi H Q)
theorem Hd:uJ X (Jl X.K):=GH.or (Ea.or Dw)
theorem He{K:PySem.W.Frag}{ρ:Nat→Addr}{c c':Qm.Cells}{H:Hp}{x d:Qm.D}{v:V}{lo hi:Option Int}{Q:VK}(rs:RS K ρ c H)(rx:RD K ρ c.length H x v)(e:Qm.pg x lo hi c=some (d,c'))(k:∀aV w H',Nx K ρ c H aV c' H'→RD K aV c'.length H' d w→Q w H'):Jl K v lo hi H Q:=by
 unfold Qm.pg at e
 split at e
 ·rename_i xs
  cases e
  obtain⟨p,vs,rfl,h1,a1⟩:=rx.nO
  by_cases hw:HT.bY vs.length 0 lo=0∧HT.bY vs.length vs.length hi=vs.length
  ·refine .inr (.inl ⟨p,vs,rfl,dc.of h1,hw,?_⟩)
   have:mw vs lo hi=vs:=by
    unfold mw
    rw[hw.1,hw.2];simp
   have a2:=qw a1 lo hi
   rw[this]at a2
   exact k ρ _ H (Nx.refl rs) (.tup h1 a2)
  ·refine .inl ⟨p,vs,rfl,dc.of h1,hw,fun l hl=>?_⟩
   have n:=Nx.same rs (g_ (z:=.tup (mw vs lo hi)) hl)
   exact k ρ _ _ n (.tup cy ((qw a1 lo hi).up n.up))
 ·rename_i x' wA
  obtain⟨xs,e1,e⟩:=aE e
  cases e
  rcases wm e1 with z|⟨n,z⟩
  ·exact absurd z (wA xs)
  ·subst z
   obtain⟨vs,rfl,h,a⟩:=rs.D4 rx e1
   refine .inr (.inr ⟨_,vs,rfl,h,fun l hl=>?_⟩)
   obtain⟨n,r⟩:=Nx.alloc rs hl (qw a lo hi)
   exact k _ _ _ n r
theorem qx(he:QE X e fe)(hl:QO X lo fl)(hu:QO X hi fh):QE X (.Subscript e (.Slice lo hi none p2) pos) (Qm.B4 Qm.pg fe fl fh):=(vj Hd he hl hu).imp <| by
 rintro σ H Q ⟨ρ,env,c,d,c',rs,re,e,k⟩
 obtain⟨p,e1,e⟩:=aE e
 obtain⟨l,e2,e⟩:=aE e
 obtain⟨h,e3,e⟩:=aE e
 exact⟨ρ,env,c,p.1,p.2,rs,re,e1,fun aO v H1 n1 r1=>⟨aO,env,p.2,l.1,l.2,n1.rs,re.up n1.up,e2,fun jh H2 n2=>⟨jh,env,l.2,h.1,h.2,n2.rs,re.up (n1.trans n2).up,e3,fun zU H3 n3=>
  He n3.rs ((r1.up n2.up).up n3.up) e fun aV w H' n r=>k aV w H' (n1.trans (n2.trans (n3.trans n))) r⟩⟩⟩
def ya(K:PySem.W.Frag)(r:V→List V→Hp→VK→Prop)(g:Qm.D→Qm.FN):Prop:=∀ρ c H x ds d c' v vs Q,RS K ρ c H→RD K ρ c.length H x v→RA K ρ c.length H ds vs→g x ds c=some (d,c')→(∀aV w H',Nx K ρ c H aV c' H'→RD K aV c'.length H' d w→Q w H')→r v vs H Q
theorem OW{K:PySem.W.Frag}{ρ:Nat→Addr}{c:Qm.Cells}{H:Hp}{x:Qm.D}{v:V}{z:Nat×List Qm.D}(rs:RS K ρ c H)(rx:RD K ρ c.length H x v)(e:Qm.bg x c=some z):GL K "list" v H:=by
 obtain⟨_,_,vs,rfl,h,_⟩:=rs.bg rx e
 exact .inl ⟨rfl,_,cb.of h⟩
theorem jK{name:Str}{id:String}{r:V→List V→Hp→VK→Prop}{g:Qm.D→Qm.FN}{o:Expr}{fo:Qm.XE}{f:Qm.XA}{apos bR:Pos}(slot:Slot "list" name id)(v5:typeOf (.builtin id)=pure (.type "method_descriptor"))(hm:Dx X id r)(hl:ya X.K r g)(ho:QE X o fo)(ha:QA X (e::es) f)
  (g9:attributeBase o name X.env (eval o X.env)=eval o X.env:=by rfl)
  (kB:((backTo bR (starEach (e::es) X.env)).all (fun x=>!x.1)&&(backToKw bR (keywordEach [] X.env)).all (fun x=>x.1.isSome)
   &&decide ((e::es).length+([]:List Keyword).length+(if ([]:List Keyword).isEmpty then 0 else 1)<30))=true:=by rfl)
  (eL:(apos.endLine==bR.line)=true:=by rfl)(hs:starEach (e::es) X.env=(false,eval e X.env)::starEach es X.env:=by rfl)(o8:(backTo bR (starEach es X.env)).any (·.1)=false:=by rfl):
  QE X (.Call (.Attribute o name apos) (e::es) [] bR) (Qm.eM g fo f):=(zG PySem.F.plainAttrs_list slot v5 hm ho ha g9 kB eL hs o8).imp <| by
 rintro σ H Q ⟨ρ,env,c,d,c',rs,re,e,k⟩
 obtain⟨p,e1,e⟩:=aE e
 obtain⟨z,e2,e⟩:=aE e
 obtain⟨q,e3,e⟩:=aE e
 exact⟨ρ,env,c,p.1,p.2,rs,re,e1,fun aO v H1 n1 r1=>⟨OW n1.rs r1 e2,aO,env,p.2,q.1,q.2,n1.rs,re.up n1.up,e3,fun jh vs H2 n2 r2=>
  hl jh q.2 H2 p.1 q.1 d c' v vs Q n2.rs (r1.up n2.up) r2 e fun aV w H' n r=>k aV w H' (n1.trans (n2.trans n)) r⟩⟩
theorem KQ{name:Str}{id:String}{r:V→List V→Hp→VK→Prop}{g:Qm.D→Qm.FN}{o:Expr}{fo:Qm.XE}{apos bR:Pos}(slot:Slot "list" name id)(v5:typeOf (.builtin id)=pure (.type "method_descriptor"))(hm:Dx X id r)(hl:ya X.K r g)(ho:QE X o fo)
  (g9:attributeBase o name X.env (eval o X.env)=eval o X.env:=by rfl)(eL:(apos.endLine==bR.line)=true:=by rfl):
  QE X (.Call (.Attribute o name apos) [] [] bR) (Qm.eM g fo Qm.ak):=(GN PySem.F.plainAttrs_list slot v5 hm ho g9 eL).imp <| by
 rintro σ H Q ⟨ρ,env,c,d,c',rs,re,e,k⟩
 obtain⟨p,e1,e⟩:=aE e
 obtain⟨z,e2,e⟩:=aE e
 obtain⟨q,e3,e⟩:=aE e
 cases e3
 exact⟨ρ,env,c,p.1,p.2,rs,re,e1,fun aO v H1 n1 r1=>⟨OW n1.rs r1 e2,hl aO p.2 H1 p.1 [] d c' v [] Q n1.rs r1 .nil e fun aV w H' n r=>k aV w H' (n1.trans n) r⟩⟩
theorem cq{K:PySem.W.Frag}:ya K xT Qm.aW:=by
 intro ρ c H x ds d c' v vs Q rs rx ra e k
 unfold Qm.aW Qm.one at e
 split at e
 ·rename_i y
  obtain⟨l,e1,e⟩:=aE e
  obtain⟨u,rfl,ry⟩:=ra.jg
  split at e
  ·rename_i hz
   cases e
   obtain⟨_,hn,ws,rfl,h,a⟩:=rs.bg rx e1
   have n:=Nx.put rs hn (a.append (RA.one ry))
   exact⟨_,ws,u,rfl,rfl,h,x8 (by rw[←a.length];exact hz),k ρ _ _ n .bf⟩
  ·cases e
 ·cases e
theorem jL{g:Qm.G1}{ds:List Qm.D}{c:Qm.Cells}{z}(h:Qm.one g ds c=some z):∃x,ds=[x]∧g x c=some z:=by
 unfold Qm.one at h
 split at h
 ·exact⟨_,rfl,h⟩
 ·cases h
theorem A6{g:Qm.G2}{ds:List Qm.D}{c:Qm.Cells}{z}(h:Qm.two g ds c=some z):∃x y,ds=[x,y]∧g x y c=some z:=by
 unfold Qm.two at h
 split at h
 ·exact⟨_,_,rfl,h⟩
 ·cases h
theorem rV{K:PySem.W.Frag}:qv K (fun xs H Q=>∃i,xs=[.int i]∧Q (.int (if i<0 then -i else i)) H) Qm.rg:=by
 intro ρ c H ds d c' vs Q rs ra e k
 obtain⟨x,rfl,e⟩:=jL e
 obtain⟨v,rfl,rx⟩:=ra.jg
 obtain⟨i,e1,e⟩:=aE e
 cases e
 cases gB e1
 cases rx.fv
 exact⟨i,rfl,k ρ _ H (Nx.refl rs) (.int _)⟩
theorem gD{K:PySem.W.Frag}:qv K (fun xs H Q=>∃p ys,xs=[.ref p]∧(cb K H p ys∨dc K H p ys)∧Q (.int ys.length) H) Qm.eD:=by
 intro ρ c H ds d c' vs Q rs ra e k
 obtain⟨x,rfl,e⟩:=jL e
 obtain⟨v,rfl,rx⟩:=ra.jg
 obtain⟨xs,e1,e⟩:=aE e
 cases e
 obtain⟨p,ws,rfl,h,a⟩:=rs.seq rx e1
 exact⟨p,ws,rfl,h.imp id dc.of,k ρ _ H (Nx.refl rs) (by rw[a.length];exact .int _)⟩
theorem tE{K:PySem.W.Frag}:qv K (fun xs H Q=>(∃i,xs=[.int i]∧Q (.int i) H)∨∃k,xs=[.bl k]∧Q (.int (if k then 1 else 0)) H) Qm.tf:=by
 intro ρ c H ds d c' vs Q rs ra e k
 obtain⟨x,rfl,e'⟩:=jL e
 obtain⟨v,rfl,rx⟩:=ra.jg
 split at e'
 ·cases e'
  cases rx.fv
  exact .inl ⟨_,rfl,k ρ _ H (Nx.refl rs) (.int _)⟩
 ·cases e'
  cases rx.rJ
  exact .inr ⟨_,rfl,k ρ _ H (Nx.refl rs) (.int _)⟩
 ·cases e'
theorem KR{f:Int→Int→Option Qm.D}{x y d:Qm.D}{c c':Qm.Cells}(h:Qm.ii f x y c=some (d,c')):∃i j,x= .int i∧y= .int j∧f i j=some d∧c'=c:=by
 obtain⟨i,e1,e⟩:=aE h
 obtain⟨j,e2,e⟩:=aE e
 obtain⟨z,e3,e⟩:=aE e
 cases e
 exact⟨i,j,gB e1,gB e2,e3,rfl⟩
theorem Eb{K:PySem.W.Frag}:qv K (fun xs H Q=>∃i j,xs=[.int i,.int j]∧Q (.int (if j<i then j else i)) H) Qm.wk:=by
 intro ρ c H ds d c' vs Q rs ra e k
 obtain⟨x,y,rfl,e⟩:=A6 e
 obtain⟨v,u,rfl,rx,ry⟩:=ra.tp
 obtain⟨i,j,rfl,rfl,e,rfl⟩:=KR e
 cases e
 cases rx.fv;cases ry.fv
 exact⟨i,j,rfl,k ρ _ H (Nx.refl rs) (.int _)⟩
theorem Ec{K:PySem.W.Frag}:qv K (fun xs H Q=>∃p ys,xs=[.ref p]∧(cb K H p ys∨dc K H p ys)∧∀l,H l=none→Q (.ref l) (upd H l (.lst ys))) Qm.qu:=by
 intro ρ c H ds d c' vs Q rs ra e k
 obtain⟨x,rfl,e⟩:=jL e
 obtain⟨v,rfl,rx⟩:=ra.jg
 obtain⟨xs,e1,e⟩:=aE e
 cases e
 obtain⟨p,ws,rfl,h,a⟩:=rs.seq rx e1
 refine⟨p,ws,rfl,h.imp id dc.of,fun l hl=>?_⟩
 obtain⟨n,r⟩:=Nx.alloc rs hl a
 exact k _ _ _ n r
end
end L2
namespace L2
open PySem PySem.Spec PyProof.Rows
section
variable{X:Cx}{a b e tg:Expr}{es:List Expr}{fa fb fc fe:Qm.XE}{ft fu:Qm.XT}{pos:Pos}{st:Stmt}{rest:List Stmt}{fs fr:Qm.XS}{fg:Qm.XG}
theorem aX:uS X [] Qm.bp:=C2.imp <| by
 rintro D σ H ⟨ρ,env,c,fl,cA,c',rs,re,e,k⟩
 cases e
 exact k ρ H (Nx.refl rs) σ re
theorem aq(h1:QS X st fs)(h2:uS X rest fr):uS X (st::rest) (Qm.aA fs fr):=(BH h1 h2).imp <| by
 rintro D σ H ⟨ρ,env,c,fl,cA,c',rs,re,e,k⟩
 obtain⟨p,e1,e⟩:=aE e
 obtain⟨f,e2,c2⟩:=p
 cases f with
 |nx=>exact⟨ρ,env,c,.nx,e2,c2,rs,re,e1,fun aO H1 n1 σ1 rK=>⟨aO,e2,c2,fl,cA,c',n1.rs,rK,e,fun aV H' n=>k aV H' (n1.trans n)⟩⟩
 |rt d=>cases e;exact⟨ρ,env,c,.rt d,cA,c',rs,re,e1,fun aO H1 n1=>k aO H1 n1⟩
 |bk=>cases e;exact⟨ρ,env,c,.bk,cA,c',rs,re,e1,fun aO H1 n1=>k aO H1 n1⟩
 |ct=>cases e;exact⟨ρ,env,c,.ct,cA,c',rs,re,e1,fun aO H1 n1=>k aO H1 n1⟩
theorem ax(h1:QS X st fs):uS X [st] fs:=C3 h1
theorem dv(he:QE X e fe)(hs:swapsWith e none pos.line X.env=pure false:=by rfl):QS X (.Expr e pos) (Qm.bW fe):=(C4 he hs).imp <| by
 rintro D σ H ⟨ρ,env,c,fl,cA,c',rs,re,e,k⟩
 obtain⟨p,e1,e⟩:=aE e
 cases e
 exact⟨ρ,env,c,p.1,p.2,rs,re,e1,fun aO v H1 n1 _=>k aO H1 n1 σ (re.up n1.up)⟩
theorem aR(he:QE X e fe):QS X (.Return (some e) pos) (Qm.bx fe):=(Gk he).imp <| by
 rintro D σ H ⟨ρ,env,c,fl,cA,c',rs,re,e,k⟩
 obtain⟨p,e1,e⟩:=aE e
 cases e
 exact⟨ρ,env,c,p.1,p.2,rs,re,e1,fun aO v H1 n1 r1=>k aO H1 n1 v r1⟩
theorem bL{c0:Expr}{x y:List Stmt}(hc:QT X c0 ft)(ha:uS X x fs)(hb:uS X y fr):QS X (.If c0 x y pos) (Qm.bV ft fs fr):=(JY hc ha hb).imp <| by
 rintro D σ H ⟨ρ,env,c,fl,cA,c',rs,re,e,k⟩
 obtain⟨p,e1,e⟩:=aE e
 refine⟨ρ,env,c,p.1,p.2,rs,re,e1,fun aO H1 n1=>?_⟩
 split at e
 ·rename_i hi
  rw[if_pos hi]
  exact⟨aO,env,p.2,fl,cA,c',n1.rs,re.up n1.up,e,fun aV H' n=>k aV H' (n1.trans n)⟩
 ·rename_i hi
  rw[if_neg hi]
  exact⟨aO,env,p.2,fl,cA,c',n1.rs,re.up n1.up,e,fun aV H' n=>k aV H' (n1.trans n)⟩
theorem aC{i:Nat}{x:Str}{pos':Pos}(hN:X.N.Nodup)(hi:X.N[i]? =some x)(hx:Loc X.env.scope x)(he:QE X e fe)(hs:swapsWith e (some (.Name x pos')) pos.line X.env=pure false:=by rfl)(hf:X.fn x=true∨X.env.scope.names.lookup x=some .local:=by first|exact .inl rfl|exact .inr rfl|assumption):
  QS X (.Assign [.Name x pos'] e pos) (Qm.aF i fe):=(Gq hN hi hx he hs hf).imp <| by
 rintro D σ H ⟨ρ,env,c,fl,cA,c',rs,re,e,k⟩
 obtain⟨p,e1,e⟩:=aE e
 cases e
 exact⟨ρ,env,c,p.1,p.2,rs,re,e1,fun aO v H1 n1 r1=>k aO H1 n1 _ ((re.up n1.up).set r1)⟩
theorem lg(he:QE X e fe)(hg:QG X tg fg)(hs:swapsWithSole [tg] e pos.line X.env=pure false:=by rfl)(hw:swappedStores [tg] e X.env=pure none:=by rfl)
  (h1:(assignEach [tg] X.env).map (·.2)=[assign tg X.env]:=by rfl):QS X (.Assign [tg] e pos) (Qm.jI fe fg):=(Gp he hg hs hw h1).imp <| by
 rintro D σ H ⟨ρ,env,c,fl,cA,c',rs,re,e,k⟩
 obtain⟨p,e1,e⟩:=aE e
 obtain⟨q,e2,e⟩:=aE e
 cases e
 exact⟨ρ,env,c,p.1,p.2,rs,re,e1,fun aO v H1 n1 r1=>⟨aO,env,p.2,p.1,q.1,q.2,n1.rs,re.up n1.up,r1,e2,fun aV H' σ' n KS=>k aV H' (n1.trans n) σ' KS⟩⟩
theorem Ed{i j:Nat}{x y:Str}{f:Qm.XA}{px py pt:Pos}{kt k2 zf}(hc:X.calm=true)(hN:X.N.Nodup)(hi:X.N[i]? =some x)(hj:X.N[j]? =some y)(vX:i≠j)
  (hx:X.env.scope.names.lookup x=some .local)(hy:X.env.scope.names.lookup y=some .local)(ha:QA X [a,b] f)
  (hw:swappedStores [.Tuple [.Name x px,.Name y py] kt pt] (.Tuple [a,b] k2 zf) X.env=pure (some [x,y]))
  (hs:swapsWithSole [.Tuple [.Name x px,.Name y py] kt pt] (.Tuple [a,b] k2 zf) pos.line X.env=pure false:=by rfl):
  QS X (.Assign [.Tuple [.Name x px,.Name y py] kt pt] (.Tuple [a,b] k2 zf) pos) (Qm.A3 [i,j] f):=(Gr hc hN hi hj vX hx hy ha hw hs).imp <| by
 rintro D σ H ⟨ρ,env,c,fl,cA,c',rs,re,e,k⟩
 obtain⟨p,e1,e⟩:=aE e
 split at e
 ·rename_i hl
  cases e
  refine⟨ρ,env,c,p.1,p.2,rs,re,e1,fun aO vs H1 n1 r1=>?_⟩
  obtain⟨ds,c2⟩:=p
  match ds,hl,r1 with
  |[d1,d2],_,r1=>
   obtain⟨v,u,rfl,ra,rb⟩:=r1.tp
   exact⟨v,u,rfl,k aO H1 n1 _ (((re.up n1.up).set ra).set rb)⟩
 ·cases e
theorem bz{i:Nat}{x:Str}(hN:X.N.Nodup)(hi:X.N[i]? =some x)(hx:Loc X.env.scope x)(hf:X.fn x=true∨X.env.scope.names.lookup x=some .local:=by first|exact .inl rfl|exact .inr rfl|assumption):QG X (.Name x pos) (Qm.aD i):=(C6 hN hi hx hf).imp <| by
 rintro v σ H Q ⟨ρ,env,c,d,cA,c',rs,re,rd,e,k⟩
 cases e
 exact k ρ H _ (Nx.refl rs) (re.set rd)
theorem ji:Hc X [] Qm.gh:=C7.imp <| by
 rintro vs σ H Q ⟨ρ,env,c,ds,cA,c',rs,re,ra,e,k⟩
 unfold Qm.gh at e
 split at e
 ·cases e
  exact⟨ra.OR,k ρ H σ (Nx.refl rs) re⟩
 ·cases e
theorem cL{Ee:Qm.uR}(h1:QG X e fg)(h2:Hc X es Ee)(hs:(assignEach (e::es) X.env).map (·.2)=assign e X.env::(assignEach es X.env).map (·.2):=by rfl):Hc X (e::es) (Qm.bP fg Ee):=(BI h1 h2 hs).imp <| by
 rintro vs σ H Q ⟨ρ,env,c,ds,cA,c',rs,re,ra,e,k⟩
 unfold Qm.bP at e
 split at e
 ·rename_i d t
  obtain⟨p,e1,e⟩:=aE e
  cases ra with
  |cons r1 r2=>
   exact⟨_,_,rfl,ρ,env,c,d,p.1,p.2,rs,re,r1,e1,fun aO H1 σ1 n1 rK=>⟨aO,p.1,p.2,t,cA,c',n1.rs,rK,r2.up n1.up,e,fun aV H' σ' n KS=>k aV H' σ' (n1.trans n) KS⟩⟩
 ·cases e
theorem lh{k0:Nat}{Ee:Qm.uR}{n:Nat}(hc:X.calm=true)(h:Hc X es Ee)(hn:(assignEach es X.env).length=n:=by rfl)(mv:(assignEach es X.env).findIdx? (·.1)=none:=by rfl):QG X (.Tuple es k0 pos) (Qm.gj n Ee):=(Gm hc h hn mv).imp <| by
 rintro v σ H Q ⟨ρ,env,c,d,cA,c',rs,re,rd,e,k⟩
 unfold Qm.gj at e
 split at e
 ·rename_i xs
  split at e
  ·rename_i hl
   obtain⟨p,vs,rfl,h1,a1⟩:=rd.nO
   exact⟨p,vs,rfl,dc.of h1,by rw[←a1.length];exact hl,ρ,env,c,xs,cA,c',rs,re,a1,e,k⟩
  ·cases e
 ·cases e
theorem A7{o i:Expr}{fo fi:Qm.XE}(ho:QE X o fo)(hi:QE X i fi)
  (ha:∀v,assign (.Subscript o i pos) X.env v=(do
   let ov ←holding [v] (eval o X.env)
   let iv ←holding [v,ov] (eval i X.env)
   standAt pos
   holding [v,ov,iv] (setItem ov iv v)
   release [v,ov,iv] []):=by intro _;rfl):QG X (.Subscript o i pos) (Qm.s_ fo fi):=(Gn ho hi set_list ha).imp <| by
 rintro v σ H Q ⟨ρ,env,c,d,cA,c',rs,re,rd,e,k⟩
 obtain⟨p,e1,e⟩:=aE e
 obtain⟨q,e2,e⟩:=aE e
 obtain⟨l,e3,e⟩:=aE e
 obtain⟨m,e4,e⟩:=aE e
 obtain⟨j,e5,e⟩:=aE e
 cases e
 refine⟨ρ,env,c,p.1,p.2,rs,re,e1,fun aO v1 H1 n1 r1=>⟨aO,env,p.2,q.1,q.2,n1.rs,re.up n1.up,e2,fun jh v2 H2 n2 r2=>?_⟩⟩
 rw[gB e4]at r2
 cases r2.fv
 obtain⟨_,hn,ws,rfl,h,a⟩:=n2.rs.bg (r1.up n2.up) e3
 have n:=Nx.put n2.rs hn (RA.set (rd.up (n1.trans n2).up) j a)
 refine⟨_,ws,m,j,rfl,rfl,h,by rw[←a.length];exact e5,?_⟩
 exact k jh _ σ (n1.trans (n2.trans n)) (re.up (n1.trans (n2.trans n)).up)
theorem nP{K:PySem.W.Frag}{ρ:Nat→Addr}{c:Qm.Cells}{H:Hp}(rs:RS K ρ c H){n:Nat}{z:Qm.Cell}{c0:Qm.Cells}{xs:List Qm.D}(h0:c0[n]? =some z)(h1:Qm.ck (.ref n) c0=some xs)(h:c[n]? =some z):∃vs,cb K H (ρ n) vs∧RA K ρ c.length H xs vs:=by
 have hn:n<c.length:=(List.getElem?_eq_some_iff.mp h).1
 have e:Qm.ck (.ref n) c=some xs:=by
  unfold Qm.ck at h1 ⊢
  dsimp only at h1 ⊢
  rw[h0]at h1;rw[h];exact h1
 obtain⟨vs,_,h2,h3⟩:=rs.D4 (.ref hn) e
 exact⟨vs,h2,h3⟩
theorem kG(h:QE X e fe):QI X tg e (Qm.gr fe):=(C9 h).imp <| by
 rintro σ H R ⟨ρ,env,c,m,c',rs,re,e,k⟩
 obtain⟨p,e1,e⟩:=aE e
 refine⟨ρ,env,c,p.1,p.2,rs,re,e1,fun aO v H1 n1 r1=>?_⟩
 split at e
 ·rename_i n hx
  obtain⟨z,e2,e⟩:=aE e
  obtain⟨xs,e3,e⟩:=aE e
  cases e
  rw[hx]at r1
  obtain⟨hv,hn⟩:=r1.ph
  subst hv
  obtain⟨vs,h1,a1⟩:=nP n1.rs e2 e3 e2
  refine⟨_,rfl,⟨vs,h1⟩,k aO _ H1 n1 fun jh c2 H2 u2 qy oU=>?_⟩
  obtain⟨ws,h2,a2⟩:=nP qy e2 e3 (oU (n,z) (by simp))
  rw[u2.agree n hn]at h2
  refine⟨fun i hi=>⟨ws,ws[i]'(by rw[←a2.length];exact hi),h2,List.getElem?_eq_getElem _⟩,⟨ws,h2,by rw[a2.length];exact Nat.le_refl _⟩,fun i d x H' hd hy=>?_⟩
  obtain⟨rfl,hy⟩:=hy
  obtain⟨v,hv,rv⟩:=a2.get hd
  have:=hy ws h2
  rw[hv]at this;cases this
  exact⟨Nx.refl qy,rv⟩
 ·cases e
theorem Ef{lo:Int}{n i:Nat}{d:Qm.D}(h:(Qm.fT lo n)[i]? =some d):i<n∧d= .int (lo+i):=by
 unfold Qm.fT at h
 rw[List.getElem?_map]at h
 by_cases hi:i<n
 ·rw[List.getElem?_range hi]at h
  cases h
  exact⟨hi,rfl⟩
 ·rw[List.getElem?_eq_none_iff.mpr (by simpa using Nat.le_of_not_lt hi)]at h
  cases h
theorem A8{K:PySem.W.Frag}{ρ:Nat→Addr}{N:Nat}{H:Hp}{lo:Int}{n:Nat}:Jj K ρ N H ⟨Qm.fT lo n,[]⟩ (C8 lo n):=fun ρ c H u rs _=>by
 have hl:(Qm.fT lo n).length=n:=by simp[Qm.fT]
 refine⟨fun i hi=>by show i<n;rw[←hl];exact hi,by show n≤(Qm.fT lo n).length;omega,fun i d x H' hd hy=>?_⟩
 obtain⟨rfl,rfl⟩:=hy
 obtain⟨_,rfl⟩:=Ef hd
 exact⟨Nx.refl rs,.int _⟩
theorem jj{f:Qm.XA}{p:Pos}(hg:Gl X "range")(hm:X.mg "range" =none)(ha:QA X [a] f)(hs:starEach [a] X.env=[(false,eval a X.env)]:=by rfl):QI X tg (.Call (.Name "range" p) [a] [] pos) (Qm.dX f):=(zh hg hm ha hs).imp <| by
 rintro σ H R ⟨ρ,env,c,m,c',rs,re,e,k⟩
 obtain⟨p,e1,e⟩:=aE e
 refine⟨ρ,env,c,p.1,p.2,rs,re,e1,fun aO vs H1 n1 r1=>?_⟩
 split at e
 ·rename_i j hj
  split at e
  ·rename_i hb
   cases e
   rw[hj]at r1
   obtain⟨v,rfl,rv⟩:=r1.jg
   cases rv.fv
   exact⟨j,rfl,hb.1,hb.2,k aO _ H1 n1 A8⟩
  ·cases e
 ·cases e
theorem zV{f:Qm.XA}{p:Pos}(hg:Gl X "range")(hm:X.mg "range" =none)(ha:QA X [a,b] f)(hs:starEach [a,b] X.env=[(false,eval a X.env),(false,eval b X.env)]:=by rfl)(iI:starEach [b] X.env=[(false,eval b X.env)]:=by rfl):QI X tg (.Call (.Name "range" p) [a,b] [] pos) (Qm.nV f):=(zi hg hm ha hs iI).imp <| by
 rintro σ H R ⟨ρ,env,c,m,c',rs,re,e,k⟩
 obtain⟨p,e1,e⟩:=aE e
 refine⟨ρ,env,c,p.1,p.2,rs,re,e1,fun aO vs H1 n1 r1=>?_⟩
 split at e
 ·rename_i i j hj
  split at e
  ·rename_i hb
   cases e
   rw[hj]at r1
   obtain⟨v,u,rfl,rv,ru⟩:=r1.tp
   cases rv.fv;cases ru.fv
   exact⟨i,j,rfl,⟨hb.1.1,hb.1.2,hb.2.1,hb.2.2⟩,k aO _ H1 n1 A8⟩
  ·cases e
 ·cases e
theorem ie{body:List Stmt}{fi:Qm.XI}(hp:PassesOwn (model X.prog X.w) X.A X.env X.xe)(hc:X.calm=true)(hi:QI X tg e fi)(hg:QG X tg fg)(hb:uS X body fs)
  (hs:∀x,foldedSetIterable e X.env x=pure x:=by intro _;rfl):QS X (.For tg e body [] pos) (Qm.g6 fi fg fs):=(Gu hp hc hi hg hb hs).imp <| by
 rintro D σ H ⟨ρ,env,c,fl,cA,c',rs,re,e,k⟩
 obtain⟨m,e1,e⟩:=aE e
 refine⟨ρ,env,c,m.1,m.2,rs,re,e1,fun zR J H0 n0 it=>?_⟩
 refine⟨fun i q σ' H'=>q=m.1.ds.length - i∧i≤m.1.ds.length∧∃aO eI c1,Nx X.K zR m.2 H0 aO c1 H'∧RE X.K aO c1.length H' eI σ'∧Qm.cj m.1.ks fg fs (m.1.ds.drop i) eI c1=some (fl,cA,c'),⟨_,rfl,Nat.zero_le _,zR,env,m.2,Nx.refl n0.rs,re.up n0.up,e⟩,?_⟩
 rintro i q σ1 H1 ⟨rfl,hi,aO,eI,c1,n1,rK,e1⟩
 by_cases hC:i<m.1.ds.length
 ·rw[List.drop_eq_getElem_cons hC]at e1
  unfold Qm.cj at e1
  split at e1
  ·rename_i mv
   obtain⟨go,_,yl⟩:=it aO c1 H1 n1.up n1.rs mv
   obtain⟨p,e2,e1⟩:=aE e1
   obtain⟨q,e3,e1⟩:=aE e1
   refine .inr ⟨go i hC,fun σ' H'=>i+1≤m.1.ds.length∧∃aO eI c1,Nx X.K zR m.2 H0 aO c1 H'∧RE X.K aO c1.length H' eI σ'∧Qm.cj m.1.ks fg fs (m.1.ds.drop (i+1)) eI c1=some (fl,cA,c'),fun σ' H' h=>⟨m.1.ds.length - (i+1),by omega,rfl,h⟩,fun x H2 hy=>?_⟩
   obtain⟨n2,r2⟩:=yl i _ x H2 (List.getElem?_eq_getElem hC) hy
   refine⟨aO,eI,c1,_,p.1,p.2,n2.rs,rK.up n2.up,r2,e2,fun zU H3 mq n3 B7=>?_⟩
   obtain⟨f,tF,c4⟩:=q
   refine⟨zU,p.1,p.2,f,tF,c4,n3.rs,B7,e3,fun pB H4 n4=>?_⟩
   have nn:=n1.trans (n2.trans (n3.trans n4))
   cases f with
   |nx=>exact fun zW tG=>⟨hC,pB,tF,c4,nn,tG,e1⟩
   |ct=>exact fun zW tG=>⟨hC,pB,tF,c4,nn,tG,e1⟩
   |bk=>cases e1;exact fun zW tG=>k pB H4 (n0.trans nn) zW tG
   |rt d=>cases e1;exact fun v rv=>k pB H4 (n0.trans nn) v rv
  ·cases e1
 ·have KW:i=m.1.ds.length:=by omega
  subst KW
  rw[List.drop_length]at e1
  unfold Qm.cj at e1
  split at e1
  ·rename_i mv
   obtain⟨_,stop,_⟩:=it aO c1 H1 n1.up n1.rs mv
   cases e1
   exact .inl ⟨stop,k aO H1 (n0.trans n1) σ1 rK⟩
  ·cases e1
theorem nj{c0:Expr}{body:List Stmt}(hp:PassesOwn (model X.prog X.w) X.A X.env X.xe)(hc:QT X c0 ft)(hb:uS X body fs):QS X (.While c0 body [] pos) (Qm.dH ft fs):=(BJ hp hc hb).imp <| by
 rintro D σ H ⟨ρ,env,c,fl,cA,c',rs,re,e,k⟩
 obtain⟨n,e⟩:=Qm.tm e
 refine⟨fun q σ' H'=>∃aO eI c1,Nx X.K ρ c H aO c1 H'∧RE X.K aO c1.length H' eI σ'∧Qm.iB ft fs q eI c1=some (fl,cA,c'),⟨n,ρ,env,c,Nx.refl rs,re,e⟩,?_⟩
 rintro q σ1 H1 ⟨aO,eI,c1,n1,rK,e1⟩
 cases q with
 |zero=>simp[Qm.iB]at e1
 |succ q=>
  simp only[Qm.iB]at e1
  obtain⟨p,e2,e1⟩:=aE e1
  refine⟨aO,eI,c1,p.1,p.2,n1.rs,rK,e2,fun jh H2 n2=>?_⟩
  split at e1
  ·rename_i hi
   rw[if_pos hi]
   obtain⟨r,e3,e1⟩:=aE e1
   refine⟨fun σ' H'=>∃aO eI c1,Nx X.K ρ c H aO c1 H'∧RE X.K aO c1.length H' eI σ'∧Qm.iB ft fs q eI c1=some (fl,cA,c'),fun σ' H' h=>⟨q,Nat.lt_succ_self _,h⟩,?_⟩
   obtain⟨f,tF,c4⟩:=r
   refine⟨jh,eI,p.2,f,tF,c4,n2.rs,rK.up n2.up,e3,fun pB H4 n4=>?_⟩
   have nn:=n1.trans (n2.trans n4)
   cases f with
   |nx=>exact fun zW tG=>⟨pB,tF,c4,nn,tG,e1⟩
   |ct=>exact fun zW tG=>⟨pB,tF,c4,nn,tG,e1⟩
   |bk=>cases e1;exact fun zW tG=>k pB H4 nn zW tG
   |rt d=>cases e1;exact fun v rv=>k pB H4 nn v rv
  ·rename_i hi
   rw[if_neg hi]
   cases e1
   exact k jh H2 (n1.trans n2) σ1 (rK.up n2.up)
theorem lj:D5 X [] Qm.iQ:=BZ.imp <| by
 rintro σ H Q ⟨ρ,env,c,b,c',rs,re,e,k⟩
 cases e
 exact k ρ H (Nx.refl rs)
theorem B8{c0:Expr}(h:QT X c0 ft):D5 X [c0] ft:=DT h
theorem RE.rG{K:PySem.W.Frag}{ρ:Nat→Addr}{N:Nat}{H:Hp}{env:Qm.Env}{σ:St}(re:RE K ρ N H env σ)(cap:List (Option Nat)):RE K ρ N H (Qm.sY env cap) (rG σ cap):=by
 refine⟨by simp[Qm.sY,L2.rG],fun j d h=>?_⟩
 unfold Qm.sY at h
 unfold L2.rG
 rw[List.getElem?_map]at h ⊢
 cases e:cap[j]? with
 |none=>rw[e]at h;cases h
 |some o=>
  rw[e]at h
  cases o with
  |none=>simp at h
  |some i=>
   simp only[Option.map_some,Option.some.injEq]at h
   cases e2:env[i]? with
   |none=>rw[e2]at h;cases h
   |some w=>
    rw[e2]at h
    have h':w=some d:=h
    subst h'
    obtain⟨v,h1,h2⟩:=re.at_ i d e2
    refine⟨v,?_,h2⟩
    simp[h1]
theorem Eg{K:PySem.W.Frag}{fi:Qm.XI}{cap:List (Option Nat)}{σ:St}{H:Hp}{Q:VK}(h:TQ K (Qm.fU fi cap fg ft fe) σ H Q):DS (IQ K fi) cap (GQ K fg) (BQ K ft) (TQ K fe) σ H Q:=by
 obtain⟨ρ,env,c,d,c',rs,re,e,k⟩:=h
 obtain⟨m,e1,e⟩:=aE e
 obtain⟨cz,e2,e⟩:=aE e
 cases e
 refine⟨ρ,env,c,m.1,m.2,rs,re,e1,fun zR J H0 n0 it l hl=>?_⟩
 obtain⟨na,ra⟩:=Nx.alloc n0.rs hl (ds:=[]) (vs:=[]) .nil
 generalize UW:(fun n=>if n=m.2.length then l else zR n)=Eh at na ra
 have hL:Eh m.2.length=l:=by rw[←UW];simp
 have hlen:(m.2++[Qm.Cell.lst []]).length=m.2.length+1:=by simp
 have fin:∀{aO:Nat→Addr}{c1:Qm.Cells}{H1:Hp},Nx K Eh (m.2++[.lst []]) (upd H0 l (.lst [])) aO c1 H1→aO m.2.length=l:=fun n=>by rw[n.up.agree _ (by rw[hlen];omega),hL]
 refine⟨fun i q τ H'=>q=m.1.ds.length - i∧i≤m.1.ds.length∧∃aO eI c1,Nx K Eh (m.2++[.lst []]) (upd H0 l (.lst [])) aO c1 H'∧RE K aO c1.length H' eI τ∧Qm.eU m.2.length m.1.ks fg ft fe (m.1.ds.drop i) eI c1=some c',
  ⟨_,rfl,Nat.zero_le _,Eh,_,_,Nx.refl na.rs,((re.up n0.up).up na.up).rG cap,e2⟩,?_⟩
 rintro i q τ H1 ⟨rfl,hi,aO,eI,c1,n1,rK,e1⟩
 have OX:=it aO c1 H1 (na.up.trans n1.up) n1.rs
 by_cases hC:i<m.1.ds.length
 ·rw[List.drop_eq_getElem_cons hC]at e1
  unfold Qm.eU at e1
  split at e1
  ·rename_i mv
   obtain⟨go,_,yl⟩:=OX mv
   obtain⟨p,e2,e1⟩:=aE e1
   obtain⟨b,e3,e1⟩:=aE e1
   refine .inr ⟨go i hC,fun τ H'=>i+1≤m.1.ds.length∧∃aO eI c1,Nx K Eh (m.2++[.lst []]) (upd H0 l (.lst [])) aO c1 H'∧RE K aO c1.length H' eI τ∧Qm.eU m.2.length m.1.ks fg ft fe (m.1.ds.drop (i+1)) eI c1=some c',fun σ' H' h=>⟨m.1.ds.length - (i+1),by omega,rfl,h⟩,fun x H2 hy=>?_⟩
   obtain⟨n2,r2⟩:=yl i _ x H2 (List.getElem?_eq_getElem hC) hy
   refine⟨aO,eI,c1,_,p.1,p.2,n2.rs,rK.up n2.up,r2,e2,fun zU H3 mq n3 B7=>?_⟩
   refine⟨zU,p.1,p.2,b.1,b.2,n3.rs,B7,e3,fun pB H4 n4=>?_⟩
   have nn:=n1.trans (n2.trans (n3.trans n4))
   split at e1
   ·rename_i hb
    dsimp only
    rw[if_pos hb]
    obtain⟨y,e4,e1⟩:=aE e1
    refine⟨pB,p.1,b.2,y.1,y.2,n4.rs,B7.up n4.up,e4,fun KP yv H5 n5 r5=>?_⟩
    have Ei:=nn.trans n5
    split at e1
    ·rename_i ys pC
     split at e1
     ·rename_i hz
      obtain⟨vs,h5,a5⟩:=Ei.rs.lst pC
      rw[fin Ei]at h5
      have n6:=Nx.put Ei.rs pC (a5.append (RA.one r5))
      rw[fin Ei]at n6
      refine⟨vs,h5,x8 (by rw[←a5.length];exact hz),hC,KP,p.1,_,Ei.trans n6,(B7.up (n4.trans (n5.trans n6)).up),e1⟩
     ·cases e1
    ·cases e1
   ·rename_i hb
    dsimp only
    rw[if_neg hb]
    exact⟨hC,pB,p.1,b.2,nn,B7.up n4.up,e1⟩
  ·cases e1
 ·have KW:i=m.1.ds.length:=by omega
  subst KW
  rw[List.drop_length]at e1
  unfold Qm.eU at e1
  split at e1
  ·rename_i mv
   obtain⟨_,stop,_⟩:=OX mv
   cases e1
   refine .inl ⟨stop,k aO _ H1 (n0.trans (na.trans n1)) ?_⟩
   rw[←fin n1]
   exact .ref (Nat.lt_of_lt_of_le (by rw[hlen];omega) n1.up.len)
  ·cases e1
theorem mG{tg:Expr}{scope:Scope}{N':List Str}{cap:List (Option Nat)}{ifs:List Expr}{fi:Qm.XI}(B:sT X scope N' cap)(hc:X.calm=true)
  (hi:QI X tg b fi)(hg:∀C bO eu fp,QG (X.kT scope C N' bO eu fp) tg fg)(ht:∀C bO eu fp,D5 (X.kT scope C N' bO eu fp) ifs ft)(he:∀C bO eu fp,QE (X.kT scope C N' bO eu fp) e fe)
  (hs:∀x,foldedSetIterable b X.env x=pure x:=by intro _;rfl):
  QE X (.ListComp e [⟨tg,b,ifs,0⟩] scope pos) (Qm.fU fi cap fg ft fe):=(DW B hc hi hg ht he hs).imp fun _ _ _ h=>Eg h
theorem nq{K:PySem.W.Frag}{n:Nat}{N:List Str}{B:Qm.XS}{vs:List V}{H:Hp}{Q:VK}{E:XK}(hn:n≤N.length)(h:dN K (Qm.dE n N.length B) vs H Q E):vs.length=n∧SQ K B { nx:=fun _ H'=>Q .bf H',rt:=Q } (start N vs) H:=by
 obtain⟨ρ,c,ds,d,c',rs,ra,e,k⟩:=h
 unfold Qm.dE at e
 split at e
 ·rename_i hl
  obtain⟨p,e1,e⟩:=aE e
  obtain⟨f,cA,c2⟩:=p
  have hv:vs.length=n:=by rw[←ra.length];exact hl
  refine⟨hv,ρ,_,c,f,cA,c2,rs,⟨?_,fun i d hd=>?_⟩,e1,fun aV H' nx=>?_⟩
  ·simp[start,hl,hv]
  ·have hi:i<ds.length:=by
    by_cases hi:i<ds.length
    ·exact hi
    ·exfalso
     rw[List.getElem?_append_right (by simp;omega)]at hd
     have:=List.mem_of_getElem? hd
     have:=List.eq_of_mem_replicate this
     cases this
   rw[List.getElem?_append_left (by simpa using hi),List.getElem?_map]at hd
   cases e:ds[i]? with
   |none=>rw[e]at hd;cases hd
   |some d'=>
    rw[e]at hd
    cases hd
    obtain⟨v,h1,h2⟩:=ra.get e
    refine⟨v,?_,h2⟩
    unfold start
    rw[List.getElem?_append_left (by have:=ra.length;simp;omega),List.getElem?_map,h1]
    rfl
  ·cases f with
   |nx=>cases e;exact fun σ' _=>k aV .bf H' nx .bf
   |rt d=>cases e;exact fun v rv=>k aV v H' nx rv
   |bk=>cases e
   |ct=>cases e
 ·cases e
end
section
variable{P:Program}{w:World}{K:PySem.W.Frag}{mg:Str→Option Value}{base:Heap}
theorem eJ.fW{x qual:Str}{st:Stmt}{f:Addr}{fd:FuncData}{N ps:List Str}{k n m:Nat}{B:Qm.XS}{FF:Qm.FN}(F:eJ K x qual st f fd)(S:aU N ps (av st))(hn:ps.length=n)(hm:N.length=m)(hN:n≤m)(hF:FF=Qm.dE n m B)
  (kR:∀(bF:Value) (A:Around) (outer:List Env) (s:Shared) (H:Hp) (E:XK),fy k (A.deeper (envOfC qual (av st) s.heap.objs.size f bF))→
   uS (oY dj P w K mg base N qual (av st) f bF A outer s H E).xB (aM st) B):bM P w K mg base dj (k+1) f fd ps (dN K FF):=by
 subst hm hF
 exact F.ok S (fun vs H Q E h=>by rw[(nq hN h).1,hn]) fun bF A outer s H vs Q E hr h=>⟨_,kR bF A outer s H E hr,(nq hN h).2⟩
theorem vn.fW{x qual:Str}{st:Stmt}{f:Addr}{fd:FuncData}{N ps:List Str}{k n m:Nat}{B:Qm.XS}{FF:Qm.FN}(F:vn K x qual st f fd)(S:aU N ps (av st))(hn:ps.length=n)(hm:N.length=m)(hN:n≤m)(hF:FF=Qm.dE n m B)
  (kR:∀(bF:Value) (A:Around) (outer:List Env) (s:Shared) (H:Hp) (E:XK),fy k (A.deeper (envOfC qual (av st) s.heap.objs.size f bF))→
   uS (oY dj P w K mg base N qual (av st) f bF A outer s H E).xB (aM st) B):bM P w K mg base dj (k+1) f fd ps (dN K FF):=by
 subst hm hF
 exact F.ok S (fun vs H Q E h=>by rw[(nq hN h).1,hn]) fun bF A outer s H vs Q E hr h=>⟨_,kR bF A outer s H E hr,(nq hN h).2⟩
theorem Hf{F:Qm.FN}{H:Hp}{a:Addr}{ns:List Int}(hO:xU H)(hS:cb K H a (ns.map V.int)){c':Qm.Cells}(h:F [.ref 0] [.ro (ns.map Qm.D.int)]=some (.bl true,c')):dN K F [.ref a] H (fun v _=>v= .bl true) fun _ _ _=>False:=by
 have zs:∀ms:List Int,RA K (fun _=>a) 1 H (ms.map Qm.D.int) (ms.map V.int):=fun ms=>by
  induction ms with
  |nil=>exact .nil
  |cons m ms ih=>exact .cons (.int m) ih
 refine⟨fun _=>a,[.ro (ns.map Qm.D.int)],[.ref 0],.bl true,c',⟨fun i j z y h1 h2 m1 m2 _=>?_,fun n z hz=>?_⟩,.cons (.ref (by simp)) .nil,h,fun aV v H' n r=>r.rJ⟩
 ·match i,h1 with
  |0,h1=>
   have:z= .ro (ns.map Qm.D.int):=by simpa using h1.symm
   subst this
   cases m1
  |i+1,h1=>simp at h1
 ·match n,hz with
  |0,hz=>
   have:z= .ro (ns.map Qm.D.int):=by simpa using hz.symm
   subst this
   exact⟨ns.map V.int,vw.of hO hS,zs ns⟩
  |n+1,hz=>simp at hz
end
end L2
namespace L2
open PySem PySem.Spec PyProof.Rows
section
variable{prog:Program}{w:World}{A:Around}{E:Value→Shared→Prop}{s:Shared}
theorem iC{it t:Addr}{i:Nat}{vs:Array Value}{x:Value}{Q:Value→Shared→Prop}(a:s.heap.IsTupleIter it t i)(b:s.heap.IsTuple t vs)(g:vs[i]? =some x)
  (k:∀h',h'.IsTupleIter it t (i+1)→Heap.SameBut it s.heap h'→Q x { s with heap:=h' }):wpAny (model prog w) A (Builtin.SmallTypes.nextOf (.ref it)) Q E s:=by
 obtain⟨o1,q1,q2,q3⟩:=id a
 obtain⟨o2,p1,_,m,p3⟩:=b
 unfold Builtin.SmallTypes.nextOf
 refine wpAny_bind (wpAny_callSpecial?_slot (name:=Str.ofString "__next__") a.typeIs F.slot_tuple_iterator_next
  (wpAny_call_entry F.slot_tuple_iterator_next a.typeIs F.entry_tuple_iterator_next ?_ (F.args_tuple_iterator_next_1 _)))
 show wpAny _ _ (field (Value.ref it) 0 >>= _) _ _ _
 refine wpAny_bind (wpAny_field q1 q3 (x:=.ref t) rfl ?_)
 show wpAny _ _ (ite ((Value.ref t==Value.none)=true) _ _) _ _ _
 rw[if_neg (by exact Bool.false_ne_true)]
 show wpAny _ _ (field (Value.ref it) 1 >>= _) _ _ _
 refine wpAny_bind (wpAny_field q1 q3 (x:=.int i 0) rfl ?_)
 show wpAny _ _ (seqItems? (Value.ref t) >>= _) _ _ _
 refine wpAny_bind (wpAny_seqItems p1 p3 ?_)
 simp only[Int.toNat_natCast,g]
 refine wpAny_bind (wpAny_setField q1 q3 (by simp) (wpAny_pure ⟨x,rfl,wpAny_pure (k _ ⟨_,Heap.get?_update_self _ q1 (Obj.isFreed_of_fields (Obj.data_mapFields q3 _)),(Obj.cls_mapFields ..).trans q2,?_⟩ (Heap.SameBut.update ..))⟩))
 rw[Obj.data_mapFields q3];simp[rawInt]
theorem hV{it t:Addr}{i:Nat}{vs:Array Value}{Q:Value→Shared→Prop}(hh:A.handled=none)(a:s.heap.IsTupleIter it t i)(b:s.heap.IsTuple t vs)(g:vs[i]? =none)
  (k:∀h' e,Heap.ExtBut it s.heap h'→(∃o,h'.get? e=some o∧o.cls= .type "StopIteration")→E (.ref e) { s with heap:=h' }):wpAny (model prog w) A (Builtin.SmallTypes.nextOf (.ref it)) Q E s:=by
 obtain⟨o1,q1,q2,q3⟩:=id a
 obtain⟨o2,p1,_,m,p3⟩:=b
 unfold Builtin.SmallTypes.nextOf
 refine wpAny_bind (wpAny_callSpecial?_slot (name:=Str.ofString "__next__") a.typeIs F.slot_tuple_iterator_next
  (wpAny_call_entry F.slot_tuple_iterator_next a.typeIs F.entry_tuple_iterator_next ?_ (F.args_tuple_iterator_next_1 _)))
 show wpAny _ _ (field (Value.ref it) 0 >>= _) _ _ _
 refine wpAny_bind (wpAny_field q1 q3 (x:=.ref t) rfl ?_)
 show wpAny _ _ (ite ((Value.ref t==Value.none)=true) _ _) _ _ _
 rw[if_neg (by exact Bool.false_ne_true)]
 show wpAny _ _ (field (Value.ref it) 1 >>= _) _ _ _
 refine wpAny_bind (wpAny_field q1 q3 (x:=.int i 0) rfl ?_)
 show wpAny _ _ (seqItems? (Value.ref t) >>= _) _ _ _
 refine wpAny_bind (wpAny_seqItems p1 p3 ?_)
 simp only[Int.toNat_natCast,g]
 refine wpAny_bind (wpAny_rule (wpAny_bind (wpAny_setField q1 q3 (by simp) (wpAny_bind (m:=newExc (.type "StopIteration") []) ?_))))
 simp only[newExc,newTuple]
 refine wpAny_bind (wpAny_newObj_type ?_ (by size_fits))
 refine wpAny_bind (m:=firstArgMember _ _) (wpAny_of_eq (a:=.none) (by first|rfl|(simp only[firstArgMember];rfl)) (wpAny_newObj_type ?_ (by size_fits)))
 simp only[raiseNew]
 refine wpAny_bind (wpAny_handled ?_)
 first|rw[show A.in1.handled=none from hh]|rw[hh]
 exact wpAny_bind (wpAny_pure (wpAny_throw (k _ _ (((Heap.SameBut.update ..).extBut.push _).push _) ⟨_,Heap.get?_push_size _ rfl,rfl⟩)))
def g7(h:Heap)(z TI TO:Addr)(f0 f1:Value):Prop:=h.get? z=some { cls:=.type "zip",dict:=none,data:=.fields #[f0,f1,.bool false,.ref TI,.ref TO],slots:=#[] }
def cM(h:Heap)(T:Addr)(a b:Value):Prop:=h.get? T=some { cls:=.type "tuple",data:=.seq #[a,b] }
structure iW(z TI TO i1 i2 t1 t2:Addr):Prop where
 nd: [z,TI,TO,i1,i2].Nodup
 n1:t1∉[z,TI,TO,i1,i2]
 n2:t2∉[z,TI,TO,i1,i2]
def Ej(h:Heap)(f0:Value):Prop:=f0= .none∨∃T o,f0=rawInt (T:Addr)∧h.get? T=some o
theorem iW.ne{z TI TO i1 i2 t1 t2:Addr}(D:iW z TI TO i1 i2 t1 t2):TI≠z∧TO≠z∧i1≠z∧i2≠z∧TI≠TO∧TI≠i1∧TI≠i2∧TO≠i1∧TO≠i2∧i1≠i2:=by
 have h:=D.nd
 simp only[List.nodup_cons,List.mem_cons,List.not_mem_nil,or_false,not_or]at h
 obtain⟨⟨a1,a2,a3,a4⟩,⟨b1,b2,b3⟩,⟨c1,c2⟩,d1,_⟩:=h
 exact⟨fun e=>a1 e.symm,fun e=>a2 e.symm,fun e=>a3 e.symm,fun e=>a4 e.symm,b1,b2,b3,c1,c2,d1⟩
theorem iW.KY{z TI TO i1 i2 t1 t2:Addr}(D:iW z TI TO i1 i2 t1 t2):(t1≠z∧t1≠TO∧t1≠i1∧t1≠i2)∧(t2≠z∧t2≠TO∧t2≠i1∧t2≠i2):=by
 have h1:=D.n1
 have h2:=D.n2
 simp only[List.mem_cons,List.not_mem_nil,or_false,not_or]at h1 h2
 exact⟨⟨h1.1,h1.2.2.1,h1.2.2.2.1,h1.2.2.2.2⟩,h2.1,h2.2.2.1,h2.2.2.2.1,h2.2.2.2.2⟩
theorem qz{T:Addr}{a b x:Value}{k:Nat}{Q:Unit→Shared→Prop}(g:cM s.heap T a b)
  (q:∀h',h'.get? T=some { cls:=.type "tuple",data:=.seq ((#[a,b]:Array Value).setIfInBounds k x) }→Heap.SameBut T s.heap h'→Q () { s with heap:=h' }):
  wpAny (model prog w) A (updateSeq T (·.setIfInBounds k x)) Q E s:=by
 refine wpAny_updateSeq g rfl (q _ ?_ (Heap.SameBut.update ..))
 rw[Heap.get?_update_self _ g rfl]
 simp[Obj.mapSeq]
structure Ek(h h':Heap)(z TI TO i1 i2 t1 t2:Addr)(k:Nat)(T:Addr)(x y:Value):Prop where
 rc:∃f0 b1,g7 h' z TI TO f0 (.bool b1)∧Ej h' f0
 to:∃a b,cM h' TO a b
 j1:h'.IsTupleIter i1 t1 (k+1)
 j2:h'.IsTupleIter i2 t2 (k+1)
 new:h.objs.size≤T
 at_:cM h' T x y
 keep:∀c o,c≠z→c≠TO→c≠i1→c≠i2→h.get? c=some o→h'.get? c=some o
theorem zX{z TI TO i1 i2 t1 t2:Addr}{k:Nat}{xs ys:Array Value}{x y a b f1:Value}{Q:Value→Shared→Prop}(D:iW z TI TO i1 i2 t1 t2)
  (hz:g7 s.heap z TI TO .none f1)(gI:cM s.heap TI (.ref i1) (.ref i2))(gO:cM s.heap TO a b)(h1:s.heap.IsTupleIter i1 t1 k)(h2:s.heap.IsTupleIter i2 t2 k)(l1:s.heap.IsTuple t1 xs)(l2:s.heap.IsTuple t2 ys)(hx:xs[k]? =some x)(hy:ys[k]? =some y)
  (q:∀h' T,Ek s.heap h' z TI TO i1 i2 t1 t2 k T x y→g7 h' z TI TO (rawInt T) (.bool false)→Q (.ref T) { s with heap:=h' }):
  wpAny (model prog w) A (Builtin.«zip.__next__» ⟨[.ref z],[]⟩) (fun fin s'=>∃v,fin= .done (.ret v)∧Q v s') E s:=by
 obtain⟨d1,d2,d3,d4,d5,d6,d7,d8,d9,yb⟩:=D.ne
 obtain⟨⟨m1,m2,m3,m4⟩,n1,n2,n3,n4⟩:=D.KY
 show wpAny _ _ (field (Value.ref z) 2 >>= _) _ _ _
 refine wpAny_bind (wpAny_field hz rfl (x:=Value.bool false) rfl ?_)
 show wpAny _ _ (field (Value.ref z) 3 >>= _) _ _ _
 refine wpAny_bind (wpAny_field hz rfl (x:=Value.ref TI) rfl (wpAny_bind (wpAny_seqItems gI rfl ?_)))
 refine wpAny_bind (m:=Builtin.SmallTypes.ownedTupleIsFree (.ref z)) ?_
 unfold Builtin.SmallTypes.ownedTupleIsFree
 refine wpAny_bind (wpAny_field hz rfl (x:=Value.none) rfl (wpAny_pure ?_))
 simp only[if_true]
 refine wpAny_bind (wpAny_rule (wpAny_bind (wpAny_field hz rfl (x:=Value.ref TO) rfl (wpAny_bind (wpAny_setField_rec hz (by simp) fun e1 z1 s1=>?_)))))
 have Hg:g7 e1 z TI TO .ellipsis f1:=z1
 refine wpAny_bind ?_
 simp only[List.forIn_cons,List.forIn_nil,List.zipIdx_cons,List.zipIdx_nil]
 refine wpAny_bind (wpAny_bind (wpAny_onRaise (show wpAny _ _ (Builtin.SmallTypes.nextOf (Value.ref i1) >>= _) _ _ _ from ?_)))
 refine wpAny_bind (iC (h1.extBut s1.extBut d3) (l1.extBut s1.extBut m1) hx fun e2 j1 s2=>wpAny_pure ?_)
 have El:cM e2 TO a b:=s2.extBut _ _ d8 (s1.extBut _ _ d2 gO)
 refine wpAny_bind (wpAny_seqItems El rfl (wpAny_bind (qz El fun e3 w3 s3=>wpAny_bind (wpAny_letGo (wpAny_pure ?_)))))
 have UX:cM e3 TO x b:=w3
 refine wpAny_bind (wpAny_bind (wpAny_onRaise (show wpAny _ _ (Builtin.SmallTypes.nextOf (Value.ref i2) >>= _) _ _ _ from ?_)))
 refine wpAny_bind (iC (((h2.extBut s1.extBut d4).extBut s2.extBut yb.symm).extBut s3.extBut d9.symm) (((l2.extBut s1.extBut n1).extBut s2.extBut n3).extBut s3.extBut n2) hy fun e4 j2 s4=>wpAny_pure ?_)
 have OY:cM e4 TO x b:=s4.extBut _ _ d9 UX
 refine wpAny_bind (wpAny_seqItems OY rfl (wpAny_bind (qz OY fun e5 w5 s5=>wpAny_bind (wpAny_letGo (wpAny_pure (wpAny_pure ?_))))))
 have OZ:cM e5 TO x y:=w5
 refine wpAny_bind (wpAny_seqItems OZ rfl (wpAny_bind (wpAny_newTuple ?_)))
 have sz:e5.objs.size=s.heap.objs.size:=by rw[s5.1,s4.1,s3.1,s2.1,s1.1]
 have z5:g7 e5 z TI TO .ellipsis f1:=s5.extBut _ _ d2.symm (s4.extBut _ _ d4.symm (s3.extBut _ _ d2.symm (s2.extBut _ _ d3.symm Hg)))
 have k5:∀c o,c≠z→c≠TO→c≠i1→c≠i2→s.heap.get? c=some o→e5.get? c=some o:=fun c o c1 c2 c3 c4 e=>
  s5.extBut _ _ c2 (s4.extBut _ _ c4 (s3.extBut _ _ c2 (s2.extBut _ _ c3 (s1.extBut _ _ c1 e))))
 have J1:e5.IsTupleIter i1 t1 (k+1):=((j1.extBut s3.extBut d8.symm).extBut s4.extBut yb).extBut s5.extBut d8.symm
 have J2:e5.IsTupleIter i2 t2 (k+1):=j2.extBut s5.extBut d9.symm
 have zl:z<e5.objs.size:=Heap.lt_size z5
 refine wpAny_bind (m:=Builtin.SmallTypes.ownedTupleHandOut (.ref z) (.ref e5.objs.size)) ?_
 unfold Builtin.SmallTypes.ownedTupleHandOut
 have z6:g7 (e5.push { cls:=.type "tuple",data:=.seq #[x,y] }) z TI TO .ellipsis f1:=Heap.get?_push_of_some _ z5
 refine wpAny_bind (wpAny_setField_rec z6 (by simp) fun e7 w7 s7=>?_)
 have z7:g7 e7 z TI TO (rawInt e5.objs.size) f1:=w7
 refine wpAny_setField_rec z7 (by simp) fun e8 w8 s8=>?_
 have z8:g7 e8 z TI TO (rawInt e5.objs.size) (.bool false):=w8
 have up:∀c o,c≠z→e5.get? c=some o→e8.get? c=some o:=fun c o c1 e=>s8.extBut _ _ c1 (s7.extBut _ _ c1 (Heap.get?_push_of_some _ e))
 have Jm:cM e8 e5.objs.size x y:=s8.extBut _ _ (Nat.ne_of_gt zl) (s7.extBut _ _ (Nat.ne_of_gt zl) (Heap.get?_push_size _ rfl))
 refine wpAny_pure ⟨_,rfl,q e8 e5.objs.size ⟨⟨_,_,z8,.inr ⟨_,_,rfl,Jm⟩⟩,⟨x,y,up _ _ d2 OZ⟩,J1.at fun o e=>up _ o d3 e,J2.at fun o e=>up _ o d4 e,by rw[sz];exact Nat.le_refl _,Jm,fun c o c1 c2 c3 c4 e=>up c o c1 (k5 c o c1 c2 c3 c4 e)⟩ z8⟩
theorem B9{z TI TO i1 i2 t1 t2:Addr}{k:Nat}{xs ys:Array Value}{a b f1:Value}{Q:PySem.Fin→Shared→Prop}(hh:A.handled=none)(D:iW z TI TO i1 i2 t1 t2)
  (hz:g7 s.heap z TI TO .none f1)(gI:cM s.heap TI (.ref i1) (.ref i2))(gO:cM s.heap TO a b)(h1:s.heap.IsTupleIter i1 t1 k)(h2:s.heap.IsTupleIter i2 t2 k)(l1:s.heap.IsTuple t1 xs)(l2:s.heap.IsTuple t2 ys)(mH:xs[k]? =none∨ys[k]? =none)
  (q:∀h' e,(∀c o,c≠z→c≠TO→c≠i1→c≠i2→s.heap.get? c=some o→h'.get? c=some o)→(∃o,h'.get? e=some o∧o.cls= .type "StopIteration")→E (.ref e) { s with heap:=h' }):
  wpAny (model prog w) A (Builtin.«zip.__next__» ⟨[.ref z],[]⟩) Q E s:=by
 obtain⟨d1,d2,d3,d4,d5,d6,d7,d8,d9,yb⟩:=D.ne
 obtain⟨⟨m1,m2,m3,m4⟩,n1,n2,n3,n4⟩:=D.KY
 show wpAny _ _ (field (Value.ref z) 2 >>= _) _ _ _
 refine wpAny_bind (wpAny_field hz rfl (x:=Value.bool false) rfl ?_)
 show wpAny _ _ (field (Value.ref z) 3 >>= _) _ _ _
 refine wpAny_bind (wpAny_field hz rfl (x:=Value.ref TI) rfl (wpAny_bind (wpAny_seqItems gI rfl ?_)))
 refine wpAny_bind (m:=Builtin.SmallTypes.ownedTupleIsFree (.ref z)) ?_
 unfold Builtin.SmallTypes.ownedTupleIsFree
 refine wpAny_bind (wpAny_field hz rfl (x:=Value.none) rfl (wpAny_pure ?_))
 simp only[if_true]
 refine wpAny_bind (wpAny_rule (wpAny_bind (wpAny_field hz rfl (x:=Value.ref TO) rfl (wpAny_bind (wpAny_setField_rec hz (by simp) fun e1 z1 s1=>?_)))))
 have Hg:g7 e1 z TI TO .ellipsis f1:=z1
 refine wpAny_bind ?_
 simp only[List.forIn_cons,List.forIn_nil,List.zipIdx_cons,List.zipIdx_nil]
 refine wpAny_bind (wpAny_bind (wpAny_onRaise (show wpAny _ _ (Builtin.SmallTypes.nextOf (Value.ref i1) >>= _) _ _ _ from ?_)))
 have off:∀{h h3:Heap}{e:Addr},g7 h z TI TO .ellipsis f1→(∃o,h.get? e=some o∧o.cls= .type "StopIteration")→Heap.SameBut z h h3→∃o,h3.get? e=some o∧o.cls= .type "StopIteration":=fun {h h3 e} zz he ss=>by
  obtain⟨o,e1,c⟩:=he
  refine⟨o,ss.extBut _ _ (fun q=>?_) e1,c⟩
  subst q
  rw[show h.get? e=_ from zz]at e1
  cases e1
  simp at c
 cases hx:xs[k]? with
 |none=>
  refine wpAny_bind (hV hh (h1.extBut s1.extBut d3) (l1.extBut s1.extBut m1) hx fun e2 e s2 he=>?_)
  have z2:g7 e2 z TI TO .ellipsis f1:=s2 _ _ d3.symm Hg
  exact wpAny_setField_rec z2 (by simp) fun e3 _ s3=>q e3 e (fun c o c1 _ c3 _ x=>s3.extBut _ _ c1 (s2 _ _ c3 (s1.extBut _ _ c1 x))) (off z2 he s3)
 |some x=>
  have hy:ys[k]? =none:=mH.resolve_left (by rw[hx];simp)
  refine wpAny_bind (iC (h1.extBut s1.extBut d3) (l1.extBut s1.extBut m1) hx fun e2 j1 s2=>wpAny_pure ?_)
  have El:cM e2 TO a b:=s2.extBut _ _ d8 (s1.extBut _ _ d2 gO)
  refine wpAny_bind (wpAny_seqItems El rfl (wpAny_bind (qz El fun e3 w3 s3=>wpAny_bind (wpAny_letGo (wpAny_pure ?_)))))
  refine wpAny_bind (wpAny_bind (wpAny_onRaise (show wpAny _ _ (Builtin.SmallTypes.nextOf (Value.ref i2) >>= _) _ _ _ from ?_)))
  refine wpAny_bind (hV hh (((h2.extBut s1.extBut d4).extBut s2.extBut yb.symm).extBut s3.extBut d9.symm) (((l2.extBut s1.extBut n1).extBut s2.extBut n3).extBut s3.extBut n2) hy fun e4 e s4 he=>?_)
  have z4:g7 e4 z TI TO .ellipsis f1:=s4 _ _ d4.symm (s3.extBut _ _ d2.symm (s2.extBut _ _ d3.symm Hg))
  exact wpAny_setField_rec z4 (by simp) fun e5 _ s5=>q e5 e (fun c o c1 c2 c3 c4 x=>s5.extBut _ _ c1 (s4 _ _ c4 (s3.extBut _ _ c2 (s2.extBut _ _ c3 (s1.extBut _ _ c1 x))))) (off z4 he s5)
theorem B_{z TI TO i1 i2 t1 t2 T0:Addr}{ob:Obj}{k:Nat}{xs ys:Array Value}{b1:Bool}{Q:PySem.Fin→Shared→Prop}(hh:A.handled=none)(D:iW z TI TO i1 i2 t1 t2)(hl:s.heap.get? T0=some ob)
  (hz:g7 s.heap z TI TO (rawInt T0) (.bool b1))(gI:cM s.heap TI (.ref i1) (.ref i2))(h1:s.heap.IsTupleIter i1 t1 k)(h2:s.heap.IsTupleIter i2 t2 k)(l1:s.heap.IsTuple t1 xs)(l2:s.heap.IsTuple t2 ys)(mH:xs[k]? =none∨ys[k]? =none)
  (q:∀h' e,(∀c o,c≠z→c≠TO→c≠i1→c≠i2→s.heap.get? c=some o→h'.get? c=some o)→(∃o,h'.get? e=some o∧o.cls= .type "StopIteration")→E (.ref e) { s with heap:=h' }):
  wpAny (model prog w) A (Builtin.«zip.__next__» ⟨[.ref z],[]⟩) Q E s:=by
 obtain⟨d1,d2,d3,d4,d5,d6,d7,d8,d9,yb⟩:=D.ne
 obtain⟨⟨m1,m2,m3,m4⟩,n1,n2,n3,n4⟩:=D.KY
 show wpAny _ _ (field (Value.ref z) 2 >>= _) _ _ _
 refine wpAny_bind (wpAny_field hz rfl (x:=Value.bool false) rfl ?_)
 show wpAny _ _ (field (Value.ref z) 3 >>= _) _ _ _
 refine wpAny_bind (wpAny_field hz rfl (x:=Value.ref TI) rfl (wpAny_bind (wpAny_seqItems gI rfl ?_)))
 refine wpAny_bind (m:=Builtin.SmallTypes.ownedTupleIsFree (.ref z)) ?_
 unfold Builtin.SmallTypes.ownedTupleIsFree
 refine wpAny_bind (wpAny_field hz rfl (x:=rawInt T0) rfl ?_)
 show wpAny _ _ (loadIfAlive ((T0:Int).toNat) >>= _) _ _ _
 rw[show((T0:Int).toNat)=T0 from Int.toNat_natCast _]
 refine wpAny_bind (PySem.W.kdx_alive hl ?_)
 show wpAny _ _ (field (Value.ref z) 1 >>= _) _ _ _
 refine wpAny_bind (wpAny_field hz rfl (x:=Value.bool b1) rfl ?_)
 cases b1 with
 |true=>
  rw[if_neg (by decide)]
  refine wpAny_pure ?_
  have s0:Heap.SameBut z s.heap s.heap:=Heap.SameBut.refl ..
  simp only[Bool.false_eq_true,if_false]
  refine wpAny_bind ?_
  rw[show(#[Value.ref i1,Value.ref i2]:Array Value)=[Value.ref i1,Value.ref i2].toArray from rfl]
  simp only[List.forIn_toArray,List.forIn_cons,List.forIn_nil]
  refine wpAny_bind (wpAny_bind (wpAny_holding ?_))
  show wpAny _ _ (Builtin.SmallTypes.nextOf (Value.ref i1) >>= _) _ _ _
  cases hx:xs[k]? with
  |none=>exact wpAny_bind (hV hh (h1.extBut s0.extBut d3) (l1.extBut s0.extBut m1) hx fun e1 e s1 he=>q e1 e (fun c o c1 c2 c3 c4 z=>s1 _ _ c3 (s0.extBut _ _ c1 z)) he)
  |some x=>
   have hy:ys[k]? =none:=mH.resolve_left (by rw[hx];simp)
   refine wpAny_bind (iC (h1.extBut s0.extBut d3) (l1.extBut s0.extBut m1) hx fun e1 j1 s1=>wpAny_pure (wpAny_pure ?_))
   refine wpAny_bind (wpAny_bind (wpAny_holding ?_))
   show wpAny _ _ (Builtin.SmallTypes.nextOf (Value.ref i2) >>= _) _ _ _
   exact wpAny_bind (hV hh ((h2.extBut s0.extBut d4).extBut s1.extBut yb.symm) ((l2.extBut s0.extBut n1).extBut s1.extBut n3) hy fun e2 e s2 he=>q e2 e (fun c o c1 c2 c3 c4 z=>s2 _ _ c4 (s1.extBut _ _ c3 (s0.extBut _ _ c1 z))) he)
 |false=>
  rw[if_pos (by decide)]
  refine wpAny_bind (wpAny_setField_rec hz (by simp) fun e0 z0 s0=>wpAny_pure ?_)
  simp only[Bool.false_eq_true,if_false]
  refine wpAny_bind ?_
  rw[show(#[Value.ref i1,Value.ref i2]:Array Value)=[Value.ref i1,Value.ref i2].toArray from rfl]
  simp only[List.forIn_toArray,List.forIn_cons,List.forIn_nil]
  refine wpAny_bind (wpAny_bind (wpAny_holding ?_))
  show wpAny _ _ (Builtin.SmallTypes.nextOf (Value.ref i1) >>= _) _ _ _
  cases hx:xs[k]? with
  |none=>exact wpAny_bind (hV hh (h1.extBut s0.extBut d3) (l1.extBut s0.extBut m1) hx fun e1 e s1 he=>q e1 e (fun c o c1 c2 c3 c4 z=>s1 _ _ c3 (s0.extBut _ _ c1 z)) he)
  |some x=>
   have hy:ys[k]? =none:=mH.resolve_left (by rw[hx];simp)
   refine wpAny_bind (iC (h1.extBut s0.extBut d3) (l1.extBut s0.extBut m1) hx fun e1 j1 s1=>wpAny_pure (wpAny_pure ?_))
   refine wpAny_bind (wpAny_bind (wpAny_holding ?_))
   show wpAny _ _ (Builtin.SmallTypes.nextOf (Value.ref i2) >>= _) _ _ _
   exact wpAny_bind (hV hh ((h2.extBut s0.extBut d4).extBut s1.extBut yb.symm) ((l2.extBut s0.extBut n1).extBut s1.extBut n3) hy fun e2 e s2 he=>q e2 e (fun c o c1 c2 c3 c4 z=>s2 _ _ c4 (s1.extBut _ _ c3 (s0.extBut _ _ c1 z))) he)
structure tH(h:Heap)(z TI TO i1 i2 t1 t2:Addr)(xs ys:Array Value)(k:Nat):Prop where
 ap:iW z TI TO i1 i2 t1 t2
 rc:∃f0 b1,g7 h z TI TO f0 (.bool b1)∧Ej h f0
 ti:cM h TI (.ref i1) (.ref i2)
 to:∃a b,cM h TO a b
 j1:h.IsTupleIter i1 t1 k
 j2:h.IsTupleIter i2 t2 k
 l1:h.IsTuple t1 xs
 l2:h.IsTuple t2 ys
theorem tH.type{z TI TO i1 i2 t1 t2:Addr}{xs ys:Array Value}{k:Nat}(Z:tH s.heap z TI TO i1 i2 t1 t2 xs ys k):s.TypeIs (.ref z) "zip":=by
 obtain⟨f0,b1,h,_⟩:=Z.rc
 exact⟨_,h,rfl⟩
theorem tH.stop{z TI TO i1 i2 t1 t2:Addr}{xs ys:Array Value}{k:Nat}{Q:Option Value→Shared→Prop}(hh:A.handled=none)(Z:tH s.heap z TI TO i1 i2 t1 t2 xs ys k)(mH:xs[k]? =none∨ys[k]? =none)
  (q:∀h',(∀c o,c≠z→c≠TO→c≠i1→c≠i2→s.heap.get? c=some o→h'.get? c=some o)→Q none { s with heap:=h' }):wpAny (model prog w) A (pyNext (.ref z)) Q E s:=by
 have hT:=Z.type
 obtain⟨D,⟨f0,b1,hz,hf⟩,gI,⟨a,b,gO⟩,j1,j2,l1,l2⟩:=Z
 have go:∀h' e,(∀c o,c≠z→c≠TO→c≠i1→c≠i2→s.heap.get? c=some o→h'.get? c=some o)→(∃o,h'.get? e=some o∧o.cls= .type "StopIteration")→
   wpAny (model prog w) A (do if ←isInstance (.ref e) (.type "StopIteration")then pure none else throw (.ref e)) Q E { s with heap:=h' }:=by
  rintro h' e kk ⟨o,ho,hc⟩
  refine wpAny_bind (wpAny_isInstance (T:="StopIteration") (b:=true) ⟨o,ho,hc⟩ isSubtype_stop ?_)
  exact wpAny_pure (q h' kk)
 unfold pyNext
 refine wpAny_bind (wpAny_attempt (wpAny_callSpecial?_slot (name:=Str.ofString "__next__") hT F.slot_zip_next (wpAny_call_entry F.slot_zip_next hT F.entry_zip_next ?_ (F.args_zip_next_1 _))))
 rcases hf with rfl|⟨T0,o,rfl,ho⟩
 ·exact B9 hh D hz gI gO j1 j2 l1 l2 mH fun h' e kk he=>go h' e kk he
 ·exact B_ hh D ho hz gI j1 j2 l1 l2 mH fun h' e kk he=>go h' e kk he
end
end L2
namespace L2
open PySem PySem.Spec PyProof.Rows
abbrev KZ(t:Addr):Obj:={ cls:=.type "tuple_iterator",data:=.fields #[.ref t,.int 0 0] }
abbrev zA(h:Heap)(t:Addr):Heap:=h.push (KZ t)
abbrev zB(h:Heap)(t u:Addr):Heap:=(zA h t).push (KZ u)
abbrev zC(h:Heap)(t u:Addr):Heap:=(zB h t u).push { cls:=.type "tuple",data:=.seq #[.ref h.objs.size,.ref (zA h t).objs.size] }
abbrev zD(h:Heap)(t u:Addr):Heap:=(zC h t u).push { cls:=.type "tuple",data:=.seq #[.none,.none] }
abbrev zE(h:Heap)(t u:Addr):Heap:=(zD h t u).push { cls:=.type "zip",data:=.fields #[.none,.bool false,.bool false,.ref (zB h t u).objs.size,.ref (zC h t u).objs.size] }
theorem Ca(t u:Addr)(xs ys:Array Value):Meets (Builtin.«zip.__new__» ⟨[.type "zip",.ref t,.ref u],[]⟩) (fun _ R s=>s.heap.IsTuple t xs∧s.heap.IsTuple u ys∧R (.ok (.ret (.ref (zD s.heap t u).objs.size))) { s with heap:=zE s.heap t u }):=
 .of_wp fun prog w A R s h=>by
  obtain⟨hp,g,d,tk,os⟩:=s
  obtain⟨a1,a2,h⟩:=h
  have Yj:=sub_zip
  have b1:Heap.IsTuple (Shared.heap ⟨hp,g,d,tk,os⟩) t xs:=a1
  have b2:Heap.IsTuple (Shared.heap ⟨hp.push (KZ t),g,d,tk,os⟩) u ys:=Heap.IsTuple.push a2 _
  wp_walk using wpAny_pyIter_tuple b1,wpAny_pyIter_tuple b2
  exact⟨_,rfl,h⟩
theorem K0(n t u:Nat)(ht:t<n)(hu:u<n): [n+4,n+2,n+3,n,n+1].Nodup∧t∉[n+4,n+2,n+3,n,n+1]∧u∉[n+4,n+2,n+3,n,n+1]:=by
 refine⟨?_,?_,?_⟩
 ·simp only[List.nodup_cons,List.mem_cons,List.not_mem_nil,or_false,not_or,not_false_eq_true,List.nodup_nil,and_true]
  omega
 ·simp only[List.mem_cons,List.not_mem_nil,or_false,not_or]
  omega
 ·simp only[List.mem_cons,List.not_mem_nil,or_false,not_or]
  omega
section
variable{prog:Program}{w:World}{A:Around}{E:Value→Shared→Prop}{s:Shared}
theorem Cb{t u:Addr}{xs ys:Array Value}{Q:Value→Shared→Prop}(a1:s.heap.IsTuple t xs)(a2:s.heap.IsTuple u ys)
  (q:∀h',tH h' (s.heap.objs.size+4) (s.heap.objs.size+2) (s.heap.objs.size+3) s.heap.objs.size (s.heap.objs.size+1) t u xs ys 0→g7 h' (s.heap.objs.size+4) (s.heap.objs.size+2) (s.heap.objs.size+3) .none (.bool false)→h'.objs.size=s.heap.objs.size+5→(∀c o,s.heap.get? c=some o→h'.get? c=some o)→Q (.ref (s.heap.objs.size+4)) { s with heap:=h' }):
  wpAny (model prog w) A (call (.type "zip") [.ref t,.ref u]) Q E s:=by
 refine callType_new F.called_zip (by decide) (F.typeCall_zip_2 _ _) (F.newCall_zip_2 _ _) (fun obj=>F.args_object_init_3 obj _ _) F.entry_zip_new (Ca t u xs ys) ⟨a1,a2,?_⟩
 have s1:(zA s.heap t).objs.size=s.heap.objs.size+1:=Heap.size_push ..
 have s2:(zB s.heap t u).objs.size=s.heap.objs.size+2:=by rw[Heap.size_push,s1]
 have s3:(zC s.heap t u).objs.size=s.heap.objs.size+3:=by rw[Heap.size_push,s2]
 have s4:(zD s.heap t u).objs.size=s.heap.objs.size+4:=by rw[Heap.size_push,s3]
 have s5:(zE s.heap t u).objs.size=s.heap.objs.size+5:=by rw[Heap.size_push,s4]
 have up:∀c o,s.heap.get? c=some o→(zE s.heap t u).get? c=some o:=fun c o e=>Heap.get?_push_of_some _ (Heap.get?_push_of_some _ (Heap.get?_push_of_some _ (Heap.get?_push_of_some _ (Heap.get?_push_of_some _ e))))
 have g5:(zE s.heap t u).get? (zD s.heap t u).objs.size=some _:=Heap.get?_push_size _ rfl
 have g4:(zE s.heap t u).get? (zC s.heap t u).objs.size=some _:=Heap.get?_push_of_some _ (Heap.get?_push_size _ rfl)
 have g3:(zE s.heap t u).get? (zB s.heap t u).objs.size=some _:=Heap.get?_push_of_some _ (Heap.get?_push_of_some _ (Heap.get?_push_size _ rfl))
 have g2:(zE s.heap t u).get? (zA s.heap t).objs.size=some _:=Heap.get?_push_of_some _ (Heap.get?_push_of_some _ (Heap.get?_push_of_some _ (Heap.get?_push_size _ rfl)))
 have g1:(zE s.heap t u).get? s.heap.objs.size=some _:=Heap.get?_push_of_some _ (Heap.get?_push_of_some _ (Heap.get?_push_of_some _ (Heap.get?_push_of_some _ (Heap.get?_push_size _ rfl))))
 rw[s2,s3,s4]at g5
 rw[s1,s2]at g3
 rw[s3]at g4
 rw[s1]at g2
 have lt:t<s.heap.objs.size:=by obtain⟨o,e,_⟩:=a1;exact Heap.lt_size e
 have lu:u<s.heap.objs.size:=by obtain⟨o,e,_⟩:=a2;exact Heap.lt_size e
 show _∧_
 rw[s4]
 refine⟨⟨_,g5,rfl⟩,q _ ⟨⟨(K0 _ t u lt lu).1,(K0 _ t u lt lu).2.1,(K0 _ t u lt lu).2.2⟩,⟨.none,false,g5,.inl rfl⟩,g3,⟨_,_,g4⟩,⟨_,g1,rfl,rfl⟩,⟨_,g2,rfl,rfl⟩,a1.at fun o e=>up _ o e,a2.at fun o e=>up _ o e⟩ g5 s5 up⟩
theorem tH.at{h h':Heap}{z TI TO i1 i2 t1 t2:Addr}{xs ys:Array Value}{k:Nat}(Z:tH h z TI TO i1 i2 t1 t2 xs ys k)(up:∀c,c∈[z,TI,TO,i1,i2,t1,t2]→∀o,h.get? c=some o→h'.get? c=some o)(al:∀c o,h.get? c=some o→∃o',h'.get? c=some o'):tH h' z TI TO i1 i2 t1 t2 xs ys k:=by
 obtain⟨D,⟨f0,b1,hz,hf⟩,gI,⟨a,b,gO⟩,j1,j2,l1,l2⟩:=Z
 refine⟨D,⟨f0,b1,up _ (by simp) _ hz,?_⟩,up _ (by simp) _ gI,⟨a,b,up _ (by simp) _ gO⟩,j1.at fun o e=>up _ (by simp) o e,j2.at fun o e=>up _ (by simp) o e,l1.at fun o e=>up _ (by simp) o e,l2.at fun o e=>up _ (by simp) o e⟩
 rcases hf with e|⟨T,o,e,g⟩
 ·exact .inl e
 ·obtain⟨o',g'⟩:=al _ _ g
  exact .inr ⟨T,o',e,g'⟩
theorem tH.self{z TI TO i1 i2 t1 t2:Addr}{xs ys:Array Value}{k:Nat}{Q:Value→Shared→Prop}(Z:tH s.heap z TI TO i1 i2 t1 t2 xs ys k)(q:Q (.ref z) s):wpAny (model prog w) A (pyIter (.ref z)) Q E s:=by
 have hT:=Z.type
 refine wpAny_pyIter_slot hT F.slot_zip_iter (wpAny_call_entry F.slot_zip_iter hT F.entry_zip_iter ?_ (F.args_zip_iter_1 _))
 exact wpAny_pure ⟨_,rfl,"zip",_,hT,F.slot_zip_next.lookup,q⟩
end
end L2
namespace L2
open PySem PySem.Spec PyProof.Rows
structure Jn(h:Heap)(b0:Nat)(xs ys:Array Value)(Ts:List Addr)(k:Nat):Prop where
 len:Ts.length=k
 nd:Ts.Nodup
 new:∀T∈Ts,b0≤T∧T<h.objs.size
 at_:∀(i:Nat) (T:Addr),Ts[i]? =some T→∃x y,xs[i]? =some x∧ys[i]? =some y∧cM h T x y
theorem Jn.nil{h:Heap}{b0:Nat}{xs ys:Array Value}:Jn h b0 xs ys [] 0:=⟨rfl,List.nodup_nil,fun _ h=>(nomatch h),fun i T h=>by simp at h⟩
section
variable{prog:Program}{w:World}{A:Around}{s:Shared}{R:Result→Shared→Prop}
end
section
variable{prog:Program}{w:World}{A:Around}{E:Value→Shared→Prop}{s:Shared}
end
end L2
namespace L2
open PySem PySem.Spec PyProof.Rows
section
variable{X:Cx}{pins:List (Addr×Obj)}{σ:St}{H H':Hp}{s:Shared}{h':Heap}
end
section
variable{X:Cx}
end
end L2
namespace L2
open PySem PySem.Spec PyProof.Rows
section
variable{X:Cx}{e1 e2:Expr}{p0 p1 p2 pos:Pos}{f:Qm.XA}
end
end L2
namespace L2
open PySem PySem.Spec PyProof.Rows
end L2
namespace L2
open PySem PySem.Spec PyProof.Rows
section
variable{prog:Program}{w:World}{A:Around}{E:Value→Shared→Prop}{s:Shared}
def Em(h:Heap)(a t:Addr)(i:Int):Prop:=∃o,h.get? a=some o∧o.cls= .type "reversed"∧o.data= .fields #[.ref t,rawInt i]
theorem Em.at{h h':Heap}{a t:Addr}{i:Int}(x:Em h a t i)(e:∀o,h.get? a=some o→h'.get? a=some o):Em h' a t i:=let ⟨o,ho,r⟩:=x;⟨o,e _ ho,r⟩
end
end L2
namespace L2
open PySem PySem.Spec PyProof.Rows
section
variable{prog:Program}{w:World}{A:Around}{E:Value→Shared→Prop}{s:Shared}{I:Addr}{fp wr:List Addr}{G:Array GenState→Array GenState→Prop}{n:Nat}{P:Nat→Value→Prop}{St:Nat→Shared→Prop}
end
end L2
namespace L2
open PySem PySem.Spec PyProof.Rows
section
variable{prog:Program}{w:World}{A:Around}{E:Value→Shared→Prop}{s:Shared}{I:Addr}{fp wr:List Addr}{G:Array GenState→Array GenState→Prop}{P:Nat→Value→Prop}{St:Nat→Shared→Prop}
end
section
variable{X:Cx}
end
end L2
namespace Qm
open PySem
end Qm
namespace L2
open PySem PySem.Spec PyProof.Rows
section
variable{X:Cx}{e1:Expr}{p0 p1 p2 pos:Pos}{f:Qm.XA}
end
end L2
namespace L2
open PySem PySem.Spec PyProof.Rows
mutual
def nb:PyData→Bool
 |.none=>true
 |.int _=>true
 |.str _=>true
 |.tuple ds=>tJ ds
 |.list ds=>tJ ds
 |_=>false
def tJ:List PyData→Bool
 |[]=>true
 |d::ds=>nb d&&tJ ds
end
section
variable{K:PySem.W.Frag}{ρ:Nat→Addr}{c:Qm.Cells}{H:Hp}
theorem pD{k:Nat}(rs:RS K ρ c H)(ih:∀{x:Qm.D}{v:V}{d:PyData},RD K ρ c.length H x v→Qm.data c k x=some d→jd K H v d∧PyData.canLay0 d=true∧d.depth≤k∧nb d=true):
  ∀{xs:List Qm.D}{vs:List V}{ds:List PyData},RA K ρ c.length H xs vs→Qm.omap (Qm.data c k) xs=some ds→n8 K H vs ds∧PyData.canLayAll0 ds=true∧PyData.depthAll ds≤k∧tJ ds=true
 |[],_,ds,a,h=>by
  cases a
  cases h
  exact⟨.nil,rfl,Nat.zero_le _,rfl⟩
 |x::xs,_,ds,a,h=>by
  cases a with
  |cons r a=>
   obtain⟨d,h1,h⟩:=aE h
   obtain⟨es,h2,h⟩:=aE h
   cases h
   obtain⟨a1,a2,a3,a4⟩:=ih r h1
   obtain⟨b1,b2,b3,b4⟩:=pD rs ih a h2
   exact⟨.cons a1 b1,by simp[PyData.canLayAll0,a2,b2],by simp only[PyData.depthAll];omega,by simp[tJ,a4,b4]⟩
theorem ig(rs:RS K ρ c H):∀(k:Nat) {x:Qm.D}{v:V}{d:PyData},RD K ρ c.length H x v→Qm.data c k x=some d→jd K H v d∧PyData.canLay0 d=true∧d.depth≤k∧nb d=true
 |0,_,_,_,_,h=>by simp[Qm.data]at h
 |k+1,x,v,d,r,h=>by
  have A:∀{xs:List Qm.D}{vs:List V}{ds:List PyData},RA K ρ c.length H xs vs→Qm.omap (Qm.data c k) xs=some ds→n8 K H vs ds∧PyData.canLayAll0 ds=true∧PyData.depthAll ds≤k∧tJ ds=true:=fun {xs vs ds}=>pD (k:=k) rs (fun r h=>ig rs k r h)
  cases x with
  |bf=>simp[Qm.data]at h;subst h;cases r.D2;exact⟨.bf,rfl,Nat.zero_le _,rfl⟩
  |int i=>simp[Qm.data]at h;subst h;cases r.fv;exact⟨.int i,rfl,Nat.zero_le _,rfl⟩
  |bl b=>simp[Qm.data]at h
  |str b=>
   simp only[Qm.data]at h
   split at h
   ·rename_i hb
    cases h
    cases r
    exact⟨.str b,hb,Nat.zero_le _,rfl⟩
   ·cases h
  |ty b=>simp[Qm.data]at h
  |adr b=>simp[Qm.data]at h
  |DY t bs=>simp[Qm.data]at h
  |tup xs=>
   simp only[Qm.data]at h
   obtain⟨ds,h1,h⟩:=aE h
   cases h
   obtain⟨p,vs,rfl,g,a⟩:=r.nO
   obtain⟨a1,a2,a3,a4⟩:=A a h1
   exact⟨.tup (dc.of g) a1,by simpa[PyData.canLay0]using a2,by simp only[PyData.depth];omega,by simpa[nb]using a4⟩
  |ref n=>
   simp only[Qm.data]at h
   have hs:∀{xs:List Qm.D},Qm.ck (.ref n) c=some xs→(Qm.omap (Qm.data c k) xs).bind (fun ds=>some (PyData.list ds))=some d→jd K H v d∧PyData.canLay0 d=true∧d.depth≤k+1∧nb d=true:=fun {xs} e h=>by
    obtain⟨ds,h1,h⟩:=aE h
    cases h
    obtain⟨vs,rfl,g,a⟩:=rs.D4 r e
    obtain⟨a1,a2,a3,a4⟩:=A a h1
    exact⟨.lst g a1,by simpa[PyData.canLay0]using a2,by simp only[PyData.depth];omega,by simpa[nb]using a4⟩
   cases e:c[n]? with
   |none=>rw[e]at h;cases h
   |some z=>
    rw[e]at h
    cases z with
    |lst xs=>exact hs (by simp[Qm.ck,e]) h
    |ro xs=>exact hs (by simp[Qm.ck,e]) h
    |kD xs=>cases h
    |uQ xs=>cases h
    |DZ xs=>cases h
    |D0 xs=>cases h
    |vq xs=>cases h
    |exc C S xs=>cases h
    |tab cd q=>cases h
end
mutual
theorem gE:∀(d e:PyData),nb d=true→nb e=true→(PyData.eqv d e=true↔d=e)
 |.none,e,_,he=>by cases e<;>simp_all [PyData.eqv,nb]
 |.int i,e,_,he=>by cases e<;>simp_all [PyData.eqv,nb]
 |.tuple ds,e,hd,he=>by
  cases e<;>simp_all [PyData.eqv,nb]
  exact qA _ _ hd he
 |.list ds,e,hd,he=>by
  cases e<;>simp_all [PyData.eqv,nb]
  exact qA _ _ hd he
 |.bool _,_,h,_=>by simp[nb]at h
 |.str a,e,_,he=>by cases e<;>simp_all [PyData.eqv,nb]
 |.dict _,_,h,_=>by simp[nb]at h
theorem qA:∀(ds es:List PyData),tJ ds=true→tJ es=true→(PyData.eqvAll ds es=true↔ds=es)
 |[],[],_,_=>by simp[PyData.eqvAll]
 |[],_::_,_,_=>by simp[PyData.eqvAll]
 |_::_,[],_,_=>by simp[PyData.eqvAll]
 |d::ds,e::es,hd,he=>by
  simp only[tJ,Bool.and_eq_true]at hd he
  simp only[PyData.eqvAll,Bool.and_eq_true,List.cons.injEq]
  rw[gE d e hd.1 he.1,qA ds es hd.2 he.2]
end
section
variable{X:Cx}
theorem A9{x y:Qm.D}{c:Qm.Cells}{b:Bool}(h:Qm.wj x y c=some b):(∃p q,x= .bl p∧y= .bl q∧b=(p==q))∨∃d e,Qm.data c 6 x=some d∧Qm.data c 6 y=some e∧(b=true↔d=e):=by
 unfold Qm.wj at h
 split at h
 ·cases h;exact .inl ⟨_,_,rfl,rfl,rfl⟩
 ·obtain⟨d,h1,h⟩:=aE h
  obtain⟨e,h2,h⟩:=aE h
  cases h
  exact .inr ⟨d,e,h1,h2,by simp⟩
theorem yc{K:PySem.W.Frag}{ρ:Nat→Addr}{c:Qm.Cells}{H:Hp}{x y:Qm.D}{v u:V}{d e:PyData}{b:Bool}(rs:RS K ρ c H)(rx:RD K ρ c.length H x v)(ry:RD K ρ c.length H y u)(h1:Qm.data c 6 x=some d)(h2:Qm.data c 6 y=some e)(hb:b=true↔d=e):
  jd K H v d∧jd K H u e∧SeqAt.shaped d=true∧SeqAt.shaped e=true∧PyData.eqv d e=b:=by
 obtain⟨a1,a2,a3,a4⟩:=ig rs 6 rx h1
 obtain⟨b1,b2,b3,b4⟩:=ig rs 6 ry h2
 refine⟨a1,b1,by simp[SeqAt.shaped,a2];omega,by simp[SeqAt.shaped,b2];omega,?_⟩
 have:=gE d e a4 b4
 cases b with
 |true=>exact this.mpr (hb.mp rfl)
 |false=>
  cases q:PyData.eqv d e with
  |false=>rfl
  |true=>exact absurd (hb.mpr (this.mp q)) (by decide)
theorem bN(hu:X.A.units+64<cLine):dr X (compareOp .Eq) (fun x y H Q=>Gx x y H Q∨sV X.K false x y H Q):=Kd.or (G7 hu)
theorem iX(hu:X.A.units+64<cLine):dr X (compareOp .NotEq) (fun x y H Q=>Kc x y H Q∨sV X.K true x y H Q):=Ke.or (G8 hu)
theorem cS{K:PySem.W.Frag}:eW K (fun x y H Q=>Gx x y H Q∨sV K false x y H Q) Qm.cQ:=by
 intro ρ c H x y d c' v u Q rs rx ry e k
 obtain⟨b,e1,e⟩:=aE e
 cases e
 rcases A9 e1 with⟨p,q,rfl,rfl,rfl⟩|⟨dd,ee,h1,h2,hb⟩
 ·cases rx.rJ;cases ry.rJ
  exact .inl ⟨rfl,by rw[rP];exact k ρ _ H (Nx.refl rs) (.bl _)⟩
 ·obtain⟨a1,a2,a3,a4,a5⟩:=yc rs rx ry h1 h2 hb
  refine .inr ⟨dd,ee,a1,a2,a3,a4,?_⟩
  rw[if_neg (by decide),a5]
  exact k ρ _ H (Nx.refl rs) (.bl _)
theorem ll{K:PySem.W.Frag}:eW K (fun x y H Q=>Kc x y H Q∨sV K true x y H Q) Qm.jD:=by
 intro ρ c H x y d c' v u Q rs rx ry e k
 obtain⟨b,e1,e⟩:=aE e
 cases e
 rcases A9 e1 with⟨p,q,rfl,rfl,rfl⟩|⟨dd,ee,h1,h2,hb⟩
 ·cases rx.rJ;cases ry.rJ
  exact .inl ⟨rfl,by rw[rP];exact k ρ _ H (Nx.refl rs) (.bl _)⟩
 ·obtain⟨a1,a2,a3,a4,a5⟩:=yc rs rx ry h1 h2 hb
  refine .inr ⟨dd,ee,a1,a2,a3,a4,?_⟩
  rw[if_pos rfl,a5]
  exact k ρ _ H (Nx.refl rs) (.bl _)
def zY(x:Qm.D):Bool:=match x with|.bf=>true|_=>false
theorem RD.En{K:PySem.W.Frag}{ρ:Nat→Addr}{N:Nat}{H:Hp}{x:Qm.D}{v:V}(r:RD K ρ N H x v):decide (v= .bf)=zY x:=by
 cases r<;>simp[zY]
theorem pE{K:PySem.W.Frag}:eW K (fun x y H Q=>y= .bf∧Q (.bl (decide (x= .bf))) H) Qm.kE:=by
 intro ρ c H x y d c' v u Q rs rx ry e k
 unfold Qm.kE at e
 split at e
 ·cases e
  cases ry.D2
  refine⟨rfl,?_⟩
  rw[rx.En]
  exact k ρ _ H (Nx.refl rs) (.bl (zY x))
 ·cases e
end
end L2
namespace L2
open PySem PySem.Spec PyProof.Rows
section
variable{X:Cx}
def A_(K:PySem.W.Frag)(neg:Bool):R2:=fun x y H Q=>∃(p:Addr) (xs:List V) (d:PyData) (ds:List PyData),y= .ref p∧(cb K H p xs∨dc K H p xs)∧jd K H x d∧n8 K H xs ds∧SeqAt.shaped d=true∧d.depth≤8∧(∀e∈ds,PyData.canLay0 e=true)∧Q (.bl (if neg then !(ds.any fun e=>PyData.eqv e d)else ds.any fun e=>PyData.eqv e d)) H
theorem rW{pins:List (Addr×Obj)}{σ:St}{H:Hp}{s:Shared}{x:V}{xs:List V}{v:Value}{its:List Value}{d:PyData}{ds:List PyData}(hu:X.A.units+64<cLine)(I:Inv X pins σ H s)(rx:RelV x v)(hv:Vals xs its)(hx:jd X.K H x d)(jE:n8 X.K H xs ds)(sd:SeqAt.shaped d=true)(dd:d.depth≤8)(wB:∀e∈ds,PyData.canLay0 e=true):
  (∀y∈its.toArray,SeqAt.EqAt X.A.in1 s y v (pd s.heap d y))∧its.toArray.any (pd s.heap d)=ds.any fun e=>PyData.eqv e d:=by
 obtain⟨as,ra⟩:=hx.reads I rx
 obtain⟨bs,rb⟩:=jE.reads I hv
 have ea:its.any (pd s.heap d)=ds.any fun e=>PyData.eqv e d:=nN rb fun u' d' wg _ hd r'=>xX (wB d' hd) r'
 refine⟨fun y' oM=>?_,by simpa using ea⟩
 have hm:y'∈its:=by simpa using oM
 obtain⟨d',hd,wg,r'⟩:=readsAll_mem rb y' hm
 rw[xX (wB d' hd) r']
 refine SeqAt.eqAt_reads d' d _ _ _ _ _ _ r' ra (wB d' hd) (SeqAt.canLay_of_shaped sd) ?_
 have h1:min d'.depth d.depth≤d.depth:=Nat.min_le_right _ _
 have h2:X.A.in1.units≤X.A.units+1:=by simp[Around.in1,Around.units]
 show X.A.in1.units+_<cLine
 omega
theorem Ba(hu:X.A.units+64<cLine):dr X (compareOp .In) (A_ X.K false):=by
 intro pins s σ H x y v u Q I rx ry h
 obtain⟨p,xs,d,ds,rfl,hp,hx,jE,sd,dd,wB,q⟩:=h
 cases (show u=Value.ref p from ry)
 rcases hp with hp|hp
 ·obtain⟨its,hv,pl,_⟩:=I.list hp
  obtain⟨h1,h2⟩:=rW hu I rx hv hx jE sd dd wB
  refine SeqAt.in_listAt (pd s.heap d) pl.isList h1 ⟨.bl _,H,I,rfl,?_⟩
  rw[h2];exact q
 ·obtain⟨its,hv,pl,_⟩:=I.tuple hp
  obtain⟨h1,h2⟩:=rW hu I rx hv hx jE sd dd wB
  refine SeqAt.in_tupleAt (pd s.heap d) pl h1 ⟨.bl _,H,I,rfl,?_⟩
  rw[h2];exact q
theorem zZ(hu:X.A.units+64<cLine):dr X (compareOp .NotIn) (A_ X.K true):=by
 intro pins s σ H x y v u Q I rx ry h
 obtain⟨p,xs,d,ds,rfl,hp,hx,jE,sd,dd,wB,q⟩:=h
 cases (show u=Value.ref p from ry)
 rcases hp with hp|hp
 ·obtain⟨its,hv,pl,_⟩:=I.list hp
  obtain⟨h1,h2⟩:=rW hu I rx hv hx jE sd dd wB
  refine SeqAt.notIn_listAt (pd s.heap d) pl.isList h1 ⟨.bl _,H,I,rfl,?_⟩
  rw[h2];exact q
 ·obtain⟨its,hv,pl,_⟩:=I.tuple hp
  obtain⟨h1,h2⟩:=rW hu I rx hv hx jE sd dd wB
  refine SeqAt.notIn_tupleAt (pd s.heap d) pl h1 ⟨.bl _,H,I,rfl,?_⟩
  rw[h2];exact q
theorem jM:∀{ds:List PyData},PyData.canLayAll0 ds=true→∀e∈ds,PyData.canLay0 e=true
 |[],_,e,he=>nomatch he
 |d::ds,h,e,he=>by
  simp only[PyData.canLayAll0,Bool.and_eq_true]at h
  rcases List.mem_cons.mp he with rfl|he
  ·exact h.1
  ·exact jM h.2 e he
theorem pF:∀{ds:List PyData},tJ ds=true→∀e∈ds,nb e=true
 |[],_,e,he=>nomatch he
 |d::ds,h,e,he=>by
  simp only[tJ,Bool.and_eq_true]at h
  rcases List.mem_cons.mp he with rfl|he
  ·exact h.1
  ·exact pF h.2 e he
theorem Hi{K:PySem.W.Frag}{ρ:Nat→Addr}{c:Qm.Cells}{H:Hp}{x y:Qm.D}{v u:V}{b:Bool}(rs:RS K ρ c H)(rx:RD K ρ c.length H x v)(ry:RD K ρ c.length H y u)(h:Qm.KI x y c=some b):
  ∃(p:Addr) (xs:List V) (d:PyData) (ds:List PyData),u= .ref p∧(cb K H p xs∨dc K H p xs)∧jd K H v d∧n8 K H xs ds∧SeqAt.shaped d=true∧d.depth≤8∧(∀e∈ds,PyData.canLay0 e=true)∧(ds.any fun e=>PyData.eqv e d)=b:=by
 obtain⟨xs,h1,h⟩:=aE h
 obtain⟨d,h2,h⟩:=aE h
 obtain⟨ds,h3,h⟩:=aE h
 cases h
 obtain⟨p,vs,rfl,hp,a⟩:=rs.seq ry h1
 obtain⟨a1,a2,a3,a4⟩:=ig rs 5 rx h2
 obtain⟨b1,b2,b3,b4⟩:=pD (k:=5) rs (fun r h=>ig rs 5 r h) a h3
 refine⟨p,vs,d,ds,rfl,hp.imp id dc.of,a1,b1,by simp[SeqAt.shaped,a2];omega,by omega,jM b2,?_⟩
 rw[Bool.eq_iff_iff]
 simp only[List.any_eq_true,decide_eq_true_eq]
 constructor
 ·rintro⟨e,he,q⟩
  rw[gE e d (pF b4 e he) a4]at q
  exact q ▸ he
 ·intro hd
  exact⟨d,hd,(gE d d a4 a4).mpr rfl⟩
theorem K1{K:PySem.W.Frag}:eW K (A_ K false) Qm.Ha:=by
 intro ρ c H x y d c' v u Q rs rx ry e k
 obtain⟨b,e1,e⟩:=aE e
 cases e
 obtain⟨p,xs,dd,ds,rfl,a1,a2,a3,a4,a5,a6,a7⟩:=Hi rs rx ry e1
 refine⟨p,xs,dd,ds,rfl,a1,a2,a3,a4,a5,a6,?_⟩
 rw[if_neg (by decide),a7]
 exact k ρ _ H (Nx.refl rs) (.bl _)
theorem yd:∀{bs:List Bool}{us:List Value},Vals (bs.map V.bl) us→∀(i:Nat) (v:Value),us[i]? =some v→v= .bool (bs.getD i false)
 |[],_,.nil,i,v,h=>by simp at h
 |b::bs,_,.cons r t,0,v,h=>by
  simp at h
  subst h
  simpa using(show _=Value.bool b from r)
 |b::bs,_,.cons r t,i+1,v,h=>by
  have:=yd t i v (by simpa using h)
  simpa using this
theorem z3{prog:Program}{w:World}{A:Around}{bs:List Bool}{us:List Value}(hv:Vals (bs.map V.bl) us):TruthOf prog w A (fun i v=>us.toArray[i]? =some v) fun i=>bs.getD i false:=fun i v s Q E h q=>by
 rw[yd hv i v (by simpa using h)]
 exact wpAny_truthy_bool q
theorem range_all(bs:List Bool):(List.range bs.length).all (fun i=>bs.getD i false)=bs.all id:=by
 rw[Bool.eq_iff_iff]
 simp only[List.all_eq_true,List.mem_range]
 constructor
 ·intro h b hb
  obtain⟨i,hi⟩:=List.getElem?_of_mem hb
  have hl:=(List.getElem?_eq_some_iff.mp hi).1
  have:=h i hl
  simpa[List.getD,hi]using this
 ·intro h i hi
  have:bs[i]? =some bs[i]:=List.getElem?_eq_getElem hi
  simp only[List.getD,this,Option.getD_some]
  exact h _ (List.getElem_mem hi)
theorem tK(hc:X.calm=true):gy X (.builtin "all") (fun xs H Q=>∃(p:Addr) (bs:List Bool),xs=[.ref p]∧cb X.K H p (bs.map V.bl)∧Q (.bl (bs.all id)) H):=by
 intro pins s σ H xs us Q I r h
 obtain⟨p,bs,rfl,hp,q⟩:=h
 obtain⟨u,rfl,ru⟩:=vals1 r
 cases (show u=Value.ref p from ru)
 obtain⟨its,hv,pl,_⟩:=I.list hp
 have hl:=pl.isList
 have hC:p<s.heap.objs.size:=by obtain⟨o,e,_⟩:=hl;exact Heap.lt_size e
 refine call_all_walk (wpAny_pyIter_list hl ?_)
 refine⟨s.heap.objs.size,_,_,_,_,_,_,rfl,Walks.list (A:=X.A.in1) (I.ok.hd hc) s.heap.objs.size p (Nat.ne_of_lt hC) its.toArray,⟨⟨_,Heap.get?_push_size _ rfl,rfl,rfl⟩,hl.at fun o e=>Heap.get?_push_of_some _ e⟩,z3 hv,fun h' tk kk=>?_⟩
 have e:its.toArray.size=bs.length:=by rw[List.size_toArray,←hv.length,List.length_map]
 rw[e,range_all]
 exact⟨.bl _,H,I.kept (t':=tk) fun b o g=>kk b o (by simpa using Nat.ne_of_lt (Heap.lt_size g)) (Heap.get?_push_of_some _ g),rfl,q⟩
theorem vx{K:PySem.W.Frag}{ρ:Nat→Addr}{N:Nat}{H:Hp}:∀{ds:List Qm.D}{vs:List V}{bs:List Bool},RA K ρ N H ds vs→Qm.omap Qm.mD ds=some bs→vs=bs.map V.bl
 |[],_,bs,a,h=>by cases a;cases h;rfl
 |d::ds,_,bs,a,h=>by
  cases a with
  |cons r a=>
   obtain⟨b,h1,h⟩:=aE h
   obtain⟨cs,h2,h⟩:=aE h
   cases h
   rw[rR h1]at r
   cases r.rJ
   rw[vx a h2];rfl
theorem Bb{K:PySem.W.Frag}:qv K (fun xs H Q=>∃(p:Addr) (bs:List Bool),xs=[.ref p]∧cb K H p (bs.map V.bl)∧Q (.bl (bs.all id)) H) Qm.vv:=by
 intro ρ c H ds d c' vs Q rs ra e k
 obtain⟨x,rfl,e'⟩:=jL e
 obtain⟨v,rfl,rx⟩:=ra.jg
 obtain⟨n,e0,e'⟩:=aE e'
 obtain⟨bs,e2,e'⟩:=aE e'
 cases e'
 obtain⟨rfl,hn,ws,rfl,g,a⟩:=rs.bg rx e0
 exact⟨_,bs,rfl,vx a e2 ▸ cb.of g,k ρ _ H (Nx.refl rs) (.bl _)⟩
theorem Bc:bootBuiltins "all" =some (.builtin "all"):=by decide +kernel
end
end L2
namespace Qm
open PySem
noncomputable section
def UY:G2:=fun x y c=>match x with
 |.ref n=>(match c[n]? with
  |some (.ro xs)=>(bg y c).bind fun q=>if xs.length+q.2.length≤cU then some (.ref c.length,c++[.lst (xs++q.2)])else none
  |_=>none)
 |_=>none
open Classical in
def wC:G2:=ii fun i j=>if 0≤j∧j≤100∧My.Bd 8900 i then some (.int (i ^ j.toNat))else none
end
end Qm
namespace L2
open PySem PySem.Spec PyProof.Rows
section
variable{X:Cx}
def Eo(i j:Int):Prop:=0≤j∧(Builtin.Int.intBits i:Int)*j≤2 ^ 27
theorem Ep:dr X (binaryOp .Pow) (rI Eo fun i j=>.int (i ^ j.toNat)):=Dh fun _ _ _ _ _ _ _ hc q=>pow_int hc.1 hc.2 q
theorem Er{K:PySem.W.Frag}:eW K (rI Eo fun i j=>.int (i ^ j.toNat)) Qm.wC:=pk fun i j d e=>by
 split at e
 ·rename_i h
  cases e
  refine⟨⟨h.1,?_⟩,fun _ _ _=>.int _⟩
  have b:=My.bits_le h.2.2
  have Yz:(2:Int) ^ 27=134217728:=by decide
  have:(Builtin.Int.intBits i:Int)*j≤9000*100:=Int.mul_le_mul (by omega) h.2.1 h.1 (by decide)
  omega
 ·cases e
end
end L2
namespace L2
open PySem PySem.Spec PyProof.Rows
def Es:List Int→List Int→Bool
 |[],_=>false
 |_::_,[]=>true
 |a::r,b::t=>if a=b then Es r t else decide (a > b)
section
variable{prog:Program}{w:World}{A:Around}{E:Value→Shared→Prop}{s:Shared}
end
section
variable{X:Cx}
end
end L2
namespace L2
open PySem PySem.Spec PyProof.Rows
section
variable{prog:Program}{w:World}{A:Around}
end
section
variable{X:Cx}
end
end L2
namespace L2
open PySem PySem.Spec PyProof.Rows PySem.W
section
variable{X:Cx}{pins:List (Addr×Obj)}{σ:St}{H:Hp}{s:Shared}
end
section
variable{prog:Program}{w:World}{A:Around}{s:Shared}{Q:Bool→Shared→Prop}
end
section
variable{X:Cx}
end
end L2
namespace L2
open PySem PySem.Spec PyProof.Rows
section
variable{prog:Program}{w:World}{A:Around}{E:Value→Shared→Prop}
end
section
variable{X:Cx}{pos:Pos}
end
end L2
namespace Qm
open PySem
noncomputable section
def Es:List Int→List Int→Bool
 |[],_=>false
 |_::_,[]=>true
 |a::r,b::t=>if a=b then Es r t else decide (a > b)
def nums(xs:List D):Option (List Int):=omap qt xs
def Ue:FN:=fun ds c=>match ds with
 |[.tup xs,.tup ys]=>(nums xs).bind fun ns=>(nums ys).bind fun ms=>some (if Es ms ns=true then .tup ys else .tup xs,c)
 |_=>none
def K2(xs:List D):Option (List D×List D×List Int×List Int):=match xs with
 |[.tup xs,.tup ys]=>(nums xs).bind fun ns=>(nums ys).bind fun ms=>if ns≠[]∧ms≠[] then some (xs,ys,ns,ms)else none
 |_=>none
def NW:FN:=fun ds c=>match ds with
 |[.ref l]=>(ck (.ref l) c).bind fun zs=>(K2 zs).bind fun q=>some (.ref c.length,c++[.lst (if Es q.2.2.1 q.2.2.2=true then [.tup q.2.1,.tup q.1] else [.tup q.1,.tup q.2.1])])
 |_=>none
end
end Qm
namespace L2
open PySem PySem.Spec PyProof.Rows
section
variable{K:PySem.W.Frag}
end
section
variable{X:Cx}{pos:Pos}{es:List Expr}
end
end L2
namespace Qm
open PySem
noncomputable section
def gw(d:D):Option Str:=match d with
 |.str x=>some x
 |_=>none
def dO:G2:=fun x y c=>(gw x).bind fun a=>(gw y).bind fun b=>if a.length+b.length≤cU then some (.str (a++b),c)else none
def tL:G2:=fun x y c=>(gw x).bind fun a=>(qt y).bind fun i=>if a.length≤cU then(fA a.cps.toList i).bind fun k=>some (.str ⟨#[k]⟩,c)else none
def tM(d:D)(c:Cells):Option (Nat×List (Str×D)):=match d with
 |.ref n=>(match c[n]? with
  |some (.kD ps)=>some (n,ps)
  |_=>none)
 |_=>none
def ye{α:Type}(ps:List (Str×α))(k:Str):Option α:=(ps.find? fun p=>decide (p.1=k)).map (·.2)
def jN(k v l u:Str):XE:=fun _ c=>some (.ref c.length,c++[.kD [(k,.str v),(l,.str u)]])
def tN(o k:XE):XE:=fun σ c=>(o σ c).bind fun p=>(k σ p.2).bind fun q=>(tM p.1 q.2).bind fun l=>(gw q.1).bind fun x=>(ye l.2 x).bind fun d=>some (d,q.2)
end
end Qm
namespace PySem
open Sem (wp)
section
variable{prog:Program}{w:World}{K:Type}[DecidableEq K]{knd:KeyKind prog w K}{A:Around}{E:Value→Shared→Prop}{s:Shared}
end
end PySem
namespace L2
open PySem PySem.Spec PyProof.Rows
section
variable{K:PySem.W.Frag}{ρ aV:Nat→Addr}{N:Nat}{c c':Qm.Cells}{H H':Hp}
theorem rX{d:Qm.D}{i:Str}(h:Qm.gw d=some i):d= .str i:=by
 unfold Qm.gw at h
 split at h
 ·cases h;rfl
 ·cases h
theorem RD.eP{i:Str}{v:V}(h:RD K ρ N H (.str i) v):v= .str i:=by cases h;rfl
theorem RK.length:∀{ps:List (Str×Qm.D)}{us:List (Key×V)},RK K ρ N H ps us→ps.length=us.length
 |_,_,.nil=>rfl
 |_,_,.cons _ a=>congrArg (·+1) (RK.length a)
theorem RK.val:∀{ps:List (Str×Qm.D)}{us:List (Key×V)},RK K ρ N H ps us→∀k,(Qm.ye ps k=none∧kC us (.inr k)=none)∨∃d v,Qm.ye ps k=some d∧kC us (.inr k)=some v∧RD K ρ N H d v
 |_,_,.nil,k=>.inl ⟨rfl,rfl⟩
 |_,_,.cons (k:=k') (d:=d) (x:=x) h a,k=>by
  by_cases e:k'=k
  ·subst e
   exact .inr ⟨d,x,by simp[Qm.ye],by rw[qp rfl],h⟩
  ·have e':¬(Sum.inr k':Key)= .inr k:=fun z=>e (Sum.inr.inj z)
   rcases RK.val a k with⟨h1,h2⟩|⟨d',v',h1,h2,h3⟩
   ·exact .inl ⟨by simpa[Qm.ye,List.find?_cons,e]using h1,by rw[nh e'];exact h2⟩
   ·exact .inr ⟨d',v',by simpa[Qm.ye,List.find?_cons,e]using h1,by rw[nh e'];exact h2,h3⟩
theorem RS.kD(r:RS K ρ c H){n:Nat}{ps:List (Str×Qm.D)}(h:c[n]? =some (.kD ps)):∃us,H (ρ n)=some (.dK us)∧RK K ρ c.length H ps us:=r.ok n _ h
theorem RS.tM(r:RS K ρ c H){d:Qm.D}{n:Nat}{ps:List (Str×Qm.D)}{v:V}(h:RD K ρ c.length H d v)(e:Qm.tM d c=some (n,ps)):d= .ref n∧c[n]? =some (.kD ps)∧∃us,v= .ref (ρ n)∧H (ρ n)=some (.dK us)∧RK K ρ c.length H ps us:=by
 unfold Qm.tM at e
 split at e
 ·obtain⟨rfl,hn⟩:=h.ph
  split at e
  ·rename_i xs hx
   cases e
   obtain⟨vs,h1,h2⟩:=r.kD hx
   exact⟨rfl,hx,vs,rfl,h1,h2⟩
  ·cases e
 ·cases e
end
section
variable{X:Cx}{a b e:Expr}{es:List Expr}{fa fb fc fe:Qm.XE}{pos apos bR:Pos}
theorem fC{K:PySem.W.Frag}:eW K (fun x y H Q=>∃i j,x= .str i∧y= .str j∧i.length+j.length≤sizeLine∧Q (.str (i++j)) H) Qm.dO:=by
 intro ρ c H x y d c' v u Q rs rx ry e k
 obtain⟨i,e1,e⟩:=aE e
 obtain⟨j,e2,e⟩:=aE e
 split at e
 ·rename_i h
  cases e
  cases rX e1;cases rX e2
  cases rx.eP;cases ry.eP
  exact⟨i,j,rfl,rfl,jf h,k ρ _ H (Nx.refl rs) (.str _)⟩
 ·cases e
theorem Hj{K:PySem.W.Frag}:eW K Du Qm.tL:=by
 intro ρ c H x y d c' v u Q rs rx ry e k
 obtain⟨i,e1,e⟩:=aE e
 obtain⟨j,e2,e⟩:=aE e
 split at e
 ·rename_i h
  obtain⟨z,e3,e⟩:=aE e
  cases e
  cases rX e1;cases gB e2
  cases rx.eP;cases ry.fv
  exact⟨i,j,z,rfl,rfl,jf h,e3,k ρ _ H (Nx.refl rs) (.str _)⟩
 ·cases e
theorem Cc(ha:QE X a fa)(hb:QE X b fb)(hs:o7 b):QE X (.Subscript a b pos) (Qm.e2 Qm.tL fa fb):=D6 AO Hj ha hb hs
theorem Cd{k v l u:Str}{j1 j2 j3 j4}{p1 p2 p3 p4:Pos}(O0:k≠l):QE X (.Dict [some (.Constant (.str k) j1 p1),some (.Constant (.str l) j3 p3)] [.Constant (.str v) j2 p2,.Constant (.str u) j4 p4] pos) (Qm.jN k v l u):=by
 have P1:DM X pos [some (.Constant (.str k) j1 p1),some (.Constant (.str l) j3 p3)] [.Constant (.str v) j2 p2,.Constant (.str u) j4 p4] [(tC (.str k),tC (.str v)),(tC (.str l),tC (.str u))]:=vm m8 m8 (vm m8 m8 DN)
 have P2:=DO P1 rfl rfl (List.cons_ne_nil _ _) (show 2≤15 by decide)
 refine P2.imp fun σ H Q hQ=>?_
 obtain⟨ρ,env,c,d,c',rs,re,e,hk⟩:=hQ
 unfold Qm.jN at e
 cases e
 intro p hp
 show upd H p (.dK []) p=some (.dK [])∧∃aG:List (Key×V),[(V.str k,V.str v),(V.str l,V.str u)]=aG.map (fun kv=>(kV kv.1,kv.2))∧aG.length≤15∧Q (.ref p) (upd (upd H p (.dK [])) p (.dK (iS [] aG)))
 refine⟨cy,[(.inr k,.str v),(.inr l,.str u)],rfl,(by decide: 2≤15),?_⟩
 have hm:iS [] [((.inr k:Key),V.str v),(.inr l,.str u)]=[(.inr k,.str v),(.inr l,.str u)]:=by
  have:¬(Sum.inr k:Key)= .inr l:=fun z=>O0 (Sum.inr.inj z)
  simp[iS,putK,this,O0]
 have UZ:upd (upd H p (.dK [])) p (.dK (iS [] [(.inr k,V.str v),(.inr l,.str u)]))=upd H p (.dK [(.inr k,.str v),(.inr l,.str u)]):=by
  rw[hm]
  funext q
  by_cases hq:q=p
  ·subst hq;rw[cy,cy]
  ·rw[bh hq,bh hq,bh hq]
 rw[UZ]
 obtain⟨n,r⟩:=Nx.Hb rs hp (.cons (k:=k) (.str v) (.cons (k:=l) (.str u) .nil))
 exact hk _ _ _ n r
theorem Hk(hu:X.A.units+64<cLine)(ha:QE X a fa)(hb:QE X b fb)(hs:DJ b):QE X (.Subscript a b pos) (Qm.tN fa fb):=(DL (by omega) ha hb hs).imp <| by
 rintro σ H Q ⟨ρ,env,c,d,c',rs,re,e,k⟩
 obtain⟨p,e1,e⟩:=aE e
 obtain⟨q,e2,e⟩:=aE e
 obtain⟨l,e3,e⟩:=aE e
 obtain⟨x,e4,e⟩:=aE e
 obtain⟨z,e5,e⟩:=aE e
 cases e
 refine⟨ρ,env,c,p.1,p.2,rs,re,e1,fun aO v H1 n1 r1=>⟨aO,env,p.2,q.1,q.2,n1.rs,re.up n1.up,e2,fun jh u H2 n2 r2=>?_⟩⟩
 rw[rX e4]at r2
 cases r2.eP
 obtain⟨_,hc,us,rfl,h1,a1⟩:=n2.rs.tM (r1.up n2.up) e3
 rcases a1.val x with⟨h2,_⟩|⟨d',v',h2,h3,h4⟩
 ·rw[h2]at e5;cases e5
 ·rw[h2]at e5;cases e5
  exact⟨_,v',rfl,by have:=qX.k (k:=.inr x) h1;rw[h3]at this;exact this,k jh _ H2 (n1.trans n2) h4⟩
end
end L2
namespace L2
open PySem PySem.Spec PyProof.Rows
section
variable{X:Cx}
end
section
variable{K:PySem.W.Frag}{ρ:Nat→Addr}{c:Qm.Cells}{H:Hp}
inductive PD(K:PySem.W.Frag)(H:Hp):List (Str×PyData)→List (Key×V)→Prop
 |nil:PD K H [] []
 |cons {k:Str}{d:PyData}{r:List (Str×PyData)}{v:V}{t:List (Key×V)}:jd K H v d→SeqAt.shaped d=true→nb d=true→PD K H r t→PD K H ((k,d)::r) ((.inr k,v)::t)
theorem PD.length:∀{ds:List (Str×PyData)}{us:List (Key×V)},PD K H ds us→ds.length=us.length
 |_,_,.nil=>rfl
 |_,_,.cons _ _ _ a=>congrArg (·+1) (PD.length a)
end
end L2
namespace L2
open PySem PySem.Spec PyProof.Rows
theorem bM.none{P:Program}{w:World}{K:PySem.W.Frag}{mg:Str→Option Value}{base:Heap}{k:Nat}{f:Addr}{fd:FuncData}{ps:List Str}{F:Qm.FN}(h:∀ds c,F ds c=Option.none):bM P w K mg base dj k f fd ps (dN K F):=
 ⟨fun vs H Q E ⟨_,_,_,_,_,_,_,e,_⟩=>(by rw[h]at e;cases e),fun A outer s H args us vs Q E _ _ _ _ ⟨_,_,_,_,_,_,_,e,_⟩=>(by rw[h]at e;cases e)⟩
end L2
namespace L2
open PySem PySem.Spec PyProof.Rows
theorem Be{k:Const}{j}{p:Pos}{es:List Expr}{env:PySem.Env}:starEach (.Constant k j p::es) env=(false,eval (.Constant k j p) env)::starEach es env:=rfl
end L2
namespace L2
open PySem PySem.Spec PyProof.Rows
section
variable{X:Cx}{es:List Expr}{fr:Qm.XA}{p:Pos}
theorem fN{x:Str}{j}(h:QA X es fr):QA X (.Constant (.str x) j p::es) (Qm.ag (Qm.eC (.str x)) fr):=ah aN h Be
theorem jO{x:Int}{j}(h:QA X es fr):QA X (.Constant (.int x) j p::es) (Qm.ag (Qm.eC (.int x)) fr):=ah ar h Be
end
end L2
namespace L2
open PySem PySem.Spec PyProof.Rows
section
variable{X:Cx}{pins:List (Addr×Obj)}{σ:St}{H:Hp}{s:Shared}{h':Heap}
theorem Inv.z9{ch:List Addr}{T:Addr}{o:HO}{t':Nat}(I:Inv X pins σ H s)(iw:∀b∈ch,iz X pins H b)(k:∀b u,b∉ch→s.heap.get? b=some u→h'.get? b=some u)(hT:s.heap.objs.size≤T)(new:cP X.prog X.w (upd H T o) h' T o):
  Inv X pins σ (upd H T o) { s with heap:=h',toks:=t' }:=by
 have hn:H T=none:=I.bt.fresh hT
 have ne:∀b u,s.heap.get? b=some u→b≠T:=fun b u e=>Nat.ne_of_lt (Nat.lt_of_lt_of_le (Heap.lt_size e) hT)
 have nc:∀b u,H b=some u→b∉ch:=fun b u e hb=>by rw[(iw b hb).1]at e;cases e
 refine I.step (g':=s.gens) (d':=s.drawn) (ch:=ch) (fun b hb=>⟨(iw b hb).2.2.2.1,(iw b hb).2.1,(iw b hb).2.2.2.2.1,(iw b hb).2.2.2.2.2⟩) (fun b u _ _ hc e _=>k b u hc e) (fun b u _ _ hc e _=>⟨u.slots,k b u hc e⟩) (fun b u _ e z=>by rw[bh (ne b u e)];exact z)
  (fun b u hc e=>⟨u,k b u hc e⟩) (fun b xs e=>by rw[bh (cG e hn)];exact e) (fun b u v e=>by rw[bh (cG e hn)];exact e) (fun b ps e=>⟨#[],by rw[bh (cG e hn),e];simp⟩) (fun m hm=>?_) (fun b u e=>?_) I.bare
 ·obtain⟨ob,es,ep,ho,r⟩:=hm
  exact⟨ob,es,ep,k _ ob (fun z=>(iw _ z).2.1 rfl) ho,r⟩
 ·by_cases hb:b=T
  ·subst hb
   rw[cy]at e
   cases e
   exact new
  ·rw[bh hb]at e
   refine(I.bt b u e).qT (fun c v hc q=>k c v ?_ q) (fun c q=>by rw[bh (cG q hn)];exact q) fun c xs q=>by rw[bh (cG q hn)];exact q
   rcases hc with z|z
   ·rw[z];exact nc b u e
   ·exact nc c _ z
theorem Inv.z_{ch:List Addr}{t':Nat}(I:Inv X pins σ H s)(iw:∀b∈ch,iz X pins H b)(k:∀b u,b∉ch→s.heap.get? b=some u→h'.get? b=some u):Inv X pins σ H { s with heap:=h',toks:=t' }:=by
 have nc:∀b u,H b=some u→b∉ch:=fun b u e hb=>by rw[(iw b hb).1]at e;cases e
 refine I.step (g':=s.gens) (d':=s.drawn) (ch:=ch) (fun b hb=>⟨(iw b hb).2.2.2.1,(iw b hb).2.1,(iw b hb).2.2.2.2.1,(iw b hb).2.2.2.2.2⟩) (fun b u _ _ hc e _=>k b u hc e) (fun b u _ _ hc e _=>⟨u.slots,k b u hc e⟩) (fun b u _ e z=>z)
  (fun b u hc e=>⟨u,k b u hc e⟩) (fun b xs e=>e) (fun b u v e=>e) (fun b ps e=>⟨#[],by rw[e];simp⟩) (fun m hm=>?_) (fun b u e=>?_) I.bare
 ·obtain⟨ob,es,ep,ho,r⟩:=hm
  exact⟨ob,es,ep,k _ ob (fun z=>(iw _ z).2.1 rfl) ho,r⟩
 ·refine(I.bt b u e).qT (fun c v hc q=>k c v ?_ q) (fun c q=>q) fun c xs q=>q
  rcases hc with z|z
  ·rw[z];exact nc b u e
  ·exact nc c _ z
end
structure ZL(h:Heap)(z TI TO i1 i2 a b:Addr)(k:Nat):Prop where
 ap:iW z TI TO i1 i2 a b
 rc:∃b1,g7 h z TI TO .none (.bool b1)
 ti:cM h TI (.ref i1) (.ref i2)
 to:∃x y,cM h TO x y
 j1:h.IsTupleIter i1 a k
 j2:h.IsTupleIter i2 b k
def K3(K:PySem.W.Frag)(a b:Addr):It:=
 ⟨fun i H=>∃xs ys x y,dc K H a xs∧dc K H b ys∧xs[i]? =some x∧ys[i]? =some y,
      fun i H v H'=>∃T,v= .ref T∧H T=none∧∀xs ys,dc K H a xs→dc K H b ys→∃x y,xs[i]? =some x∧ys[i]? =some y∧H'=upd H T (.tup [x,y]),
      fun i H=>∃xs ys,dc K H a xs∧dc K H b ys∧(xs.length≤i∨ys.length≤i)⟩
theorem Ce{P:Program}{w:World}{K:PySem.W.Frag}{es:List Expr}{k0:Nat}{p0:Pos}(z TI TO i1 i2 a b:Addr):
  Turn P w K (.Tuple es k0 p0) (K3 K a b) [z,TI,TO,i1,i2] z (fun i h=>ZL h z TI TO i1 i2 a b i) where
 mem:=by simp
 obj:=fun i h Z c hc=>by
  obtain⟨D,⟨b1,hz⟩,gI,⟨x,y,gO⟩,j1,j2⟩:=Z
  rcases List.mem_cons.mp hc with rfl|hc
  ·exact⟨_,hz,by simp⟩
  rcases List.mem_cons.mp hc with rfl|hc
  ·exact⟨_,gI,by simp⟩
  rcases List.mem_cons.mp hc with rfl|hc
  ·exact⟨_,gO,by simp⟩
  rcases List.mem_cons.mp hc with rfl|hc
  ·obtain⟨o,e,_,d⟩:=j1
   exact⟨o,e,by rw[d];simp⟩
  ·have:c=i2:=by simpa using hc
   subst this
   obtain⟨o,e,_,d⟩:=j2
   exact⟨o,e,by rw[d];simp⟩
 keep:=fun i h h' Z kk=>by
  obtain⟨D,⟨b1,hz⟩,gI,⟨x,y,gO⟩,j1,j2⟩:=Z
  exact⟨D,⟨b1,kk _ (by simp) _ hz⟩,kk _ (by simp) _ gI,⟨x,y,kk _ (by simp) _ gO⟩,j1.at fun o e=>kk _ (by simp) o e,j2.at fun o e=>kk _ (by simp) o e⟩
 item:=fun X hP hw hK hc i pins s σ H E I hf Z go=>by
  subst hP hw hK
  obtain⟨xs,ys,x,y,jE,pC,hx,hy⟩:=go
  obtain⟨ia,va,ta,_⟩:=I.tuple jE
  obtain⟨ib,vb,tb,_⟩:=I.tuple pC
  obtain⟨ux,Aa,rx⟩:=va.get hx
  obtain⟨uy,K4,ry⟩:=vb.get hy
  obtain⟨D,⟨b1,hz⟩,gI,⟨x0,y0,gO⟩,j1,j2⟩:=Z
  have hT:s.TypeIs (.ref z) "zip":=⟨_,hz,rfl⟩
  obtain⟨d1,d2,d3,d4,d5,d6,d7,d8,d9,yb⟩:=D.ne
  unfold pyNext
  refine wpAny_bind (wpAny_attempt (wpAny_callSpecial?_slot (name:=Str.ofString "__next__") hT F.slot_zip_next (wpAny_call_entry F.slot_zip_next hT F.entry_zip_next ?_ (F.args_zip_next_1 _))))
  refine zX (xs:=ia.toArray) (ys:=ib.toArray) D hz gI gO j1 j2 ta tb (by simpa using Aa) (by simpa using K4) fun h' T B zr=>wpAny_pure ⟨.ref T,rfl,?_⟩
  have tI:cM h' TI (.ref i1) (.ref i2):=B.keep _ _ d1 d5 d6 d7 gI
  -- nE owned tuple Yk
  unfold letOwnedTupleGo
  refine wpAny_bind (wpAny_load zr ?_)
  dsimp only
  rw[if_pos (by simp)]
  refine wpAny_bind (wpAny_rule (show wpAny _ _ (setField (.ref z) 0 .none) _ _ _ from wpAny_setField_rec zr (by simp) fun h2 w2 s2=>?_))
  have z2:g7 h2 z TI TO .none (.bool false):=w2
  have up:∀c o,c≠z→h'.get? c=some o→h2.get? c=some o:=fun c o br e=>s2.extBut _ _ br e
  obtain⟨xo,yo,go'⟩:=B.to
  have zl:z<s.heap.objs.size:=Heap.lt_size hz
  have Tz:T≠z:=Nat.ne_of_gt (Nat.lt_of_lt_of_le zl B.new)
  have gT:=up _ _ Tz B.at_
  have ma:∀c u,c∉[z,TI,TO,i1,i2]→s.heap.get? c=some u→h2.get? c=some u:=fun c u br e=>by
   simp only[List.mem_cons,List.not_mem_nil,or_false,not_or]at br
   exact up c u br.1 (B.keep c u br.1 br.2.2.1 br.2.2.2.1 br.2.2.2.2 e)
  have Et:H T=none:=I.bt.fresh B.new
  have U0:∀c∈[z,TI,TO,i1,i2],c≠T:=fun c br=>by
   have:c<s.heap.objs.size:=by
    rcases List.mem_cons.mp br with rfl|br
    ·exact zl
    rcases List.mem_cons.mp br with rfl|br
    ·exact Heap.lt_size gI
    rcases List.mem_cons.mp br with rfl|br
    ·exact Heap.lt_size gO
    rcases List.mem_cons.mp br with rfl|br
    ·obtain⟨o,e,_⟩:=j1;exact Heap.lt_size e
    ·have:c=i2:=by simpa using br
     subst this
     obtain⟨o,e,_⟩:=j2;exact Heap.lt_size e
   exact Nat.ne_of_lt (Nat.lt_of_lt_of_le this B.new)
  refine⟨.ref T,upd H T (.tup [x,y]),I.z9 (t':=s.toks) hf ma B.new ⟨by show 2≤sizeLine;decide,[ux,uy],.cons rx (.cons ry .nil),⟨_,gT,rfl,_,rfl⟩⟩,rfl,⟨T,rfl,Et,fun oK y3 h1 h2=>?_⟩,⟨D,⟨false,z2⟩,up _ _ d1 tI,⟨xo,yo,up _ _ d2 go'⟩,B.j1.extBut s2.extBut d3,B.j2.extBut s2.extBut d4⟩,fun c br=>?_⟩
  ·rw[←I.so jE h1,←I.so pC h2]
   exact⟨x,y,hx,hy,rfl⟩
  ·rw[bh (U0 c br)]
   exact(hf c br).1
 done:=fun X hP hw hK hc i pins s σ H E I hf Z st=>by
  subst hP hw hK
  obtain⟨xs,ys,jE,pC,mH⟩:=st
  obtain⟨ia,va,ta,_⟩:=I.tuple jE
  obtain⟨ib,vb,tb,_⟩:=I.tuple pC
  obtain⟨D,⟨b1,hz⟩,gI,⟨x0,y0,gO⟩,j1,j2⟩:=Z
  have la:=va.length
  have lb:=vb.length
  refine tH.stop (xs:=ia.toArray) (ys:=ib.toArray) (I.ok.hd hc) ⟨D,⟨.none,b1,hz,.inl rfl⟩,gI,⟨x0,y0,gO⟩,j1,j2,ta,tb⟩ ?_ fun h' kk=>⟨rfl,I.z_ (t':=s.toks) hf fun c u br e=>?_⟩
  ·rcases mH with h|h
   ·exact .inl (Array.getElem?_eq_none (by simp;omega))
   ·exact .inr (Array.getElem?_eq_none (by simp;omega))
  ·simp only[List.mem_cons,List.not_mem_nil,or_false,not_or]at br
   exact kk c u br.1 br.2.2.1 br.2.2.2.1 br.2.2.2.2 e
 self:=fun A i s Q E Z q=>by
  obtain⟨D,⟨b1,hz⟩,_⟩:=Z
  have hT:s.TypeIs (.ref z) "zip":=⟨_,hz,rfl⟩
  refine wpAny_pyIter_slot hT F.slot_zip_iter (wpAny_call_entry F.slot_zip_iter hT F.entry_zip_iter ?_ (F.args_zip_iter_1 _))
  exact wpAny_pure ⟨_,rfl,"zip",_,hT,F.slot_zip_next.lookup,q⟩
def K5(K:PySem.W.Frag)(t:TA):TI:=fun σ H R=>t σ H fun vs H1=>∃a b xs ys,vs=[.ref a,.ref b]∧dc K H1 a xs∧dc K H1 b ys∧R (K3 K a b) H1
section
variable{X:Cx}{e1 e2:Expr}{p0 p1 p2 pos:Pos}{f:Qm.XA}{es:List Expr}{k0:Nat}
theorem Hl{t:TA}(hg:Gl X "zip")(hm:X.mg "zip" =none)(ha:PA X [e1,e2] t)(iI:starEach [e1,e2] X.env=(false,eval e1 X.env)::starEach [e2] X.env:=by rfl)(iA:(backTo p2 (starEach [e2] X.env)).any (·.1)=false:=by rfl):
  PI X (.Tuple es k0 p0) (.Call (.Name "zip" p1) [e1,e2] [] p2) (K5 X.K t):=by
 intro pins s σ H R I h
 refine wpAny_Call_Name_kw (iR I hg hm (u:=.type "zip") (by decide +kernel) ?_)
 refine PyProof.Rows.callWith_type1 (bH (ha p2 pins s σ H _ I h) fun us s1 bq=>?_) iI iA
 obtain⟨vs,H1,I1,r1,q1⟩:=bq
 obtain⟨a,b,xs,ys,rfl,yf,Ab,q⟩:=q1
 obtain⟨u1,u2,rfl,ra,rb⟩:=vals2 r1
 cases (show u1=Value.ref a from ra)
 cases (show u2=Value.ref b from rb)
 obtain⟨ia,va,ta,za⟩:=I1.tuple yf
 obtain⟨ib,vb,tb,zb⟩:=I1.tuple Ab
 refine Cb (xs:=ia.toArray) (ys:=ib.toArray) ta tb fun h2 Z zr sz up=>?_
 refine Z.self ?_
 obtain⟨D,⟨f0,b1,hz,hf⟩,gI,gO,j1,j2,_,_⟩:=Z
 have I2:Inv X pins σ H1 { s1 with heap:=h2 }:=I1.kept (t':=s1.toks) up
 have fr:∀c,s1.heap.objs.size≤c→iz X pins H1 c:=fun c hc=>I1.sr hc (I1.bt.fresh hc)
 refine⟨_,_,_,K3 X.K a b,H1,rfl,I2,Ce _ _ _ _ _ a b,⟨D,⟨false,zr⟩,gI,gO,j1,j2⟩,fun c hc=>?_,q⟩
 ·rcases List.mem_cons.mp hc with rfl|hc
  ·exact fr _ (Nat.le_add_right _ _)
  rcases List.mem_cons.mp hc with rfl|hc
  ·exact fr _ (Nat.le_add_right _ _)
  rcases List.mem_cons.mp hc with rfl|hc
  ·exact fr _ (Nat.le_add_right _ _)
  rcases List.mem_cons.mp hc with rfl|hc
  ·exact fr _ (Nat.le_refl _)
  ·have:c=s1.heap.objs.size+1:=by simpa using hc
   subst this
   exact fr _ (Nat.le_add_right _ _)
theorem vy{xs ys:List Qm.D}{i:Nat}{d:Qm.D}(h:(Qm.fq xs ys)[i]? =some d):∃x y,xs[i]? =some x∧ys[i]? =some y∧d= .tup [x,y]:=by
 unfold Qm.fq at h
 rw[List.getElem?_map]at h
 cases e:(xs.zip ys)[i]? with
 |none=>rw[e]at h;cases h
 |some p=>
  rw[e]at h
  cases h
  obtain⟨h1,h2⟩:=List.getElem?_zip_eq_some.mp e
  exact⟨p.1,p.2,h1,h2,rfl⟩
theorem Hm(hg:Gl X "zip")(hm:X.mg "zip" =none)(ha:QA X [e1,e2] f)(iI:starEach [e1,e2] X.env=(false,eval e1 X.env)::starEach [e2] X.env:=by rfl)(iA:(backTo p2 (starEach [e2] X.env)).any (·.1)=false:=by rfl):
  QI X (.Tuple es k0 p0) (.Call (.Name "zip" p1) [e1,e2] [] p2) (Qm.xZ f):=(Hl hg hm ha iI iA).imp <| by
 rintro σ H R ⟨ρ,env,c,m,c',rs,re,e,k⟩
 obtain⟨p,ea,e⟩:=aE e
 refine⟨ρ,env,c,p.1,p.2,rs,re,ea,fun aO vs H1 n1 r1=>?_⟩
 split at e
 ·rename_i xs ys hp
  cases e
  rw[hp]at r1
  obtain⟨v,u,rfl,rx,ry⟩:=r1.tp
  obtain⟨a,va,rfl,yf,aa⟩:=rx.nO
  obtain⟨b,vb,rfl,Ab,ab⟩:=ry.nO
  refine⟨a,b,va,vb,rfl,dc.of yf,dc.of Ab,k aO _ H1 n1 fun jh c2 H2 u2 qy _=>?_⟩
  have K6:=u2.ts _ _ yf
  have Eu:=u2.ts _ _ Ab
  have U1:=aa.up u2
  have U2:=ab.up u2
  have l1:=aa.length
  have l2:=ab.length
  have hl:(Qm.fq xs ys).length=min xs.length ys.length:=by simp[Qm.fq]
  refine⟨fun i hi=>?_,⟨va,vb,dc.of K6,dc.of Eu,?_⟩,fun i d x H' hd hy=>?_⟩
  ·dsimp only at hi
   have h1:i<va.length:=by omega
   have h2:i<vb.length:=by omega
   exact⟨va,vb,va[i],vb[i],dc.of K6,dc.of Eu,List.getElem?_eq_getElem h1,List.getElem?_eq_getElem h2⟩
  ·show va.length≤(Qm.fq xs ys).length∨vb.length≤(Qm.fq xs ys).length
   omega
  ·obtain⟨T,rfl,hT,hy⟩:=hy
   obtain⟨x',y',h1,h2,rfl⟩:=hy va vb (dc.of K6) (dc.of Eu)
   obtain⟨dx,dy,g1,g2,rfl⟩:=vy hd
   obtain⟨v1,q1,r1⟩:=U1.get g1
   obtain⟨v2,q2,r2⟩:=U2.get g2
   rw[h1]at q1;cases q1
   rw[h2]at q2;cases q2
   have n:=Nx.same qy (g_ (z:=.tup [x',y']) hT)
   exact⟨n,.tup cy (.cons (r1.up n.up) (.cons (r2.up n.up) .nil))⟩
 ·cases e
end
end L2
namespace Qm
open PySem
noncomputable section
def iJ(xs:List D):List D:=xs.zipIdx.map fun p=>.tup [.int p.2,p.1]
def wD(a:XA):XI:=fun σ c=>(a σ c).bind fun p=>match p.1 with
 |[.ref n]=>(p.2[n]?).bind fun z=>(bg (.ref n) p.2).bind fun l=>some (⟨iJ l.2,[(n,z)]⟩,p.2)
 |_=>none
def U3(a:XE):XI:=fun σ c=>(a σ c).bind fun p=>match p.1 with
 |.ref n=>(match p.2[n]? with
  |some (.kD ps)=>some (⟨ps.map fun q=>.str q.1,[(n,.uQ ps)]⟩,p.2.set n (.uQ ps))
  |some (.uQ ps)=>some (⟨ps.map fun q=>.str q.1,[(n,.uQ ps)]⟩,p.2)
  |_=>none)
 |_=>none
def eH(d:D)(c:Cells):Option String:=match d with
 |.int _=>some "int"
 |.bl _=>some "bool"
 |.tup _=>some "tuple"
 |.str _=>some "str"
 |.ref m=>(match c[m]? with
  |some (.lst _)=>some "list"
  |_=>none)
 |_=>none
def d_(t n:String):Option Bool:=if n∈["int","bool","tuple","list","str"] then some (t==n||(t=="bool"&&n=="int"))else none
def bS:FN:=two fun x y c=>match y with
 |.ty n=>(eH x c).bind fun t=>(d_ t n).bind fun k=>some (.bl k,c)
 |.tup [.ty a,.ty b]=>(eH x c).bind fun t=>(d_ t a).bind fun k=>(d_ t b).bind fun l=>some (.bl (k||l),c)
 |_=>none
open Classical in
def yg(x y:D)(c:Cells):Option Bool:=(data c 60 x).bind fun d=>(data c 60 y).bind fun e=>some (decide (d=e))
def mI:G2:=fun x y c=>(yg x y c).bind fun b=>some (.bl b,c)
end
end Qm
namespace L2
open PySem PySem.Spec PyProof.Rows
section
variable{K:PySem.W.Frag}
theorem Cf{ρ:Nat→Addr}{c:Qm.Cells}{H:Hp}{x y:Qm.D}{v u:V}{b:Bool}(rs:RS K ρ c H)(rx:RD K ρ c.length H x v)(ry:RD K ρ c.length H y u)(h:Qm.yg x y c=some b):
  ∃d e,jd K H v d∧jd K H u e∧SeqAt.shaped d=true∧SeqAt.shaped e=true∧PyData.eqv d e=b:=by
 unfold Qm.yg at h
 obtain⟨d,h1,h⟩:=aE h
 obtain⟨e,h2,h⟩:=aE h
 cases h
 obtain⟨a1,a2,a3,a4⟩:=ig rs 60 rx h1
 obtain⟨b1,b2,b3,b4⟩:=ig rs 60 ry h2
 refine⟨d,e,a1,b1,by simp[SeqAt.shaped,a2];omega,by simp[SeqAt.shaped,b2];omega,?_⟩
 have:=gE d e a4 b4
 by_cases q:d=e
 ·rw[this.mpr q];simp[q]
 ·cases z:PyData.eqv d e with
  |false=>simp[q]
  |true=>exact absurd (this.mp z) q
theorem wF:eW K (fun x y H Q=>Gx x y H Q∨sV K false x y H Q) Qm.mI:=by
 intro ρ c H x y d c' v u Q rs rx ry e k
 obtain⟨b,e1,e⟩:=aE e
 cases e
 obtain⟨dd,ee,a1,a2,a3,a4,a5⟩:=Cf rs rx ry e1
 refine .inr ⟨dd,ee,a1,a2,a3,a4,?_⟩
 rw[if_neg (by decide),a5]
 exact k ρ _ H (Nx.refl rs) (.bl _)
end
def K7(K:PySem.W.Frag)(a:Addr):It:=
 ⟨fun i H=>∃xs x,cb K H a xs∧xs[i]? =some x,
      fun i H v H'=>∃T,v= .ref T∧H T=none∧∀xs,cb K H a xs→∃x,xs[i]? =some x∧H'=upd H T (.tup [.int i,x]),
      fun i H=>∃xs,cb K H a xs∧xs.length≤i⟩
theorem Ac{P:Program}{w:World}{K:PySem.W.Frag}{es:List Expr}{k0:Nat}{p0:Pos}(e it a:Addr)(O1:e≠it):
  Turn P w K (.Tuple es k0 p0) (K7 K a) [e,it] e (fun i h=>(∃old,IsEnum h e it i old)∧h.IsListIter it a i) where
 mem:=by simp
 obj:=fun i h Z c hc=>by
  obtain⟨⟨old,he⟩,hit⟩:=Z
  rcases List.mem_cons.mp hc with rfl|hc
  ·exact⟨_,he,by simp⟩
  ·have:c=it:=by simpa using hc
   subst this
   obtain⟨o,e,_,d⟩:=hit
   exact⟨o,e,by rw[d];simp⟩
 keep:=fun i h h' Z kk=>by
  obtain⟨⟨old,he⟩,hit⟩:=Z
  exact⟨⟨old,kk _ (by simp) _ he⟩,hit.at fun o e=>kk _ (by simp) o e⟩
 item:=fun X hP hw hK hc i pins s σ H E I hf Z go=>by
  subst hP hw hK
  obtain⟨xs,x,jE,hx⟩:=go
  obtain⟨ia,va,p,_⟩:=I.list jE
  obtain⟨ux,Aa,rx⟩:=va.get hx
  obtain⟨⟨old,he⟩,hit⟩:=Z
  refine wpAny_pyNext_enum_item he hit p.isList (x:=ux) (by simpa using Aa) O1 fun h' ho O2 hT zu hk=>?_
  refine⟨_,rfl,?_⟩
  refine wpAny_letOwnedTupleGo_enum ho fun h2 U4 iI=>?_
  have O3:s.heap.objs.size≠e:=Nat.ne_of_gt (Heap.lt_size he)
  have U5:s.heap.objs.size≠it:=by
   obtain⟨o,q,_⟩:=hit
   exact Nat.ne_of_gt (Heap.lt_size q)
  have gT:=iI.extBut _ _ O3 hT
  have ma:∀c u,c∉[e,it]→s.heap.get? c=some u→h2.get? c=some u:=fun c u br q=>by
   simp only[List.mem_cons,List.not_mem_nil,or_false,not_or]at br
   exact iI.extBut c u br.1 (hk c u br.1 br.2 q)
  have Et:H s.heap.objs.size=none:=I.bt.fresh (Nat.le_refl _)
  refine⟨.ref s.heap.objs.size,upd H s.heap.objs.size (.tup [.int i,x]),I.z9 (t':=s.toks+1) hf ma (Nat.le_refl _) ⟨by show 2≤sizeLine;decide,[.int i s.toks,ux],.cons ⟨_,rfl⟩ (.cons rx .nil),⟨_,gT,rfl,_,rfl⟩⟩,rfl,⟨_,rfl,Et,fun oK h1=>?_⟩,⟨⟨_,by simpa using U4⟩,O2.extBut iI.extBut O1.symm⟩,fun c br=>?_⟩
  ·rw[←I.m9 jE h1]
   exact⟨x,hx,rfl⟩
  ·have wA:c≠s.heap.objs.size:=by
    rcases List.mem_cons.mp br with rfl|br
    ·exact O3.symm
    ·have:c=it:=by simpa using br
     subst this
     exact U5.symm
   rw[bh wA]
   exact(hf c br).1
 done:=fun X hP hw hK hc i pins s σ H E I hf Z st=>by
  subst hP hw hK
  obtain⟨xs,jE,mH⟩:=st
  obtain⟨ia,va,p,_⟩:=I.list jE
  obtain⟨⟨old,he⟩,hit⟩:=Z
  have la:=va.length
  refine wpAny_pyNext_enum_end (I.ok.hd hc) he hit p.isList (Array.getElem?_eq_none (by simp;omega)) fun h' eb=>⟨rfl,I.z_ (t':=s.toks) hf fun c u br q=>?_⟩
  simp only[List.mem_cons,List.not_mem_nil,or_false,not_or]at br
  exact eb c u br.2 q
 self:=fun A i s Q E Z q=>by
  obtain⟨⟨old,he⟩,_⟩:=Z
  exact wpAny_pyIter_enum he q
def Hn(K:PySem.W.Frag)(t:TA):TI:=fun σ H R=>t σ H fun vs H1=>∃a xs,vs=[.ref a]∧cb K H1 a xs∧R (K7 K a) H1
section
variable{X:Cx}{e1:Expr}{p0 p1 p2 pos:Pos}{f:Qm.XA}{es:List Expr}{k0:Nat}
theorem Ew{t:TA}(hg:Gl X "enumerate")(hm:X.mg "enumerate" =none)(ha:PA X [e1] t)(iI:starEach [e1] X.env=(false,eval e1 X.env)::starEach [] X.env:=by rfl)(iA:(backTo p2 (starEach [] X.env)).any (·.1)=false:=by rfl):
  PI X (.Tuple es k0 p0) (.Call (.Name "enumerate" p1) [e1] [] p2) (Hn X.K t):=by
 intro pins s σ H R I h
 refine wpAny_Call_Name_kw (iR I hg hm (u:=.type "enumerate") (by decide +kernel) ?_)
 refine PyProof.Rows.callWith_type1 (bH (ha p2 pins s σ H _ I h) fun us s1 bq=>?_) iI iA
 obtain⟨vs,H1,I1,r1,q1⟩:=bq
 obtain⟨a,xs,rfl,yf,q⟩:=q1
 obtain⟨u1,rfl,ra⟩:=vals1 r1
 cases (show u1=Value.ref a from ra)
 obtain⟨ia,va,p,za⟩:=I1.list yf
 refine call_enumerate_list p.isList fun h2 he hit sz up=>?_
 refine wpAny_pyIter_enum he ?_
 have I2:Inv X pins σ H1 { s1 with heap:=h2 }:=I1.kept (t':=s1.toks) up
 have fr:∀c,s1.heap.objs.size≤c→iz X pins H1 c:=fun c hc=>I1.sr hc (I1.bt.fresh hc)
 refine⟨_,_,_,K7 X.K a,H1,rfl,I2,Ac _ _ a (show s1.heap.objs.size+1≠s1.heap.objs.size by omega),⟨⟨_,he⟩,hit⟩,fun c hc=>?_,q⟩
 rcases List.mem_cons.mp hc with rfl|hc
 ·exact fr _ (Nat.le_add_right _ _)
 ·have:c=s1.heap.objs.size:=by simpa using hc
  subst this
  exact fr _ (Nat.le_refl _)
theorem Ad{xs:List Qm.D}{i:Nat}{d:Qm.D}(h:(Qm.iJ xs)[i]? =some d):∃x,xs[i]? =some x∧d= .tup [.int i,x]:=by
 unfold Qm.iJ at h
 rw[List.getElem?_map,List.getElem?_zipIdx]at h
 cases q:xs[i]? with
 |none=>rw[q]at h;cases h
 |some x=>rw[q]at h;simp at h;exact⟨x,rfl,h.symm⟩
theorem Ey(hg:Gl X "enumerate")(hm:X.mg "enumerate" =none)(ha:QA X [e1] f)(iI:starEach [e1] X.env=(false,eval e1 X.env)::starEach [] X.env:=by rfl)(iA:(backTo p2 (starEach [] X.env)).any (·.1)=false:=by rfl):
  QI X (.Tuple es k0 p0) (.Call (.Name "enumerate" p1) [e1] [] p2) (Qm.wD f):=(Ew hg hm ha iI iA).imp <| by
 rintro σ H R ⟨ρ,env,c,m,c',rs,re,e,k⟩
 obtain⟨p,ea,e⟩:=aE e
 refine⟨ρ,env,c,p.1,p.2,rs,re,ea,fun aO vs H1 n1 r1=>?_⟩
 split at e
 ·rename_i n hp
  obtain⟨z,e2,e⟩:=aE e
  obtain⟨l,e3,e⟩:=aE e
  cases e
  rw[hp]at r1
  obtain⟨v,rfl,rx⟩:=r1.jg
  obtain⟨hv,hn⟩:=rx.ph
  subst hv
  obtain⟨dn,lq,ws,_,h1,a1⟩:=n1.rs.bg (d:=.ref n) (.ref hn) (show Qm.bg (.ref n) p.2=some (l.1,l.2)from e3)
  have Cg:l.1=n:=by cases dn;rfl
  rw[Cg]at lq h1
  refine⟨_,ws,rfl,cb.of h1,k aO _ H1 n1 fun jh c2 H2 u2 qy oU=>?_⟩
  have hz:z= .lst l.2:=by rw[e2]at lq;exact Option.some.inj lq
  obtain⟨us,h2,a2⟩:=qy.lst (by rw[←hz];exact oU (n,z) (by simp))
  rw[u2.agree n hn]at h2
  have hl:(Qm.iJ l.2).length=us.length:=by rw[←a2.length];simp[Qm.iJ]
  refine⟨fun i hi=>?_,⟨us,cb.of h2,by show us.length≤(Qm.iJ l.2).length;omega⟩,fun i d x H' hd hy=>?_⟩
  ·dsimp only at hi
   have h3:i<us.length:=by omega
   exact⟨us,us[i],cb.of h2,List.getElem?_eq_getElem h3⟩
  ·obtain⟨T,rfl,hT,hy⟩:=hy
   obtain⟨x',h3,rfl⟩:=hy us (cb.of h2)
   obtain⟨dx,g1,rfl⟩:=Ad hd
   obtain⟨v1,q1,r1⟩:=a2.get g1
   rw[h3]at q1;cases q1
   have n:=Nx.same qy (g_ (z:=.tup [.int i,x']) hT)
   exact⟨n,.tup cy (.cons (.int _) (.cons (r1.up n.up) .nil))⟩
 ·cases e
end
end L2
namespace L2
open PySem PySem.Spec PyProof.Rows
section
variable{X:Cx}{pins:List (Addr×Obj)}{σ:St}{H:Hp}{s:Shared}{h':Heap}
end
section
variable{X:Cx}{tg l:Expr}{tl:TE}
end
section
variable{K:PySem.W.Frag}{ρ aV:Nat→Addr}{N:Nat}{c c':Qm.Cells}{H H':Hp}
theorem RK.at_:∀{ps:List (Str×Qm.D)}{us:List (Key×V)},RK K ρ N H ps us→∀{i:Nat}{p:Str×Qm.D},ps[i]? =some p→∃kv,us[i]? =some kv∧kv.1= .inr p.1
 |_,_,.nil,i,p,h=>by simp at h
 |_,_,.cons (k:=k') _ a,0,p,h=>by simp at h;subst h;exact⟨_,rfl,rfl⟩
 |_,_,.cons _ a,i+1,p,h=>by
  obtain⟨kv,h1,h2⟩:=RK.at_ a (i:=i) (p:=p) (by simpa using h)
  exact⟨kv,by simpa using h1,h2⟩
end
section
variable{X:Cx}{e a b tg:Expr}{fe fa fb:Qm.XE}{pos:Pos}
end
end L2
namespace L2
open PySem PySem.Spec PyProof.Rows
inductive yh(H:Hp):V→String→Prop where
 |bl (x:Bool):yh H (.bl x) "bool"
 |int (i:Int):yh H (.int i) "int"
 |str (x:Str):yh H (.str x) "str"
 |lst {a:Addr}{xs:List V} (e:H a=some (.lst xs)):yh H (.ref a) "list"
 |tup {a:Addr}{xs:List V} (e:H a=some (.tup xs)):yh H (.ref a) "tuple"
section
variable{X:Cx}{pins:List (Addr×Obj)}{σ:St}{H:Hp}{s:Shared}
theorem Ez{x:V}{u:Value}{T:String}(I:Inv X pins σ H s)(rx:RelV x u)(ty:yh H x T):∃Hh:Heap→Prop,PySem.W.KitX X.K u (.type T) Hh∧Hh s.heap∧u≠.builtin "__main__.__loader__#opaque":=by
 cases ty with
 |bl y=>cases (show u=Value.bool y from rx);exact⟨_,PySem.W.kitx_bool,True.intro,fun z=>nomatch z⟩
 |int i=>obtain⟨t,q⟩:=(show ∃t,u=Value.int i t from rx);cases q;exact⟨_,PySem.W.kitx_int,True.intro,fun z=>nomatch z⟩
 |str y=>obtain⟨t,q⟩:=(show ∃t,u=Value.str y t from rx);cases q;exact⟨_,PySem.W.kitx_str,True.intro,fun z=>nomatch z⟩
 |@lst a xs ea=>
  cases (show u=Value.ref a from rx)
  obtain⟨_,_,n,_,h1⟩:=(show cP X.prog X.w H s.heap a (.lst xs)from I.bt a _ ea)
  exact⟨_,PySem.W.kitx_list,⟨_,h1,rfl⟩,fun z=>nomatch z⟩
 |@tup a xs ea=>
  cases (show u=Value.ref a from rx)
  obtain⟨_,_,_,p⟩:=(show cP X.prog X.w H s.heap a (.tup xs)from I.bt a _ ea)
  obtain⟨o,h1,h2,_⟩:=p
  exact⟨_,PySem.W.kitx_tuple,⟨o,h1,h2⟩,fun z=>nomatch z⟩
theorem EA(K:PySem.W.Frag):∀t∈["int","bool","tuple","list","str"],∀n∈["int","bool","tuple","list","str"],PySem.W.kitOne K (.type t) (.type n)=some (t==n||(t=="bool"&&n=="int")):=by
 intro t ht n hn
 simp only[List.mem_cons,List.not_mem_nil,or_false]at ht hn
 rcases ht with rfl|rfl|rfl|rfl|rfl<;>rcases hn with rfl|rfl|rfl|rfl|rfl<;>with_unfolding_all rfl
def Jo(K:PySem.W.Frag):List V→Hp→VK→Prop:=fun xs H Q=>∃x T,yh H x T∧((∃n k,xs=[x,.ty n]∧PySem.W.kitOne K (.type T) (.type n)=some k∧Q (.bl k) H)∨
 ∃p a b k l,xs=[x,.ref p]∧H p=some (.tup [.ty a,.ty b])∧PySem.W.kitOne K (.type T) (.type a)=some k∧PySem.W.kitOne K (.type T) (.type b)=some l∧Q (.bl (k||l)) H)
theorem c_:gy X (.builtin "isinstance") (Jo X.K):=by
 intro pins s σ H xs us Q I r h
 obtain⟨x,T,ty,h⟩:=h
 rcases h with⟨n,k,rfl,e,q⟩|⟨p,a,b,k,l,rfl,hp,e1,e2,q⟩
 ·obtain⟨u,w',rfl,rx,rc⟩:=vals2 r
  cases (show w'=Value.type n from rc)
  obtain⟨Hh,kx,hh,hx⟩:=Ez I rx ty
  exact PySem.W.kia_one kx I.xw hh e hx fun tk=>⟨.bl k,H,I.tok tk,rfl,q⟩
 ·obtain⟨u,w',rfl,rx,rc⟩:=vals2 r
  cases (show w'=Value.ref p from rc)
  obtain⟨Hh,kx,hh,hx⟩:=Ez I rx ty
  obtain⟨_,its,vi,ot⟩:=(show cP X.prog X.w H s.heap p (.tup [.ty a,.ty b])from I.bt p _ hp)
  obtain⟨u1,u2,rfl,r1,r2⟩:=vals2 vi
  cases (show u1=Value.type a from r1)
  cases (show u2=Value.type b from r2)
  obtain⟨⟨c,dd,dt,sl⟩,h1,h2,n,h3⟩:=ot
  replace h2:c= .type "tuple":=h2
  replace h3:dt= .seq ([Value.type a,Value.type b]:List Value).toArray n:=h3
  subst h2 h3
  have e:PySem.W.kitAny X.K (.type T) [.type a,.type b]=some (k||l):=by
   unfold PySem.W.kitAny
   rw[e1]
   cases k with
   |true=>rfl
   |false=>
    dsimp only
    unfold PySem.W.kitAny
    rw[e2]
    cases l<;>rfl
  exact PySem.W.kia_tup kx I.xw hh h1 e hx fun tk=>⟨.bl (k||l),H,I.tok tk,rfl,q⟩
theorem yi{K:PySem.W.Frag}{ρ:Nat→Addr}{c:Qm.Cells}{H:Hp}{x:Qm.D}{v:V}{t:String}(rs:RS K ρ c H)(r:RD K ρ c.length H x v)(e:Qm.eH x c=some t):yh H v t∧t∈["int","bool","tuple","list","str"]:=by
 unfold Qm.eH at e
 split at e
 ·cases e;cases r.fv;exact⟨.int _,by simp⟩
 ·cases e;cases r.rJ;exact⟨.bl _,by simp⟩
 ·cases e;obtain⟨p,ws,rfl,g,_⟩:=r.nO;exact⟨.tup g,by simp⟩
 ·cases e;cases r.eP;exact⟨.str _,by simp⟩
 ·obtain⟨rfl,_⟩:=r.ph
  split at e
  ·rename_i ws hw
   cases e
   obtain⟨us,g,_⟩:=rs.lst hw
   exact⟨.lst g,by simp⟩
  ·cases e
 ·cases e
theorem tO{K:PySem.W.Frag}{t n:String}{k:Bool}(ht:t∈["int","bool","tuple","list","str"])(e:Qm.d_ t n=some k):PySem.W.kitOne K (.type t) (.type n)=some k:=by
 unfold Qm.d_ at e
 split at e
 ·rename_i hn
  cases e
  exact EA K t ht n hn
 ·cases e
theorem eX{K:PySem.W.Frag}:qv K (Jo K) Qm.bS:=by
 intro ρ c H ds d c' vs Q rs ra e k
 obtain⟨x,y,rfl,e'⟩:=A6 e
 obtain⟨v,u,rfl,rx,ry⟩:=ra.tp
 split at e'
 ·rename_i n
  obtain⟨t,e1,e'⟩:=aE e'
  obtain⟨b,e2,e'⟩:=aE e'
  cases e'
  have hu:u= .ty n:=by cases ry;rfl
  subst hu
  obtain⟨ty,ht⟩:=yi rs rx e1
  exact⟨v,t,ty,.inl ⟨n,b,rfl,tO ht e2,k ρ _ H (Nx.refl rs) (.bl _)⟩⟩
 ·rename_i n1 n2
  obtain⟨t,e1,e'⟩:=aE e'
  obtain⟨b1,e2,e'⟩:=aE e'
  obtain⟨b2,e3,e'⟩:=aE e'
  cases e'
  obtain⟨p,ws,rfl,g,a⟩:=ry.nO
  obtain⟨w1,w2,rfl,r1,r2⟩:=a.tp
  have h1:w1= .ty n1:=by cases r1;rfl
  have h2:w2= .ty n2:=by cases r2;rfl
  subst h1 h2
  obtain⟨ty,ht⟩:=yi rs rx e1
  exact⟨v,t,ty,.inr ⟨p,n1,n2,b1,b2,rfl,g,tO ht e2,tO ht e3,k ρ _ H (Nx.refl rs) (.bl _)⟩⟩
 ·cases e'
end
end L2
namespace Qm
open PySem
noncomputable section
end
end Qm
namespace Qm
open PySem
noncomputable section
end
end Qm
namespace L2
open PySem PySem.Spec PyProof.Rows
section
variable{X:Cx}
end
section
variable{K:PySem.W.Frag}{ρ:Nat→Addr}{c:Qm.Cells}{H:Hp}
end
end L2
namespace PySem
open Sem (wp)
open AutoSeq1 (wpAny_loadPart')
open MeetsSeq MeetsSeq2 MeetsSeq3 SeqRoads2
section
variable{P:Program}{W:World}
variable{A:Around}{E:Value→Shared→Prop}{s:Shared}
end
end PySem
namespace L2
open PySem PySem.Spec PyProof.Rows
section
variable{X:Cx}
end
section
variable{K:PySem.W.Frag}{ρ:Nat→Addr}{c:Qm.Cells}{H:Hp}
end
end L2
namespace Qm
open PySem
noncomputable section
def qB(a:XA):XI:=fun σ c=>(a σ c).bind fun p=>match p.1 with
 |[.ref n,.ref m]=>(p.2[n]?).bind fun z=>(p.2[m]?).bind fun y=>(bg (.ref n) p.2).bind fun l=>(bg (.ref m) p.2).bind fun k=>some (⟨fq l.2 k.2,[(n,z),(m,y)]⟩,p.2)
 |_=>none
end
end Qm
namespace PySem
open Sem (wp)
section
variable{prog:Program}{w:World}{A:Around}{E:Value→Shared→Prop}{s:Shared}{I:Addr}{fp wr:List Addr}{G:Array GenState→Array GenState→Prop}{n:Nat}{P:Nat→Value→Prop}{St:Nat→Shared→Prop}
end
end PySem
namespace L2
open PySem PySem.Spec PyProof.Rows
section
variable{X:Cx}
end
end L2
namespace L2
open PySem PySem.Spec PyProof.Rows
theorem Ci{m a b:Nat}(ha:a<m)(hb:b<m):ZipApart (m+4) (m+2) (m+3) m (m+1) a b:=by
 constructor<;>first|exact Nat.ne_of_lt (by omega)|exact Nat.ne_of_gt (by omega)
def EB(K:PySem.W.Frag)(a b:Addr):It:=
 ⟨fun i H=>∃xs ys x y,cb K H a xs∧cb K H b ys∧xs[i]? =some x∧ys[i]? =some y,
      fun i H v H'=>∃T,v= .ref T∧H T=none∧∀xs ys,cb K H a xs→cb K H b ys→∃x y,xs[i]? =some x∧ys[i]? =some y∧H'=upd H T (.tup [x,y]),
      fun i H=>∃xs ys,cb K H a xs∧cb K H b ys∧(xs.length≤i∨ys.length≤i)⟩
def Bf(K:PySem.W.Frag)(t:TA):TI:=fun σ H R=>t σ H fun vs H1=>∃a b xs ys,vs=[.ref a,.ref b]∧cb K H1 a xs∧cb K H1 b ys∧R (EB K a b) H1
section
variable{X:Cx}{e1 e2:Expr}{p0 p1 p2 pos:Pos}{f:Qm.XA}{es:List Expr}{k0:Nat}
theorem Cj{K:PySem.W.Frag}{f:Qm.XA}:∀σ H R,IQ K (Qm.qB f) σ H R→Bf K (AQ K f) σ H R:=by
 rintro σ H R ⟨ρ,env,c,m,c',rs,re,e,k⟩
 obtain⟨p,ea,e⟩:=aE e
 refine⟨ρ,env,c,p.1,p.2,rs,re,ea,fun aO vs H1 n1 r1=>?_⟩
 split at e
 ·rename_i n m' hp
  obtain⟨z,e2,e⟩:=aE e
  obtain⟨y,e3,e⟩:=aE e
  obtain⟨l,e4,e⟩:=aE e
  obtain⟨l2,e5,e⟩:=aE e
  cases e
  rw[hp]at r1
  obtain⟨v,u,rfl,rx,ry⟩:=r1.tp
  obtain⟨hv,hn⟩:=rx.ph
  obtain⟨hu,Ck⟩:=ry.ph
  subst hv hu
  obtain⟨dn,lq,ws,_,h1,a1⟩:=n1.rs.bg (d:=.ref n) (.ref hn) (show Qm.bg (.ref n) p.2=some (l.1,l.2)from e4)
  obtain⟨U6,EC,fV,_,O5,YA⟩:=n1.rs.bg (d:=.ref m') (.ref Ck) (show Qm.bg (.ref m') p.2=some (l2.1,l2.2)from e5)
  have Cg:l.1=n:=by cases dn;rfl
  have O6:l2.1=m':=by cases U6;rfl
  rw[Cg]at lq h1
  rw[O6]at EC O5
  refine⟨_,_,ws,fV,rfl,cb.of h1,cb.of O5,k aO _ H1 n1 fun jh c2 H2 u2 qy oU=>?_⟩
  have hz:z= .lst l.2:=by rw[e2]at lq;exact Option.some.inj lq
  have hy:y= .lst l2.2:=by rw[e3]at EC;exact Option.some.inj EC
  obtain⟨us,h2,a2⟩:=qy.lst (by rw[←hz];exact oU (n,z) (by simp))
  obtain⟨yj,Ho,O7⟩:=qy.lst (by rw[←hy];exact oU (m',y) (by simp))
  rw[u2.agree n hn]at h2
  rw[u2.agree m' Ck]at Ho
  have l1:=a2.length
  have YB:=O7.length
  have hl:(Qm.fq l.2 l2.2).length=min l.2.length l2.2.length:=by simp[Qm.fq]
  refine⟨fun i hi=>?_,⟨us,yj,cb.of h2,cb.of Ho,?_⟩,fun i d x H' hd hy=>?_⟩
  ·dsimp only at hi
   have g1:i<us.length:=by omega
   have g2:i<yj.length:=by omega
   exact⟨us,yj,us[i],yj[i],cb.of h2,cb.of Ho,List.getElem?_eq_getElem g1,List.getElem?_eq_getElem g2⟩
  ·show us.length≤(Qm.fq l.2 l2.2).length∨yj.length≤(Qm.fq l.2 l2.2).length
   omega
  ·obtain⟨T,rfl,hT,hy⟩:=hy
   obtain⟨x',y',g1,g2,rfl⟩:=hy us yj (cb.of h2) (cb.of Ho)
   obtain⟨dx,dy,f1,f2,rfl⟩:=vy hd
   obtain⟨v1,q1,r1⟩:=a2.get f1
   obtain⟨v2,q2,r2⟩:=O7.get f2
   rw[g1]at q1;cases q1
   rw[g2]at q2;cases q2
   have n:=Nx.same qy (g_ (z:=.tup [x',y']) hT)
   exact⟨n,.tup cy (.cons (r1.up n.up) (.cons (r2.up n.up) .nil))⟩
 ·cases e
end
end L2
namespace PySem
open Sem (wp)
open AutoSeq1 (wpAny_loadPart')
open MeetsSeq MeetsSeq2 MeetsSeq3 SeqRoads2
section
variable{P:Program}{W:World}
end
end PySem
namespace L2
open PySem PySem.Spec PyProof.Rows
section
variable{X:Cx}
end
end L2
namespace Qm
open PySem
noncomputable section
def Ae:XE:=fun _ _=>none
end
end Qm
namespace L2
open PySem PySem.Spec PyProof.Rows
section
variable{X:Cx}{e:Expr}{es:List Expr}{x:Str}{p pos:Pos}{fx:Qm.XA}{fe:Qm.XE}
theorem ED:QE X e Qm.Ae:=fun _ _ _ _ _ _ ⟨_,_,_,_,_,_,_,h,_⟩=>by cases h
end
section
variable{X:Cx}{tg:Expr}
end
end L2
namespace Qm
open PySem
noncomputable section
def k1(d:D):Option (List Int):=match d with
 |.tup xs=>nums xs
 |_=>none
def k2(d:D):Option (List (List Int)):=match d with
 |.tup xs=>omap k1 xs
 |_=>none
section
variable{κ α:Type}[DecidableEq κ]
end
end
end Qm
namespace L2
open PySem PySem.Spec PyProof.Rows
abbrev U7(k:List Int):List Key:=k.map Sum.inl
abbrev U8(k:List (List Int)):List (List Key):=k.map (List.map Sum.inl)
section
variable{K:PySem.W.Frag}{ρ aV:Nat→Addr}{N N':Nat}{H H':Hp}
theorem pj.length:∀{ps:List (List Int×Qm.D)}{us:List (List Key×V)},pj K ρ N H ps us→ps.length=us.length
 |_,_,.nil=>rfl
 |_,_,.cons _ a=>congrArg (·+1) (pj.length a)
theorem pj.at_:∀{ps:List (List Int×Qm.D)}{us:List (List Key×V)}{i:Nat}{p:List Int×Qm.D},pj K ρ N H ps us→ps[i]? =some p→∃v,us[i]? =some (U7 p.1,v)∧RD K ρ N H p.2 v
 |_,_,_,_,.nil,e=>by simp at e
 |_,_,0,_,.cons h _,e=>by simp at e;subst e;exact⟨_,rfl,h⟩
 |_,_,i+1,p,.cons _ a,e=>by
  obtain⟨v,h1,h2⟩:=pj.at_ (i:=i) (p:=p) a (by simpa using e)
  exact⟨v,by simpa using h1,h2⟩
end
section
variable{K:PySem.W.Frag}{ρ aV:Nat→Addr}{N N':Nat}{H H':Hp}
theorem og.length:∀{ps:List (List (List Int)×Qm.D)}{us:List (List (List Key)×V)},og K ρ N H ps us→ps.length=us.length
 |_,_,.nil=>rfl
 |_,_,.cons _ a=>congrArg (·+1) (og.length a)
theorem og.at_:∀{ps:List (List (List Int)×Qm.D)}{us:List (List (List Key)×V)}{i:Nat}{p:List (List Int)×Qm.D},og K ρ N H ps us→ps[i]? =some p→∃v,us[i]? =some (U8 p.1,v)∧RD K ρ N H p.2 v
 |_,_,_,_,.nil,e=>by simp at e
 |_,_,0,_,.cons h _,e=>by simp at e;subst e;exact⟨_,rfl,h⟩
 |_,_,i+1,p,.cons _ a,e=>by
  obtain⟨v,h1,h2⟩:=og.at_ (i:=i) (p:=p) a (by simpa using e)
  exact⟨v,by simpa using h1,h2⟩
end
end L2
namespace L2
open PySem PySem.Spec PyProof.Rows
section
variable{K:PySem.W.Frag}{ρ:Nat→Addr}{N:Nat}{H:Hp}
end
section
variable{K:PySem.W.Frag}{ρ:Nat→Addr}{c:Qm.Cells}{H:Hp}
end
section
variable{X:Cx}{pos:Pos}
end
end L2
namespace L2
open PySem PySem.Spec PyProof.Rows
section
variable{P:Program}{w:World}{H:Hp}{h:Heap}{a:Addr}
abbrev KU(H:Hp)(aG:List (List (List Key)×V))(xs:List (List (List Key)×Addr×Value)):Prop:=Paired (fun(p:List (List Key)×V) (q:List (List Key)×Addr×Value)=>p.1=q.1∧xq H p.1 q.2.1∧RelV p.2 q.2.2) aG xs
theorem KU.length{aG:List (List (List Key)×V)}{xs:List (List (List Key)×Addr×Value)}(r:KU H aG xs):aG.length=xs.length:=by
 induction r with
 |nil=>rfl
 |cons _ _ ih=>simp[ih]
theorem KT.len{aG:List (List Key×V)}{xs:List (List Key×Addr×Value)}(r:KT H aG xs):aG.length=xs.length:=by
 induction r with
 |nil=>rfl
 |cons _ _ ih=>simp[ih]
end
section
variable{X:Cx}
end
end L2
namespace PySem
section
variable{prog:Program}{w:World}{K:Type}[DecidableEq K]{knd:HeapKind prog w K}{A:Around}{E:Value→Shared→Prop}{s:Shared}
end
end PySem
namespace L2
open PySem PySem.Spec PyProof.Rows
section
variable{K:Type}[DecidableEq K]
end
section
variable{X:Cx}{o i e f:Expr}{pos apos bR:Pos}{td ty tx:TE}
end
section
variable{X:Cx}{o i b:Expr}{pos apos bR p0 p1 p2 lp:Pos}{fo fb:Qm.XE}
end
end L2
namespace L2
open PySem PySem.Spec PyProof.Rows
section
variable{X:Cx}{o:Expr}{p0 pos apos bR:Pos}{td:TE}{fo:Qm.XE}
end
end L2
namespace PySem
set_option maxRecDepth 100000
end PySem
namespace L2
open PySem PySem.Spec PyProof.Rows
section
variable{X:Cx}{pins:List (Addr×Obj)}{σ:St}{H:Hp}{A:Around}{E:Value→Shared→Prop}
end
end L2
namespace L2
open PySem PySem.Spec PyProof.Rows
section
variable{X:Cx}
end
end L2
namespace PySem
set_option maxRecDepth 100000
abbrev j_(h:Heap)(z TI TO:Addr)(f0 f1:Value):Prop:=
 h.get? z=some { cls:=.type "zip",dict:=none,data:=.fields #[f0,f1,.bool false,.ref TI,.ref TO],slots:=#[] }
def ZF(f0:Value):Prop:=f0= .none∨∃a t,f0= .int a t
structure Cm(z TI TO i1 i2:Addr):Prop where
 a1:TI≠z
 a2:TO≠z
 a3:i1≠z
 a4:i2≠z
 a5:TI≠TO
 a6:TI≠i1
 a7:TI≠i2
 a8:TO≠i1
 a9:TO≠i2
 EE:i1≠i2
section
variable{prog:Program}{w:World}{A:Around}{E:Value→Shared→Prop}{s:Shared}{z TI TO i1 i2:Addr}{f0 f1 x y a b:Value}
theorem wG{n:Addr}{Q:Option Obj→Shared→Prop}(h:Q (s.heap.get? n) s):wpAny (model prog w) A (loadIfAlive n) Q E s:=fun _ _ _=>h
theorem EF{Q:Bool→Shared→Prop}(hz:j_ s.heap z TI TO f0 f1)(hf:ZF f0)(q1:Q true s)(q2:∀h' g1,j_ h' z TI TO f0 g1→Heap.SameBut z s.heap h'→Q false { s with heap:=h' }):
  wpAny (model prog w) A (Builtin.SmallTypes.ownedTupleIsFree (.ref z)) Q E s:=by
 unfold Builtin.SmallTypes.ownedTupleIsFree
 refine wpAny_bind (wpAny_field hz rfl (x:=f0) rfl ?_)
 rcases hf with rfl|⟨n,t,rfl⟩
 ·exact wpAny_pure q1
 ·refine wpAny_bind (wG ?_)
  cases hg:s.heap.get? n.toNat with
  |none=>exact wpAny_pure q1
  |some o=>
   show wpAny _ _ (field (.ref z) 1 >>= _) _ _ _
   refine wpAny_bind (wpAny_field hz rfl (x:=f1) rfl ?_)
   split
   ·exact wpAny_bind (wpAny_setField_rec hz (by simp) fun h' x_ hs=>wpAny_pure (q2 h' _ x_ hs))
   ·exact wpAny_pure (q2 s.heap f1 hz ⟨rfl,fun _ _=>rfl⟩)
def Dr(prog:Program)(w:World)(A:Around)(s:Shared)(i:Addr)(h:Heap)(x:Value)(G:Heap→Prop):Prop:=
 ∀(Q:Value→Shared→Prop) (E:Value→Shared→Prop),(∀h',G h'→Heap.SameBut i h h'→Q x { s with heap:=h' })→wpAny (model prog w) A (Builtin.SmallTypes.nextOf (.ref i)) Q E { s with heap:=h }
theorem EG{G1 G2:Heap→Prop}{Q:Value→Shared→Prop}(D:Cm z TI TO i1 i2)(hz:j_ s.heap z TI TO f0 f1)(hf:ZF f0)(hI:IsPair s.heap TI (.ref i1) (.ref i2))(hO:IsPair s.heap TO a b)
  (d1:∀h',(∀c o,c≠z→s.heap.get? c=some o→h'.get? c=some o)→Dr prog w A s i1 h' x G1)(d2:∀h',(∀c o,c≠z→c≠TO→c≠i1→s.heap.get? c=some o→h'.get? c=some o)→Dr prog w A s i2 h' y G2)
  (g1:∀h h',G1 h→(∀c o,c≠z→c≠TO→c≠i2→h.get? c=some o→h'.get? c=some o)→G1 h')(g2:∀h h',G2 h→(∀c o,c≠z→c≠TO→h.get? c=some o→h'.get? c=some o)→G2 h')
  (hQ:∀h' k0 k1 p q,j_ h' z TI TO k0 k1→ZF k0→IsPair h' TO p q→G1 h'→G2 h'→IsPair h' s.heap.objs.size x y→(∀c o,c≠z→c≠TO→c≠i1→c≠i2→s.heap.get? c=some o→h'.get? c=some o)→Q (.ref s.heap.objs.size) { s with heap:=h' }):
  wpAny (model prog w) A (Builtin.«zip.__next__» ⟨[.ref z],[]⟩) (fun fin s'=>∃v,fin= .done (.ret v)∧Q v s') E s:=by
 show wpAny _ _ (field (.ref z) 2 >>= _) _ _ _
 refine wpAny_bind (wpAny_field hz rfl (x:=.bool false) rfl ?_)
 show wpAny _ _ (field (.ref z) 3 >>= _) _ _ _
 refine wpAny_bind (wpAny_field hz rfl (x:=.ref TI) rfl ?_)
 refine wpAny_bind (wpAny_seqItems hI rfl ?_)
 show wpAny _ _ (Builtin.SmallTypes.ownedTupleIsFree (.ref z) >>= _) _ _ _
 refine wpAny_bind (EF hz hf ?_ (fun h0 k1 z0 s0=>?_))
 ·simp only[if_true]
  refine wpAny_bind (wpAny_rule ?_)
  refine wpAny_bind (wpAny_field hz rfl (x:=.ref TO) rfl ?_)
  refine wpAny_bind (wpAny_setField_rec hz (by simp) fun h1 z1 s1=>?_)
  replace z1:j_ h1 z TI TO .ellipsis f1:=z1
  refine wpAny_bind ?_
  simp only[List.zipIdx_cons,List.zipIdx_nil,List.forIn_cons,List.forIn_nil]
  refine wpAny_bind (wpAny_bind (wpAny_onRaise ?_))
  show wpAny _ _ (Builtin.SmallTypes.nextOf (.ref i1) >>= _) _ _ _
  refine wpAny_bind (d1 h1 (fun c o hc e=>s1.extBut _ _ hc e) _ _ fun h2 v2 s2=>wpAny_pure ?_)
  have o2:IsPair h2 TO a b:=s2.extBut _ _ D.a8 (s1.extBut _ _ D.a2 hO)
  refine wpAny_bind (wpAny_seqItems o2 rfl (wpAny_bind (wpAny_updateSeq_pair o2 fun h3 o3 s3=>?_)))
  replace o3:IsPair h3 TO x b:=o3
  refine wpAny_bind (wpAny_letGo (wpAny_pure ?_))
  refine wpAny_bind (wpAny_bind (wpAny_onRaise ?_))
  show wpAny _ _ (Builtin.SmallTypes.nextOf (.ref i2) >>= _) _ _ _
  refine wpAny_bind (d2 h3 (fun c o c1 c2 c3 e=>s3.extBut _ _ c2 (s2.extBut _ _ c3 (s1.extBut _ _ c1 e))) _ _ fun h4 v4 s4=>wpAny_pure ?_)
  have o4:IsPair h4 TO x b:=s4.extBut _ _ D.a9 o3
  refine wpAny_bind (wpAny_seqItems o4 rfl (wpAny_bind (wpAny_updateSeq_pair o4 fun h5 o5 s5=>?_)))
  replace o5:IsPair h5 TO x y:=o5
  refine wpAny_bind (wpAny_letGo (wpAny_pure (wpAny_pure ?_)))
  refine wpAny_bind (wpAny_seqItems o5 rfl (wpAny_bind (wpAny_newTuple ?_)))
  have sz:h5.objs.size=s.heap.objs.size:=by rw[s5.1,s4.1,s3.1,s2.1,s1.1]
  have z5:j_ h5 z TI TO .ellipsis f1:=s5.extBut _ _ D.a2.symm (s4.extBut _ _ D.a4.symm (s3.extBut _ _ D.a2.symm (s2.extBut _ _ D.a3.symm z1)))
  have k5:∀c o,c≠z→c≠TO→c≠i1→c≠i2→s.heap.get? c=some o→h5.get? c=some o:=fun c o c1 c2 c3 c4 e=>s5.extBut _ _ c2 (s4.extBut _ _ c4 (s3.extBut _ _ c2 (s2.extBut _ _ c3 (s1.extBut _ _ c1 e))))
  show wpAny _ _ (Builtin.SmallTypes.ownedTupleHandOut (.ref z) (.ref h5.objs.size) >>= _) _ _ _
  refine wpAny_bind ?_
  unfold Builtin.SmallTypes.ownedTupleHandOut
  have z6:j_ (h5.push { cls:=.type "tuple",data:=.seq #[x,y] }) z TI TO .ellipsis f1:=Heap.get?_push_of_some _ z5
  refine wpAny_bind (wpAny_setField_rec z6 (by simp) fun h7 z7 s7=>?_)
  replace z7:j_ h7 z TI TO (rawInt h5.objs.size) f1:=z7
  refine wpAny_setField_rec z7 (by simp) fun h8 z8 s8=>?_
  replace z8:j_ h8 z TI TO (rawInt h5.objs.size) (.bool false):=z8
  have nz:h5.objs.size≠z:=Nat.ne_of_gt (Heap.lt_size z5)
  have up:∀c o,c≠z→h5.get? c=some o→h8.get? c=some o:=fun c o c1 e=>s8.extBut _ _ c1 (s7.extBut _ _ c1 (Heap.get?_push_of_some _ e))
  have t8:IsPair h8 h5.objs.size x y:=s8.extBut _ _ nz (s7.extBut _ _ nz (Heap.get?_push_size _ rfl))
  rw[sz]at t8
  refine wpAny_pure ⟨_,rfl,?_⟩
  show Q (.ref h5.objs.size) _
  rw[sz]
  refine hQ h8 _ _ _ _ z8 (.inr ⟨_,_,rfl⟩) (up _ _ D.a2 o5) (g1 _ _ v2 fun c o c1 c2 c4 e=>up c o c1 (s5.extBut _ _ c2 (s4.extBut _ _ c4 (s3.extBut _ _ c2 e)))) (g2 _ _ v4 fun c o c1 c2 e=>up c o c1 (s5.extBut _ _ c2 e)) t8 fun c o c1 c2 c3 c4 e=>up c o c1 (k5 c o c1 c2 c3 c4 e)
 ·simp only[Bool.false_eq_true,if_false]
  rw[←Array.forIn_toList]
  simp only[List.forIn_cons,List.forIn_nil]
  refine wpAny_bind (wpAny_bind (wpAny_bind (wpAny_holding ?_)))
  show wpAny _ _ (Builtin.SmallTypes.nextOf (.ref i1) >>= _) _ _ _
  refine wpAny_bind (d1 h0 (fun c o hc e=>s0.extBut _ _ hc e) _ _ fun h1 v1 s1=>wpAny_pure (wpAny_pure ?_))
  refine wpAny_bind (wpAny_bind (wpAny_holding ?_))
  show wpAny _ _ (Builtin.SmallTypes.nextOf (.ref i2) >>= _) _ _ _
  refine wpAny_bind (d2 h1 (fun c o hc _ h1 e=>s1.extBut _ _ h1 (s0.extBut _ _ hc e)) _ _ fun h2 v2 s2=>wpAny_pure (wpAny_pure (wpAny_pure ?_)))
  show wpAny _ _ (newTuple [x,y] >>= _) _ _ _
  have sz:h2.objs.size=s.heap.objs.size:=by rw[s2.1,s1.1,s0.1]
  have z2:j_ h2 z TI TO f0 k1:=s2.extBut _ _ D.a4.symm (s1.extBut _ _ D.a3.symm z0)
  have up:∀c o,h2.get? c=some o→(h2.push { cls:=.type "tuple",data:=.seq #[x,y] }).get? c=some o:=fun c o e=>Heap.get?_push_of_some _ e
  refine wpAny_bind (wpAny_newTuple (wpAny_pure ⟨_,rfl,?_⟩))
  show Q (.ref h2.objs.size) _
  have t8:IsPair (h2.push { cls:=.type "tuple",data:=.seq #[x,y] }) h2.objs.size x y:=Heap.get?_push_size _ rfl
  rw[sz]at t8 ⊢
  exact hQ _ _ _ _ _ (up _ _ z2) hf (up _ _ (s2.extBut _ _ D.a9 (s1.extBut _ _ D.a8 (s0.extBut _ _ D.a2 hO)))) (g1 _ _ v1 fun c o _ _ c4 e=>up _ _ (s2.extBut _ _ c4 e)) (g2 _ _ v2 fun c o _ _ e=>up _ _ e) t8 fun c o c1 _ c3 c4 e=>up _ _ (s2.extBut _ _ c4 (s1.extBut _ _ c3 (s0.extBut _ _ c1 e)))
def De(prog:Program)(w:World)(A:Around)(s:Shared)(i:Addr)(h:Heap):Prop:=
 ∀(Q:Value→Shared→Prop) (E:Value→Shared→Prop),(∀h' e,Heap.ExtBut i h h'→(∃o,h'.get? e=some o∧o.cls= .type "StopIteration")→E (.ref e) { s with heap:=h' })→wpAny (model prog w) A (Builtin.SmallTypes.nextOf (.ref i)) Q E { s with heap:=h }
theorem Hq{Q:Fin→Shared→Prop}(D:Cm z TI TO i1 i2)(hz:j_ s.heap z TI TO f0 f1)(hf:ZF f0)(hI:IsPair s.heap TI (.ref i1) (.ref i2))(hO:IsPair s.heap TO a b)
  (hd:(∀h',(∀c o,c≠z→s.heap.get? c=some o→h'.get? c=some o)→De prog w A s i1 h')∨
   ∃x G1,(∀h',(∀c o,c≠z→s.heap.get? c=some o→h'.get? c=some o)→Dr prog w A s i1 h' x G1)∧∀h',(∀c o,c≠z→c≠TO→c≠i1→s.heap.get? c=some o→h'.get? c=some o)→De prog w A s i2 h')
  (hE:∀h' e,(∀c o,c≠z→c≠TO→c≠i1→c≠i2→s.heap.get? c=some o→h'.get? c=some o)→(∃o,h'.get? e=some o∧o.cls= .type "StopIteration")→E (.ref e) { s with heap:=h' }):
  wpAny (model prog w) A (Builtin.«zip.__next__» ⟨[.ref z],[]⟩) Q E s:=by
 show wpAny _ _ (field (.ref z) 2 >>= _) _ _ _
 refine wpAny_bind (wpAny_field hz rfl (x:=.bool false) rfl ?_)
 show wpAny _ _ (field (.ref z) 3 >>= _) _ _ _
 refine wpAny_bind (wpAny_field hz rfl (x:=.ref TI) rfl ?_)
 refine wpAny_bind (wpAny_seqItems hI rfl ?_)
 show wpAny _ _ (Builtin.SmallTypes.ownedTupleIsFree (.ref z) >>= _) _ _ _
 refine wpAny_bind (EF hz hf ?_ (fun h0 k1 z0 s0=>?_))
 ·simp only[if_true]
  refine wpAny_bind (wpAny_rule ?_)
  refine wpAny_bind (wpAny_field hz rfl (x:=.ref TO) rfl ?_)
  refine wpAny_bind (wpAny_setField_rec hz (by simp) fun h1 z1 s1=>?_)
  replace z1:j_ h1 z TI TO .ellipsis f1:=z1
  refine wpAny_bind ?_
  simp only[List.zipIdx_cons,List.zipIdx_nil,List.forIn_cons,List.forIn_nil]
  refine wpAny_bind (wpAny_bind (wpAny_onRaise ?_))
  show wpAny _ _ (Builtin.SmallTypes.nextOf (.ref i1) >>= _) _ _ _
  rcases hd with e1|⟨x,G1,d1,e2⟩
  ·refine wpAny_bind (e1 h1 (fun c o hc e=>s1.extBut _ _ hc e) _ _ fun h2 e s2 he=>?_)
   obtain⟨oe,g,hc⟩:=he
   have z2:j_ h2 z TI TO .ellipsis f1:=s2 _ _ D.a3.symm z1
   have ez:e≠z:=fun x=>by subst x;rw[z2]at g;cases g;simp at hc
   exact wpAny_setField_rec z2 (by simp) fun h3 _ s3=>hE h3 e (fun c o c1 _ c3 _ x=>s3.extBut _ _ c1 (s2 _ _ c3 (s1.extBut _ _ c1 x))) ⟨oe,s3.extBut _ _ ez g,hc⟩
  ·refine wpAny_bind (d1 h1 (fun c o hc e=>s1.extBut _ _ hc e) _ _ fun h2 v2 s2=>wpAny_pure ?_)
   have o2:IsPair h2 TO a b:=s2.extBut _ _ D.a8 (s1.extBut _ _ D.a2 hO)
   refine wpAny_bind (wpAny_seqItems o2 rfl (wpAny_bind (wpAny_updateSeq_pair o2 fun h3 o3 s3=>?_)))
   refine wpAny_bind (wpAny_letGo (wpAny_pure ?_))
   refine wpAny_bind (wpAny_bind (wpAny_onRaise ?_))
   show wpAny _ _ (Builtin.SmallTypes.nextOf (.ref i2) >>= _) _ _ _
   refine wpAny_bind (e2 h3 (fun c o c1 c2 c3 e=>s3.extBut _ _ c2 (s2.extBut _ _ c3 (s1.extBut _ _ c1 e))) _ _ fun h4 e s4 he=>?_)
   obtain⟨oe,g,hc⟩:=he
   have z4:j_ h4 z TI TO .ellipsis f1:=s4 _ _ D.a4.symm (s3.extBut _ _ D.a2.symm (s2.extBut _ _ D.a3.symm z1))
   have ez:e≠z:=fun x=>by subst x;rw[z4]at g;cases g;simp at hc
   exact wpAny_setField_rec z4 (by simp) fun h5 _ s5=>hE h5 e (fun c o c1 c2 c3 c4 x=>s5.extBut _ _ c1 (s4 _ _ c4 (s3.extBut _ _ c2 (s2.extBut _ _ c3 (s1.extBut _ _ c1 x))))) ⟨oe,s5.extBut _ _ ez g,hc⟩
 ·simp only[Bool.false_eq_true,if_false]
  rw[←Array.forIn_toList]
  simp only[List.forIn_cons,List.forIn_nil]
  refine wpAny_bind (wpAny_bind (wpAny_bind (wpAny_holding ?_)))
  show wpAny _ _ (Builtin.SmallTypes.nextOf (.ref i1) >>= _) _ _ _
  rcases hd with e1|⟨x,G1,d1,e2⟩
  ·exact wpAny_bind (e1 h0 (fun c o hc e=>s0.extBut _ _ hc e) _ _ fun h2 e s2 he=>hE h2 e (fun c o c1 _ c3 _ x=>s2 _ _ c3 (s0.extBut _ _ c1 x)) he)
  ·refine wpAny_bind (d1 h0 (fun c o hc e=>s0.extBut _ _ hc e) _ _ fun h1 v1 s1=>wpAny_pure (wpAny_pure ?_))
   refine wpAny_bind (wpAny_bind (wpAny_holding ?_))
   show wpAny _ _ (Builtin.SmallTypes.nextOf (.ref i2) >>= _) _ _ _
   exact wpAny_bind (e2 h1 (fun c o hc _ h1 e=>s1.extBut _ _ h1 (s0.extBut _ _ hc e)) _ _ fun h2 e s2 he=>hE h2 e (fun c o c1 _ c3 c4 x=>s2 _ _ c4 (s1.extBut _ _ c3 (s0.extBut _ _ c1 x))) he)
theorem EH{G1 G2:Heap→Prop}{Q:Option Value→Shared→Prop}(D:Cm z TI TO i1 i2)(hz:j_ s.heap z TI TO f0 f1)(hf:ZF f0)(hI:IsPair s.heap TI (.ref i1) (.ref i2))(hO:IsPair s.heap TO a b)
  (d1:∀h',(∀c o,c≠z→s.heap.get? c=some o→h'.get? c=some o)→Dr prog w A.in1 s i1 h' x G1)(d2:∀h',(∀c o,c≠z→c≠TO→c≠i1→s.heap.get? c=some o→h'.get? c=some o)→Dr prog w A.in1 s i2 h' y G2)
  (g1:∀h h',G1 h→(∀c o,c≠z→c≠TO→c≠i2→h.get? c=some o→h'.get? c=some o)→G1 h')(g2:∀h h',G2 h→(∀c o,c≠z→c≠TO→h.get? c=some o→h'.get? c=some o)→G2 h')
  (hQ:∀h' k0 k1 p q,j_ h' z TI TO k0 k1→ZF k0→IsPair h' TO p q→G1 h'→G2 h'→IsPair h' s.heap.objs.size x y→(∀c o,c≠z→c≠TO→c≠i1→c≠i2→s.heap.get? c=some o→h'.get? c=some o)→Q (some (.ref s.heap.objs.size)) { s with heap:=h' }):
  wpAny (model prog w) A (pyNext (.ref z)) Q E s:=by
 have hT:s.TypeIs (.ref z) "zip":=⟨_,hz,rfl⟩
 unfold pyNext
 exact wpAny_bind (wpAny_attempt (wpAny_callSpecial?_slot (name:=Str.ofString "__next__") hT F.slot_zip_next (wpAny_call_entry F.slot_zip_next hT F.entry_zip_next
  (EG D hz hf hI hO d1 d2 g1 g2 fun h' k0 k1 p q c1 c2 c3 c4 c5 c6 c7=>wpAny_pure (hQ h' k0 k1 p q c1 c2 c3 c4 c5 c6 c7)) (F.args_zip_next_1 _))))
theorem Hr{Q:Option Value→Shared→Prop}(D:Cm z TI TO i1 i2)(hz:j_ s.heap z TI TO f0 f1)(hf:ZF f0)(hI:IsPair s.heap TI (.ref i1) (.ref i2))(hO:IsPair s.heap TO a b)
  (hd:(∀h',(∀c o,c≠z→s.heap.get? c=some o→h'.get? c=some o)→De prog w A.in1 s i1 h')∨
   ∃x G1,(∀h',(∀c o,c≠z→s.heap.get? c=some o→h'.get? c=some o)→Dr prog w A.in1 s i1 h' x G1)∧∀h',(∀c o,c≠z→c≠TO→c≠i1→s.heap.get? c=some o→h'.get? c=some o)→De prog w A.in1 s i2 h')
  (hQ:∀h',(∀c o,c≠z→c≠TO→c≠i1→c≠i2→s.heap.get? c=some o→h'.get? c=some o)→Q none { s with heap:=h' }):wpAny (model prog w) A (pyNext (.ref z)) Q E s:=by
 have hT:s.TypeIs (.ref z) "zip":=⟨_,hz,rfl⟩
 unfold pyNext
 refine wpAny_bind (wpAny_attempt (wpAny_callSpecial?_slot (name:=Str.ofString "__next__") hT F.slot_zip_next (wpAny_call_entry F.slot_zip_next hT F.entry_zip_next (Hq D hz hf hI hO hd fun h' e hk he=>?_) (F.args_zip_next_1 _))))
 obtain⟨o,ho,hc⟩:=he
 exact wpAny_bind (wpAny_isInstance (T:="StopIteration") (b:=true) ⟨o,ho,hc⟩ isSubtype_stop (wpAny_pure (hQ _ hk)))
end
end PySem
namespace PySem
section
variable{prog:Program}{w:World}{A:Around}{E:Value→Shared→Prop}{s:Shared}{z TI TO:Addr}{f0 f1:Value}
theorem Hs{tg:Expr}{T:Addr}{Q:Unit→Shared→Prop}(hz:j_ s.heap z TI TO f0 f1)(hf:ZF f0)(q:∀h' k0,j_ h' z TI TO k0 f1→ZF k0→Heap.SameBut z s.heap h'→Q () { s with heap:=h' }):
  wpAny (model prog w) A (letOwnedTupleGo tg (.ref z) (.ref T)) Q E s:=by
 have skip:Q () s:=q s.heap f0 hz hf ⟨rfl,fun _ _=>rfl⟩
 have tup:wpAny (model prog w) A (letOwnedTupleGo (.Tuple [] 0 default) (.ref z) (.ref T)) Q E s:=by
  unfold letOwnedTupleGo
  refine wpAny_bind (wpAny_load hz ?_)
  show wpAny _ _ (if (["enumerate","zip","dict_itemiterator","dict_reverseitemiterator","odict_iterator","itertools.zip_longest","itertools.pairwise"].contains "zip"&&(#[f0,f1,.bool false,.ref TI,.ref TO]:Array Value)[0]?==some (rawInt T))=true then _ else _) Q E s
  split
  ·refine wpAny_bind (wpAny_rule ?_)
   show wpAny _ _ (setField (.ref z) 0 .none) Q E s
   exact wpAny_setField_rec hz (by simp) fun h' x_ DX=>q h' _ x_ (.inl rfl) DX
  ·exact wpAny_pure skip
 cases tg<;>first|exact tup|exact wpAny_pure skip
end
end PySem
namespace L2
open PySem PySem.Spec PyProof.Rows
theorem Af{P:Program}{w:World}{K:PySem.W.Frag}{tg:Expr}{J:It}(z TI TO i1 i2:Addr)(D:Cm z TI TO i1 i2)(S1 S2:Nat→Heap→Prop)
  (o1:∀i h,S1 i h→∃o,h.get? i1=some o∧∀v,o.data≠.cell v)(o2:∀i h,S2 i h→∃o,h.get? i2=some o∧∀v,o.data≠.cell v)
  (k1:∀i h h',S1 i h→(∀o,h.get? i1=some o→h'.get? i1=some o)→S1 i h')(k2:∀i h h',S2 i h→(∀o,h.get? i2=some o→h'.get? i2=some o)→S2 i h')
  (go:∀(X:Cx),X.prog=P→X.w=w→X.K=K→X.calm=true→∀(i:Nat) (pins:List (Addr×Obj)) (s:Shared) (σ:St) (H:Hp),Inv X pins σ H s→J.go i H→S1 i s.heap→S2 i s.heap→H s.heap.objs.size=none→∃x y ux uy,RelV x ux∧RelV y uy∧
   (∀h',(∀c o,c≠z→s.heap.get? c=some o→h'.get? c=some o)→Dr P w X.A.in1 s i1 h' ux (S1 (i+1)))∧(∀h',(∀c o,c≠z→c≠TO→c≠i1→s.heap.get? c=some o→h'.get? c=some o)→Dr P w X.A.in1 s i2 h' uy (S2 (i+1)))∧
   J.BK i H (.ref s.heap.objs.size) (upd H s.heap.objs.size (.tup [x,y])))
  (dn:∀(X:Cx),X.prog=P→X.w=w→X.K=K→X.calm=true→∀(i:Nat) (pins:List (Addr×Obj)) (s:Shared) (σ:St) (H:Hp),Inv X pins σ H s→J.stop i H→S1 i s.heap→S2 i s.heap→
   (∀h',(∀c o,c≠z→s.heap.get? c=some o→h'.get? c=some o)→De P w X.A.in1 s i1 h')∨
   ∃x G1,(∀h',(∀c o,c≠z→s.heap.get? c=some o→h'.get? c=some o)→Dr P w X.A.in1 s i1 h' x G1)∧∀h',(∀c o,c≠z→c≠TO→c≠i1→s.heap.get? c=some o→h'.get? c=some o)→De P w X.A.in1 s i2 h'):
  Turn P w K tg J [z,TI,TO,i1,i2] z (fun i h=>(∃f0 f1,j_ h z TI TO f0 f1∧ZF f0)∧IsPair h TI (.ref i1) (.ref i2)∧(∃x y,IsPair h TO x y)∧S1 i h∧S2 i h) where
 mem:=by simp
 obj:=fun i h Z c hc=>by
  obtain⟨⟨f0,f1,hz,_⟩,gI,⟨x,y,gO⟩,j1,j2⟩:=Z
  rcases List.mem_cons.mp hc with rfl|hc
  ·exact⟨_,hz,by simp⟩
  rcases List.mem_cons.mp hc with rfl|hc
  ·exact⟨_,gI,by simp⟩
  rcases List.mem_cons.mp hc with rfl|hc
  ·exact⟨_,gO,by simp⟩
  rcases List.mem_cons.mp hc with rfl|hc
  ·exact o1 _ _ j1
  ·cases List.mem_singleton.mp hc
   exact o2 _ _ j2
 keep:=fun i h h' Z kk=>by
  obtain⟨⟨f0,f1,hz,hf⟩,gI,⟨x,y,gO⟩,j1,j2⟩:=Z
  exact⟨⟨f0,f1,kk _ (by simp) _ hz,hf⟩,kk _ (by simp) _ gI,⟨x,y,kk _ (by simp) _ gO⟩,k1 _ _ _ j1 fun o e=>kk _ (by simp) o e,k2 _ _ _ j2 fun o e=>kk _ (by simp) o e⟩
 item:=fun X hP hw hK hc i pins s σ H E I hf Z hg=>by
  obtain⟨⟨f0,f1,hz,K8⟩,gI,⟨x0,y0,gO⟩,j1,j2⟩:=Z
  have Et:H s.heap.objs.size=none:=I.bt.fresh (Nat.le_refl _)
  obtain⟨x,y,ux,uy,rx,ry,d1,d2,yl⟩:=go X hP hw hK hc i pins s σ H I hg j1 j2 Et
  subst hP hw hK
  have hC:∀c∈[z,TI,TO,i1,i2],c<s.heap.objs.size:=fun c br=>by
   rcases List.mem_cons.mp br with rfl|br
   ·exact Heap.lt_size hz
   rcases List.mem_cons.mp br with rfl|br
   ·exact Heap.lt_size gI
   rcases List.mem_cons.mp br with rfl|br
   ·exact Heap.lt_size gO
   rcases List.mem_cons.mp br with rfl|br
   ·obtain⟨o,e,_⟩:=o1 _ _ j1;exact Heap.lt_size e
   ·cases List.mem_singleton.mp br
    obtain⟨o,e,_⟩:=o2 _ _ j2;exact Heap.lt_size e
  refine EH D hz K8 gI gO d1 d2 (fun h h' g kk=>k1 _ _ _ g fun o e=>kk i1 o D.a3 D.a8.symm D.EE e) (fun h h' g kk=>k2 _ _ _ g fun o e=>kk i2 o D.a4 D.a9.symm e) fun h' m0 m1 p q zr hm U9 U_ Va gT keep=>⟨_,rfl,?_⟩
  refine Hs zr hm fun h2 n0 z2 hn s2=>?_
  have up:∀c o,c≠z→h'.get? c=some o→h2.get? c=some o:=fun c o br e=>s2.extBut _ _ br e
  have Tz:s.heap.objs.size≠z:=Nat.ne_of_gt (hC z (by simp))
  have Vb:=up _ _ Tz gT
  have tI:=keep _ _ D.a1 D.a5 D.a6 D.a7 gI
  have ma:∀c u,c∉[z,TI,TO,i1,i2]→s.heap.get? c=some u→h2.get? c=some u:=fun c u br e=>by
   simp only[List.mem_cons,List.not_mem_nil,or_false,not_or]at br
   exact up c u br.1 (keep c u br.1 br.2.2.1 br.2.2.2.1 br.2.2.2.2 e)
  refine⟨.ref s.heap.objs.size,upd H s.heap.objs.size (.tup [x,y]),I.z9 (t':=s.toks) hf ma (Nat.le_refl _) ⟨by show 2≤sizeLine;decide,[ux,uy],.cons rx (.cons ry .nil),⟨_,Vb,rfl,_,rfl⟩⟩,rfl,yl,⟨⟨_,_,z2,hn⟩,up _ _ D.a1 tI,⟨_,_,up _ _ D.a2 U9⟩,k1 _ _ _ U_ fun o e=>up _ _ D.a3 e,k2 _ _ _ Va fun o e=>up _ _ D.a4 e⟩,fun c br=>?_⟩
  rw[bh (Nat.ne_of_lt (hC c br))]
  exact(hf c br).1
 done:=fun X hP hw hK hc i pins s σ H E I hf Z st=>by
  obtain⟨⟨f0,f1,hz,K8⟩,gI,⟨x0,y0,gO⟩,j1,j2⟩:=Z
  have hd:=dn X hP hw hK hc i pins s σ H I st j1 j2
  subst hP hw hK
  refine Hr D hz K8 gI gO hd fun h' kk=>⟨rfl,I.z_ (t':=s.toks) hf fun c u br e=>?_⟩
  simp only[List.mem_cons,List.not_mem_nil,or_false,not_or]at br
  exact kk c u br.1 br.2.2.1 br.2.2.2.1 br.2.2.2.2 e
 self:=fun A i s Q E Z q=>by
  obtain⟨⟨f0,f1,hz,_⟩,_⟩:=Z
  have hT:s.TypeIs (.ref z) "zip":=⟨_,hz,rfl⟩
  refine wpAny_pyIter_slot hT F.slot_zip_iter (wpAny_call_entry F.slot_zip_iter hT F.entry_zip_iter ?_ (F.args_zip_iter_1 _))
  show wpAny _ _ (ret (.ref z)) _ _ s
  exact wpAny_pure ⟨_,rfl,"zip",_,hT,F.slot_zip_next.lookup,q⟩
end L2
namespace PySem
section
variable{prog:Program}{w:World}{A:Around}{E:Value→Shared→Prop}{s:Shared}
theorem Ht{z TI TO i1 i2 a b:Addr}(D:ZipApart z TI TO i1 i2 a b):Cm z TI TO i1 i2:=⟨D.TIz,D.TOz,D.i1z,D.i2z,D.TITO,D.TIi1,D.TIi2,D.TOi1,D.TOi2,D.i12⟩
end
end PySem
namespace L2
open PySem PySem.Spec PyProof.Rows
theorem Ag{P:Program}{w:World}{K:PySem.W.Frag}{tg:Expr}(z TI TO i1 i2 a b:Addr)(D:ZipApart z TI TO i1 i2 a b):
  Turn P w K tg (EB K a b) [z,TI,TO,i1,i2] z (fun i h=>(∃f0 f1,j_ h z TI TO f0 f1∧ZF f0)∧IsPair h TI (.ref i1) (.ref i2)∧(∃x y,IsPair h TO x y)∧h.IsListIter i1 a i∧h.IsListIter i2 b i):=by
 have ob:∀{i1 a:Addr}{i:Nat}{h:Heap},h.IsListIter i1 a i→∃o,h.get? i1=some o∧∀v,o.data≠.cell v:=fun⟨o,e,_,d⟩=>⟨o,e,by rw[d];simp⟩
 refine Af z TI TO i1 i2 (Ht D) (fun i h=>h.IsListIter i1 a i) (fun i h=>h.IsListIter i2 b i) (fun _ _=>ob) (fun _ _=>ob) (fun _ _ _ j k=>j.at k) (fun _ _ _ j k=>j.at k)
  (fun X hP hw hK hc i pins s σ H I hg j1 j2 hn=>?_) (fun X hP hw hK hc i pins s σ H I hg j1 j2=>?_)
 ·subst hP hw hK
  obtain⟨xs,ys,x,y,jE,pC,hx,hy⟩:=hg
  obtain⟨ia,va,ta,_⟩:=I.list jE
  obtain⟨ib,vb,tb,_⟩:=I.list pC
  obtain⟨ux,Aa,rx⟩:=va.get hx
  obtain⟨uy,K4,ry⟩:=vb.get hy
  refine⟨x,y,ux,uy,rx,ry,fun h' kk Q E q=>?_,fun h' kk Q E q=>?_,⟨_,rfl,hn,fun oK y3 h1 h2=>?_⟩⟩
  ·exact wpAny_nextOf_list_item (s:={ s with heap:=h' }) (j1.at fun o e=>kk i1 o D.i1z e) (ta.isList.at fun o e=>kk a o D.l1z e) (by simpa using Aa) q
  ·exact wpAny_nextOf_list_item (s:={ s with heap:=h' }) (j2.at fun o e=>kk i2 o D.i2z D.TOi2.symm D.i12.symm e) (tb.isList.at fun o e=>kk b o D.l2z D.l2TO D.l2i1 e) (by simpa using K4) q
  ·rw[←I.m9 jE h1,←I.m9 pC h2]
   exact⟨x,y,hx,hy,rfl⟩
 ·subst hP hw hK
  obtain⟨xs,ys,jE,pC,mH⟩:=hg
  obtain⟨ia,va,ta,_⟩:=I.list jE
  obtain⟨ib,vb,tb,_⟩:=I.list pC
  have la:=va.length
  have lb:=vb.length
  have hh:X.A.in1.handled=none:=by simp[I.ok.hd hc]
  by_cases h1:xs.length≤i
  ·exact .inl fun h' kk Q E q=>wpAny_nextOf_list_end (s:={ s with heap:=h' }) hh (j1.at fun o e=>kk i1 o D.i1z e) (ta.isList.at fun o e=>kk a o D.l1z e) (Array.getElem?_eq_none (by simp;omega)) q
  ·obtain⟨ux,Aa,_⟩:=va.get (List.getElem?_eq_getElem (Nat.lt_of_not_le h1))
   refine .inr ⟨ux,fun h=>h.IsListIter i1 a (i+1),fun h' kk Q E q=>?_,fun h' kk Q E q=>?_⟩
   ·exact wpAny_nextOf_list_item (s:={ s with heap:=h' }) (j1.at fun o e=>kk i1 o D.i1z e) (ta.isList.at fun o e=>kk a o D.l1z e) (by simpa using Aa) q
   ·exact wpAny_nextOf_list_end (s:={ s with heap:=h' }) hh (j2.at fun o e=>kk i2 o D.i2z D.TOi2.symm D.i12.symm e) (tb.isList.at fun o e=>kk b o D.l2z D.l2TO D.l2i1 e) (Array.getElem?_eq_none (by simp;omega)) q
section
variable{X:Cx}{e1 e2 tg:Expr}{p1 p2:Pos}{f:Qm.XA}
theorem EI{t:TA}(hg:Gl X "zip")(hm:X.mg "zip" =none)(ha:PA X [e1,e2] t)(iI:starEach [e1,e2] X.env=(false,eval e1 X.env)::starEach [e2] X.env:=by rfl)(iA:(backTo p2 (starEach [e2] X.env)).any (·.1)=false:=by rfl):
  PI X tg (.Call (.Name "zip" p1) [e1,e2] [] p2) (Bf X.K t):=by
 intro pins s σ H R I h
 refine wpAny_Call_Name_kw (iR I hg hm (u:=.type "zip") (by decide +kernel) ?_)
 refine PyProof.Rows.callWith_type1 (bH (ha p2 pins s σ H _ I h) fun us s1 bq=>?_) iI iA
 obtain⟨vs,H1,I1,r1,q1⟩:=bq
 obtain⟨a,b,xs,ys,rfl,yf,Ab,q⟩:=q1
 obtain⟨u1,u2,rfl,ra,rb⟩:=vals2 r1
 cases (show u1=Value.ref a from ra)
 cases (show u2=Value.ref b from rb)
 obtain⟨ia,va,ta,za⟩:=I1.list yf
 obtain⟨ib,vb,tb,zb⟩:=I1.list Ab
 have la:a<s1.heap.objs.size:=by obtain⟨o,ho,_⟩:=ta.isList;exact Heap.lt_size ho
 have lb:b<s1.heap.objs.size:=by obtain⟨o,ho,_⟩:=tb.isList;exact Heap.lt_size ho
 refine call_zip_2 ta.isList tb.isList fun h2 hz gI gO j1 j2 sz up=>?_
 refine wpAny_pyIter_zip hz ?_
 have I2:Inv X pins σ H1 { s1 with heap:=h2 }:=I1.kept (t':=s1.toks) up
 have fr:∀c,s1.heap.objs.size≤c→iz X pins H1 c:=fun c hc=>I1.sr hc (I1.bt.fresh hc)
 have D:=Ci la lb
 refine⟨_,_,_,EB X.K a b,H1,rfl,I2,Ag _ _ _ _ _ a b D,⟨⟨_,_,hz,.inl rfl⟩,gI,⟨_,_,gO⟩,j1,j2⟩,fun c hc=>fr c ?_,q⟩
 simp only[List.mem_cons,List.not_mem_nil,or_false]at hc
 rcases hc with rfl|rfl|rfl|rfl|rfl<;>first|exact Nat.le_refl _|exact Nat.le_add_right _ _
theorem EJ(hg:Gl X "zip")(hm:X.mg "zip" =none)(ha:QA X [e1,e2] f)(iI:starEach [e1,e2] X.env=(false,eval e1 X.env)::starEach [e2] X.env:=by rfl)(iA:(backTo p2 (starEach [e2] X.env)).any (·.1)=false:=by rfl):
  QI X tg (.Call (.Name "zip" p1) [e1,e2] [] p2) (Qm.qB f):=(EI hg hm ha iI iA).imp Cj
end
end L2
namespace L2
open PySem PySem.Spec PyProof.Rows
section
variable{X:Cx}{e1 e2 tg:Expr}{p1 p2:Pos}{f:Qm.XA}
end
end L2
namespace Qm
open PySem
noncomputable section
end
end Qm
namespace Qm
open PySem
noncomputable section
end
end Qm
namespace PySem
open Sem (wp)
section
variable{prog:Program}{w:World}{A:Around}{E:Value→Shared→Prop}{s:Shared}
end
end PySem
namespace L2
open PySem PySem.Spec PyProof.Rows
section
variable{X:Cx}
end
end L2
namespace L2
open PySem PySem.Spec PyProof.Rows
end L2
namespace PySem
open Sem (wp)
open AutoSeq1 (wpAny_loadPart')
end PySem
namespace L2
open PySem PySem.Spec PyProof.Rows
section
variable{X:Cx}
end
end L2
namespace Qm
open PySem
noncomputable section
end
end Qm
namespace L2
open PySem PySem.Spec PyProof.Rows
theorem RA.erase{K:PySem.W.Frag}{ρ:Nat→Addr}{N:Nat}{H:Hp}:∀{ds:List Qm.D}{vs:List V} (n:Nat),RA K ρ N H ds vs→RA K ρ N H (ds.eraseIdx n) (vs.eraseIdx n)
 |_,_,_,.nil=>.nil
 |_,_,0,.cons _ b=>b
 |_,_,n+1,.cons a b=>.cons a (b.erase n)
section
variable{X:Cx}
end
end L2
namespace Qm
open PySem
end Qm
namespace Qm
open PySem
def strsOf:List D→Option (List Str)
 |[]=>some []
 |.str x::ds=>(strsOf ds).map (x::·)
 |_::_=>none
def wH(sep:Str)(a:XE):XE:=fun σ c=>(a σ c).bind fun p=>(bg p.1 p.2).bind fun l=>(strsOf l.2).bind fun xs=>if (xs.map (·.length)).sum+xs.length*sep.length≤1000000 then some (.str (Txt.join sep xs),p.2)else none
end Qm
namespace L2
open PySem PySem.W PySem.Spec PyProof.Rows
def rJoin:V→List V→Hp→VK→Prop:=fun x xs H Q=>∃sep l zs,x= .str sep∧xs=[.ref l]∧H l=some (.lst (zs.map V.str))∧(zs.map (·.length)).sum+zs.length*sep.length≤16777216∧Q (.str (Txt.join sep zs)) H
theorem vz:∀{zs:List Str}{us:List Value},Vals (zs.map V.str) us→StrsAre us zs
 |[],_,r=>by cases r;exact .nil
 |z::zs,_,r=>by
  cases r with
  |cons h t=>
   obtain⟨tk,rfl⟩:=h
   exact .cons z tk (vz t)
section
variable{X:Cx}{e:Expr}{fe:Qm.XE}{sep:Str}{j0:Nat}{p0 apos bR:Pos}
theorem EK:zF X "str.join" rJoin:=by
 intro pins s σ H x xs v us Q I rx r h
 obtain⟨sep,l,zs,rfl,rfl,hl,hz,q⟩:=h
 obtain⟨tk,rfl⟩:=(show ∃tk,v=Value.str sep tk from rx)
 obtain⟨u,rfl,ru⟩:=vals1 r
 cases (show u=Value.ref l from ru)
 obtain⟨_,its,n,va,gl⟩:=(show cP X.prog X.w H s.heap l (.lst (zs.map V.str))from I.bt l _ hl)
 exact join_list (items:=its.toArray) ⟨_,gl,rfl,_,rfl⟩ (by simpa using vz va) hz fun t' k=>⟨.str (Txt.join sep zs),H,I.tok k,⟨t',rfl⟩,q⟩
theorem oh{K:Frag}{ρ:Nat→Addr}{N:Nat}{H:Hp}:∀{ds:List Qm.D}{vs:List V}{xs:List Str},RA K ρ N H ds vs→Qm.strsOf ds=some xs→vs=xs.map V.str
 |[],_,_,r,e=>by cases r;cases e;rfl
 |d::ds,_,xs,r,e=>by
  cases r with
  |cons h t=>
   cases d with
   |str x=>
    unfold Qm.strsOf at e
    cases q:Qm.strsOf ds with
    |none=>rw[q]at e;cases e
    |some ys=>
     rw[q]at e
     cases e
     cases h
     rw[oh t q]
     rfl
   |_=>cases e
theorem EL(he:QE X e fe)(g9:attributeBase (.Constant (.str sep) j0 p0) "join" X.env (eval (.Constant (.str sep) j0 p0) X.env)=eval (.Constant (.str sep) j0 p0) X.env:=by rfl)
  (kB:((backTo bR (starEach [e] X.env)).all (fun x=>!x.1)&&(backToKw bR (keywordEach [] X.env)).all (fun x=>x.1.isSome)
   &&decide ([e].length+([]:List Keyword).length+(if ([]:List Keyword).isEmpty then 0 else 1)<30))=true:=by rfl)
  (eL:(apos.endLine==bR.line)=true:=by rfl)(hs:starEach [e] X.env=(false,eval e X.env)::starEach [] X.env:=by rfl):
  QE X (.Call (.Attribute (.Constant (.str sep) j0 p0) "join" apos) [e] [] bR) (Qm.wH sep fe):=
 (zG PySem.F.plainAttrs_str PySem.F.slot_str_join PySem.F.type_str_join EK m8 (xK he AM hs) g9 kB eL hs rfl).imp fun σ H Q h=>by
 obtain⟨ρ,env,c,d,c',rs,re,e,k⟩:=h
 obtain⟨p,e1,e⟩:=aE e
 obtain⟨l,e2,e⟩:=aE e
 obtain⟨xs,e3,e⟩:=aE e
 split at e
 ·rename_i hz
  cases e
  refine⟨rfl,ρ,env,c,p.1,p.2,rs,re,e1,fun aO v H1 n1 r1=>?_⟩
  obtain⟨_,_,vs,rfl,hl,ra⟩:=n1.rs.bg r1 e2
  rw[oh ra e3]at hl
  exact⟨sep,_,xs,rfl,rfl,hl,by omega,k aO _ H1 n1 (.str _)⟩
 ·cases e
end
end L2
namespace Qm
open PySem
noncomputable section
def nH(g:D→FN)(o:XE)(a:XA):XE:=fun σ c=>(o σ c).bind fun p=>(gw p.1).bind fun _=>(a σ p.2).bind fun q=>g p.1 q.1 q.2
def iD(o:D):FN:=one fun y c=>(gw o).bind fun a=>(gw y).bind fun b=>some (.bl (Txt.startswith a b),c)
def jP(o:D):FN:=one fun y c=>(gw o).bind fun a=>(gw y).bind fun b=>if b.length≠0∧a.length≤100000 then some (.ref c.length,c++[.lst ((Txt.split a b).map .str)])else none
def wI(o:D):FN:=one fun y c=>(gw o).bind fun a=>(gw y).bind fun b=>if b.length≠0∧a.length≤100000 then some (.tup [.str (Txt.partition a b).1,.str (Txt.partition a b).2.1,.str (Txt.partition a b).2.2],c)else none
def Ah:FN:=one fun x c=>(gw x).bind fun a=>if a.length≤cU then some (.int a.length,c)else none
def rh(a b:Str):Bool:=!(Builtin.Str.occurrences b a 0 b.length 1).isEmpty
def EM:G2:=fun x y c=>(gw x).bind fun a=>(gw y).bind fun b=>some (.bl (rh a b),c)
def fD:G2:=fun x y c=>(gw x).bind fun a=>(gw y).bind fun b=>some (.bl (!rh a b),c)
def lx:FN:=one fun x c=>(gw x).bind fun a=>if a.length≤640 then(PySem.intText? a).bind fun n=>some (.int n,c)else none
def qC:FN:=one fun x c=>(qt x).bind fun i=>if i.natAbs<10 ^ 70 then some (.str (toString i),c)else none
def cN(a:Str)(n:Nat):Str:=⟨(List.replicate n a.cps).foldl (·++·) #[]⟩
def fX:G2:=fun x y c=>(gw x).bind fun a=>(qt y).bind fun n=>if 0≤n∧n≤1000∧a.length≤1000 then some (.str (cN a n.toNat),c)else none
def pG(o:XE):XE:=fun σ c=>(o σ c).bind fun p=>(gw p.1).bind fun a=>if a.length≤100000 then some (.str (Txt.slice a (some 1) none),p.2)else none
def pH(e:XE):XT:=fun σ c=>(e σ c).bind fun p=>match p.1 with
 |.str x=>if x.length≤100000 then some (((x.length:Int) != 0),p.2)else none
 |.bl b=>some (b,p.2)
 |.ref n=>(bg (.ref n) p.2).bind fun l=>some (!l.2.isEmpty,p.2)
 |_=>none
def yk(o:D):FN:=fun ds c=>match ds with
 |[]=>(bg o c).bind fun l=>(l.2[l.2.length - 1]?).bind fun d=>some (d,c.set l.1 (.lst l.2.dropLast))
 |_=>none
def rY(a:XE):XI:=fun σ c=>(a σ c).bind fun p=>(gw p.1).bind fun x=>if x.length≤100000∧x.cps.all (·<128)=true then some (⟨x.cps.toList.map fun k=>.str ⟨#[k]⟩,[]⟩,p.2)else none
open Classical in
def ym:G2:=fun x y c=>match x with
 |.bf=>(ck y c).bind fun xs=>(omap (data c 60) xs).bind fun ds=>some (.bl (decide (PyData.none∈ds)),c)
 |_=>none
def nr(sep:Str)(a:XE):XE:=fun σ c=>(a σ c).bind fun p=>(bg p.1 p.2).bind fun l=>(strsOf l.2).bind fun xs=>if JoinOk sep xs.reverse=true then some (.str (Txt.join sep xs.reverse),p.2)else none
end
end Qm
namespace L2
open PySem PySem.Spec PyProof.Rows
theorem dI{d:Qm.D}{a:Str}(h:Qm.gw d=some a):d= .str a:=by
 cases d<;>first|(cases h;rfl)|cases h
section
variable{X:Cx}{e:Expr}{es:List Expr}
theorem tP{name:Str}{id:String}{r:V→List V→Hp→VK→Prop}{g:Qm.D→Qm.FN}{o:Expr}{fo:Qm.XE}{f:Qm.XA}{apos bR:Pos}(slot:Slot "str" name id)(v5:typeOf (.builtin id)=pure (.type "method_descriptor"))(hm:zF X id r)(hl:ya X.K r g)(ho:QE X o fo)(ha:QA X (e::es) f)
  (g9:attributeBase o name X.env (eval o X.env)=eval o X.env:=by rfl)
  (kB:((backTo bR (starEach (e::es) X.env)).all (fun x=>!x.1)&&(backToKw bR (keywordEach [] X.env)).all (fun x=>x.1.isSome)
   &&decide ((e::es).length+([]:List Keyword).length+(if ([]:List Keyword).isEmpty then 0 else 1)<30))=true:=by rfl)
  (eL:(apos.endLine==bR.line)=true:=by rfl)(hs:starEach (e::es) X.env=(false,eval e X.env)::starEach es X.env:=by rfl)(o8:(backTo bR (starEach es X.env)).any (·.1)=false:=by rfl):
  QE X (.Call (.Attribute o name apos) (e::es) [] bR) (Qm.nH g fo f):=(zG PySem.F.plainAttrs_str slot v5 hm ho ha g9 kB eL hs o8).imp <| by
 rintro σ H Q ⟨ρ,env,c,d,c',rs,re,e,k⟩
 obtain⟨p,e1,e⟩:=aE e
 obtain⟨z,e2,e⟩:=aE e
 obtain⟨q,e3,e⟩:=aE e
 refine⟨ρ,env,c,p.1,p.2,rs,re,e1,fun aO v H1 n1 r1=>⟨?_,aO,env,p.2,q.1,q.2,n1.rs,re.up n1.up,e3,fun jh vs H2 n2 r2=>
  hl jh q.2 H2 p.1 q.1 d c' v vs Q n2.rs (r1.up n2.up) r2 e fun aV w H' n r=>k aV w H' (n1.trans (n2.trans n)) r⟩⟩
 rw[dI e2]at r1
 cases r1.eP
 rfl
def yn:V→List V→Hp→VK→Prop:=fun x vs H Q=>∃a b,x= .str a∧vs=[.str b]∧Q (.bl (Txt.startswith a b)) H
theorem tQ:zF X "str.startswith" yn:=by
 intro pins s σ H x vs v us Q I rx rv h
 obtain⟨a,b,rfl,rfl,q⟩:=h
 obtain⟨t,rfl⟩:=(show ∃t,v=Value.str a t from rx)
 obtain⟨u,rfl,t',rfl⟩:=vals1 rv
 exact SC.startswith ⟨.bl _,H,I,rfl,q⟩
theorem tR{K:PySem.W.Frag}:ya K yn Qm.iD:=by
 intro ρ c H x ds d c' v vs Q rs rx ra e k
 unfold Qm.iD Qm.one at e
 split at e
 ·obtain⟨a,e1,e⟩:=aE e
  obtain⟨b,e2,e⟩:=aE e
  cases e
  obtain⟨u,rfl,ry⟩:=ra.jg
  rw[dI e1]at rx
  rw[dI e2]at ry
  cases rx.eP;cases ry.eP
  exact⟨a,b,rfl,rfl,k ρ _ _ (Nx.refl rs) (.bl _)⟩
 ·cases e
theorem mJ:∀(zs:List Str) (k:Nat),Vals (zs.map V.str) (strsFrom k zs)
 |[],_=>.nil
 |z::zs,k=>.cons ⟨k,rfl⟩ (mJ zs (k+1))
theorem Ai(x y:Str):(Builtin.Str.partsBetween x (Builtin.Str.occurrences x y 0 x.length (x.length+1)) y.length).length≤x.length+2:=by
 have h1:=StrLaws.occ_length_le x y 0 x.length (x.length+1)
 have:(Builtin.Str.partsBetween x (Builtin.Str.occurrences x y 0 x.length (x.length+1)) y.length).length=(Builtin.Str.occurrences x y 0 x.length (x.length+1)).length+1:=by
  simp[Builtin.Str.partsBetween]
 omega
def Bg:V→List V→Hp→VK→Prop:=fun x vs H Q=>∃a b,x= .str a∧vs=[.str b]∧b.length≠0∧a.length≤100000∧∀l,H l=none→Q (.ref l) (upd H l (.lst ((Txt.split a b).map V.str)))
theorem vA:zF X "str.split" Bg:=by
 intro pins s σ H x vs v us Q I rx rv h
 obtain⟨a,b,rfl,rfl,hb,ha,q⟩:=h
 obtain⟨t,rfl⟩:=(show ∃t,v=Value.str a t from rx)
 obtain⟨u,rfl,t',rfl⟩:=vals1 rv
 have hy:(b.length==0)=false:=by simpa using hb
 have fin:∀(its:List Value) (zs:List Str) (k:Nat),Vals (zs.map V.str) its→zs.length≤200000→Txt.split a b=zs→EP X pins σ Q (.ref s.heap.objs.size) { s with heap:=s.heap.push { cls:=.type "list",data:=.seq its.toArray },toks:=k }:=fun its zs k hv hl e=>by
  refine⟨.ref s.heap.objs.size,_,I.laid (a:=s.heap.objs.size) (o:=.lst (zs.map V.str)) (t':=k) (fun _ _ e=>Heap.get?_push_of_some _ e) (Nat.le_refl _) ⟨by rw[List.length_map,sizeLine_eq];omega,its,0,hv,Heap.get?_push_size _ rfl⟩,rfl,?_⟩
  have:=q s.heap.objs.size (I.bt.fresh (Nat.le_refl _))
  rw[e]at this
  exact this
 have sz:a.length≤sizeLine:=by rw[sizeLine_eq];omega
 cases h1:(decide (a.length<b.length)||decide (Builtin.Str.strKind a<Builtin.Str.strKind b))
 ·cases hf:(Builtin.Str.occurrences a b 0 a.length (a.length+1)).isEmpty
  ·have pl:=Ai a b
   refine call_meets F.slot_str_split (typeIs_str _ _ _) F.entry_str_split (F.args_str_split_2 _ _) (meets_str_split_sep a b t t' h1 hy hf sz (by rw[sizeLine_eq];omega)) ?_
   refine fin _ _ _ (mJ _ _) (by omega) ?_
   unfold Txt.split
   rw[if_neg (by simp[h1]),if_neg (by simp[hf])]
  ·refine call_meets F.slot_str_split (typeIs_str _ _ _) F.entry_str_split (F.args_str_split_2 _ _) (meets_str_split_not_found a b t t' h1 hy hf) ?_
   refine fin _ [a] _ (.cons ⟨t,rfl⟩ .nil) (by simp) ?_
   unfold Txt.split
   rw[if_neg (by simp[h1]),if_pos hf]
 ·refine call_meets F.slot_str_split (typeIs_str _ _ _) F.entry_str_split (F.args_str_split_2 _ _) (meets_str_split_cannot_occur a b t t' h1) ?_
  refine fin _ [a] _ (.cons ⟨t,rfl⟩ .nil) (by simp) ?_
  unfold Txt.split
  rw[if_pos h1]
theorem tS{K:PySem.W.Frag}{ρ:Nat→Addr}{N:Nat}{H:Hp}:∀(zs:List Str),RA K ρ N H (zs.map Qm.D.str) (zs.map V.str)
 |[]=>.nil
 |z::zs=>.cons (.str z) (tS zs)
theorem vB{K:PySem.W.Frag}:ya K Bg Qm.jP:=by
 intro ρ c H x ds d c' v vs Q rs rx ra e k
 unfold Qm.jP Qm.one at e
 split at e
 ·obtain⟨a,e1,e⟩:=aE e
  obtain⟨b,e2,e⟩:=aE e
  split at e
  ·rename_i hz
   cases e
   obtain⟨u,rfl,ry⟩:=ra.jg
   rw[dI e1]at rx
   rw[dI e2]at ry
   cases rx.eP;cases ry.eP
   refine⟨a,b,rfl,rfl,hz.1,hz.2,fun l hl=>?_⟩
   obtain⟨n,r⟩:=Nx.alloc rs hl (tS (Txt.split a b))
   exact k _ _ _ n r
  ·cases e
 ·cases e
end
end L2
namespace L2
open PySem PySem.Spec PyProof.Rows
section
variable{X:Cx}{e:Expr}{es:List Expr}
def Bh:V→List V→Hp→VK→Prop:=fun x vs H Q=>∃a b,x= .str a∧vs=[.str b]∧b.length≠0∧a.length≤100000∧∀l,H l=none→Q (.ref l) (upd H l (.tup [.str (Txt.partition a b).1,.str (Txt.partition a b).2.1,.str (Txt.partition a b).2.2]))
theorem Cn:zF X "str.partition" Bh:=by
 intro pins s σ H x vs v us Q I rx rv h
 obtain⟨a,b,rfl,rfl,hb,ha,q⟩:=h
 obtain⟨t,rfl⟩:=(show ∃t,v=Value.str a t from rx)
 obtain⟨u,rfl,t',rfl⟩:=vals1 rv
 have fin:∀(p q' r:Str) (t1 t2 t3:Tok) (k:Nat),Txt.partition a b=(p,q',r)→EP X pins σ Q (.ref s.heap.objs.size) { s with heap:=s.heap.push { cls:=.type "tuple",data:=.seq [.str p t1,.str q' t2,.str r t3].toArray },toks:=k }:=fun p q' r t1 t2 t3 k e=>by
  refine⟨.ref s.heap.objs.size,_,I.laid (a:=s.heap.objs.size) (o:=.tup [.str p,.str q',.str r]) (t':=k) (fun _ _ e=>Heap.get?_push_of_some _ e) (Nat.le_refl _) ⟨by simp only[List.length_cons,List.length_nil];rw[sizeLine_eq];decide,[.str p t1,.str q' t2,.str r t3],.cons ⟨t1,rfl⟩ (.cons ⟨t2,rfl⟩ (.cons ⟨t3,rfl⟩ .nil)),?_⟩,rfl,?_⟩
  ·exact⟨_,Heap.get?_push_size _ rfl,rfl,0,rfl⟩
  ·have:=q s.heap.objs.size (I.bt.fresh (Nat.le_refl _))
   rw[e]at this
   exact this
 refine call_meets F.slot_str_partition (typeIs_str _ _ _) F.entry_str_partition (F.args_str_partition_2 _ _) (meets_str_partition a b t t' (by simpa using hb) (by rw[sizeLine_eq];omega)) ?_
 cases ho:Builtin.Str.occurrences a b 0 a.length 1 with
 |nil=>exact fin a Str.empty Str.empty _ _ _ _ (by unfold Txt.partition;rw[ho])
 |cons i r=>exact fin _ b _ _ _ _ _ (by unfold Txt.partition;rw[ho])
theorem Co{K:PySem.W.Frag}:ya K Bh Qm.wI:=by
 intro ρ c H x ds d c' v vs Q rs rx ra e k
 unfold Qm.wI Qm.one at e
 split at e
 ·obtain⟨a,e1,e⟩:=aE e
  obtain⟨b,e2,e⟩:=aE e
  split at e
  ·rename_i hz
   cases e
   obtain⟨u,rfl,ry⟩:=ra.jg
   rw[dI e1]at rx
   rw[dI e2]at ry
   cases rx.eP;cases ry.eP
   refine⟨a,b,rfl,rfl,hz.1,hz.2,fun l hl=>?_⟩
   have n:=Nx.same rs (g_ (z:=.tup [V.str (Txt.partition a b).1,.str (Txt.partition a b).2.1,.str (Txt.partition a b).2.2]) hl)
   exact k ρ _ _ n (.tup cy (.cons (.str _) (.cons (.str _) (.cons (.str _) .nil))))
  ·cases e
 ·cases e
theorem EN{K:PySem.W.Frag}:qv K (fun xs H Q=>∃z,xs=[.str z]∧z.length≤sizeLine∧Q (.int z.length) H) Qm.Ah:=by
 intro ρ c H ds d c' vs Q rs ra e k
 obtain⟨x,rfl,e⟩:=jL e
 obtain⟨v,rfl,rx⟩:=ra.jg
 obtain⟨a,e1,e⟩:=aE e
 split at e
 ·rename_i hz
  cases e
  rw[dI e1]at rx
  cases rx.eP
  exact⟨a,rfl,jf hz,k ρ _ _ (Nx.refl rs) (.int _)⟩
 ·cases e
theorem Hu{K:PySem.W.Frag}:eW K (fun x y H Q=>∃i j,x= .str i∧y= .str j∧Q (.bl (!(Builtin.Str.occurrences j i 0 j.length 1).isEmpty)) H) Qm.EM:=by
 intro ρ c H x y d c' v u Q rs rx ry e k
 obtain⟨a,e1,e⟩:=aE e
 obtain⟨b,e2,e⟩:=aE e
 cases e
 rw[dI e1]at rx
 rw[dI e2]at ry
 cases rx.eP;cases ry.eP
 exact⟨a,b,rfl,rfl,k ρ _ _ (Nx.refl rs) (.bl _)⟩
theorem tT{K:PySem.W.Frag}:eW K (fun x y H Q=>∃i j,x= .str i∧y= .str j∧Q (.bl (!(!(Builtin.Str.occurrences j i 0 j.length 1).isEmpty))) H) Qm.fD:=by
 intro ρ c H x y d c' v u Q rs rx ry e k
 obtain⟨a,e1,e⟩:=aE e
 obtain⟨b,e2,e⟩:=aE e
 cases e
 rw[dI e1]at rx
 rw[dI e2]at ry
 cases rx.eP;cases ry.eP
 exact⟨a,b,rfl,rfl,k ρ _ _ (Nx.refl rs) (.bl _)⟩
theorem ly:gy X (.type "int") (fun xs H Q=>∃z n,xs=[.str z]∧z.length≤640∧PySem.intText? z=some n∧Q (.int n) H):=by
 intro pins s σ H xs us Q I r h
 obtain⟨z,n,rfl,hl,hn,q⟩:=h
 obtain⟨u,rfl,t,rfl⟩:=vals1 r
 exact PySem.W.KIN.call_text hn hl ⟨.int n,H,I.tok _,⟨_,rfl⟩,q⟩
theorem pI{K:PySem.W.Frag}:qv K (fun xs H Q=>∃z n,xs=[.str z]∧z.length≤640∧PySem.intText? z=some n∧Q (.int n) H) Qm.lx:=by
 intro ρ c H ds d c' vs Q rs ra e k
 obtain⟨x,rfl,e⟩:=jL e
 obtain⟨v,rfl,rx⟩:=ra.jg
 obtain⟨a,e1,e⟩:=aE e
 split at e
 ·rename_i hz
  obtain⟨n,e2,e⟩:=aE e
  cases e
  rw[dI e1]at rx
  cases rx.eP
  exact⟨a,n,rfl,hz,e2,k ρ _ _ (Nx.refl rs) (.int _)⟩
 ·cases e
theorem pJ{K:PySem.W.Frag}:qv K (fun xs H Q=>∃i:Int,xs=[.int i]∧i.natAbs.log2<1920∧Q (.str (toString i)) H) Qm.qC:=by
 intro ρ c H ds d c' vs Q rs ra e k
 obtain⟨x,rfl,e⟩:=jL e
 obtain⟨v,rfl,rx⟩:=ra.jg
 obtain⟨i,e1,e⟩:=aE e
 split at e
 ·rename_i hz
  cases e
  cases x<;>cases e1
  cases rx.fv
  refine⟨i,rfl,?_,k ρ _ _ (Nx.refl rs) (.str _)⟩
  have:i.natAbs<2 ^ 240:=Nat.lt_trans hz (by decide)
  by_cases h0:i.natAbs=0
  ·rw[h0];decide
  ·have:=(Nat.log2_lt h0).mpr this
   omega
 ·cases e
end
end L2
namespace L2
open PySem PySem.Spec PyProof.Rows
section
variable{X:Cx}{e:Expr}{es:List Expr}
theorem yp(a:Str)(n:Nat):(Qm.cN a n).length=n*a.length:=by
 unfold Qm.cN
 have:∀(n:Nat) (acc:Array Nat),((List.replicate n a.cps).foldl (·++·) acc).size=acc.size+n*a.cps.size:=by
  intro n
  induction n with
  |zero=>intro acc;simp
  |succ n ih=>intro acc;rw[List.replicate_succ,List.foldl_cons,ih,Array.size_append,Nat.succ_mul];omega
 have h:=this n #[]
 show((List.replicate n a.cps).foldl (·++·) #[]).size=n*a.cps.size
 simpa using h
def EO:R2:=fun x y H Q=>∃(a:Str) (n:Int),x= .str a∧y= .int n∧0≤n∧n≤1000∧a.length≤1000∧Q (.str (Qm.cN a n.toNat)) H
theorem kH:dr X (binaryOp .Mult) EO:=by
 intro pins s σ H x y v u Q I rx ry h
 obtain⟨a,n,rfl,rfl,h0,h1,ha,q⟩:=h
 obtain⟨t,rfl⟩:=(show ∃t,v=Value.str a t from rx)
 obtain⟨t',rfl⟩:=(show ∃t,u=Value.int n t from ry)
 have hz:a.length*n.toNat≤1000000:=Nat.le_trans (Nat.mul_le_mul ha (show n.toNat≤1000 by omega)) (by decide)
 refine P.mul_str (by simp;omega) (fun hn _=>?_) (fun _ _=>?_) ?_
 ·have:(a.length:Int)≤1000:=by omega
  have h2:(2 ^ 63 - 1:Int) / n≥9223372036854775:=by
   refine Int.le_ediv_of_mul_le (by omega) ?_
   have: 9223372036854775*n≤9223372036854775*1000:=Int.mul_le_mul_of_nonneg_left h1 (by decide)
   omega
  omega
 ·unfold Builtin.Str.tooLong
  rw[sizeLine_eq]
  exact decide_eq_false (by omega)
 ·by_cases hn:n<1
  ·rw[if_pos hn]
   have:n=0:=by omega
   subst this
   exact⟨by decide,.str Str.empty,H,I.tok _,⟨_,rfl⟩,q⟩
  ·rw[if_neg hn]
   by_cases hs:(n==1||a.length==0)=true
   ·rw[if_pos hs]
    have e:Qm.cN a n.toNat=a:=by
     rcases Bool.or_eq_true_iff.mp hs with h|h
     ·have:n=1:=by simpa using h
      subst this
      show(⟨#[]++a.cps⟩:Str)=a
      simp
     ·have h0:a.length=0:=by simpa using h
      have l:=yp a n.toNat
      have YC:a.cps= #[]:=Array.eq_empty_of_size_eq_zero h0
      have O8:(Qm.cN a n.toNat).cps= #[]:=Array.eq_empty_of_size_eq_zero (by show(Qm.cN a n.toNat).length=0;rw[l,h0];simp)
      cases a;cases hq:Qm.cN _ n.toNat
      simp_all
    rw[e]at q
    exact⟨.str a,H,I,⟨_,rfl⟩,q⟩
   ·rw[if_neg hs]
    refine⟨?_,.str _,H,I.tok _,⟨_,rfl⟩,q⟩
    have l:=yp a n.toNat
    show(Qm.cN a n.toNat).length≤sizeLine
    rw[l,sizeLine_eq,Nat.mul_comm]
    omega
theorem kI{K:PySem.W.Frag}:eW K EO Qm.fX:=by
 intro ρ c H x y d c' v u Q rs rx ry e k
 obtain⟨a,e1,e⟩:=aE e
 obtain⟨n,e2,e⟩:=aE e
 split at e
 ·rename_i hz
  cases e
  rw[dI e1]at rx
  cases y<;>cases e2
  cases rx.eP;cases ry.fv
  exact⟨a,n,rfl,rfl,hz.1,hz.2.1,hz.2.2,k ρ _ _ (Nx.refl rs) (.str _)⟩
 ·cases e
theorem wJ{fe:Qm.XE}(h:QE X e fe)(he:∀whole,isTrue e X.env whole=(do let v ←whole;standAt e.pos;holding [v] (truthy v)):=by intro _;rfl):QT X e (Qm.pH fe):=(BM h he).imp <| by
 rintro σ H Q ⟨ρ,env,c,b,c',rs,re,e,k⟩
 obtain⟨p,e1,e⟩:=aE e
 refine⟨ρ,env,c,p.1,p.2,rs,re,e1,fun aO v H1 n1 r1=>?_⟩
 obtain⟨d,c2⟩:=p
 dsimp only at e r1
 split at e
 ·rename_i x
  split at e
  ·rename_i hz
   cases e
   cases r1.eP
   exact⟨_,⟨by rw[sizeLine_eq];omega,rfl⟩,k aO H1 n1⟩
  ·cases e
 ·cases e
  cases r1.rJ
  exact⟨_,rfl,k aO H1 n1⟩
 ·rename_i n
  obtain⟨l,e2,e⟩:=aE e
  cases e
  obtain⟨_,hc,ws,rfl,h1,a1⟩:=n1.rs.bg r1 e2
  refine⟨_,.inl ⟨ws,cb.of h1,rfl⟩,?_⟩
  have:(!ws.isEmpty)= !l.2.isEmpty:=by
   have:=a1.length
   cases hw:ws<;>cases hl:l.2<;>simp_all
  rw[this]
  exact k aO H1 n1
 ·cases e
theorem Hv{K:PySem.W.Frag}:ya K Jf Qm.yk:=by
 intro ρ c H x ds d c' v vs Q rs rx ra e k
 unfold Qm.yk at e
 split at e
 ·obtain⟨l,e1,e⟩:=aE e
  obtain⟨d',e2,e⟩:=aE e
  cases e
  obtain⟨_,hn,ws,rfl,h,a⟩:=rs.bg rx e1
  have hl:=a.length
  obtain⟨y,hy,ry⟩:=a.get e2
  have ad:RA K ρ c.length H l.2.dropLast ws.dropLast:=by
   rw[←mx,←mx,hl]
   exact a.erase _
  have n:=Nx.put rs hn ad
  cases ra
  exact⟨_,ws,y,rfl,rfl,h,by rw[←hl];exact hy,k ρ _ _ n (ry.up n.up)⟩
 ·cases e
end
end L2
namespace L2
open PySem PySem.Spec PyProof.Rows
def K9(x:Str):It:=⟨fun i _=>i<x.length,fun i H v H'=>H'=H∧∃c,x.cps[i]? =some c∧v= .str ⟨#[c]⟩,fun i _=>x.length≤i⟩
theorem Cp{P:Program}{w:World}{K:PySem.W.Frag}{tg:Expr}(it:Addr)(x:Str)(t:Tok):Turn P w K tg (K9 x) [it] it (fun i h=>h.IsStrIter it "str_ascii_iterator" x t i) where
 mem:=by simp
 obj:=fun i h st b hb=>by
  have e:b=it:=by simpa using hb
  subst e
  obtain⟨o,e,c,d⟩:=st
  exact⟨o,e,fun v z=>by rw[d]at z;cases z⟩
 keep:=fun i h h' st k=>by
  obtain⟨o,e,c,d⟩:=st
  exact⟨o,k it (by simp) o e,c,d⟩
 item:=by
  intro X hP hw hK hc i pins s σ H E I hf st hg
  subst hP hw hK
  obtain⟨f0,f1,f2,f3,f4,f5⟩:=hf it (by simp)
  have W:=Walks.strAscii (prog:=X.prog) (w:=X.w) (I.ok.hd hc) it x t
  refine W.item i s _ _ hg st fun v h' tk hv xD kk=>?_
  obtain⟨c,u,Vc,rfl⟩:=hv
  have I1:Inv X pins σ H { s with heap:=h',toks:=tk }:=I.turned (fun b o hb e=>kk b o (by simpa using hb) e) f0 f1 f3 f4 f5
  obtain⟨o,e,cl,d⟩:=id xD
  exact⟨_,rfl,vY (s:={ s with heap:=h',toks:=tk }) (n:="str_ascii_iterator") e cl d (by decide) ⟨.str ⟨#[c]⟩,H,I1,⟨u,rfl⟩,⟨rfl,c,Vc,rfl⟩,xD,fun b hb=>(hf b hb).1⟩⟩
 done:=by
  intro X hP hw hK hc i pins s σ H E I hf st hg
  subst hP hw hK
  obtain⟨f0,f1,f2,f3,f4,f5⟩:=hf it (by simp)
  exact wpAny_pyNext_ascii_end (I.ok.hd hc) st (Array.getElem?_eq_none (show x.cps.size≤i from hg)) fun h' eb=>⟨rfl,I.turned (t':=s.toks) (fun b o hb e=>eb b o hb e) f0 f1 f3 f4 f5⟩
 self:=fun _ _ _ _ _ st h=>wpAny_pyIter_striter_ascii st h
section
variable{X:Cx}{tg e:Expr}{fe:Qm.XE}
def O9(tl:TE):TI:=fun σ H R=>tl σ H fun v H1=>∃x:Str,v= .str x∧x.cps.all (·<128)=true∧R (K9 x) H1
theorem Hw{l:Expr}{tl:TE}(hl:PE X l tl):PI X tg l (O9 tl):=by
 intro pins s σ H R I h
 refine bH (hl pins s σ H _ I h) fun v s1 bq=>?_
 obtain⟨y,H1,I1,r1,q1⟩:=bq
 obtain⟨x,e,ha,q⟩:=q1
 subst e
 obtain⟨t,rfl⟩:=(show ∃t,v=Value.str x t from r1)
 refine wpAny_pyIter_ascii ha ?_
 refine⟨s1.heap.objs.size,[s1.heap.objs.size],_,_,H1,rfl,I1.kept (t':=s1.toks) fun b o e=>Heap.get?_push_of_some _ e,Cp _ x t,⟨_,Heap.get?_push_size _ rfl,rfl,rfl⟩,fun b hb=>?_,q⟩
 have e:b=s1.heap.objs.size:=by simpa using hb
 subst e
 exact I1.sr (Nat.le_refl _) (I1.bt.fresh (Nat.le_refl _))
theorem Cq(h:QE X e fe):QI X tg e (Qm.rY fe):=(Hw h).imp <| by
 rintro σ H R ⟨ρ,env,c,m,c',rs,re,e,k⟩
 obtain⟨p,e1,e⟩:=aE e
 obtain⟨x,e2,e⟩:=aE e
 split at e
 ·rename_i hz
  cases e
  refine⟨ρ,env,c,p.1,p.2,rs,re,e1,fun aO v H1 n1 r1=>?_⟩
  rw[dI e2]at r1
  cases r1.eP
  refine⟨x,rfl,hz.2,k aO _ H1 n1 fun jh c2 H2 u2 qy _=>?_⟩
  refine⟨fun i hi=>(show i<x.cps.size by simpa using hi),by simp[K9,Str.length],fun i d v H' hd hy=>?_⟩
  obtain⟨rfl,c,hc,rfl⟩:=hy
  rw[List.getElem?_map,Array.getElem?_toList,hc]at hd
  cases hd
  exact⟨Nx.refl qy,.str _⟩
 ·cases e
end
end L2
namespace L2
open PySem PySem.Spec PyProof.Rows
section
variable{X:Cx}{pins:List (Addr×Obj)}{σ:St}{H:Hp}{s:Shared}
theorem vC{M:Model}{A:Around}{E:Value→Shared→Prop}{i:Nat}{x:Str}{v:V}{u:Value}{Q:Unit→Shared→Prop}(I:Inv X pins σ H s)(hN:X.N.Nodup)(hi:X.N[i]? =some x)(hk:X.env.scope.names.lookup x=some .local)(r:RelV v u)
  (h:∀h',Inv X pins (σ.set i (some v)) H { s with heap:=h',toks:=s.toks+1 }→(∃m,h'.Ns X.env.locals m∧m x=some u)→Heap.SameBut X.env.locals s.heap h'→Q () { s with heap:=h',toks:=s.toks+1 }):wpAny M A (storeName X.env x u) Q E s:=by
 obtain⟨m,hn,hl⟩:=id I.loc
 have CZ:(X.env.scope.kind==.class||(X.env.scope.kind==.module&&X.env.locals != X.env.globals))=false:=by rw[I.ok.kind];rfl
 have AH:i<σ.length:=by rw[I.len];exact(List.getElem?_eq_some_iff.mp hi).1
 have sj:=I.sj
 have tracked:∀{a:Addr}{h':Heap},(∃o,s.heap.get? a=some o∧H a=none)→Heap.SameBut a s.heap h'→gx X.prog X.w H h':=fun {a h'} ha hs b ob e=>by
  obtain⟨_,_,kO⟩:=ha
  refine(I.bt b ob e).qT (fun c w' hc q=>(hs.2 c ?_).trans q) (fun _ q=>q) fun _ _ q=>q
  rintro rfl
  rcases hc with rfl|hc
  ·rw[kO]at e;cases e
  ·rw[kO]at hc;cases hc
 refine wpAny_storeName_local hk hn (fun h' FZ hs=>?_) CZ
 obtain⟨oL,_,_,JR,_⟩:=id hn
 refine h h' ⟨I.ok,I.os,I.bare,⟨fun b o e n hb hx=>?_,fun b o e n hb hx=>?_,I.base.free,fun b o e hx=>?_,I.base.oN,I.base.md,I.base.oO⟩,⟨_,FZ,fun j y v' e1 e2 e3=>?_⟩,fun y c e=>?_,I.free,I.j6,fun p hp=>?_,tracked ⟨oL,JR,I.free⟩ hs,by simpa using I.len⟩ ⟨_,FZ,by simp⟩ hs
 ·exact(hs.2 b (Nat.ne_of_lt (Nat.lt_of_lt_of_le (Heap.lt_size e) I.ok.above))).trans (I.base.keep b o e n hb hx)
 ·obtain⟨sl,e1⟩:=I.base.slot b o e n hb hx
  exact⟨sl,(hs.2 b (Nat.ne_of_lt (Nat.lt_of_lt_of_le (Heap.lt_size e) I.ok.above))).trans e1⟩
 ·obtain⟨o',e1⟩:=I.base.there b o e hx
  exact⟨o',(hs.2 b (Nat.ne_of_lt (Nat.lt_of_lt_of_le (Heap.lt_size e) I.ok.above))).trans e1⟩
 ·by_cases hj:j=i
  ·subst hj
   rw[hi]at e1;cases e1
   rw[List.getElem?_set_self AH]at e2
   cases e2
   exact⟨u,r,.inl ⟨hk,by simp⟩⟩
  ·rw[List.getElem?_set_ne (Ne.symm hj)]at e2
   obtain⟨u',r',q⟩:=hl j y v' e1 e2 e3
   refine⟨u',r',?_⟩
   rcases q with⟨k,e⟩|⟨k,c,e,z⟩
   ·refine .inl ⟨k,?_⟩
    have:y≠x:=fun e=>hj (qk hN e1 (e ▸ hi))
    simp[this,e]
   ·exact .inr ⟨k,c,e,z.sameBut hs (sj y c e)⟩
 ·obtain⟨w',z⟩:=I.cell y c e
  exact⟨w',z.sameBut hs (sj y c e)⟩
 ·obtain⟨e,n,ne,nf,d⟩:=I.pin p hp
  exact⟨(hs.2 p.1 ne).trans e,n,ne,nf,d⟩
end
end L2
namespace L2
open PySem PySem.Spec PyProof.Rows
def ER(x:Str)(c:Nat):Str:=Txt.replace x ⟨#[c]⟩ (Str.ofString " "++⟨#[c]⟩++Str.ofString " ")
def Hx:List Nat→Str→Prop
 |[],_=>True
 |c::r,x=>x.length≤100000∧Hx r (ER x c)
def ES(i j:Nat):List Nat→St→Str→St
 |[],σ,_=>σ
 |c::r,σ,x=>ES i j r ((σ.set j (some (.str ⟨#[c]⟩))).set i (some (.str (ER x c)))) (ER x c)
def yq(i j:Nat)(w:Str):TS:=fun D σ H=>∃x,σ[i]? =some (some (.str x))∧Hx w.cps.toList x∧D.nx (ES i j w.cps.toList σ x) H
theorem eQ(x y:Str):(x++y).length=x.length+y.length:=by
 show(x.cps++y.cps).size=_
 rw[Array.size_append]
 rfl
section
variable{X:Cx}
theorem Bi{A:Around}{E:Value→Shared→Prop}{s:Shared}{x y:Str}{t u:Tok}{Q:Value→Shared→Prop}(hx:x.length≠0)(hy:y.length≠0)(hz:x.length+y.length≤1000)(h:Q (.str (x++y) s.toks) { s with toks:=s.toks+1 }):
  wpAny (model X.prog X.w) A (binaryOp .Add (.str x t) (.str y u)) Q E s:=by
 refine PySem.P.add_str ?_
 rw[if_neg (by simpa using hx),if_neg (by simpa using hy)]
 exact⟨by rw[eQ,sizeLine_eq];omega,h⟩
theorem yr{A:Around}{E:Value→Shared→Prop}{s:Shared}{x y z:Str}{t u v:Tok}{Q:Value→Shared→Prop}(hu:u≠0)(hv:v≠0)(Vd:u≠v)(K_:(y==z)=false)(hy:y.length≠0)(hb:x.length+(x.length+1)*z.length≤16777216)
  (h:∀t' k,s.toks≤k→Q (.str (Txt.replace x y z) t') { s with toks:=k }):wpAny (model X.prog X.w) A (call (.builtin "str.replace") [.str x t,.str y u,.str z v]) Q E s:=by
 have hl:Builtin.Str.tooLong (x.length+(Builtin.Str.occurrences x y 0 x.length (x.length+1)).length*z.length)=false:=by
  have h1:=StrLaws.occ_length_le x y 0 x.length (x.length+1)
  have h2:(Builtin.Str.occurrences x y 0 x.length (x.length+1)).length*z.length≤(x.length+1)*z.length:=Nat.mul_le_mul_right _ h1
  unfold Builtin.Str.tooLong
  rw[sizeLine_eq]
  exact decide_eq_false (by omega)
 refine call_gives F.slot_str_replace (typeIs_str _ _ _) F.entry_str_replace (F.args_str_replace_3 _ _ _) (gives_str_replace x y z t u v fun _=>⟨by simp[hu,hv],by simp[Vd],K_,hl⟩) ?_
 unfold Txt.replace at h
 split
 ·rename_i hc
  rw[if_pos hc]at h
  exact h t s.toks (Nat.le_refl _)
 ·rename_i hc
  rw[if_neg hc]at h
  exact⟨fits_replaced y hb,h _ _ (Nat.le_succ _)⟩
theorem Aj{i j:Nat}{rn sn w:Str}{k k1 k2:Nat}{p1 p2 p3 p4 p5 p6 p7 p8 p9 Cr O_ Hy ap cp:Pos}(hp:PassesOwn (model X.prog X.w) X.A X.env X.xe)(hc:X.calm=true)(hN:X.N.Nodup)(hi:X.N[i]? =some rn)(hj:X.N[j]? =some sn)(vX:i≠j)
  (hr:X.env.scope.names.lookup rn=some .local)(hs:X.env.scope.names.lookup sn=some .local)(hw:w.cps.all (·<128)=true)
  (JL:(rn==("__debug__":Str))=false:=by decide)(hd2:(sn==("__debug__":Str))=false:=by decide)(YD:(rn==("__classdict__":Str))=false:=by decide)
  (g9:attributeBase (.Name rn p4) "replace" X.env (eval (.Name rn p4) X.env)=eval (.Name rn p4) X.env:=by rfl)
  (mv:starEach [.Name sn p5,.BinOp (.BinOp (.Constant (.str " ") k1 p6) .Add (.Name sn p7) p8) .Add (.Constant (.str " ") k2 p9) Cr] X.env=[(false,eval (.Name sn p5) X.env),(false,eval (.BinOp (.BinOp (.Constant (.str " ") k1 p6) .Add (.Name sn p7) p8) .Add (.Constant (.str " ") k2 p9) Cr) X.env)]:=by rfl)
  (kB:((backTo cp (starEach [.Name sn p5,.BinOp (.BinOp (.Constant (.str " ") k1 p6) .Add (.Name sn p7) p8) .Add (.Constant (.str " ") k2 p9) Cr] X.env)).all (fun x=>!x.1)&&(backToKw cp (keywordEach [] X.env)).all (fun x=>x.1.isSome)
   &&decide ([Expr.Name sn p5,.BinOp (.BinOp (.Constant (.str " ") k1 p6) .Add (.Name sn p7) p8) .Add (.Constant (.str " ") k2 p9) Cr].length+([]:List Keyword).length+(if ([]:List Keyword).isEmpty then 0 else 1)<30))=true:=by rfl)
  (eL:(ap.endLine==cp.line)=true:=by rfl)
  (Ve:swapsWith (.Call (.Attribute (.Name rn p4) "replace" ap) [.Name sn p5,.BinOp (.BinOp (.Constant (.str " ") k1 p6) .Add (.Name sn p7) p8) .Add (.Constant (.str " ") k2 p9) Cr] [] cp) (some (.Name rn p3)) O_.line X.env=pure false:=by rfl)
  (Vf:∀x,foldedSetIterable (.Constant (.str w) k p2) X.env x=pure x:=by intro _;rfl):
  PS X (.For (.Name sn p1) (.Constant (.str w) k p2) [.Assign [.Name rn p3] (.Call (.Attribute (.Name rn p4) "replace" ap) [.Name sn p5,.BinOp (.BinOp (.Constant (.str " ") k1 p6) .Add (.Name sn p7) p8) .Add (.Constant (.str " ") k2 p9) Cr] [] cp) O_] [] Hy) (yq i j w):=by
 intro pins s σ H D I h
 obtain⟨x,hx,bt,q⟩:=h
 refine wpAny_For (Calls.Constant_str (wpAny_pyIter_ascii hw ?_)) Vf
 have I2:Inv X pins σ H { s with heap:=s.heap.push { cls:=.type "str_ascii_iterator",data:=.fields #[.str w s.toks,.int 0 0] },toks:=s.toks+1 }:=I.kept (t':=s.toks+1) fun b o e=>Heap.get?_push_of_some _ e
 have f0:iz X pins H s.heap.objs.size:=I.sr (Nat.le_refl _) (I.bt.fresh (Nat.le_refl _))
 generalize hit:s.heap.objs.size=it at f0
 have Vg:(s.heap.push { cls:=.type "str_ascii_iterator",data:=.fields #[.str w s.toks,.int 0 0] }).IsStrIter it "str_ascii_iterator" w s.toks 0:=by
  rw[←hit]
  exact⟨_,Heap.get?_push_size _ rfl,rfl,rfl⟩
 refine codeAny_forLoop_any (fun n s'=>∃(m:Nat) (σ':St) (x':Str),n=w.cps.size - m∧Inv X pins σ' H s'∧s'.heap.IsStrIter it "str_ascii_iterator" w s.toks m∧0<s'.toks∧σ'[i]? =some (some (.str x'))∧Hx (w.cps.toList.drop m) x'∧ES i j (w.cps.toList.drop m) σ' x'=ES i j w.cps.toList σ x) ?_ _ ⟨0,σ,x,rfl,I2,Vg,Nat.succ_pos _,hx,bt,rfl⟩
 rintro n s3 ⟨m,mq,x3,hn,I3,Dc,Vh,Pa,La,e3⟩
 obtain⟨g0,g1,g2,g3,g4,g5⟩:=f0
 by_cases hm:w.cps.size≤m
 ·refine wpAny_passesOwn hp (wpAny_pyNext_ascii_end (I3.ok.hd hc) Dc (Array.getElem?_eq_none hm) fun h' eb=>?_)
  have I4:Inv X pins mq H { s3 with heap:=h' }:=I3.turned (t':=s3.toks) (fun b o hb e=>eb b o hb e) g0 g1 g3 g4 g5
  refine wpAny_execs_nil ⟨mq,H,I4,?_⟩
  rw[List.drop_eq_nil_of_le (by simpa using hm)]at e3
  rw[←e3]at q
  exact q
 ·have Ck:m<w.cps.size:=by omega
  obtain⟨c,BE⟩:∃c,w.cps[m]? =some c:=⟨_,Array.getElem?_eq_getElem Ck⟩
  have Vi:w.cps.toList.drop m=c::w.cps.toList.drop (m+1):=by
   rw[List.drop_eq_getElem_cons (by simpa using Ck)]
   congr 1
   rw[Array.getElem?_eq_getElem Ck]at BE
   simpa using Option.some.inj BE
  rw[Vi]at La e3
  refine wpAny_passesOwn hp (wpAny_pyNext_ascii_item Dc BE fun h' G6 sb=>?_)
  have I4:Inv X pins mq H { s3 with heap:=h',toks:=s3.toks+1 }:=I3.turned (t':=s3.toks+1) (fun b o hb e=>(sb.2 b hb).trans e) g0 g1 g3 g4 g5
  obtain⟨o4,e4,c4,d4⟩:=id G6
  refine wpAny_passesOwn hp (vY (s:={ s3 with heap:=h',toks:=s3.toks+1 }) e4 c4 d4 (by decide) ?_)
  refine wpAny_passesOwn hp (wpAny_assign_Name (vC (v:=.str ⟨#[c]⟩) I4 hN hj hs ⟨_,rfl⟩ fun h5 I5 Hz Vj=>?_))
  obtain⟨m5,DV,Hz⟩:=Hz
  have Dd:h5.IsStrIter it "str_ascii_iterator" w s.toks (m+1):=⟨o4,Vj.extBut _ _ g1 e4,c4,d4⟩
  have Pb:(mq.set j (some (V.str ⟨#[c]⟩)))[i]? =some (some (.str x3)):=by rw[List.getElem?_set_ne (Ne.symm vX)];exact Pa
  refine wpAny_passesOwn hp (wpAny_execs_cons (wpAny_Assign_Name (wpAny_Call_method_late g9 kB eL rfl ?_) Ve))
  -- nE Vk text
  obtain⟨m6,Vl,Vm⟩:=I5.loc
  obtain⟨u,ru,lu⟩:=Vm i rn (.str x3) hi Pb (.inl hr)
  obtain⟨t,rfl⟩:=(show ∃t,u=Value.str x3 t from ru)
  have lr:m6 rn=some (.str x3 t):=by
   rcases lu with⟨_,e⟩|⟨kk,_⟩
   ·exact e
   ·rcases kk with kk|kk
    ·have kk:X.env.scope.names.lookup rn=some .cell:=kk
     rw[hr]at kk;cases kk
    ·have kk:X.env.scope.names.lookup rn=some .free:=kk
     rw[hr]at kk;cases kk
  refine wpAny_Name (wpAny_loadName_local I5.ok.kind hr Vl lr ?_) JL
  refine⟨"str","str.replace",F.plainAttrs_str,F.slot_str_replace,F.type_str_replace,typeIs_str _ _ _,(fun _ e=>nomatch e),?_⟩
  rw[mv]
  refine Calls.callWith_builtin rfl (Calls.evalArgs_plain (Calls.spliced_cons ?_))
  -- nE sign,and nE sign between blanks
  refine wpAny_Name (wpAny_loadName_local I5.ok.kind hs DV Hz ?_) hd2
  refine Calls.spliced_cons (wpAny_BinOp (wpAny_BinOp (Calls.Constant_str (wpAny_Name (wpAny_loadName_local I5.ok.kind hs DV Hz ?_) hd2))))
  have l1:(Str.ofString " ").length=1:=rfl
  have l2:(⟨#[c]⟩:Str).length=1:=rfl
  refine Bi (by rw[l1];decide) (by rw[l2];decide) (by rw[l1,l2];decide) (Calls.Constant_str (Bi (by rw[eQ,l1,l2];decide) (by rw[l1];decide) (by rw[eQ,l1,l2];decide) (Calls.spliced_nil ?_)))
  -- nE Lb
  have hz:x3.length≤100000:=La.1
  have l3:(Str.ofString " "++⟨#[c]⟩++Str.ofString " ").length=3:=by rw[eQ,eQ,l1,l2]
  have wA:((⟨#[c]⟩:Str)==Str.ofString " "++⟨#[c]⟩++Str.ofString " ")=false:=by
   refine beq_eq_false_iff_ne.mpr fun e=>?_
   have:=congrArg Str.length e
   rw[eQ,eQ,l1,l2]at this
   omega
  dsimp only
  refine yr (Nat.ne_of_gt Vh) (Nat.succ_ne_zero _) (show s3.toks≠s3.toks+1+1+1+1+1 by omega) wA (by rw[l2];decide) (by rw[l3];omega) fun t' k hk=>?_
  refine vC (v:=.str (ER x3 c)) (I5.tok k) hN hi hr ⟨t',rfl⟩ fun h7 I7 _ Vn=>?_
  refine wpAny_execs_nil ⟨w.cps.size - (m+1),by omega,m+1,_,ER x3 c,rfl,I7,?_,Nat.succ_pos _,?_,La.2,e3⟩
  ·obtain⟨o5,e5,c5,d5⟩:=Dd
   exact⟨o5,Vn.extBut _ _ g1 e5,c5,d5⟩
  ·rw[List.getElem?_set_self]
   rw[List.length_set]
   exact(List.getElem?_eq_some_iff.mp Pa).1
end
end L2
namespace Qm
open PySem
noncomputable section
def mf(x:Str)(c:Nat):Str:=Txt.replace x ⟨#[c]⟩ (Str.ofString " "++⟨#[c]⟩++Str.ofString " ")
def tU:List Nat→Str→Bool
 |[],_=>true
 |c::r,x=>decide (x.length≤100000)&&tU r (mf x c)
def Bj(i j:Nat):List Nat→Env→Str→Env
 |[],σ,_=>σ
 |c::r,σ,x=>Bj i j r ((σ.set j (some (.str ⟨#[c]⟩))).set i (some (.str (mf x c)))) (mf x c)
def pK(i j:Nat)(w:Str):XS:=fun σ c=>match σ[i]?.join with
 |some (.str x)=>if tU w.cps.toList x=true then some (.nx,Bj i j w.cps.toList σ x,c)else none
 |_=>none
def vD(a b:XI):XI:=fun σ c=>match a σ c with
 |some r=>some r
 |none=>b σ c
def Ak:XS:=fun _ _=>none
end
end Qm
namespace Qm
open PySem
noncomputable section
open Classical in
def mK(ws:List Str)(a:XE):XE:=fun σ c=>(a σ c).bind fun p=>(data p.2 5 p.1).bind fun d=>some (.bl (!decide (d∈ws.map PyData.str)),p.2)
end
end Qm
namespace L2
open PySem PySem.Spec PyProof.Rows
theorem yt:∀{l:List Nat}{x:Str},Qm.tU l x=true→Hx l x
 |[],_,_=>trivial
 |c::r,x,h=>by
  unfold Qm.tU at h
  obtain⟨h1,h2⟩:=Bool.and_eq_true_iff.mp h
  exact⟨of_decide_eq_true h1,yt h2⟩
theorem ET{K:PySem.W.Frag}{ρ:Nat→Addr}{N:Nat}{H:Hp}{i j:Nat}(l:List Nat):∀{env:Qm.Env}{σ:St}{x:Str},RE K ρ N H env σ→RE K ρ N H (Qm.Bj i j l env x) (ES i j l σ x):=by
 induction l with
 |nil=>intro _ _ _ h;exact h
 |cons c r ih=>intro _ _ _ h;exact ih ((h.set (i:=j) (.str _)).set (i:=i) (.str _))
theorem Al{X:Cx}{i j:Nat}{w:Str}{st:Stmt}(h:PS X st (yq i j w)):QS X st (Qm.pK i j w):=h.imp <| by
 rintro D σ H ⟨ρ,env,c,fl,cA,c',rs,re,e,k⟩
 unfold Qm.pK at e
 split at e
 ·rename_i x hx
  split at e
  ·rename_i bt
   cases e
   have e3:env[i]? =some (some (.str x)):=by
    cases h:env[i]? with
    |none=>rw[h]at hx;cases hx
    |some o=>rw[h]at hx;rw[show o=some (.str x)from hx]
   obtain⟨v,h1,h2⟩:=re.at_ i _ e3
   cases h2.eP
   exact⟨x,h1,yt bt,k ρ H (Nx.refl rs) _ (ET _ re)⟩
  ·cases e
 ·cases e
end L2
namespace L2
open PySem PySem.Spec PyProof.Rows
section
variable{X:Cx}{e e1 e2 tg:Expr}{fe:Qm.XE}{pos p2:Pos}
def Pc:V→Option Int→Option Int→Hp→VK→Prop:=fun x lo hi H Q=>∃a i,x= .str a∧lo=some i∧hi=none∧a.length≤sizeLine∧Q (.str (Txt.slice a (some i) none)) H
theorem HA:uJ X Pc:=by
 intro pins s σ H x v vl vu lo hi sl Q I rx hs pl pu h
 obtain⟨a,i,rfl,rfl,rfl,hz,q⟩:=h
 obtain⟨t,rfl⟩:=(show ∃t,v=Value.str a t from rx)
 cases pl with
 |int _ ti=>
 cases pu
 refine⟨"str",_,F.slot_str_getitem.lookup,typeIs_str _ _ _,?_⟩
 refine wpAny_getItem_str_slice (l:=some (i,ti)) (u:=none) (st:=none) hs rfl (post_val_or_str ⟨Nat.le_trans (Txt.slice_le a _ _) hz,fun t' k=>?_⟩)
 exact⟨.str (Txt.slice a (some i) none),H,I.tok k,⟨t',rfl⟩,q⟩
theorem EU{j0:Nat}{p1:Pos}(he:QE X e fe):QE X (.Subscript e (.Slice (some (.Constant (.int 1) j0 p1)) none none p2) pos) (Qm.pG fe):=(vj HA he (xQ AI) xP).imp <| by
 rintro σ H Q ⟨ρ,env,c,d,c',rs,re,e,k⟩
 obtain⟨p,e1,e⟩:=aE e
 obtain⟨a,e2,e⟩:=aE e
 split at e
 ·rename_i hz
  cases e
  refine⟨ρ,env,c,p.1,p.2,rs,re,e1,fun aO v H1 n1 r1=>?_⟩
  rw[dI e2]at r1
  cases r1.eP
  exact⟨1,rfl,a,1,rfl,rfl,rfl,by rw[sizeLine_eq];omega,k aO _ H1 n1 (.str _)⟩
 ·cases e
open Classical in
theorem HB{K:PySem.W.Frag}:eW K (A_ K false) Qm.ym:=by
 intro ρ c H x y d c' v u Q rs rx ry e k
 unfold Qm.ym at e
 split at e
 ·obtain⟨xs,h1,e⟩:=aE e
  obtain⟨ds,h3,e⟩:=aE e
  cases e
  cases rx.D2
  obtain⟨p,vs,rfl,hp,a⟩:=rs.seq ry h1
  obtain⟨b1,b2,b3,b4⟩:=pD (k:=60) rs (fun r h=>ig rs 60 r h) a h3
  refine⟨p,vs,.none,ds,rfl,hp.imp id dc.of,.bf,b1,rfl,by decide,jM b2,?_⟩
  rw[if_neg (by decide)]
  have:(ds.any fun e=>PyData.eqv e .none)=decide (PyData.none∈ds):=by
   rw[Bool.eq_iff_iff]
   simp only[List.any_eq_true,decide_eq_true_eq]
   constructor
   ·rintro⟨e,he,q⟩
    rw[gE e .none (pF b4 e he) rfl]at q
    exact q ▸ he
   ·intro hd
    exact⟨.none,hd,(gE .none .none rfl rfl).mpr rfl⟩
  rw[this]
  exact k ρ _ H (Nx.refl rs) (.bl _)
 ·cases e
theorem HC{fi fj:Qm.XI}(h1:QI X tg e fi)(h2:QI X tg e fj):QI X tg e (Qm.vD fi fj):=by
 intro pins s σ H R I h
 obtain⟨ρ,env,c,m,c',rs,re,e,k⟩:=h
 unfold Qm.vD at e
 split at e
 ·rename_i r hr
  cases e
  exact h1 pins s σ H R I ⟨ρ,env,c,m,c',rs,re,hr,k⟩
 ·exact h2 pins s σ H R I ⟨ρ,env,c,m,c',rs,re,e,k⟩
theorem EV{st:Stmt}:QS X st Qm.Ak:=fun _ _ _ _ _ _ ⟨_,_,_,_,_,_,_,_,h,_⟩=>by cases h
end
end L2
namespace PySem
open Sem (wp)
namespace F
theorem yu:typeLookup (.type "list_reverseiterator") "__len__" =pure none:=by rw[typeLookup_type,builtinLookup_eq_fast];kernel_rfl
theorem Am:typeLookup (.type "list_reverseiterator") "__length_hint__" =pure (some (.builtin "list_reverseiterator.__length_hint__")):=by rw[typeLookup_type,builtinLookup_eq_fast];kernel_rfl
end F
section
variable{prog:Program}{w:World}{A:Around}{E:Value→Shared→Prop}{s:Shared}{I:Addr}{fp wr:List Addr}{G:Array GenState→Array GenState→Prop}{n:Nat}{P:Nat→Value→Prop}{St:Nat→Shared→Prop}
theorem wK{Q:List Value→Shared→Prop}(W:WalksS prog w A.in1 I fp wr G n P St)(hT:∀i s,St i s→s.TypeIs (.ref I) "list_reverseiterator")(mv:St 0 s)(Vo:∀b∈fp,b<s.heap.objs.size)(hI:I∈fp)
  (hQ:∀s' acc,Moved wr G s s'→ItemsOf P acc n→Q acc.toList s')(hn:n≤sizeLine):wpAny (model prog w) A (collect (.ref I)) Q E s:=by
 have Pd:s.heap.objs.size∉fp:=fun hm=>Nat.lt_irrefl _ (Vo _ hm)
 have Vp:s.heap.objs.size≠I:=fun e=>Pd (e ▸ hI)
 unfold collect
 refine wpAny_bind (wpAny_runValue (codeAny_builtin F.entry_proto_collect ?_))
 rw[Around.under_plainId F.plain_proto_collect _]
 show wpAny _ A.in1 (newList [] >>= fun l=>again (.builtin "list.__iadd__" ⟨[l,.ref I],[]⟩)) _ _ s
 refine wpAny_bind (wpAny_newObj_type ?_)
 refine wpAny_pure ⟨plainId_quiet F.plain_list_iadd _,codeAny_builtin F.entry_list_iadd ?_⟩
 rw[Around.under_plainId F.plain_list_iadd _]
 have nv:=W.frame 0 s (s.heap.push { cls:=.type "list",data:=.seq ([]:List Value).toArray }) s.toks mv (Nat.le_refl _) fun b _ o e=>Heap.get?_push_of_some _ e
 have Lc:(s.heap.push { cls:=.type "list",data:=.seq ([]:List Value).toArray }).get? s.heap.objs.size=some { cls:=.type "list",data:=.seq ([]:List Value).toArray }:=Heap.get?_push_size _ rfl
 have h1:Builtin.List.listSameRef (.ref s.heap.objs.size) (.ref I)=false:=by simp[Builtin.List.listSameRef,Vp]
 show wpAny _ A.in1 (Builtin.List.listExtendWith (.ref s.heap.objs.size) (.ref I) (.ref s.heap.objs.size)) _ _ _
 unfold Builtin.List.listExtendWith
 refine wpAny_bind (wpAny_typeOf (hT 0 _ nv) ?_)
 rw[if_neg (by rw[h1];decide)]
 refine wpAny_bind (W.self 0 _ _ _ nv ?_)
 refine wpAny_bind (wpAny_holding ?_)
 unfold Builtin.List.listLengthHint
 refine wpAny_bind (wpAny_specialOf (hT 0 _ nv) F.yu ?_)
 show wpAny _ A.in1 (specialOf (Value.ref I) (Str.ofString "__length_hint__") >>= _) _ _ _
 refine wpAny_bind (wpAny_specialOf (hT 0 _ nv) F.Am ?_)
 (generalize Ld:("list_reverseiterator.__length_hint__":String)=Pe;(fail_if_success (clear Ld Pe));wp_delta;rw[show splitId Pe=some ("list_reverseiterator","__length_hint__")from by subst Ld;decide +kernel];subst Ld)
 refine wpAny_bind (wpAny_isInstance (b:=true) (hT 0 _ nv) (by rw[isSubtype_type];kernel_rfl) ?_)
 refine wpAny_pure ?_
 rw[if_neg (by decide)]
 refine wpAny_pure ⟨plainId_quiet F.plain_extend_loop _,codeAny_extend_loopS W hn _ Pd _ n 0 _ _ _ rfl (Nat.zero_le _) nv Lc (ItemsOf.nil P) fun s' Pf c' hm Vq EW=>?_⟩
 show wpAny _ A (load s.heap.objs.size >>= _) _ _ s'
 refine wpAny_bind (wpAny_load Vq ?_)
 exact wpAny_pure (hQ s' Pf (Moved.drop_new (o:={ cls:=.type "list",data:=.seq ([]:List Value).toArray }) (tk:=s.toks) hm (Nat.le_refl _)) EW)
end
end PySem
namespace L2
open PySem PySem.Spec PyProof.Rows
section
variable{X:Cx}
theorem EX{zs:List Str}:∀{us:List Value},Vals (zs.map V.str) us→∃l:List (Str×Tok),strValues l=us∧l.map (·.1)=zs:=by
 induction zs with
 |nil=>
  intro us h
  cases h
  exact⟨[],rfl,rfl⟩
 |cons z r ih=>
  intro us h
  cases h with
  |cons a b=>
   obtain⟨t,rfl⟩:=(show ∃t,_=Value.str z t from a)
   obtain⟨l,e1,e2⟩:=ih b
   exact⟨(z,t)::l,by rw[←e1];rfl,by rw[←e2];rfl⟩
theorem An{its:List Value}{acc:Array Value}(h:ItemsOf (fun i v=>its.toArray[its.toArray.size - 1 - i]? =some v) acc its.toArray.size):acc.toList=its.reverse:=by
 obtain⟨h1,h2⟩:=h
 apply List.ext_getElem?
 intro j
 have el:acc.toList.length=its.length:=by simpa using h1
 by_cases hj:j<its.length
 ·have e1:acc[j]? =some (acc[j]'(by rw[h1];simpa using hj)):=Array.getElem?_eq_getElem _
  have e2:=h2 j _ e1
  rw[List.getElem?_reverse hj]
  have e3:acc.toList[j]? =acc[j]? :=by simp
  rw[e3,e1,←e2]
  simp
 ·rw[List.getElem?_eq_none (by omega),List.getElem?_eq_none (by rw[List.length_reverse];omega)]
def Cs(sep:Str)(te:TE):TE:=fun σ H Q=>te σ H fun x H1=>∃(l:Addr) (zs:List Str),x= .ref l∧H1 l=some (.lst (zs.map V.str))∧JoinOk sep zs.reverse=true∧Q (.str (Txt.join sep zs.reverse)) H1
theorem yw{sep:Str}{j0:Nat}{p0 apos bR pr p2:Pos}{e:Expr}{te:TE}(hc:X.calm=true)(hg:Gl X "reversed")(hm:X.mg "reversed" =none)(he:PE X e te)
  (kB:((backTo bR (starEach [.Call (.Name "reversed" pr) [e] [] p2] X.env)).all (fun x=>!x.1)&&(backToKw bR (keywordEach [] X.env)).all (fun x=>x.1.isSome)
   &&decide ([Expr.Call (.Name "reversed" pr) [e] [] p2].length+([]:List Keyword).length+(if ([]:List Keyword).isEmpty then 0 else 1)<30))=true:=by rfl)
  (eL:(apos.endLine==bR.line)=true:=by rfl)(hs:starEach [.Call (.Name "reversed" pr) [e] [] p2] X.env=[(false,eval (.Call (.Name "reversed" pr) [e] [] p2) X.env)]:=by rfl)
  (iI:starEach [e] X.env=[(false,eval e X.env)]:=by rfl):
  PE X (.Call (.Attribute (.Constant (.str sep) j0 p0) "join" apos) [.Call (.Name "reversed" pr) [e] [] p2] [] bR) (Cs sep te):=by
 intro pins s σ H Q I h
 refine wpAny_Call_method_late rfl kB eL rfl (Calls.Constant_str ?_)
 have I0:=I.tok (s.toks+1)
 refine⟨"str","str.join",F.plainAttrs_str,F.slot_str_join,F.type_str_join,typeIs_str _ _ _,(fun _ e=>nomatch e),?_⟩
 rw[hs]
 refine Calls.callWith_builtin rfl (Calls.evalArgs_plain ?_)
 show wpAny _ _ (spliced [(false,eval (.Call (.Name "reversed" pr) [e] [] p2) X.env)]) _ _ _
 refine Calls.spliced_cons ?_
 refine wpAny_Call_Name_kw (iR I0 hg hm (u:=.type "reversed") (by decide +kernel) ?_)
 refine PyProof.Rows.callWith_type1 ?_ iI rfl
 rw[iI]
 show wpAny _ _ (spliced [(false,eval e X.env)]) _ _ _
 refine Calls.spliced_cons (bH (he pins _ σ H _ I0 h) fun v s1 ⟨x,H1,I1,r1,q1⟩=>Calls.spliced_nil ?_)
 obtain⟨l,zs,rfl,hl,bt,q⟩:=q1
 cases r1
 obtain⟨hz,its,n,hv,hlen,e1⟩:=I1.sG hl
 have Pg:zs.length=its.length:=by rw[←hlen,List.length_map]
 refine call_reversed_list (l:=l) (items:=its.toArray) ⟨_,e1,rfl,n,rfl⟩ (Calls.spliced_nil ?_)
 have I2:Inv X pins σ H1 { s1 with heap:=s1.heap.push (revObj l ((its.toArray.size:Int) - 1)) }:=I1.kept (t':=s1.toks) fun b o e=>Heap.get?_push_of_some _ e
 have hit:(s1.heap.push (revObj l ((its.toArray.size:Int) - 1))).IsRevIter s1.heap.objs.size l ((its.toArray.size:Int) - 1):=⟨_,Heap.get?_push_size _ rfl,rfl,rfl⟩
 have e2:(s1.heap.push (revObj l ((its.toArray.size:Int) - 1))).get? l=some { cls:=.type "list",data:=.seq its.toArray n }:=Heap.get?_push_of_some _ e1
 have wA:l≠s1.heap.objs.size:=Nat.ne_of_lt (Heap.lt_size e1)
 have Ph:H1 s1.heap.objs.size=none:=I1.fresh
 have Vr:s1.heap.objs.size≠X.env.locals:=fun e=>by have:=I1.lt;rw[←e]at this;exact Nat.lt_irrefl _ this
 have zu:X.bO.heap.objs.size≤s1.heap.objs.size:=I1.sz
 have EY:∀y c,X.env.cells.lookup y=some c→c≠s1.heap.objs.size:=fun y c ec z=>by
  obtain⟨v,o,BD,_⟩:=I1.cell y c ec
  have:=Heap.lt_size BD
  rw[z]at this;exact Nat.lt_irrefl _ this
 have Vs:∀p∈X.pn++pins,p.1≠s1.heap.objs.size:=fun p hp z=>by
  have:=Heap.lt_size (I1.pin p hp).1
  rw[z]at this;exact Nat.lt_irrefl _ this
 have es:s1.heap.objs.size<(s1.heap.push (revObj l ((its.toArray.size:Int) - 1))).objs.size:=by rw[Heap.size_push];exact Nat.lt_succ_self _
 generalize s1.heap.objs.size=p at*
 generalize G4:({ s1 with heap:=s1.heap.push (revObj l ((its.toArray.size:Int) - 1)) }:Shared)=s3 at*
 have hh:s3.heap=s1.heap.push (revObj l ((its.toArray.size:Int) - 1)):=by rw[←G4]
 rw[←hh]at hit e2 es
 have W:=(Walks.listRev (prog:=X.prog) (w:=X.w) (A:=X.A.in1.in1) (I.ok.hd hc) p l wA its.toArray).toS
 refine wpAny_call (codeAny_call_builtin F.slot_str_join.plain F.entry_str_join (F.slot_str_join.check _ _ _ _ _ _ _ _ (typeIs_str _ _ _) (F.args_str_join_2 _ _) ?_))
 show wpAny _ _ (Builtin.«str.join» ⟨[.str sep s.toks,.ref p],[]⟩) _ _ _
 rw[join_tree_other]
 refine wpAny_bind (wpAny_typeOf (Heap.IsRevIter.typeIs hit) ?_)
 show wpAny _ X.A.in1 ((pyIter (.ref p)).tryCatch _ >>= fun it=>collect it >>= fun items=>joinTail sep items) _ _ s3
 refine wpAny_bind (wpAny_tryCatch (wpAny_pyIter_revIter hit ?_))
 refine wpAny_bind (wK W (fun i s' st=>Heap.IsRevIter.typeIs st.2.1) ⟨Nat.zero_le _,by simpa using hit,⟨_,e2,rfl,n,rfl⟩⟩ (fun b hb=>?_) (by simp) (fun s' acc hm EW=>?_) ?_)
 ·have:b=p∨b=l:=by simpa using hb
  rcases this with rfl|rfl
  ·exact es
  ·exact Heap.lt_size e2
 ·have ea:=An EW
  have HD:Vals (zs.reverse.map V.str) its.reverse:=by rw[List.map_reverse];exact hv.reverse
  obtain⟨ls,el,em⟩:=EX HD
  rw[ea,←el]
  have vk:JoinOk sep (ls.map (·.1))=true:=by rw[em];exact bt
  unfold JoinOk at vk
  rw[Bool.not_eq_true']at vk
  have g:Gives (joinTail sep (strValues ls)) (joinMade sep ls):=by
   have g0:=gives_joinTail sep ls vk
   cases ls with
   |nil=>exact g0
   |cons p r=>cases r with
    |nil=>exact g0
    |cons q r'=>exact g0
  refine g X.prog X.w X.A (wants _ _) s' (post_join ls ⟨joinFit_length vk,fun t' k=>?_⟩)
  rw[em]
  have DX:s'= { s3 with heap:=s'.heap,toks:=s'.toks }:=by
   obtain⟨a1,a2,a3,a4,a5⟩:=s'
   obtain⟨b1,b2,b3,b4,b5⟩:=s3
   have q1:=hm.gens;have q2:=hm.drawn;have q3:=hm.os
   simp only at q1 q2 q3
   subst q1 q2 q3
   rfl
  have I3:Inv X pins σ H1 { s3 with heap:=s'.heap,toks:=k }:=I2.turned (t':=k) (it:=p) (fun b o hb eb=>hm.heap b o (by simpa using hb) eb) Ph Vr (.inr zu) EY Vs
  have CW:({ s' with toks:=k }:Shared)= { s3 with heap:=s'.heap,toks:=k }:=by rw[DX]
  rw[CW]
  exact⟨.str (Txt.join sep zs.reverse),H1,I3,⟨t',rfl⟩,q⟩
 ·have:its.length≤sizeLine:=by rw[←hlen];exact hz
  simpa using this
end
end L2
namespace L2
open PySem PySem.Spec PyProof.Rows
section
variable{X:Cx}
theorem yx{sep:Str}{j0:Nat}{p0 apos bR pr p2:Pos}{e:Expr}{fe:Qm.XE}(hc:X.calm=true)(hg:Gl X "reversed")(hm:X.mg "reversed" =none)(he:QE X e fe)
  (kB:((backTo bR (starEach [.Call (.Name "reversed" pr) [e] [] p2] X.env)).all (fun x=>!x.1)&&(backToKw bR (keywordEach [] X.env)).all (fun x=>x.1.isSome)
   &&decide ([Expr.Call (.Name "reversed" pr) [e] [] p2].length+([]:List Keyword).length+(if ([]:List Keyword).isEmpty then 0 else 1)<30))=true:=by rfl)
  (eL:(apos.endLine==bR.line)=true:=by rfl)(hs:starEach [.Call (.Name "reversed" pr) [e] [] p2] X.env=[(false,eval (.Call (.Name "reversed" pr) [e] [] p2) X.env)]:=by rfl)
  (iI:starEach [e] X.env=[(false,eval e X.env)]:=by rfl):
  QE X (.Call (.Attribute (.Constant (.str sep) j0 p0) "join" apos) [.Call (.Name "reversed" pr) [e] [] p2] [] bR) (Qm.nr sep fe):=(yw hc hg hm he kB eL hs iI).imp <| by
 rintro σ H Q ⟨ρ,env,c,d,c',rs,re,e,k⟩
 obtain⟨p,e1,e⟩:=aE e
 obtain⟨l,e2,e⟩:=aE e
 obtain⟨xs,e3,e⟩:=aE e
 split at e
 ·rename_i hz
  cases e
  refine⟨ρ,env,c,p.1,p.2,rs,re,e1,fun aO v H1 n1 r1=>?_⟩
  obtain⟨_,_,vs,rfl,hl,ra⟩:=n1.rs.bg r1 e2
  rw[oh ra e3]at hl
  exact⟨_,xs,rfl,hl,hz,k aO _ H1 n1 (.str _)⟩
 ·cases e
end
end L2
namespace L2
open PySem PySem.Spec PyProof.Rows
section
variable{X:Cx}
theorem vF{c:Qm.Cells}:∀{ws:List Str},(∀x∈ws,x.cps.all (·<1114112)=true)→Qm.omap (Qm.data c 5) (ws.map Qm.D.str)=some (ws.map PyData.str)
 |[],_=>rfl
 |x::ws,h=>by
  have h1:=h x (by simp)
  have ih:=vF (c:=c) (ws:=ws) fun y hy=>h y (by simp[hy])
  simp only[List.map_cons,Qm.omap]
  rw[ih]
  simp only[Qm.data]
  rw[if_pos h1]
  rfl
open Classical in
theorem Ao{e:Expr}{fe:Qm.XE}{n:Str}{a:Addr}{ws:List Str}{its:Array Value}{o:Obj}{m:Nat}{pos pos':Pos}(hu:X.A.units+64<cLine)(hg:Gl X n)(hm:X.mg n=some (.ref a))(hk:X.K.lookup a=some o)(ho:o.cls= .type "tuple")(hd:o.data= .seq its m)(hz:its.size≤sizeLine)(hv:Vals (ws.map V.str) its.toList)
  (hw:∀x∈ws,x.cps.all (·<1114112)=true)(he:QE X e fe)(hb:behindInMarks .NotIn (.Name n pos)=false:=by with_unfolding_all rfl)(nX:(n==("__debug__":Str))=false:=by decide):QE X (.Compare e [.NotIn] [.Name n pos] pos') (Qm.mK ws fe):=
 (xI (zZ hu) he (oQ (v:=.ref a) hg hm rfl nX) hb).imp <| by
 rintro σ H Q ⟨ρ,env,c,d,c',rs,re,e,k⟩
 obtain⟨p,e1,e⟩:=aE e
 obtain⟨dd,e2,e⟩:=aE e
 cases e
 refine⟨ρ,env,c,p.1,p.2,rs,re,e1,fun aO v H1 n1 r1=>?_⟩
 obtain⟨a1,a2,a3,a4⟩:=ig n1.rs 5 r1 e2
 obtain⟨b1,b2,b3,b4⟩:=pD (k:=5) n1.rs (fun r h=>ig n1.rs 5 r h) (tS ws) (vF hw)
 refine⟨a,ws.map V.str,dd,ws.map PyData.str,rfl,.inr (.inr ⟨o,its,m,hk,ho,hd,hz,hv⟩),a1,b1,by simp[SeqAt.shaped,a2];omega,by omega,jM b2,?_⟩
 rw[if_pos rfl]
 have:((ws.map PyData.str).any fun e=>PyData.eqv e dd)=decide (dd∈ws.map PyData.str):=by
  rw[Bool.eq_iff_iff]
  simp only[List.any_eq_true,decide_eq_true_eq]
  constructor
  ·rintro⟨e,he,q⟩
   rw[gE e dd (pF b4 e he) a4]at q
   exact q ▸ he
  ·intro hd
   exact⟨dd,hd,(gE dd dd a4 a4).mpr rfl⟩
 rw[this]
 exact k aO _ H1 n1 (.bl _)
end
end L2
namespace L2
open PySem PySem.Spec PyProof.Rows
def yy(K:PySem.W.Frag)(a:Addr)(ws:List Str):Prop:=∃(o:Obj) (its:Array Value) (m:Nat),K.lookup a=some o∧o.cls= .type "tuple"∧o.data= .seq its m∧its.size≤sizeLine∧Vals (ws.map V.str) its.toList
theorem yy.Vt{K:PySem.W.Frag}{a:Addr}{ws:List Str}{d:Option Addr}{its:Array Value}{m:Nat}{sl:Array (Option Value)}(h:K.lookup a=some ⟨.type "tuple",d,.seq its m,sl⟩)(v:Vals (ws.map V.str) its.toList)(hz:(its.size).ble 1000=true:=by rfl):yy K a ws:=⟨_,its,m,h,rfl,rfl,by have:=Nat.le_of_ble_eq_true hz;rw[sizeLine_eq];omega,v⟩
theorem yz{X:Cx}{e:Expr}{fe:Qm.XE}{n:Str}{a:Addr}{ws:List Str}{pos pos':Pos}(hu:X.A.units+64<cLine)(hg:Gl X n)(hm:X.mg n=some (.ref a))(hk:yy X.K a ws)
  (hw:∀x∈ws,x.cps.all (·<1114112)=true)(he:QE X e fe)(hb:behindInMarks .NotIn (.Name n pos)=false:=by with_unfolding_all rfl)(nX:(n==("__debug__":Str))=false:=by decide):QE X (.Compare e [.NotIn] [.Name n pos] pos') (Qm.mK ws fe):=by
 obtain⟨o,its,m,h1,h2,h3,h4,h5⟩:=hk
 exact Ao hu hg hm h1 h2 h3 h4 h5 hw he hb nX
end L2
namespace My
end My
namespace Qm
open PySem
section
variable{σ:Env}{c c':Cells}{d:D}{i j:Int}{b:Bool}{xs ys:List D}
@[simp] theorem Pj:eC d σ c=some (d,c):=rfl
@[simp] theorem Vu{k:Nat}:eV k σ c=(σ[k]?.join).bind fun d=>some (d,c):=rfl
@[simp] theorem Vv{g:G1}{a:XE}:e1 g a σ c=(a σ c).bind fun p=>g p.1 p.2:=rfl
@[simp] theorem Pk{g:G2}{a b:XE}:e2 g a b σ c=(a σ c).bind fun p=>(b σ p.2).bind fun q=>g p.1 q.1 q.2:=rfl
@[simp] theorem Pm:mD (.bl b)=some b:=rfl
@[simp] theorem Pn:qt (.int i)=some i:=rfl
@[simp] theorem Le{a b:XE}:sX a b σ c=(a σ c).bind fun p=>(mD p.1).bind fun k=>if k=true then b σ p.2 else some (.bl false,p.2):=rfl
@[simp] theorem Po{a b:XE}:UT a b σ c=(a σ c).bind fun p=>(mD p.1).bind fun k=>if k=true then some (.bl true,p.2)else b σ p.2:=rfl
@[simp] theorem Lg{a:XE}:OO a σ c=(a σ c).bind fun p=>(mD p.1).bind fun k=>some (.bl (!k),p.2):=rfl
@[simp] theorem Pp{t:XT}{a b:XE}:qq t a b σ c=(t σ c).bind fun p=>if p.1=true then a σ p.2 else b σ p.2:=rfl
@[simp] theorem Lh:ak σ c=some ([],c):=rfl
@[simp] theorem HE{a:XE}{r:XA}:ag a r σ c=(a σ c).bind fun p=>(r σ p.2).bind fun q=>some (p.1::q.1,q.2):=rfl
@[simp] theorem Li{a:XA}:cc a σ c=(a σ c).bind fun p=>if p.1.length≤cU then some (.tup p.1,p.2)else none:=rfl
@[simp] theorem Lj{a:XA}:bC a σ c=(a σ c).bind fun p=>if p.1.length≤cU then some (.ref p.2.length,p.2++[.lst p.1])else none:=rfl
@[simp] theorem HF{F:FN}{ds:List D}{a:XA}:aw F ds a σ c=(a σ c).bind fun p=>F (p.1++ds) p.2:=rfl
@[simp] theorem Vw{F:FN}{a:XA}:eB F a σ c=(a σ c).bind fun p=>F p.1 p.2:=rfl
@[simp] theorem Vx{g:D→FN}{o:XE}{a:XA}:eM g o a σ c=(o σ c).bind fun p=>(bg p.1 p.2).bind fun _=>(a σ p.2).bind fun q=>g p.1 q.1 q.2:=rfl
@[simp] theorem HG:qr σ c=some (none,c):=rfl
@[simp] theorem Pq{g}{a:XE}{lo hi:XO}:B4 g a lo hi σ c=(a σ c).bind fun p=>(lo σ p.2).bind fun l=>(hi σ l.2).bind fun h=>g p.1 l.1 h.1 h.2:=rfl
@[simp] theorem Vy{a:XE}:tV a σ c=(a σ c).bind fun p=>(mD p.1).bind fun k=>some (k,p.2):=rfl
@[simp] theorem Lk{a b:XT}:dq a b σ c=(a σ c).bind fun p=>if p.1=true then b σ p.2 else some (false,p.2):=rfl
@[simp] theorem Pr{a b:XT}:mn a b σ c=(a σ c).bind fun p=>if p.1=true then some (true,p.2)else b σ p.2:=rfl
@[simp] theorem Ll{a:XT}:oR a σ c=(a σ c).bind fun p=>some (!p.1,p.2):=rfl
@[simp] theorem Lm:iQ σ c=some (true,c):=rfl
@[simp] theorem EZ{g h:G2}{a b e:XE}:pf g h a b e σ c=(a σ c).bind fun p=>(b σ p.2).bind fun q=>(g p.1 q.1 q.2).bind fun z=>(mD z.1).bind fun k=>if k=true then(e σ z.2).bind fun u=>h q.1 u.1 u.2 else some (.bl false,z.2):=rfl
@[simp] theorem Ln:bp σ c=some (.nx,σ,c):=rfl
@[simp] theorem qD{k:Nat}{e:XE}:aF k e σ c=(e σ c).bind fun p=>some (.nx,σ.set k (some p.1),p.2):=rfl
@[simp] theorem Lo{e:XE}{g:XG}:jI e g σ c=(e σ c).bind fun p=>(g p.1 σ p.2).bind fun q=>some (.nx,q.1,q.2):=rfl
@[simp] theorem Lp{is:List Nat}{a:XA}:A3 is a σ c=(a σ c).bind fun p=>if p.1.length=is.length then some (.nx,(is.zip p.1).foldl (fun σ q=>σ.set q.1 (some q.2)) σ,p.2)else none:=rfl
@[simp] theorem rj{t:XT}{a b:XS}:bV t a b σ c=(t σ c).bind fun p=>if p.1=true then a σ p.2 else b σ p.2:=rfl
@[simp] theorem wL{e:XE}:bx e σ c=(e σ c).bind fun p=>some (.rt p.1,σ,p.2):=rfl
@[simp] theorem HH{e:XE}:bW e σ c=(e σ c).bind fun p=>some (.nx,σ,p.2):=rfl
@[simp] theorem pL{k:Nat}:aD k d σ c=some (σ.set k (some d),c):=rfl
@[simp] theorem Lq:gh [] σ c=some (σ,c):=rfl
@[simp] theorem HI{g:XG}{r:uR}:bP g r (d::xs) σ c=(g d σ c).bind fun p=>r xs p.1 p.2:=rfl
@[simp] theorem Lr{n:Nat}{g:uR}:gj n g (.tup xs) σ c=if xs.length=n then g xs σ c else none:=rfl
def sq(b:XS)(p:Fl×Env×Cells):Option (Fl×Env×Cells):=match p.1 with
 |.nx=>b p.2.1 p.2.2
 |_=>some p
@[simp] theorem qE{a b:XS}:aA a b σ c=(a σ c).bind (sq b):=rfl
@[simp] theorem Ls{b:XS}:sq b (.nx,σ,c)=b σ c:=rfl
@[simp] theorem Lu{b:XS}:sq b (.rt d,σ,c)=some (.rt d,σ,c):=rfl
def fin(p:Fl×Env×Cells):Option (D×Cells):=match p.1 with
 |.rt d=>some (d,p.2.2)
 |.nx=>some (.bf,p.2.2)
 |_=>none
theorem g8{n N:Nat}{b:XS}{ds:List D}:dE n N b ds c=if ds.length=n then(b (ds.map some++List.replicate (N - n) none) c).bind fin else none:=rfl
@[simp] theorem rZ:fin (.rt d,σ,c)=some (d,c):=rfl
@[simp] theorem HJ:fin (.nx,σ,c)=some (.bf,c):=rfl
theorem yA{f:Int→Int→Option D}:ii f (.int i) (.int j) c=(f i j).bind fun d=>some (d,c):=rfl
@[simp] theorem Lv:jc (.int i) (.int j) c=some (.int (i - j),c):=rfl
@[simp] theorem Lw:cn (.int i) (.int j) c=some (.int (i+j),c):=rfl
@[simp] theorem Pt:j9 (.int i) (.int j) c=some (.bl (decide (i<j)),c):=rfl
@[simp] theorem Pu:G9 (.int i) (.int j) c=some (.bl (decide (i≤j)),c):=rfl
@[simp] theorem Pw:rH (.int i) (.int j) c=some (.bl (decide (j<i)),c):=rfl
@[simp] theorem Px:G_ (.int i) (.int j) c=some (.bl (decide (j≤i)),c):=rfl
@[simp] theorem Lx:je (.int i) c=some (.int (-i),c):=rfl
theorem mulL(h:i.natAbs<2 ^ 64):MulOk i j:=Or.inr (Or.inl ⟨h⟩)
theorem mulR(h:j.natAbs<2 ^ 64):MulOk i j:=Or.inr (Or.inr ⟨h⟩)
theorem Py(h:My.Bd 90000 i)(g:My.Bd 90000 j):MulOk i j:=Or.inl ⟨h,g⟩
theorem rm(h:i.natAbs<2 ^ 64):My.Bd 64 i:=⟨h⟩
theorem E1(h:MulOk i j):vt (.int i) (.int j) c=some (.int (i*j),c):=by unfold vt;rw[yA,if_pos h];rfl
theorem ij(h: 0<j)(hb:My.Bd 8900 j):dY (.int i) (.int j) c=some (.int (i / j),c):=by
 unfold dY;rw[yA,if_pos ⟨by omega,hb⟩,Int.fdiv_eq_ediv_of_nonneg i (Int.le_of_lt h)];rfl
theorem Ap(h: 0<j):eA (.int i) (.int j) c=some (.int (i % j),c):=by
 unfold eA;rw[yA,if_pos (by omega),Int.fmod_eq_emod_of_nonneg i (Int.le_of_lt h)];rfl
@[simp] theorem vG{k:Nat}:data c (k+1) (.int i)=some (.int i):=by simp[data]
theorem yB:wj (.int i) (.int j) c=some (decide (i=j)):=by
 have:wj (.int i) (.int j) c=(data c 6 (.int i)).bind fun d=>(data c 6 (.int j)).bind fun e=>some (@decide (d=e) (Classical.propDecidable _)):=rfl
 rw[this,vG,vG]
 simp
@[simp] theorem E2:cQ (.int i) (.int j) c=some (.bl (decide (i=j)),c):=by unfold cQ;rw[yB];rfl
@[simp] theorem E3:jD (.int i) (.int j) c=some (.bl (!decide (i=j)),c):=by unfold jD;rw[yB];rfl
@[simp] theorem HK{k:Bool}:cQ (.bl b) (.bl k) c=some (.bl (b==k),c):=rfl
@[simp] theorem HL{k:Bool}:jD (.bl b) (.bl k) c=some (.bl (!(b==k)),c):=rfl
@[simp] theorem tW:ck (.tup xs) c=some xs:=rfl
theorem aP{n:Nat}(h:c[n]? =some (.lst xs)):ck (.ref n) c=some xs:=by simp[ck,h]
theorem vH{n:Nat}(h:c[n]? =some (.ro xs)):ck (.ref n) c=some xs:=by simp[ck,h]
theorem aT{n:Nat}(h:c[n]? =some (.lst xs)):bg (.ref n) c=some (n,xs):=by simp[bg,h]
theorem de{x:D}:aZ x (.int i) c=(ck x c).bind fun xs=>(fA xs i).bind fun d=>some (d,c):=rfl
@[simp] theorem E4:aZ (.tup xs) (.int i) c=(fA xs i).bind fun d=>some (d,c):=rfl
@[simp] theorem E5{α:Type}{x:α}{xs:List α}:fA (x::xs) 0=some x:=by simp[fA,n_]
@[simp] theorem Ly{α:Type}{x y:α}{xs:List α}:fA (x::y::xs) 1=some y:=by
 have h:(1:Int)<((x::y::xs).length:Int):=by simp only[List.length_cons];omega
 unfold fA n_
 rw[if_pos (by decide),if_pos h];rfl
@[simp] theorem Lz{α:Type}{x y z:α}{xs:List α}:fA (x::y::z::xs) 2=some z:=by
 have h:(2:Int)<((x::y::z::xs).length:Int):=by simp only[List.length_cons];omega
 unfold fA n_
 rw[if_pos (by decide),if_pos h];rfl
theorem tX{α:Type}{xs:List α}{n:Nat}{x:α}(h:xs[n]? =some x):fA xs (n:Int)=some x:=by
 have hl:n<xs.length:=(List.getElem?_eq_some_iff.mp h).1
 unfold fA n_
 rw[if_pos (by omega),if_pos (by omega)]
 simpa using h
theorem kJ{α:Type}{xs:List α}{x:α}:fA (xs++[x]) (-1)=some x:=by
 unfold fA n_
 rw[if_neg (by decide),if_pos (by simp only[List.length_append,List.length_cons,List.length_nil];omega)]
 have:((-1:Int)+((xs++[x]).length:Int)).toNat=xs.length:=by simp only[List.length_append,List.length_cons,List.length_nil];omega
 rw[this]
 simp
@[simp] theorem E6:rg [.int i] c=some (.int (if i<0 then -i else i),c):=rfl
@[simp] theorem E7:tf [.bl b] c=some (.int (if b then 1 else 0),c):=rfl
theorem iK{x:D}:eD [x] c=(ck x c).bind fun xs=>some (.int xs.length,c):=rfl
@[simp] theorem HM:KJ [.int i,.int j] c=some (.int (if j > i then j else i),c):=rfl
@[simp] theorem HN:wk [.int i,.int j] c=some (.int (if j<i then j else i),c):=rfl
theorem df{n:Nat}(h:n≤10000):n≤cU:=Nat.le_trans h (by rw[pe];decide)
@[simp] theorem LA: 1≤cU:=df (by decide)
@[simp] theorem LB: 2≤cU:=df (by decide)
@[simp] theorem LC: 3≤cU:=df (by decide)
@[simp] theorem LD: 4≤cU:=df (by decide)
@[simp] theorem LF: 5≤cU:=df (by decide)
@[simp] theorem LG: 6≤cU:=df (by decide)
@[simp] theorem LH: 7≤cU:=df (by decide)
@[simp] theorem LI: 8≤cU:=df (by decide)
theorem HP{a:XA}(h:a σ c=some ([.int i,.int j],c'))(h1:i.natAbs<2 ^ 61)(h2:j.natAbs<2 ^ 61):nV a σ c=some (⟨fT i (j - i).toNat,[]⟩,c'):=by
 unfold nV
 rw[h,Option.bind_some]
 dsimp only
 rw[if_pos ⟨⟨by omega,by omega⟩,by omega,by omega⟩]
theorem pM{a:XA}(h:a σ c=some ([.int j],c'))(h2:j.natAbs<2 ^ 61):dX a σ c=some (⟨fT 0 j.toNat,[]⟩,c'):=by
 unfold dX
 rw[h,Option.bind_some]
 dsimp only
 rw[if_pos ⟨by omega,by omega⟩]
theorem fY:stays [] c:=fun _ h=>nomatch h
end
theorem eR{ks:List (Nat×Cell)}{g:XG}{body:XS}(P:Nat→Env→Cells→Prop):
  ∀(ds:List D) (k:Nat) (σ:Env) (c:Cells),(∀i σ c,P i σ c→stays ks c)→(∀i d σ c,ds[i]? =some d→P (k+i) σ c→∃σ1 c1 vZ c2,g d σ c=some (σ1,c1)∧body σ1 c1=some (.nx,vZ,c2)∧P (k+i+1) vZ c2)→
   P k σ c→∃σ' c',cj ks g body ds σ c=some (.nx,σ',c')∧P (k+ds.length) σ' c'
 |[],k,σ,c,hs,_,h=>⟨σ,c,by unfold cj;rw[if_pos (hs k σ c h)],h⟩
 |d::ds,k,σ,c,hs,ht,h=>by
  obtain⟨σ1,c1,vZ,c2,h1,h2,h3⟩:=ht 0 d σ c rfl h
  obtain⟨σ',c',h4,h5⟩:=eR P ds (k+1) vZ c2 hs (fun i d' σ c hd hp=>by
   have:=ht (i+1) d' σ c (by simpa using hd) (by rw[show k+(i+1)=k+1+i by omega];exact hp)
   rwa[show k+(i+1)+1=k+1+i+1 by omega]at this) h3
  refine⟨σ',c',?_,by rw[show k+(d::ds).length=k+1+ds.length by simp only[List.length_cons];omega];exact h5⟩
  unfold cj
  rw[if_pos (hs k σ c h),h1]
  simp only[Option.bind_some,h2,h4]
end Qm
namespace wM
open PySem
noncomputable def lz:Qm.XS:=(Qm.aA (Qm.dH (Qm.tV (Qm.e2 Qm.jD (Qm.eV 1) (Qm.eC (.int 0)))) (Qm.aA (Qm.aF 2 (Qm.e2 Qm.eA (Qm.eV 0) (Qm.eV 1)))
   (Qm.aA (Qm.aF 0 (Qm.eV 1))
   (Qm.aF 1 (Qm.eV 2)))))
   (Qm.bx (Qm.eB Qm.rg (Qm.ag (Qm.eV 0) Qm.ak))))
noncomputable def fZ:Qm.FN:=Qm.dE 2 3 lz
noncomputable def kK:Qm.XS:=(Qm.aA (Qm.aF 2 (Qm.aw fZ [] (Qm.ag (Qm.eV 0) (Qm.ag (Qm.eV 1) Qm.ak))))
   (Qm.aA (Qm.bV (Qm.tV (Qm.e2 Qm.j9 (Qm.eV 1) (Qm.eC (.int 0))))
   (Qm.aF 2 (Qm.e1 Qm.je (Qm.eV 2)))
   Qm.bp)
   (Qm.bx (Qm.cc (Qm.ag (Qm.e2 Qm.dY (Qm.eV 0) (Qm.eV 2)) (Qm.ag (Qm.e2 Qm.dY (Qm.eV 1) (Qm.eV 2)) Qm.ak))))))
noncomputable def eY:Qm.FN:=Qm.dE 2 3 kK
noncomputable def jo:Qm.XS:=(Qm.aA (Qm.aF 1 (Qm.e2 Qm.sZ (Qm.eC (.int 10)) (Qm.eC (.int 60))))
   (Qm.aA (Qm.aF 2 (Qm.bC Qm.ak))
   (Qm.aA (Qm.dH (Qm.tV (Qm.e2 Qm.G_ (Qm.eV 0) (Qm.eV 1))) (Qm.aA (Qm.bW (Qm.eM Qm.aW (Qm.eV 2) (Qm.ag Qm.Ae Qm.ak)))
   (Qm.aF 0 (Qm.e2 Qm.dY (Qm.eV 0) (Qm.eV 1)))))
   (Qm.aA (Qm.bW (Qm.eM Qm.aW (Qm.eV 2) (Qm.ag (Qm.eB Qm.qC (Qm.ag (Qm.eV 0) Qm.ak)) Qm.ak)))
   (Qm.bx (Qm.nr "" (Qm.eV 2)))))))
noncomputable def dF:Qm.FN:=Qm.dE 1 3 jo
noncomputable def dg:Qm.XS:=(Qm.aA (Qm.aF 1 (Qm.aw dF [] (Qm.ag (Qm.eB Qm.rg (Qm.ag (Qm.e2 Qm.aZ (Qm.eV 0) (Qm.eC (.int 0))) Qm.ak)) Qm.ak)))
   (Qm.aA (Qm.bV (Qm.tV (Qm.e2 Qm.j9 (Qm.e2 Qm.aZ (Qm.eV 0) (Qm.eC (.int 0))) (Qm.eC (.int 0))))
   (Qm.aF 1 (Qm.e2 Qm.dO (Qm.eC (.str "-")) (Qm.eV 1)))
   Qm.bp)
   (Qm.aA (Qm.bV (Qm.tV (Qm.e2 Qm.jD (Qm.e2 Qm.aZ (Qm.eV 0) (Qm.eC (.int 1))) (Qm.eC (.int 1))))
   (Qm.aF 1 (Qm.e2 Qm.dO (Qm.e2 Qm.dO (Qm.eV 1) (Qm.eC (.str "/"))) (Qm.aw dF [] (Qm.ag (Qm.e2 Qm.aZ (Qm.eV 0) (Qm.eC (.int 1))) Qm.ak))))
   Qm.bp)
   (Qm.bx (Qm.eV 1)))))
noncomputable def cI:Qm.FN:=Qm.dE 1 2 dg
noncomputable def ik:Qm.XS:=(Qm.bx (Qm.sX (Qm.pf Qm.G9 Qm.G9 (Qm.eC (.int 1)) (Qm.eB Qm.Ah (Qm.ag (Qm.eV 1) Qm.ak)) (Qm.eV 2)) (Qm.eB Qm.vv (Qm.ag (Qm.fU (Qm.rY (Qm.eV 1)) [none,some 0] (Qm.aD 0) Qm.iQ (Qm.e2 Qm.EM (Qm.eV 0) (Qm.eV 1))) Qm.ak))))
noncomputable def bX:Qm.FN:=Qm.dE 3 3 ik
noncomputable def lA:Qm.XS:=(Qm.bx (Qm.aw bX [] (Qm.ag (Qm.eC (.str "abcdefghijklmnopqrstuvwxyz")) (Qm.ag (Qm.eV 0) (Qm.ag (Qm.eC (.int 8)) Qm.ak)))))
noncomputable def f_:Qm.FN:=Qm.dE 1 1 lA
noncomputable def eS:Qm.XS:=(Qm.aA (Qm.aF 1 (Qm.nH Qm.wI (Qm.eV 0) (Qm.ag (Qm.eC (.str "/")) Qm.ak)))
   (Qm.aA (Qm.aF 2 (Qm.qq (Qm.tV (Qm.nH Qm.iD (Qm.eV 0) (Qm.ag (Qm.eC (.str "-")) Qm.ak))) (Qm.pG (Qm.e2 Qm.aZ (Qm.eV 1) (Qm.eC (.int 0)))) (Qm.e2 Qm.aZ (Qm.eV 1) (Qm.eC (.int 0)))))
   (Qm.aA (Qm.aF 3 (Qm.qq (Qm.pH (Qm.e2 Qm.aZ (Qm.eV 1) (Qm.eC (.int 1)))) (Qm.e2 Qm.aZ (Qm.eV 1) (Qm.eC (.int 2))) (Qm.eC (.str "1"))))
   (Qm.aA (Qm.bV (Qm.mn (Qm.oR (Qm.tV (Qm.aw bX [] (Qm.ag (Qm.eC (.str "0123456789")) (Qm.ag (Qm.eV 2) (Qm.ag (Qm.eC (.int 6)) Qm.ak)))))) (Qm.mn (Qm.oR (Qm.tV (Qm.aw bX [] (Qm.ag (Qm.eC (.str "0123456789")) (Qm.ag (Qm.eV 3) (Qm.ag (Qm.eC (.int 6)) Qm.ak)))))) (Qm.tV (Qm.e2 Qm.cQ (Qm.eB Qm.lx (Qm.ag (Qm.eV 3) Qm.ak)) (Qm.eC (.int 0))))))
   (Qm.bx (Qm.eC .bf))
   Qm.bp)
   (Qm.aA (Qm.aF 4 (Qm.aw eY [] (Qm.ag (Qm.qq (Qm.tV (Qm.nH Qm.iD (Qm.eV 0) (Qm.ag (Qm.eC (.str "-")) Qm.ak))) (Qm.e1 Qm.je (Qm.eB Qm.lx (Qm.ag (Qm.eV 2) Qm.ak))) (Qm.eB Qm.lx (Qm.ag (Qm.eV 2) Qm.ak))) (Qm.ag (Qm.eB Qm.lx (Qm.ag (Qm.eV 3) Qm.ak)) Qm.ak))))
   (Qm.bx (Qm.qq (Qm.tV (Qm.e2 Qm.cQ (Qm.aw cI [] (Qm.ag (Qm.eV 4) Qm.ak)) (Qm.eV 0))) (Qm.eV 4) (Qm.eC .bf))))))))
noncomputable def dh:Qm.FN:=Qm.dE 1 5 eS
noncomputable def jQ:Qm.XS:=(Qm.aA (Qm.pK 0 1 "():")
   (Qm.bx (Qm.fU (Qm.gr (Qm.nH Qm.jP (Qm.eV 0) (Qm.ag (Qm.eC (.str " ")) Qm.ak))) [none] (Qm.aD 0) (Qm.pH (Qm.eV 0)) (Qm.eV 0))))
noncomputable def cJ:Qm.FN:=Qm.dE 1 2 jQ
noncomputable def iY:Qm.XS:=(Qm.aA (Qm.aF 2 (Qm.bC (Qm.ag (Qm.bC Qm.ak) Qm.ak)))
   (Qm.aA (Qm.g6 (Qm.gr (Qm.eV 1)) (Qm.aD 3)
   (Qm.bV (Qm.tV (Qm.e2 Qm.mI (Qm.eV 3) (Qm.eV 0)))
   (Qm.bW (Qm.eM Qm.aW (Qm.eV 2) (Qm.ag (Qm.bC Qm.ak) Qm.ak)))
   (Qm.bW (Qm.eM Qm.aW (Qm.e2 Qm.aZ (Qm.eV 2) (Qm.e1 Qm.je (Qm.eC (.int 1)))) (Qm.ag (Qm.eV 3) Qm.ak)))))
   (Qm.bx (Qm.eV 2))))
noncomputable def bJ:Qm.FN:=Qm.dE 2 4 iY
noncomputable def fO:Qm.XS:=(Qm.aA (Qm.bV (Qm.tV (Qm.e2 Qm.ym (Qm.eC .bf) (Qm.eV 1)))
   (Qm.bx (Qm.eC .bf))
   Qm.bp)
   (Qm.aA (Qm.aF 2 (Qm.e2 Qm.aZ (Qm.eV 1) (Qm.eC (.int 0))))
   (Qm.aA (Qm.g6 (Qm.gr (Qm.B4 Qm.pg (Qm.eV 1) (Qm.j8 (Qm.eC (.int 1))) Qm.qr)) (Qm.aD 3)
   (Qm.aF 2 (Qm.cc (Qm.ag (Qm.eV 0) (Qm.ag (Qm.eV 2) (Qm.ag (Qm.eV 3) Qm.ak))))))
   (Qm.bx (Qm.eV 2)))))
noncomputable def bu:Qm.FN:=Qm.dE 2 4 fO
noncomputable def fP:Qm.XS:=(Qm.bx (Qm.sX (Qm.eB Qm.bS (Qm.ag (Qm.eV 0) (Qm.ag (Qm.eC (.ty "str")) Qm.ak))) (Qm.sX (Qm.aw f_ [] (Qm.ag (Qm.eV 0) Qm.ak)) (Qm.mK ["and","or","not","any"] (Qm.eV 0)))))
noncomputable def bZ:Qm.FN:=Qm.dE 1 1 fP
noncomputable def cB:Qm.XS:=(Qm.aA (Qm.bV (Qm.tV (Qm.e2 Qm.mI (Qm.eV 0) (Qm.bC (Qm.ag (Qm.eC (.str "any")) Qm.ak))))
   (Qm.bx (Qm.cc (Qm.ag (Qm.eC (.str "any")) Qm.ak)))
   Qm.bp)
   (Qm.aA (Qm.bV (Qm.dq (Qm.tV (Qm.e2 Qm.cQ (Qm.eB Qm.eD (Qm.ag (Qm.eV 0) Qm.ak)) (Qm.eC (.int 1)))) (Qm.tV (Qm.eB Qm.bS (Qm.ag (Qm.e2 Qm.aZ (Qm.eV 0) (Qm.eC (.int 0))) (Qm.ag (Qm.eC (.ty "tuple")) Qm.ak)))))
   (Qm.bx (Qm.e2 Qm.aZ (Qm.eV 0) (Qm.eC (.int 0))))
   Qm.bp)
   (Qm.aA (Qm.bV (Qm.dq (Qm.tV (Qm.e2 Qm.cQ (Qm.eB Qm.eD (Qm.ag (Qm.eV 0) Qm.ak)) (Qm.eC (.int 2)))) (Qm.dq (Qm.tV (Qm.aw bZ [] (Qm.ag (Qm.e2 Qm.aZ (Qm.eV 0) (Qm.eC (.int 0))) Qm.ak))) (Qm.tV (Qm.aw bZ [] (Qm.ag (Qm.e2 Qm.aZ (Qm.eV 0) (Qm.eC (.int 1))) Qm.ak)))))
   (Qm.bx (Qm.cc (Qm.ag (Qm.eC (.str "is")) (Qm.ag (Qm.e2 Qm.aZ (Qm.eV 0) (Qm.eC (.int 0))) (Qm.ag (Qm.e2 Qm.aZ (Qm.eV 0) (Qm.eC (.int 1))) Qm.ak)))))
   Qm.bp)
   (Qm.bx (Qm.eC .bf)))))
noncomputable def bD:Qm.FN:=Qm.dE 1 1 cB
noncomputable def fE:Qm.XS:=(Qm.aA (Qm.aF 1 (Qm.eC (.int 0)))
   (Qm.aA (Qm.dH (Qm.dq (Qm.tV (Qm.e2 Qm.j9 (Qm.eV 1) (Qm.eB Qm.eD (Qm.ag (Qm.eV 0) Qm.ak)))) (Qm.tV (Qm.e2 Qm.mI (Qm.e2 Qm.aZ (Qm.eV 0) (Qm.eV 1)) (Qm.eC (.str "not"))))) (Qm.aF 1 (Qm.e2 Qm.cn (Qm.eV 1) (Qm.eC (.int 1)))))
   (Qm.aA (Qm.aF 2 (Qm.aw bD [] (Qm.ag (Qm.B4 Qm.pg (Qm.eV 0) (Qm.j8 (Qm.eV 1)) Qm.qr) Qm.ak)))
   (Qm.aA (Qm.g6 (Qm.dX (Qm.ag (Qm.eV 1) Qm.ak)) (Qm.aD 3)
   (Qm.aF 2 (Qm.qq (Qm.tV (Qm.e2 Qm.kE (Qm.eV 2) (Qm.eC .bf))) (Qm.eC .bf) (Qm.cc (Qm.ag (Qm.eC (.str "not")) (Qm.ag (Qm.eV 2) Qm.ak))))))
   (Qm.bx (Qm.eV 2))))))
noncomputable def cD:Qm.FN:=Qm.dE 1 4 fE
noncomputable def iZ:Qm.XS:=(Qm.bx (Qm.aw bu [] (Qm.ag (Qm.eC (.str "and")) (Qm.ag (Qm.fU (Qm.gr (Qm.aw bJ [] (Qm.ag (Qm.eC (.str "and")) (Qm.ag (Qm.eV 0) Qm.ak)))) [none] (Qm.aD 0) Qm.iQ (Qm.aw cD [] (Qm.ag (Qm.eV 0) Qm.ak))) Qm.ak))))
noncomputable def dw:Qm.FN:=Qm.dE 1 1 iZ
noncomputable def ip:Qm.XS:=(Qm.bx (Qm.aw bu [] (Qm.ag (Qm.eC (.str "or")) (Qm.ag (Qm.fU (Qm.gr (Qm.aw bJ [] (Qm.ag (Qm.eC (.str "or")) (Qm.ag (Qm.eV 0) Qm.ak)))) [none] (Qm.aD 0) Qm.iQ (Qm.aw dw [] (Qm.ag (Qm.eV 0) Qm.ak))) Qm.ak))))
noncomputable def cm:Qm.FN:=Qm.dE 1 1 ip
noncomputable def dz:Qm.XS:=(Qm.aA (Qm.aF 1 (Qm.bC (Qm.ag (Qm.bC Qm.ak) Qm.ak)))
   (Qm.aA (Qm.g6 (Qm.gr (Qm.eV 0)) (Qm.aD 2)
   (Qm.bV (Qm.tV (Qm.e2 Qm.cQ (Qm.eV 2) (Qm.eC (.str "("))))
   (Qm.bW (Qm.eM Qm.aW (Qm.eV 1) (Qm.ag (Qm.bC Qm.ak) Qm.ak)))
   (Qm.bV (Qm.tV (Qm.e2 Qm.cQ (Qm.eV 2) (Qm.eC (.str ")"))))
   (Qm.aA (Qm.aF 3 (Qm.aw cm [] (Qm.ag (Qm.eM Qm.yk (Qm.eV 1) Qm.ak) Qm.ak)))
   (Qm.aA (Qm.bV (Qm.mn (Qm.tV (Qm.e2 Qm.kE (Qm.eV 3) (Qm.eC .bf))) (Qm.oR (Qm.pH (Qm.eV 1))))
   (Qm.bx (Qm.eC .bf))
   Qm.bp)
   (Qm.bW (Qm.eM Qm.aW (Qm.e2 Qm.aZ (Qm.eV 1) (Qm.e1 Qm.je (Qm.eC (.int 1)))) (Qm.ag (Qm.eV 3) Qm.ak)))))
   (Qm.bW (Qm.eM Qm.aW (Qm.e2 Qm.aZ (Qm.eV 1) (Qm.e1 Qm.je (Qm.eC (.int 1)))) (Qm.ag (Qm.eV 2) Qm.ak))))))
   (Qm.bx (Qm.qq (Qm.tV (Qm.e2 Qm.cQ (Qm.eB Qm.eD (Qm.ag (Qm.eV 1) Qm.ak)) (Qm.eC (.int 1)))) (Qm.aw cm [] (Qm.ag (Qm.e2 Qm.aZ (Qm.eV 1) (Qm.eC (.int 0))) Qm.ak)) (Qm.eC .bf)))))
noncomputable def cu:Qm.FN:=Qm.dE 1 4 dz
noncomputable def gF:Qm.XS:=(Qm.aA (Qm.aF 1 (Qm.aw cJ [] (Qm.ag (Qm.eV 0) Qm.ak)))
   (Qm.aA (Qm.bV (Qm.mn (Qm.tV (Qm.e2 Qm.j9 (Qm.eB Qm.eD (Qm.ag (Qm.eV 1) Qm.ak)) (Qm.eC (.int 2)))) (Qm.tV (Qm.e2 Qm.jD (Qm.e2 Qm.aZ (Qm.eV 1) (Qm.e1 Qm.je (Qm.eC (.int 2)))) (Qm.eC (.str ":")))))
   (Qm.bx (Qm.eC .bf))
   Qm.bp)
   (Qm.aA (Qm.aF 2 (Qm.aw cu [] (Qm.ag (Qm.B4 Qm.pg (Qm.eV 1) Qm.qr (Qm.j8 (Qm.e1 Qm.je (Qm.eC (.int 2))))) Qm.ak)))
   (Qm.aA (Qm.aF 3 (Qm.aw dh [] (Qm.ag (Qm.e2 Qm.aZ (Qm.eV 1) (Qm.e1 Qm.je (Qm.eC (.int 1)))) Qm.ak)))
   (Qm.bx (Qm.qq (Qm.mn (Qm.tV (Qm.e2 Qm.kE (Qm.eV 2) (Qm.eC .bf))) (Qm.tV (Qm.e2 Qm.kE (Qm.eV 3) (Qm.eC .bf)))) (Qm.eC .bf) (Qm.cc (Qm.ag (Qm.eV 2) (Qm.ag (Qm.eV 3) Qm.ak)))))))))
noncomputable def dA:Qm.FN:=Qm.dE 1 4 gF
noncomputable def gG:Qm.XS:=(Qm.aA (Qm.aF 1 (Qm.bC Qm.ak))
   (Qm.aA (Qm.aF 2 (Qm.nH Qm.jP (Qm.eV 0) (Qm.ag (Qm.eC (.str "\n")) Qm.ak)))
   (Qm.aA (Qm.g6 (Qm.dX (Qm.ag (Qm.eB Qm.eD (Qm.ag (Qm.eV 2) Qm.ak)) Qm.ak)) (Qm.aD 3)
   (Qm.bV (Qm.pH (Qm.aw cJ [] (Qm.ag (Qm.e2 Qm.aZ (Qm.eV 2) (Qm.eV 3)) Qm.ak)))
   (Qm.aA (Qm.aF 4 (Qm.aw dA [] (Qm.ag (Qm.e2 Qm.aZ (Qm.eV 2) (Qm.eV 3)) Qm.ak)))
   (Qm.aA (Qm.bV (Qm.tV (Qm.e2 Qm.kE (Qm.eV 4) (Qm.eC .bf)))
   Qm.Ak
   Qm.bp)
   (Qm.bW (Qm.eM Qm.aW (Qm.eV 1) (Qm.ag (Qm.eV 4) Qm.ak)))))
   Qm.bp))
   (Qm.bx (Qm.eV 1)))))
noncomputable def cE:Qm.FN:=Qm.dE 1 5 gG
noncomputable def eT:Qm.XS:=(Qm.aA (Qm.bV (Qm.tV (Qm.e2 Qm.j9 (Qm.eV 1) (Qm.eB Qm.eD (Qm.ag (Qm.eV 0) Qm.ak))))
   (Qm.bx (Qm.e2 Qm.aZ (Qm.eV 0) (Qm.eV 1)))
   Qm.bp)
   (Qm.bx (Qm.eC (.int 0))))
noncomputable def aY:Qm.FN:=Qm.dE 2 2 eT
noncomputable def iE:Qm.XS:=(Qm.aA (Qm.aF 2 (Qm.eB Qm.tf (Qm.ag (Qm.e2 Qm.cQ (Qm.e2 Qm.aZ (Qm.eV 0) (Qm.eC (.int 0))) (Qm.eC (.int 0))) Qm.ak)))
   (Qm.aA (Qm.aF 3 (Qm.e2 Qm.eA (Qm.e2 Qm.aZ (Qm.eV 0) (Qm.eV 2)) (Qm.eV 1)))
   (Qm.aA (Qm.jI (Qm.e2 Qm.dY (Qm.e2 Qm.aZ (Qm.eV 0) (Qm.eV 2)) (Qm.eV 1)) (Qm.s_ (Qm.eV 0) (Qm.eV 2)))
   (Qm.bx (Qm.eV 3)))))
noncomputable def au:Qm.FN:=Qm.dE 2 4 iE
noncomputable def jR:Qm.XS:=(Qm.aA (Qm.aF 2 (Qm.eB Qm.rg (Qm.ag (Qm.aw aY [] (Qm.ag (Qm.eV 0) (Qm.ag (Qm.eV 1) Qm.ak))) Qm.ak)))
   (Qm.aA (Qm.aF 3 (Qm.e2 Qm.dY (Qm.e2 Qm.wC (Qm.e2 Qm.cn (Qm.eC (.int 2147483647)) (Qm.e2 Qm.eA (Qm.e2 Qm.cn (Qm.e2 Qm.cn (Qm.e2 Qm.vt (Qm.e2 Qm.eA (Qm.eV 2) (Qm.eC (.int 2147483647))) (Qm.eC (.int 48271))) (Qm.e2 Qm.vt (Qm.eC (.int 7919)) (Qm.eV 1))) (Qm.eC (.int 11))) (Qm.eC (.int 2147483647)))) (Qm.eC (.int 18))) (Qm.e2 Qm.sZ (Qm.eC (.int 10)) (Qm.eC (.int 20)))))
   (Qm.bx (Qm.bC (Qm.ag (Qm.e2 Qm.vt (Qm.eV 2) (Qm.eB Qm.tf (Qm.ag (Qm.e2 Qm.cQ (Qm.e2 Qm.eA (Qm.aw aY [] (Qm.ag (Qm.eV 0) (Qm.ag (Qm.eC (.int 0)) Qm.ak))) (Qm.eC (.int 2))) (Qm.eC (.int 0))) Qm.ak))) (Qm.ag (Qm.eV 3) (Qm.ag (Qm.eC (.int 0)) Qm.ak)))))))
noncomputable def dS:Qm.FN:=Qm.dE 2 4 jR
noncomputable def gu:Qm.XS:=(Qm.aA (Qm.aF 1 (Qm.eC (.str "abcdefghijklmnopqrstuvwxyz")))
   (Qm.aA (Qm.aF 2 (Qm.eC (.str "")))
   (Qm.aA (Qm.g6 (Qm.dX (Qm.ag (Qm.e2 Qm.cn (Qm.eC (.int 1)) (Qm.aw au [] (Qm.ag (Qm.eV 0) (Qm.ag (Qm.eC (.int 8)) Qm.ak)))) Qm.ak)) (Qm.aD 3)
   (Qm.aF 2 (Qm.e2 Qm.dO (Qm.eV 2) (Qm.e2 Qm.tL (Qm.eV 1) (Qm.aw au [] (Qm.ag (Qm.eV 0) (Qm.ag (Qm.eC (.int 26)) Qm.ak)))))))
   (Qm.aA (Qm.bV (Qm.tV (Qm.e2 Qm.cQ (Qm.aw au [] (Qm.ag (Qm.eV 0) (Qm.ag (Qm.eC (.int 12)) Qm.ak))) (Qm.eC (.int 0))))
   (Qm.aF 2 (Qm.e2 Qm.aZ (Qm.bC (Qm.ag (Qm.eC (.str "an")) (Qm.ag (Qm.eC (.str "nd")) (Qm.ag (Qm.eC (.str "o")) (Qm.ag (Qm.eC (.str "r")) (Qm.ag (Qm.eC (.str "no")) (Qm.ag (Qm.eC (.str "ot")) (Qm.ag (Qm.eC (.str "t")) (Qm.ag (Qm.eC (.str "ny")) (Qm.ag (Qm.eC (.str "y")) (Qm.ag (Qm.eC (.str "andor")) (Qm.ag (Qm.eC (.str "nota")) (Qm.ag (Qm.eC (.str "anyone")) Qm.ak))))))))))))) (Qm.aw au [] (Qm.ag (Qm.eV 0) (Qm.ag (Qm.eC (.int 12)) Qm.ak)))))
   Qm.bp)
   (Qm.aA (Qm.bV (Qm.tV (Qm.e2 Qm.Ha (Qm.eV 2) (Qm.cc (Qm.ag (Qm.eC (.str "and")) (Qm.ag (Qm.eC (.str "or")) (Qm.ag (Qm.eC (.str "not")) (Qm.ag (Qm.eC (.str "any")) Qm.ak)))))))
   (Qm.aF 2 (Qm.e2 Qm.dO (Qm.eV 2) (Qm.eC (.str "x"))))
   Qm.bp)
   (Qm.bx (Qm.eV 2)))))))
noncomputable def cg:Qm.FN:=Qm.dE 1 4 gu
noncomputable def eZ(lC:Qm.FN)(i3:Qm.FN):Qm.XS:=(Qm.aA (Qm.aF 3 (Qm.aw au [] (Qm.ag (Qm.eV 0) (Qm.ag (Qm.eC (.int 8)) Qm.ak))))
   (Qm.aA (Qm.jI (Qm.e2 Qm.cn (Qm.e2 Qm.aZ (Qm.eV 0) (Qm.eC (.int 2))) (Qm.eC (.int 2))) (Qm.s_ (Qm.eV 0) (Qm.eC (.int 2))))
   (Qm.aA (Qm.bV (Qm.mn (Qm.tV (Qm.e2 Qm.j9 (Qm.eV 3) (Qm.eC (.int 4)))) (Qm.mn (Qm.tV (Qm.e2 Qm.j9 (Qm.eV 2) (Qm.eC (.int 1)))) (Qm.tV (Qm.e2 Qm.rH (Qm.e2 Qm.aZ (Qm.eV 0) (Qm.eC (.int 2))) (Qm.eC (.int 24))))))
   (Qm.aA (Qm.aF 4 (Qm.bC (Qm.ag (Qm.aw cg [] (Qm.ag (Qm.eV 0) Qm.ak)) (Qm.ag (Qm.aw cg [] (Qm.ag (Qm.eV 0) Qm.ak)) Qm.ak))))
   (Qm.aA (Qm.bV (Qm.dq (Qm.tV (Qm.e2 Qm.cQ (Qm.e2 Qm.eA (Qm.eV 3) (Qm.eC (.int 2))) (Qm.eC (.int 1)))) (Qm.tV (Qm.e2 Qm.jD (Qm.eV 1) (Qm.bC Qm.ak))))
   (Qm.aF 4 (Qm.eB Qm.qu (Qm.ag (Qm.e2 Qm.aZ (Qm.eV 1) (Qm.aw au [] (Qm.ag (Qm.eV 0) (Qm.ag (Qm.eB Qm.eD (Qm.ag (Qm.eV 1) Qm.ak)) Qm.ak)))) Qm.ak)))
   Qm.bp)
   (Qm.aA (Qm.bW (Qm.eM Qm.aW (Qm.eV 1) (Qm.ag (Qm.cc (Qm.ag (Qm.e2 Qm.aZ (Qm.eV 4) (Qm.eC (.int 0))) (Qm.ag (Qm.e2 Qm.aZ (Qm.eV 4) (Qm.eC (.int 1))) Qm.ak))) Qm.ak)))
   (Qm.bx (Qm.cc (Qm.ag (Qm.eV 4) (Qm.ag (Qm.cc (Qm.ag (Qm.eC (.str "is")) (Qm.ag (Qm.e2 Qm.aZ (Qm.eV 4) (Qm.eC (.int 0))) (Qm.ag (Qm.e2 Qm.aZ (Qm.eV 4) (Qm.eC (.int 1))) Qm.ak)))) Qm.ak)))))))
   Qm.bp)
   (Qm.aA (Qm.bV (Qm.tV (Qm.e2 Qm.cQ (Qm.eV 3) (Qm.eC (.int 4))))
   (Qm.bx (Qm.cc (Qm.ag (Qm.bC (Qm.ag (Qm.eC (.str "any")) Qm.ak)) (Qm.ag (Qm.cc (Qm.ag (Qm.eC (.str "any")) Qm.ak)) Qm.ak))))
   Qm.bp)
   (Qm.aA (Qm.bV (Qm.tV (Qm.e2 Qm.cQ (Qm.eV 3) (Qm.eC (.int 5))))
   (Qm.aA (Qm.jI (Qm.aw lC [] (Qm.ag (Qm.eV 0) (Qm.ag (Qm.eV 1) (Qm.ag (Qm.e2 Qm.jc (Qm.eV 2) (Qm.eC (.int 1))) Qm.ak)))) (Qm.gj 2 (Qm.bP (Qm.aD 5) (Qm.bP (Qm.aD 6) Qm.gh))))
   (Qm.bx (Qm.cc (Qm.ag (Qm.e2 Qm.cn (Qm.bC (Qm.ag (Qm.eC (.str "not")) Qm.ak)) (Qm.eV 5)) (Qm.ag (Qm.cc (Qm.ag (Qm.eC (.str "not")) (Qm.ag (Qm.eV 6) Qm.ak))) Qm.ak)))))
   Qm.bp)
   (Qm.aA (Qm.jI (Qm.aw i3 [] (Qm.ag (Qm.eV 0) (Qm.ag (Qm.eV 1) (Qm.ag (Qm.e2 Qm.jc (Qm.eV 2) (Qm.eC (.int 1))) (Qm.ag (Qm.eC (.str "or")) Qm.ak))))) (Qm.gj 2 (Qm.bP (Qm.aD 5) (Qm.bP (Qm.aD 6) Qm.gh))))
   (Qm.bx (Qm.cc (Qm.ag (Qm.e2 Qm.cn (Qm.e2 Qm.cn (Qm.bC (Qm.ag (Qm.eC (.str "(")) Qm.ak)) (Qm.eV 5)) (Qm.bC (Qm.ag (Qm.eC (.str ")")) Qm.ak))) (Qm.ag (Qm.eV 6) Qm.ak))))))))))
noncomputable def dB(lC:Qm.FN)(i3:Qm.FN):Qm.XS:=(Qm.aA (Qm.bV (Qm.tV (Qm.e2 Qm.cQ (Qm.eV 3) (Qm.eC (.str ""))))
   (Qm.bx (Qm.aw lC [] (Qm.ag (Qm.eV 0) (Qm.ag (Qm.eV 1) (Qm.ag (Qm.eV 2) Qm.ak)))))
   Qm.bp)
   (Qm.aA (Qm.aF 4 (Qm.tN (Qm.jN "or" "and" "and" "") (Qm.eV 3)))
   (Qm.aA (Qm.jI (Qm.aw i3 [] (Qm.ag (Qm.eV 0) (Qm.ag (Qm.eV 1) (Qm.ag (Qm.eV 2) (Qm.ag (Qm.eV 4) Qm.ak))))) (Qm.gj 2 (Qm.bP (Qm.aD 5) (Qm.bP (Qm.aD 6) Qm.gh))))
   (Qm.aA (Qm.g6 (Qm.dX (Qm.ag (Qm.e2 Qm.aZ (Qm.bC (Qm.ag (Qm.eC (.int 0)) (Qm.ag (Qm.eC (.int 0)) (Qm.ag (Qm.eC (.int 0)) (Qm.ag (Qm.eC (.int 1)) (Qm.ag (Qm.eC (.int 1)) (Qm.ag (Qm.eC (.int 2)) (Qm.ag (Qm.eC (.int 0)) (Qm.ag (Qm.eC (.int 5)) Qm.ak))))))))) (Qm.aw au [] (Qm.ag (Qm.eV 0) (Qm.ag (Qm.eC (.int 8)) Qm.ak)))) Qm.ak)) (Qm.aD 7)
   (Qm.bV (Qm.tV (Qm.e2 Qm.j9 (Qm.e2 Qm.aZ (Qm.eV 0) (Qm.eC (.int 2))) (Qm.eC (.int 24))))
   (Qm.aA (Qm.jI (Qm.aw i3 [] (Qm.ag (Qm.eV 0) (Qm.ag (Qm.eV 1) (Qm.ag (Qm.eV 2) (Qm.ag (Qm.eV 4) Qm.ak))))) (Qm.gj 2 (Qm.bP (Qm.aD 8) (Qm.bP (Qm.aD 9) Qm.gh))))
   (Qm.aA (Qm.aF 5 (Qm.e2 Qm.cn (Qm.e2 Qm.cn (Qm.eV 5) (Qm.bC (Qm.ag (Qm.eV 3) Qm.ak))) (Qm.eV 8)))
   (Qm.aF 6 (Qm.cc (Qm.ag (Qm.eV 3) (Qm.ag (Qm.eV 6) (Qm.ag (Qm.eV 9) Qm.ak)))))))
   Qm.bp))
   (Qm.bx (Qm.cc (Qm.ag (Qm.eV 5) (Qm.ag (Qm.eV 6) Qm.ak))))))))
noncomputable def ay:Nat→Qm.FN×Qm.FN
 |0=>(fun _ _=>none,fun _ _=>none)
 |n+1=>(Qm.dE 3 7 (eZ (ay n).1 (ay n).2),Qm.dE 4 10 (dB (ay n).1 (ay n).2))
noncomputable def i4:Qm.FN:=(ay 60).1
noncomputable def cw:Qm.FN:=(ay 60).2
noncomputable def fF:Qm.XS:=(Qm.aA (Qm.aF 2 (Qm.eB Qm.rg (Qm.ag (Qm.eV 0) Qm.ak)))
   (Qm.aA (Qm.aF 3 (Qm.eV 1))
   (Qm.aA (Qm.dH (Qm.tV (Qm.e2 Qm.jD (Qm.eV 2) (Qm.eC (.int 0)))) (Qm.A3 [2,3] (Qm.ag (Qm.e2 Qm.eA (Qm.eV 3) (Qm.eV 2)) (Qm.ag (Qm.eV 2) Qm.ak))))
   (Qm.bx (Qm.cc (Qm.ag (Qm.e2 Qm.dY (Qm.eV 0) (Qm.eV 3)) (Qm.ag (Qm.e2 Qm.dY (Qm.eV 1) (Qm.eV 3)) Qm.ak)))))))
noncomputable def dG:Qm.FN:=Qm.dE 2 4 fF
noncomputable def gH:Qm.XS:=(Qm.aA (Qm.aF 1 (Qm.e2 Qm.jc (Qm.aw au [] (Qm.ag (Qm.eV 0) (Qm.ag (Qm.eC (.int 1999999)) Qm.ak))) (Qm.eC (.int 999999))))
   (Qm.aA (Qm.aF 2 (Qm.eC (.int 1)))
   (Qm.aA (Qm.bV (Qm.tV (Qm.e2 Qm.cQ (Qm.aw au [] (Qm.ag (Qm.eV 0) (Qm.ag (Qm.eC (.int 2)) Qm.ak))) (Qm.eC (.int 1))))
   (Qm.aF 2 (Qm.e2 Qm.cn (Qm.eC (.int 1)) (Qm.aw au [] (Qm.ag (Qm.eV 0) (Qm.ag (Qm.eC (.int 999999)) Qm.ak)))))
   Qm.bp)
   (Qm.aA (Qm.bV (Qm.tV (Qm.e2 Qm.cQ (Qm.aw au [] (Qm.ag (Qm.eV 0) (Qm.ag (Qm.eC (.int 3)) Qm.ak))) (Qm.eC (.int 0))))
   (Qm.aA (Qm.aF 1 (Qm.e2 Qm.jc (Qm.e2 Qm.eA (Qm.eV 1) (Qm.eC (.int 9))) (Qm.eC (.int 4))))
   (Qm.aF 2 (Qm.e2 Qm.cn (Qm.eC (.int 1)) (Qm.e2 Qm.eA (Qm.eV 2) (Qm.eC (.int 4))))))
   Qm.bp)
   (Qm.bx (Qm.aw dG [] (Qm.ag (Qm.eV 1) (Qm.ag (Qm.eV 2) Qm.ak))))))))
noncomputable def dC:Qm.FN:=Qm.dE 1 3 gH
noncomputable def dD:Qm.XS:=(Qm.aA (Qm.bV (Qm.tV (Qm.e2 Qm.cQ (Qm.e2 Qm.aZ (Qm.eV 0) (Qm.eC (.int 1))) (Qm.eC (.int 1))))
   (Qm.bx (Qm.eB Qm.qC (Qm.ag (Qm.e2 Qm.aZ (Qm.eV 0) (Qm.eC (.int 0))) Qm.ak)))
   Qm.bp)
   (Qm.bx (Qm.e2 Qm.dO (Qm.e2 Qm.dO (Qm.eB Qm.qC (Qm.ag (Qm.e2 Qm.aZ (Qm.eV 0) (Qm.eC (.int 0))) Qm.ak)) (Qm.eC (.str "/"))) (Qm.eB Qm.qC (Qm.ag (Qm.e2 Qm.aZ (Qm.eV 0) (Qm.eC (.int 1))) Qm.ak)))))
noncomputable def bK:Qm.FN:=Qm.dE 1 1 dD
noncomputable def fG:Qm.XS:=(Qm.aA (Qm.aF 2 (Qm.e2 Qm.fX (Qm.eC (.str " ")) (Qm.e2 Qm.dY (Qm.aw au [] (Qm.ag (Qm.eV 0) (Qm.ag (Qm.eC (.int 4)) Qm.ak))) (Qm.eC (.int 3)))))
   (Qm.aA (Qm.g6 (Qm.wD (Qm.ag (Qm.eV 1) Qm.ak)) (Qm.gj 2 (Qm.bP (Qm.aD 3) (Qm.bP (Qm.aD 4) Qm.gh)))
   (Qm.aA (Qm.aF 5 (Qm.e2 Qm.aZ (Qm.bC (Qm.ag (Qm.eC (.int 0)) (Qm.ag (Qm.eC (.int 1)) (Qm.ag (Qm.eC (.int 1)) (Qm.ag (Qm.eC (.int 2)) Qm.ak))))) (Qm.aw au [] (Qm.ag (Qm.eV 0) (Qm.ag (Qm.eC (.int 4)) Qm.ak)))))
   (Qm.aA (Qm.bV (Qm.dq (Qm.tV (Qm.e2 Qm.rH (Qm.eV 3) (Qm.eC (.int 0)))) (Qm.dq (Qm.tV (Qm.e2 Qm.cQ (Qm.eV 5) (Qm.eC (.int 0)))) (Qm.dq (Qm.tV (Qm.e2 Qm.fD (Qm.e2 Qm.aZ (Qm.eV 1) (Qm.e2 Qm.jc (Qm.eV 3) (Qm.eC (.int 1)))) (Qm.eC (.str "():")))) (Qm.tV (Qm.e2 Qm.fD (Qm.eV 4) (Qm.eC (.str "():")))))))
   (Qm.aF 5 (Qm.eC (.int 1)))
   Qm.bp)
   (Qm.aF 2 (Qm.e2 Qm.dO (Qm.e2 Qm.dO (Qm.eV 2) (Qm.e2 Qm.fX (Qm.e2 Qm.fX (Qm.eC (.str " ")) (Qm.eV 5)) (Qm.eB Qm.tf (Qm.ag (Qm.e2 Qm.rH (Qm.eV 3) (Qm.eC (.int 0))) Qm.ak)))) (Qm.eV 4))))))
   (Qm.bx (Qm.e2 Qm.dO (Qm.eV 2) (Qm.e2 Qm.fX (Qm.eC (.str " ")) (Qm.e2 Qm.dY (Qm.aw au [] (Qm.ag (Qm.eV 0) (Qm.ag (Qm.eC (.int 4)) Qm.ak))) (Qm.eC (.int 3))))))))
noncomputable def cY:Qm.FN:=Qm.dE 2 6 fG
noncomputable def cx(bE:Qm.FN):Qm.XS:=(Qm.aA (Qm.bV (Qm.tV (Qm.eB Qm.bS (Qm.ag (Qm.eV 1) (Qm.ag (Qm.cc (Qm.ag (Qm.eC (.ty "list")) (Qm.ag (Qm.eC (.ty "tuple")) Qm.ak))) Qm.ak))))
   (Qm.aA (Qm.bV (Qm.mn (Qm.tV (Qm.e2 Qm.jD (Qm.eB Qm.bS (Qm.ag (Qm.eV 0) (Qm.ag (Qm.eC (.ty "list")) Qm.ak))) (Qm.eB Qm.bS (Qm.ag (Qm.eV 1) (Qm.ag (Qm.eC (.ty "list")) Qm.ak))))) (Qm.tV (Qm.e2 Qm.jD (Qm.eB Qm.bS (Qm.ag (Qm.eV 0) (Qm.ag (Qm.eC (.ty "tuple")) Qm.ak))) (Qm.eB Qm.bS (Qm.ag (Qm.eV 1) (Qm.ag (Qm.eC (.ty "tuple")) Qm.ak))))))
   (Qm.bx (Qm.eC (.bl false)))
   Qm.bp)
   (Qm.bx (Qm.sX (Qm.e2 Qm.cQ (Qm.eB Qm.eD (Qm.ag (Qm.eV 0) Qm.ak)) (Qm.eB Qm.eD (Qm.ag (Qm.eV 1) Qm.ak))) (Qm.eB Qm.vv (Qm.ag (Qm.fU (Qm.vD (Qm.xZ (Qm.ag (Qm.eV 0) (Qm.ag (Qm.eV 1) Qm.ak))) (Qm.qB (Qm.ag (Qm.eV 0) (Qm.ag (Qm.eV 1) Qm.ak)))) [none,none] (Qm.gj 2 (Qm.bP (Qm.aD 0) (Qm.bP (Qm.aD 1) Qm.gh))) Qm.iQ (Qm.aw bE [] (Qm.ag (Qm.eV 0) (Qm.ag (Qm.eV 1) Qm.ak)))) Qm.ak)))))
   Qm.bp)
   (Qm.aA (Qm.bV (Qm.mn (Qm.tV (Qm.e2 Qm.jD (Qm.eB Qm.bS (Qm.ag (Qm.eV 0) (Qm.ag (Qm.eC (.ty "int")) Qm.ak))) (Qm.eB Qm.bS (Qm.ag (Qm.eV 1) (Qm.ag (Qm.eC (.ty "int")) Qm.ak))))) (Qm.tV (Qm.e2 Qm.jD (Qm.eB Qm.bS (Qm.ag (Qm.eV 0) (Qm.ag (Qm.eC (.ty "bool")) Qm.ak))) (Qm.eB Qm.bS (Qm.ag (Qm.eV 1) (Qm.ag (Qm.eC (.ty "bool")) Qm.ak))))))
   (Qm.bx (Qm.eC (.bl false)))
   Qm.bp)
   (Qm.bx (Qm.sX (Qm.e2 Qm.cQ (Qm.eB Qm.bS (Qm.ag (Qm.eV 0) (Qm.ag (Qm.eC (.ty "str")) Qm.ak))) (Qm.eB Qm.bS (Qm.ag (Qm.eV 1) (Qm.ag (Qm.eC (.ty "str")) Qm.ak)))) (Qm.e2 Qm.cQ (Qm.eV 0) (Qm.eV 1))))))
noncomputable def bE:Nat→Qm.FN
 |0=>fun _ _=>none
 |n+1=>Qm.dE 2 2 (cx (bE n))
noncomputable def cW:Qm.FN:=(bE 60)
noncomputable def tY:Qm.XS:=(Qm.aA (Qm.aF 1 (Qm.bC Qm.ak))
   (Qm.aA (Qm.aF 2 (Qm.bC Qm.ak))
   (Qm.aA (Qm.aF 3 (Qm.bC Qm.ak))
   (Qm.aA (Qm.g6 (Qm.nV (Qm.ag (Qm.eC (.int 1)) (Qm.ag (Qm.eB Qm.wk (Qm.ag (Qm.eC (.int 21)) (Qm.ag (Qm.eB Qm.eD (Qm.ag (Qm.eV 0) Qm.ak)) Qm.ak))) Qm.ak))) (Qm.aD 4)
   (Qm.aA (Qm.aF 5 (Qm.aw dS [] (Qm.ag (Qm.eV 0) (Qm.ag (Qm.eV 4) Qm.ak))))
   (Qm.aA (Qm.aF 6 (Qm.aw dC [] (Qm.ag (Qm.eV 5) Qm.ak)))
   (Qm.aA (Qm.bV (Qm.tV (Qm.e2 Qm.cQ (Qm.aw au [] (Qm.ag (Qm.eV 5) (Qm.ag (Qm.eC (.int 6)) Qm.ak))) (Qm.eC (.int 0))))
   (Qm.bW (Qm.eM Qm.aW (Qm.eV 1) (Qm.ag (Qm.e2 Qm.fX (Qm.eC (.str " ")) (Qm.aw au [] (Qm.ag (Qm.eV 5) (Qm.ag (Qm.eC (.int 3)) Qm.ak)))) Qm.ak)))
   Qm.bp)
   (Qm.aA (Qm.jI (Qm.aw cw [] (Qm.ag (Qm.eV 5) (Qm.ag (Qm.eV 3) (Qm.ag (Qm.eC (.int 6)) (Qm.ag (Qm.eC (.str "or")) Qm.ak))))) (Qm.gj 2 (Qm.bP (Qm.aD 7) (Qm.bP (Qm.aD 8) Qm.gh))))
   (Qm.aA (Qm.bV (Qm.dq (Qm.tV (Qm.e2 Qm.j9 (Qm.e2 Qm.aZ (Qm.eV 5) (Qm.eC (.int 2))) (Qm.eC (.int 14)))) (Qm.tV (Qm.e2 Qm.cQ (Qm.aw au [] (Qm.ag (Qm.eV 5) (Qm.ag (Qm.eC (.int 4)) Qm.ak))) (Qm.eC (.int 0)))))
   (Qm.g6 (Qm.dX (Qm.ag (Qm.aw au [] (Qm.ag (Qm.eV 5) (Qm.ag (Qm.eC (.int 8)) Qm.ak))) Qm.ak)) (Qm.aD 9)
   (Qm.aA (Qm.aF 7 (Qm.e2 Qm.cn (Qm.e2 Qm.cn (Qm.bC (Qm.ag (Qm.eC (.str "(")) Qm.ak)) (Qm.eV 7)) (Qm.bC (Qm.ag (Qm.eC (.str ")")) Qm.ak))))
   (Qm.bV (Qm.tV (Qm.e2 Qm.cQ (Qm.aw au [] (Qm.ag (Qm.eV 5) (Qm.ag (Qm.eC (.int 2)) Qm.ak))) (Qm.eC (.int 0))))
   (Qm.aA (Qm.aF 7 (Qm.e2 Qm.cn (Qm.bC (Qm.ag (Qm.eC (.str "not")) Qm.ak)) (Qm.eV 7)))
   (Qm.aF 8 (Qm.cc (Qm.ag (Qm.eC (.str "not")) (Qm.ag (Qm.eV 8) Qm.ak)))))
   Qm.bp)))
   Qm.bp)
   (Qm.aA (Qm.bW (Qm.eM Qm.aW (Qm.eV 1) (Qm.ag (Qm.aw cY [] (Qm.ag (Qm.eV 5) (Qm.ag (Qm.e2 Qm.cn (Qm.eV 7) (Qm.bC (Qm.ag (Qm.eC (.str ":")) (Qm.ag (Qm.aw bK [] (Qm.ag (Qm.eV 6) Qm.ak)) Qm.ak)))) Qm.ak))) Qm.ak)))
   (Qm.bW (Qm.eM Qm.aW (Qm.eV 2) (Qm.ag (Qm.cc (Qm.ag (Qm.eV 8) (Qm.ag (Qm.eV 6) Qm.ak))) Qm.ak))))))))))
   (Qm.aA (Qm.bV (Qm.tV (Qm.e2 Qm.cQ (Qm.e2 Qm.eA (Qm.e2 Qm.dY (Qm.aw aY [] (Qm.ag (Qm.eV 0) (Qm.ag (Qm.eC (.int 0)) Qm.ak))) (Qm.eC (.int 2))) (Qm.eC (.int 3))) (Qm.eC (.int 0))))
   (Qm.bW (Qm.eM Qm.aW (Qm.eV 1) (Qm.ag (Qm.e2 Qm.fX (Qm.eC (.str " ")) (Qm.e2 Qm.eA (Qm.e2 Qm.dY (Qm.aw aY [] (Qm.ag (Qm.eV 0) (Qm.ag (Qm.eC (.int 0)) Qm.ak))) (Qm.eC (.int 6))) (Qm.eC (.int 3)))) Qm.ak)))
   Qm.bp)
   (Qm.aA (Qm.aF 10 (Qm.wH "\n" (Qm.eV 1)))
   (Qm.aA (Qm.aF 11 (Qm.aw cE [] (Qm.ag (Qm.eV 10) Qm.ak)))
   (Qm.aA (Qm.bV (Qm.oR (Qm.tV (Qm.aw cW [] (Qm.ag (Qm.eV 11) (Qm.ag (Qm.eV 2) Qm.ak)))))
   (Qm.bx (Qm.eC (.bl false)))
   Qm.bp)
   (Qm.aA (Qm.bW (Qm.eM Qm.aW (Qm.eV 11) (Qm.ag (Qm.eC (.int 7)) Qm.ak)))
   (Qm.bx (Qm.aw cW [] (Qm.ag (Qm.aw cE [] (Qm.ag (Qm.eV 10) Qm.ak)) (Qm.ag (Qm.eV 2) Qm.ak)))))))))))))
noncomputable def oi:Qm.FN:=Qm.dE 1 12 tY
end wM
namespace wM
open PySem Qm PyProof.Rows
local macro_rules|`(tactic|walk_at "bd")=>`(tactic|first|assumption|((with_reducible show My.Bd _ (_*_));refine' My.Bd.mul ?_ ?_<;>walk_at "bd")|((with_reducible show My.Bd _ (_+_));refine' My.Bd.add ?_ ?_<;>walk_at "bd")|((with_reducible show My.Bd _ (_ - _));refine' My.Bd.sub ?_ ?_<;>walk_at "bd")|((with_reducible show My.Bd _ (- _));refine' My.Bd.neg ?_<;>walk_at "bd")|(refine' rm ?_;omega))
local macro_rules|`(tactic|walk_at "bdm")=>`(tactic|first|assumption|(refine' My.Bd.mono ?b1 ?b2;(case b1=>walk_at "bd");(case b2=>decide)))
local macro_rules|`(tactic|walk_at "mo")=>`(tactic|first|(refine mulL ?_;omega)|(refine mulR ?_;omega)|(refine Py ?_ ?_<;>walk_at "bdm"))
local macro_rules|`(tactic|walk_at "dis")=>`(tactic|first|assumption|omega|walk_at "mo"|walk_at "bdm")
local macro_rules|`(tactic|erw[$[$t:term],*])=>`(tactic|simp (disch:=walk_at "dis") only[g8,qE,qD,Lo,Lp,rj,wL,HH,Ln,Pj,Vu,Vv,Pk,Pm,Pn,Le,Po,Lg,Pp,Lh,HE,Li,Lj,HF,Vw,Vx,HG,Pq,Vy,Lk,Pr,Ll,Lm,EZ,pL,Lq,HI,Lr,Ls,Lu,rZ,HJ,Lv,Lw,Pt,Pu,Pw,Px,Lx,E1,ij,Ap,E2,E3,HK,HL,tW,E4,E5,Ly,Lz,E6,E7,HM,HN,LA,LB,LC,LD,LF,LG,LH,LI,List.getElem?_cons_succ,List.getElem?_cons_zero,Option.join_some,Option.join_none,Option.bind_some,Option.bind_none,List.set_cons_succ,List.set_cons_zero,List.map_cons,List.map_nil,List.length_cons,List.length_nil,List.append_nil,List.nil_append,List.cons_append,List.replicate_succ,List.replicate_zero,Nat.reduceAdd,Nat.reduceSub,Nat.reduceEqDiff,if_true,if_false,Bool.false_eq_true,decide_true,decide_false,Bool.not_true,Bool.not_false,eq_self_iff_true,reduceIte,List.zip_cons_cons,List.zip_nil_right,List.zip_nil_left,List.foldl_cons,List.foldl_nil,Int.reduceLT,Int.reduceEq,Int.reduceLE,$[$t:term],*])
structure Kq(S:List Nat)(c c':Cells):Prop where
 len:c.length≤c'.length
 at_:∀i,i<c.length→i∉S→c'[i]? =c[i]?
theorem Kq.refl(S:List Nat)(c:Cells):Kq S c c:=⟨Nat.le_refl _,fun _ _ _=>rfl⟩
theorem Kq.less{S S':List Nat}{c c1 c2:Cells}(a:Kq S c c1)(b:Kq S' c1 c2)(h:∀x∈S',x∈S∨c.length≤x):Kq S c c2:=⟨Nat.le_trans a.len b.len,fun i hi hs=>(b.at_ i (Nat.lt_of_lt_of_le hi a.len) (fun hx=>(h i hx).elim hs (fun hh=>by omega))).trans (a.at_ i hi hs)⟩
theorem Kq.trans{S:List Nat}{c c1 c2:Cells}(a:Kq S c c1)(b:Kq S c1 c2):Kq S c c2:=a.less b fun _ h=>Or.inl h
theorem Kq.set{S:List Nat}{n:Nat}{c:Cells}{z:Cell}(h:n∈S):Kq S c (c.set n z):=⟨by rw[List.length_set];exact Nat.le_refl _,fun i _ hi=>by rw[List.getElem?_set,if_neg (fun(e:n=i)=>hi (by rw[←e];exact h))]⟩
theorem Kq.more{S:List Nat}{c:Cells}{zs:List Cell}:Kq S c (c++zs):=⟨by rw[List.length_append];omega,fun i h _=>List.getElem?_append_left h⟩
theorem dJ{i:Nat}{c:Cells}{z:Cell}(h:c[i]? =some z):i<c.length:=(List.getElem?_eq_some_iff.mp h).1
theorem Kq.get{S:List Nat}{i:Nat}{c c':Cells}{z:Cell}(k:Kq S c c')(h:c[i]? =some z)(hi:i∉S):c'[i]? =some z:=by
 rw[k.at_ i (dJ h) hi];exact h
theorem Kq.mono{S S':List Nat}{c c':Cells}(k:Kq S c c')(h:∀x∈S,x∈S'):Kq S' c c':=⟨k.len,fun i hi hs=>k.at_ i hi fun hx=>hs (h i hx)⟩
theorem bb{i:Nat}{c zs:Cells}{z:Cell}(h:c[i]? =some z):(c++zs)[i]? =some z:=by rw[List.getElem?_append_left (dJ h)];exact h
theorem dP{x:Str}(h:x.cps.toList.all (fun k=>decide (k<1114112))=true):x.cps.all (fun k=>decide (k<1114112))=true:=by rw[←Array.all_toList];exact h
structure W0(x:Str):Prop where
 lt:x.cps.toList.all (fun k=>decide (97≤k∧k≤122))=true
 pos: 0<x.length
 LJ:x.length≤8
structure Wd(x:Str):Prop extends W0 x where
 free:x∉(["and","or","not","any"]:List Str)
theorem W0.ok{x:Str}(h:W0 x):x.cps.all (fun k=>decide (k<1114112))=true:=by
 refine dP (List.all_eq_true.mpr fun k hk=>?_)
 have:=List.all_eq_true.mp h.lt k hk
 simp only[decide_eq_true_eq]at this ⊢
 omega
theorem Wd.ok{x:Str}(h:Wd x):x.cps.all (fun k=>decide (k<1114112))=true:=h.toW0.ok
theorem bT{k:Nat}{c:Cells}{x:Str}(h:x.cps.all (fun k=>decide (k<1114112))=true):data c (k+1) (.str x)=some (.str x):=by
 have:data c (k+1) (.str x)=if x.cps.all (fun k=>decide (k<1114112))=true then some (.str x)else none:=rfl
 rw[this,if_pos h]
theorem gJ{x y:Str}{c:Cells}(hx:x.cps.all (fun k=>decide (k<1114112))=true)(hy:y.cps.all (fun k=>decide (k<1114112))=true):cQ (.str x) (.str y) c=some (.bl (decide (x=y)),c):=by
 have:wj (.str x) (.str y) c=(data c 6 (.str x)).bind fun d=>(data c 6 (.str y)).bind fun e=>some (@decide (d=e) (Classical.propDecidable _)):=rfl
 unfold cQ
 rw[this,bT hx,bT hy]
 simp
theorem tZ{c:Cells}{k:Nat}:∀(ws:List Str),(∀w∈ws,w.cps.all (fun k=>decide (k<1114112))=true)→omap (data c (k+1)) (ws.map D.str)=some (ws.map PyData.str)
 |[],_=>rfl
 |w::ws,h=>by
  rw[List.map_cons,List.map_cons]
  unfold omap
  rw[bT (h w (List.mem_cons_self ..)),Option.bind_some,tZ ws fun v hv=>h v (List.mem_cons_of_mem _ hv)]
  rfl
theorem Ct{x:Str}{ws:List Str}{c:Cells}(hx:x.cps.all (fun k=>decide (k<1114112))=true)(h:∀w∈ws,w.cps.all (fun k=>decide (k<1114112))=true):Ha (.str x) (.tup (ws.map D.str)) c=some (.bl (decide (x∈ws)),c):=by
 unfold Ha KI
 rw[tW,Option.bind_some,bT hx,Option.bind_some,tZ ws h]
 simp
theorem len_app{x y:Str}:(x++y).length=x.length+y.length:=by
 show(x.cps++y.cps).size=_
 rw[Array.size_append];rfl
theorem iq{x y:Str}{c:Cells}(h:x.length+y.length≤10000):dO (.str x) (.str y) c=some (.str (x++y),c):=by
 have:dO (.str x) (.str y) c=if x.length+y.length≤cU then some (.str (x++y),c)else none:=rfl
 rw[this,if_pos (df h)]
theorem kY{α:Type}{xs:List α}{g:Int}(h0: 0≤g)(h1:g<xs.length):∃x,fA xs g=some x∧x∈xs:=by
 have hg:g.toNat<xs.length:=by omega
 refine⟨xs[g.toNat],?_,List.getElem_mem hg⟩
 have:=tX (xs:=xs) (n:=g.toNat) (x:=xs[g.toNat]) (List.getElem?_eq_getElem hg)
 rwa[show((g.toNat:Nat):Int)=g by omega]at this
theorem E8{g:Int}{c:Cells}(h0: 0≤g)(h1:g<26):∃k,tL (.str "abcdefghijklmnopqrstuvwxyz") (.int g) c=some (.str ⟨#[k]⟩,c)∧(97≤k∧k≤122):=by
 have hl:("abcdefghijklmnopqrstuvwxyz":Str).cps.toList.length=26:=by decide
 obtain⟨k,e,hm⟩:=kY (xs:=("abcdefghijklmnopqrstuvwxyz":Str).cps.toList) h0 (by rw[hl];exact h1)
 have ha:∀k∈("abcdefghijklmnopqrstuvwxyz":Str).cps.toList,97≤k∧k≤122:=by decide
 refine⟨k,?_,ha k hm⟩
 have DA:("abcdefghijklmnopqrstuvwxyz":Str).length≤cU:=df (by decide)
 have:tL (.str "abcdefghijklmnopqrstuvwxyz") (.int g) c=if ("abcdefghijklmnopqrstuvwxyz":Str).length≤cU then(fA ("abcdefghijklmnopqrstuvwxyz":Str).cps.toList g).bind fun k=>some (.str ⟨#[k]⟩,c)else none:=rfl
 rw[this,if_pos DA,e]
 rfl
def Lf(l:Nat)(m:Int)(c:Cells):Prop:=∃a b:Int,c[l]? =some (.lst [.int a,.int b,.int m])
theorem Lf.lt{l:Nat}{m:Int}{c:Cells}(h:Lf l m c):l<c.length:=by obtain⟨a,b,h⟩:=h;exact dJ h
theorem Lf.keep{l:Nat}{m:Int}{c c':Cells}{S:List Nat}(h:Lf l m c)(k:Kq S c c')(hs:l∉S):Lf l m c':=by obtain⟨a,b,h⟩:=h;exact⟨a,b,k.get h hs⟩
theorem Lf.more{l:Nat}{m:Int}{c zs:Cells}(h:Lf l m c):Lf l m (c++zs):=by obtain⟨a,b,h⟩:=h;exact⟨a,b,bb h⟩
theorem eh{l:Nat}{m k:Int}{c:Cells}(h:Lf l m c)(h0: 0<k)(hk:k<1000000000):∃g c',au [.ref l,.int k] c=some (.int g,c')∧0≤g∧g<k∧Lf l m c'∧Kq [l] c c':=by
 have hC:=h.lt
 obtain⟨a,b,hc⟩:=h
 have s1:=aP hc
 have l1:=aT hc
 have hm:My.Bd 8900 k:=My.Bd.mono (rm (i:=k) (by omega)) (by decide)
 by_cases ha:a=0
 ·refine⟨b % k,c.set l (.lst [.int a,.int (b / k),.int m]),?_,Int.emod_nonneg _ (by omega),Int.emod_lt_of_pos _ h0,⟨a,b / k,?_⟩,Kq.set (by simp)⟩
  ·subst ha
   simp[au,g8,iE,de,s1,Ap h0,ij h0 hm,s_,l1,n_]
  ·simp[hC]
 ·refine⟨a % k,c.set l (.lst [.int (a / k),.int b,.int m]),?_,Int.emod_nonneg _ (by omega),Int.emod_lt_of_pos _ h0,⟨a / k,b,?_⟩,Kq.set (by simp)⟩
  ·simp[au,g8,iE,de,s1,Ap h0,ij h0 hm,s_,l1,n_,ha]
  ·simp[hC]
theorem ny{n i:Nat}{lo:Int}{d:D}(h:(fT lo n)[i]? =some d):i<n∧d= .int (lo+(i:Int)):=by
 unfold fT at h
 rw[List.getElem?_map]at h
 by_cases hi:i<n
 ·rw[List.getElem?_range hi]at h;cases h;exact⟨hi,rfl⟩
 ·rw[List.getElem?_eq_none_iff.mpr (by simpa using Nat.le_of_not_lt hi)]at h;cases h
theorem pN{n:Nat}{lo:Int}:(fT lo n).length=n:=by simp[fT]
theorem ka{it:XI}{g:XG}{b:XS}{σ:Qm.Env}{c c1:Cells}{I:Itm}(h:it σ c=some (I,c1)):g6 it g b σ c=cj I.ks g b I.ds σ c1:=by
 unfold g6
 rw[h,Option.bind_some]
theorem az{a b:XS}{σ σ1:Qm.Env}{c c1:Cells}{r:Option (Fl×Qm.Env×Cells)}(h1:a σ c=some (.nx,σ1,c1))(h2:b σ1 c1=r):aA a b σ c=r:=by
 rw[qE,h1,Option.bind_some]
 exact h2
theorem HQ{x y:Str}(hx:x.cps.toList.all (fun k=>decide (97≤k∧k≤122))=true)(hy:y.cps.toList.all (fun k=>decide (97≤k∧k≤122))=true):(x++y).cps.toList.all (fun k=>decide (97≤k∧k≤122))=true:=by
 show(x.cps++y.cps).toList.all _=true
 rw[Array.toList_append,List.all_append,hx,hy];rfl
theorem E9:∀x∈(["an","nd","o","r","no","ot","t","ny","y","andor","nota","anyone"]:List Str),W0 x:=by
 intro x hx
 have h:∀x∈(["an","nd","o","r","no","ot","t","ny","y","andor","nota","anyone"]:List Str),x.cps.toList.all (fun k=>decide (97≤k∧k≤122))=true∧0<x.length∧x.length≤8:=by decide
 exact⟨(h x hx).1,(h x hx).2.1,(h x hx).2.2⟩
theorem Pz:∀x∈(["and","or","not","any"]:List Str),Wd (x++"x"):=by
 intro x hx
 have h:∀x∈(["and","or","not","any"]:List Str),(x++"x").cps.toList.all (fun k=>decide (97≤k∧k≤122))=true∧0<(x++"x").length∧(x++"x").length≤8∧(x++"x")∉(["and","or","not","any"]:List Str):=by decide
 exact⟨⟨(h x hx).1,(h x hx).2.1,(h x hx).2.2.1⟩,(h x hx).2.2.2⟩
theorem E_:∀w∈(["and","or","not","any"]:List Str),w.cps.all (fun k=>decide (k<1114112))=true:=by
 intro x hx
 have h:∀x∈(["and","or","not","any"]:List Str),x.cps.toList.all (fun k=>decide (k<1114112))=true:=by decide
 exact dP (h x hx)
theorem HR: 12≤cU:=df (by decide)
theorem Fb{l:Nat}{m:Int}{c:Cells}(h:Lf l m c):∃x c',cg [.ref l] c=some (.str x,c')∧Wd x∧Lf l m c'∧Kq [l] c c':=by
 obtain⟨g,c1,e1,g0,g1,p1,k1⟩:=eh h (k:=8) (by decide) (by decide)
 -- nE PB
 have hr:dX (ag (e2 cn (eC (.int 1)) (aw au [] (ag (eV 0) (ag (eC (.int 8)) ak)))) ak) [some (.ref l),some (.str "abcdefghijklmnopqrstuvwxyz"),some (.str ""),none] c=some (⟨fT 0 (1+g).toNat,[]⟩,c1):=pM (j:=1+g) (by erw[e1]) (by omega)
 have key:=eR (ks:=[]) (g:=aD 3) (body:=(aF 2 (e2 dO (eV 2) (e2 tL (eV 1) (aw au [] (ag (eV 0) (ag (eC (.int 26)) ak)))))))
  (fun i σ c'=>∃x j,σ=[some (.ref l),some (.str "abcdefghijklmnopqrstuvwxyz"),some (.str x),j]∧x.length=i∧x.cps.toList.all (fun k=>decide (97≤k∧k≤122))=true∧Lf l m c'∧Kq [l] c c') (fT 0 (1+g).toNat) 0 [some (.ref l),some (.str "abcdefghijklmnopqrstuvwxyz"),some (.str ""),none] c1 (fun _ _ _ _=>fY) (by
   rintro i d σ c' hd ⟨x,j,rfl,hx,ho,hp,hk⟩
   obtain⟨hi,rfl⟩:=ny hd
   obtain⟨g2,c2,LK,LL,PF,p2,k2⟩:=eh hp (k:=26) (by decide) (by decide)
   obtain⟨k,e3,Vz⟩:=E8 (c:=c2) LL PF
   refine⟨_,c',[some (.ref l),some (.str "abcdefghijklmnopqrstuvwxyz"),some (.str (x++⟨#[k]⟩)),some (.int (0+(i:Int)))],c2,rfl,?_,⟨_,_,rfl,?_,HQ ho (by simpa using Vz),p2,hk.trans k2⟩⟩
   ·have e4:=iq (x:=x) (y:=⟨#[k]⟩) (c:=c2) (by
     have:(⟨#[k]⟩:Str).length=1:=rfl
     omega)
    erw[LK,e3,e4]
   ·rw[len_app,hx];rfl) ⟨"",none,rfl,rfl,by decide,p1,k1⟩
 obtain⟨σ',c2,LK,x,j,rfl,hx,ho,p2,k2⟩:=key
 rw[pN]at hx
 have wx:W0 x:=⟨ho,by omega,by omega⟩
 have f1:g6 (dX (ag (e2 cn (eC (.int 1)) (aw au [] (ag (eV 0) (ag (eC (.int 8)) ak)))) ak)) (aD 3) (aF 2 (e2 dO (eV 2) (e2 tL (eV 1) (aw au [] (ag (eV 0) (ag (eC (.int 26)) ak)))))) [some (.ref l),some (.str "abcdefghijklmnopqrstuvwxyz"),some (.str ""),none] c=some (.nx,[some (.ref l),some (.str "abcdefghijklmnopqrstuvwxyz"),some (.str x),j],c2):=by rw[ka hr];exact LK
 obtain⟨g3,c3,e3,PH,VA,p3,k3⟩:=eh p2 (k:=12) (by decide) (by decide)
 -- a word of nE list
 have step:∃y c4,bV (tV (e2 cQ (aw au [] (ag (eV 0) (ag (eC (.int 12)) ak))) (eC (.int 0)))) (aF 2 (e2 aZ (bC (ag (eC (.str "an")) (ag (eC (.str "nd")) (ag (eC (.str "o")) (ag (eC (.str "r")) (ag (eC (.str "no")) (ag (eC (.str "ot")) (ag (eC (.str "t")) (ag (eC (.str "ny")) (ag (eC (.str "y")) (ag (eC (.str "andor")) (ag (eC (.str "nota")) (ag (eC (.str "anyone")) ak))))))))))))) (aw au [] (ag (eV 0) (ag (eC (.int 12)) ak))))) bp [some (.ref l),some (.str "abcdefghijklmnopqrstuvwxyz"),some (.str x),j] c2=some (.nx,[some (.ref l),some (.str "abcdefghijklmnopqrstuvwxyz"),some (.str y),j],c4)∧W0 y∧Lf l m c4∧Kq [l] c2 c4:=by
  by_cases h3:g3=0
  ·obtain⟨g4,c4,e4,VB,VC,p4,k4⟩:=eh (p3.more (zs:=[.lst ((["an","nd","o","r","no","ot","t","ny","y","andor","nota","anyone"]:List Str).map D.str)])) (k:=12) (by decide) (by decide)
   obtain⟨d,e5,hm⟩:=kY (xs:=(["an","nd","o","r","no","ot","t","ny","y","andor","nota","anyone"]:List Str).map D.str) VB (by simpa using VC)
   obtain⟨y,hy,rfl⟩:=List.mem_map.mp hm
   have ql:c4[c3.length]? =some (.lst ((["an","nd","o","r","no","ot","t","ny","y","andor","nota","anyone"]:List Str).map D.str)):=k4.get (by simp) (by have:=p3.lt;simp;omega)
   have s4:=aP ql
   refine⟨y,c4,?_,E9 y hy,p4,k3.trans (Kq.more.trans k4)⟩
   subst h3
   simp only[List.map_cons,List.map_nil]at e4 s4 e5
   erw[e3,HR,e4,de,s4,e5]
  ·exact⟨x,c3,by erw[e3,h3],wx,p3,k3⟩
 obtain⟨y,c4,f2,wy,p4,k4⟩:=step
 have e6:=Ct (c:=c4) wy.ok E_
 simp only[List.map_cons,List.map_nil]at e6
 have e7:=iq (x:=y) (y:="x") (c:=c4) (by
  have:("x":Str).length=1:=by decide
  have:=wy.LJ
  omega)
 have run:∃z,gu [some (.ref l),none,none,none] c=some (.rt (.str z),[some (.ref l),some (.str "abcdefghijklmnopqrstuvwxyz"),some (.str z),j],c4)∧Wd z:=by
  by_cases hb:y∈(["and","or","not","any"]:List Str)
  rotate_left
  ·rw[decide_eq_false hb]at e6
   refine⟨y,?_,wy,hb⟩
   unfold gu
   refine az (σ1:=[some (.ref l),some (.str "abcdefghijklmnopqrstuvwxyz"),none,none]) (c1:=c) rfl ?_
   refine az (σ1:=[some (.ref l),some (.str "abcdefghijklmnopqrstuvwxyz"),some (.str ""),none]) (c1:=c) rfl ?_
   refine az f1 ?_
   refine az f2 ?_
   erw[e6]
  ·rw[decide_eq_true hb]at e6
   refine⟨y++"x",?_,Pz y hb⟩
   ·unfold gu
    refine az (σ1:=[some (.ref l),some (.str "abcdefghijklmnopqrstuvwxyz"),none,none]) (c1:=c) rfl ?_
    refine az (σ1:=[some (.ref l),some (.str "abcdefghijklmnopqrstuvwxyz"),some (.str ""),none]) (c1:=c) rfl ?_
    refine az f1 ?_
    refine az f2 ?_
    erw[e6,e7]
 obtain⟨z,e8,wz⟩:=run
 refine⟨z,c4,?_,wz,p4,k2.trans k4⟩
 erw[cg,e8]
theorem LM{c:Cells}:sZ (.int 10) (.int 20) c=some (.int 100000000000000000000,c):=by
 unfold sZ;rw[yA,if_pos (by decide)];rfl
theorem HS{i:Int}{c:Cells}(h:My.Bd 64 i):wC (.int i) (.int 18) c=some (.int (i ^ 18),c):=by
 unfold wC;rw[yA,if_pos ⟨by decide,by decide,h.mono (by decide)⟩];rfl
theorem Aq{s:Nat}{c:Cells}{ns:List Int}{k:Int}(hs:c[s]? =some (.ro (ns.map D.int)))(k0: 0≤k):∃z,aY [.ref s,.int k] c=some (.int z,c):=by
 have s1:=vH hs
 have hl:((ns.map D.int).length:Int)=ns.length:=by simp
 by_cases hk:k<ns.length
 ·obtain⟨d,hd,hm⟩:=kY (xs:=ns.map D.int) k0 (by rw[hl];exact hk)
  obtain⟨z,_,rfl⟩:=List.mem_map.mp hm
  refine⟨z,?_⟩
  have LN:decide (k<((ns.map D.int).length:Int))=true:=by rw[hl];exact decide_eq_true hk
  erw[aY,eT,iK,s1,de,LN,hd]
 ·refine⟨0,?_⟩
  have LN:decide (k<((ns.map D.int).length:Int))=false:=by rw[hl];exact decide_eq_false (by omega)
  erw[aY,eT,iK,s1,de,LN]
theorem LO{s:Nat}{c:Cells}{ns:List Int}{k:Int}(hs:c[s]? =some (.ro (ns.map D.int)))(k0: 0≤k)(k1:k<1000):∃a b,dS [.ref s,.int k] c=some (.ref c.length,c++[.lst [.int a,.int b,.int 0]]):=by
 obtain⟨z,e1⟩:=Aq hs k0
 obtain⟨z0,e2⟩:=Aq hs (k:=0) (by decide)
 have a0:=Int.emod_nonneg (if z<0 then -z else z) (show(2147483647:Int)≠0 by decide)
 have a1:=Int.emod_lt_of_pos (if z<0 then -z else z) (show(0:Int)<2147483647 by decide)
 have b0:=Int.emod_nonneg ((if z<0 then -z else z) % 2147483647*48271+7919*k+11) (show(2147483647:Int)≠0 by decide)
 have b1:=Int.emod_lt_of_pos ((if z<0 then -z else z) % 2147483647*48271+7919*k+11) (show(0:Int)<2147483647 by decide)
 have hb:My.Bd 64 (2147483647+((if z<0 then -z else z) % 2147483647*48271+7919*k+11) % 2147483647):=rm (by omega)
 have p1:=HS hb (c:=c)
 have p2:=LM (c:=c)
 have hm:(if decide (z0 % 2=0)=true then(1:Int)else 0).natAbs<2 ^ 64:=by split<;>decide
 have hd:My.Bd 8900 (100000000000000000000:Int):=My.Bd.mono (j:=70) ⟨by decide⟩ (by decide)
 have h9:(0:Int)<100000000000000000000:=by decide
 refine⟨(if z<0 then -z else z)*(if decide (z0 % 2=0)=true then 1 else 0),(2147483647+((if z<0 then -z else z) % 2147483647*48271+7919*k+11) % 2147483647) ^ 18 / 100000000000000000000,?_⟩
 rw[dS,g8,jR]
 erw[e1,e2,p1,p2,ij h9 hd,E1 (mulR hm)]
inductive Tr:Nat→D→Prop
 |is {n:Nat}{x y:Str}:Wd x→Wd y→Tr (n+1) (.tup [.str "is",.str x,.str y])
 |any {n:Nat}:Tr (n+1) (.tup [.str "any"])
 |not {n:Nat}{t:D}:Tr n t→Tr (n+1) (.tup [.str "not",t])
 |and {n:Nat}{t u:D}:Tr n t→Tr n u→Tr (n+1) (.tup [.str "and",t,u])
 |or {n:Nat}{t u:D}:Tr n t→Tr n u→Tr (n+1) (.tup [.str "or",t,u])
theorem Tr.mono:∀{n m:Nat}{t:D},Tr n t→n≤m→Tr m t
 |n+1,m+1,_,.is h1 h2,_=>.is h1 h2
 |n+1,m+1,_,.any,_=>.any
 |n+1,m+1,_,.not h,hl=>.not (h.mono (by omega))
 |n+1,m+1,_,.and h g,hl=>.and (h.mono (by omega)) (g.mono (by omega))
 |n+1,m+1,_,.or h g,hl=>.or (h.mono (by omega)) (g.mono (by omega))
def kw:Nat→Str
 |0=>"and"
 |_=>"or"
inductive Ex:Nat→Nat→List Str→List D→D→Prop
 |is {n:Nat}{x y:Str}:Wd x→Wd y→Ex 0 (n+1) [x,y] [.str x,.str y] (.tup [.str "is",.str x,.str y])
 |any {n:Nat}:Ex 0 (n+1) ["any"] [.str "any"] (.tup [.str "any"])
 |not {n:Nat}{ts:List Str}{is:List D}{t:D}:Ex 0 n ts is t→Ex 0 (n+1) ("not"::ts) (.str "not"::is) (.tup [.str "not",t])
 |par {n:Nat}{ts:List Str}{is:List D}{t:D}:Ex 2 n ts is t→Ex 0 n (("(":Str)::(ts++[(")":Str)])) [t] t
 |up {k n:Nat}{ts:List Str}{is:List D}{t:D}:k<2→Ex k n ts is t→Ex (k+1) n ts is t
 |bin {k n:Nat}{ts us:List Str}{is js:List D}{t u:D}:k<2→Ex (k+1) n ts is t→Ex k n us js u→Ex (k+1) (n+1) (ts++[kw k]++us) (is++[.str (kw k)]++js) (.tup [.str (kw k),t,u])
theorem Ex.mono{k n:Nat}{ts:List Str}{is:List D}{t:D}(h:Ex k n ts is t):∀m,n≤m→Ex k m ts is t:=by
 induction h with
 |is h1 h2=>intro m hm;obtain⟨m,rfl⟩:∃q,m=q+1:=⟨m - 1,by omega⟩;exact .is h1 h2
 |any=>intro m hm;obtain⟨m,rfl⟩:∃q,m=q+1:=⟨m - 1,by omega⟩;exact .any
 |not _ ih=>intro m hm;obtain⟨m,rfl⟩:∃q,m=q+1:=⟨m - 1,by omega⟩;exact .not (ih m (by omega))
 |par _ ih=>intro m hm;exact .par (ih m hm)
 |up hk _ ih=>intro m hm;exact .up hk (ih m hm)
 |bin hk _ _ kb kc=>intro m hm;obtain⟨m,rfl⟩:∃q,m=q+1:=⟨m - 1,by omega⟩;exact .bin hk (kb m (by omega)) (kc m (by omega))
theorem Ex.tr{k n:Nat}{ts:List Str}{is:List D}{t:D}(h:Ex k n ts is t):Tr n t:=by
 induction h with
 |is h1 h2=>exact .is h1 h2
 |any=>exact .any
 |not _ ih=>exact .not ih
 |par _ ih=>exact ih
 |up _ _ ih=>exact ih
 |@bin k _ _ _ _ _ _ _ hk _ _ kb kc=>
  match k,hk with
  |0,_=>exact .and kb kc
  |1,_=>exact .or kb kc
def pr(p:Str×Str):D:=.tup [.str p.1,.str p.2]
structure St(N:Int)(l w:Nat)(m:Int)(ws:List (Str×Str))(c:Cells):Prop where
 lf:Lf l m c
 at_:c[w]? =some (.lst (ws.map pr))
 wd:∀p∈ws,Wd p.1∧Wd p.2
 ne:l≠w
 len:(ws.length:Int)≤N+m
 big:N≤9000
 m0: 0≤m
theorem St.keep{N:Int}{l w:Nat}{m:Int}{ws:List (Str×Str)}{c c':Cells}(h:St N l w m ws c)(k:Kq [l] c c')(hl:Lf l m c'):St N l w m ws c':=⟨hl,k.get h.at_ (by simpa using fun e=>h.ne e.symm),h.wd,h.ne,h.len,h.big,h.m0⟩
theorem St.more{N:Int}{l w:Nat}{m:Int}{ws:List (Str×Str)}{c zs:Cells}(h:St N l w m ws c):St N l w m ws (c++zs):=⟨h.lf.more,bb h.at_,h.wd,h.ne,h.len,h.big,h.m0⟩
theorem Kq.two{l w:Nat}{c c':Cells}(k:Kq [l] c c'):Kq [l,w] c c':=k.mono fun x hx=>by simp at hx ⊢;exact Or.inl hx
theorem Fc{c:Cells}{k:Nat}{p:Str×Str}(h:Wd p.1∧Wd p.2):data c (k+2) (pr p)=some (.tuple [.str p.1,.str p.2]):=by
 have:data c (k+2) (pr p)=(omap (data c (k+1)) [.str p.1,.str p.2]).bind fun ds=>some (.tuple ds):=rfl
 rw[this]
 unfold omap omap omap
 rw[bT h.1.ok,bT h.2.ok]
 rfl
theorem vI{c:Cells}{k:Nat}:∀(ws:List (Str×Str)),(∀p∈ws,Wd p.1∧Wd p.2)→omap (data c (k+2)) (ws.map pr)=some (ws.map fun p=>.tuple [.str p.1,.str p.2])
 |[],_=>rfl
 |w::ws,h=>by
  rw[List.map_cons,List.map_cons]
  unfold omap
  rw[Fc (h w (List.mem_cons_self ..)),Option.bind_some,vI ws fun v hv=>h v (List.mem_cons_of_mem _ hv)]
  rfl
theorem nA{c:Cells}{k n:Nat}{xs:List D}{ds:List PyData}(h:c[n]? =some (.lst xs))(e:omap (data c k) xs=some ds):data c (k+1) (.ref n)=some (.list ds):=by
 have:data c (k+1) (.ref n)=(match c[n]? with
   |some (.lst xs)=>(omap (data c k) xs).bind fun ds=>some (.list ds)
   |some (.ro xs)=>(omap (data c k) xs).bind fun ds=>some (.list ds)
   |_=>none):=rfl
 rw[this,h]
 dsimp only
 rw[e]
 rfl
theorem Fd{w n:Nat}{ws:List (Str×Str)}{c:Cells}(h:c[w]? =some (.lst (ws.map pr)))(hw:∀p∈ws,Wd p.1∧Wd p.2)(hn:c[n]? =some (.lst [])):jD (.ref w) (.ref n) c=some (.bl (decide (ws≠[])),c):=by
 have:wj (.ref w) (.ref n) c=(data c 6 (.ref w)).bind fun d=>(data c 6 (.ref n)).bind fun e=>some (@decide (d=e) (Classical.propDecidable _)):=rfl
 unfold jD
 rw[this,nA h (vI (k:=3) ws hw),nA hn (show omap (data c 5) []=some [] from rfl)]
 simp
theorem e9{a b:Nat}{xs ys:List D}{c:Cells}(h:c[a]? =some (.lst xs))(g:c[b]? =some (.lst ys))(hl:xs.length+ys.length≤10000):cn (.ref a) (.ref b) c=some (.ref c.length,c++[.lst (xs++ys)]):=by
 have:cn (.ref a) (.ref b) c=(bg (.ref a) c).bind fun p=>(bg (.ref b) c).bind fun q=>if p.2.length+q.2.length≤cU then some (.ref c.length,c++[.lst (p.2++q.2)])else none:=rfl
 rw[this,aT h,aT g]
 dsimp only[Option.bind_some]
 rw[if_pos (df hl)]
theorem da{a:Nat}{xs:List D}{y:D}{c:Cells}(h:c[a]? =some (.lst xs))(hl:xs.length<10000):aW (.ref a) [y] c=some (.bf,c.set a (.lst (xs++[y]))):=by
 have:aW (.ref a) [y] c=(bg (.ref a) c).bind fun l=>if l.2.length<cU then some (.bf,c.set l.1 (.lst (l.2++[y])))else none:=rfl
 rw[this,aT h]
 dsimp only[Option.bind_some]
 rw[if_pos (Nat.lt_of_lt_of_le hl (df (Nat.le_refl _)))]
theorem jq: 0≤cU:=Nat.zero_le _
theorem aI{c:Cells}{z:Cell}:(c++[z])[c.length]? =some z:=by simp
theorem Lf.store{l:Nat}{m:Int}{c:Cells}(h:Lf l m c){σ:Qm.Env}(VD:σ[0]? =some (some (.ref l))):∃c',jI (e2 cn (e2 aZ (eV 0) (eC (.int 2))) (eC (.int 2))) (s_ (eV 0) (eC (.int 2))) σ c=some (.nx,σ,c')∧Lf l (m+2) c'∧Kq [l] c c':=by
 have hC:=h.lt
 obtain⟨a,b,hc⟩:=h
 have s1:=aP hc
 have l1:=aT hc
 refine⟨c.set l (.lst [.int a,.int b,.int (m+2)]),?_,⟨a,b,by simp[hC]⟩,Kq.set (by simp)⟩
 simp[VD,de,s1,s_,l1,n_]
theorem Lf.ix{l:Nat}{m:Int}{c:Cells}(h:Lf l m c):aZ (.ref l) (.int 2) c=some (.int m,c):=by
 obtain⟨a,b,hc⟩:=h
 rw[de,aP hc]
 simp
def Out(k:Nat)(N:Int)(l w:Nat)(m:Int)(c:Cells)(o:Option (D×Cells)):Prop:=∃s t m' fV c' ss is,o=some (.tup [.ref s,t],c')∧Ex k (m' - m).toNat ss is t∧m+2≤m'∧m'≤26∧St N l w m' fV c'∧c'[s]? =some (.lst (ss.map D.str))∧c.length≤s∧(ss.length:Int)+1≤4*(m' - m)∧Kq [l,w] c c'
def vJ(F:FN)(r:Nat):Prop:=∀N l w m ws c,St N l w m ws c→m≤24→Out 0 N l w m c (F [.ref l,.ref w,.int r] c)
def jT(F:FN)(r:Nat)(x:Str)(k:Nat):Prop:=∀N l w m ws c,St N l w m ws c→m≤24→Out k N l w m c (F [.ref l,.ref w,.int r,.str x] c)
theorem St.HU{N:Int}{l w:Nat}{m:Int}{ws:List (Str×Str)}{c:Cells}(h:St N l w m ws c):w<c.length:=dJ h.at_
theorem LP{N:Int}{l w:Nat}{m:Int}{ws:List (Str×Str)}{c:Cells}{r g:D}{gi:Int}(hg:g= .int gi)(h:St N l w m ws c)(hm:m≤26):∃P x y c',
  (aA (aF 4 (bC (ag (aw cg [] (ag (eV 0) ak)) (ag (aw cg [] (ag (eV 0) ak)) ak))))
   (aA (bV (dq (tV (e2 cQ (e2 eA (eV 3) (eC (.int 2))) (eC (.int 1)))) (tV (e2 jD (eV 1) (bC ak))))
   (aF 4 (eB qu (ag (e2 aZ (eV 1) (aw au [] (ag (eV 0) (ag (eB eD (ag (eV 1) ak)) ak)))) ak)))
   bp)
   (aA (bW (eM aW (eV 1) (ag (cc (ag (e2 aZ (eV 4) (eC (.int 0))) (ag (e2 aZ (eV 4) (eC (.int 1))) ak))) ak)))
   (bx (cc (ag (eV 4) (ag (cc (ag (eC (.str "is")) (ag (e2 aZ (eV 4) (eC (.int 0))) (ag (e2 aZ (eV 4) (eC (.int 1))) ak)))) ak))))))) [some (.ref l),some (.ref w),some r,some g,none,none,none] c=some (.rt (.tup [.ref P,.tup [.str "is",.str x,.str y]]),[some (.ref l),some (.ref w),some r,some g,some (.ref P),none,none],c')
   ∧Wd x∧Wd y∧Lf l m c'∧c'[w]? =some (.lst ((ws++[(x,y)]).map pr))∧c'[P]? =some (.lst [.str x,.str y])∧c.length≤P∧Kq [l,w] c c':=by
 subst hg
 obtain⟨x1,c1,e1,w1,p1,k1⟩:=Fb h.lf
 obtain⟨x2,c2,e2,w2,p2,k2⟩:=Fb p1
 have h2:St N l w m ws c2:=h.keep (k1.trans k2) p2
 have GR:=h2.HU
 have VE:=h2.lf.lt
 have uI:=(k1.trans k2).len
 have step:∃P x y c6,bV (dq (tV (Qm.e2 cQ (Qm.e2 eA (eV 3) (eC (.int 2))) (eC (.int 1)))) (tV (Qm.e2 jD (eV 1) (bC ak))))
   (aF 4 (eB qu (ag (Qm.e2 aZ (eV 1) (aw au [] (ag (eV 0) (ag (eB eD (ag (eV 1) ak)) ak)))) ak)))
   bp [some (.ref l),some (.ref w),some r,some (.int gi),some (.ref c2.length),none,none] (c2++[.lst [.str x1,.str x2]])=some (.nx,[some (.ref l),some (.ref w),some r,some (.int gi),some (.ref P),none,none],c6)
   ∧c6[P]? =some (.lst [.str x,.str y])∧Wd x∧Wd y∧St N l w m ws c6∧c2.length≤P∧Kq [l] c2 c6:=by
  have h3:St N l w m ws (c2++[.lst [.str x1,.str x2]]):=h2.more
  by_cases g1:gi % 2=1
  ·have h4:St N l w m ws (c2++[.lst [.str x1,.str x2]]++[.lst []]):=h3.more
   have n1:=Fd (n:=(c2++[Cell.lst [.str x1,.str x2]]).length) h4.at_ h4.wd aI
   by_cases hw:ws=[]
   ·have LQ:decide (ws≠[])=false:=decide_eq_false (fun e=>e hw)
    rw[LQ]at n1
    refine⟨c2.length,x1,x2,c2++[.lst [.str x1,.str x2]]++[.lst []],?_,bb aI,w1,w2,h4,Nat.le_refl _,Kq.more.trans Kq.more⟩
    erw[g1,jq,n1]
   ·have LQ:decide (ws≠[])=true:=decide_eq_true hw
    rw[LQ]at n1
    have Yl: 0<ws.length:=by cases ws with
     |nil=>exact absurd rfl hw
     |cons a b=>simp
    have hlen:=h4.len
    have PJ:=h4.big
    have PK:=h4.m0
    obtain⟨i,c5,e5,i0,i1,p5,k5⟩:=eh h4.lf (k:=(ws.length:Int)) (by omega) (by omega)
    have h5:=h4.keep k5 p5
    have s4:=aP h4.at_
    have s5:=aP h5.at_
    obtain⟨d,ed,hd⟩:=kY (xs:=ws.map pr) i0 (by simpa using i1)
    obtain⟨p,hp,rfl⟩:=List.mem_map.mp hd
    have VF:au [.ref l,.int ((ws.map pr).length:Int)] (c2++[.lst [.str x1,.str x2]]++[.lst []])=some (.int i,c5):=by rw[List.length_map];exact e5
    have kk:Kq [l] c2 c5:=Kq.more.trans (Kq.more.trans k5)
    refine⟨c5.length,p.1,p.2,c5++[.lst [.str p.1,.str p.2]],?_,aI,(h5.wd p hp).1,(h5.wd p hp).2,h5.more,kk.len,kk.trans Kq.more⟩
    have bl:qu [pr p] c5=some (.ref c5.length,c5++[.lst [.str p.1,.str p.2]]):=rfl
    erw[g1,jq,n1,iK,s4,VF,de,s5,ed,bl]
  ·exact⟨c2.length,x1,x2,c2++[.lst [.str x1,.str x2]],by erw[g1],aI,w1,w2,h3,Nat.le_refl _,Kq.more⟩
 obtain⟨P,x,y,c6,f1,q1,wx,wy,h6,hP,k6⟩:=step
 have sP:=aP q1
 have PL:P≠w:=by omega
 have VG:P≠l:=by omega
 have VH:=h6.len
 have VI:=h6.big
 have ap:=da (y:=.tup [.str x,.str y]) h6.at_ (by rw[List.length_map];omega)
 have l6:=aT h6.at_
 have VJ:=h6.HU
 refine⟨P,x,y,c6.set w (.lst (ws.map pr++[.tup [.str x,.str y]])),?_,wx,wy,?_,?_,?_,by omega,(((k1.trans k2).trans k6).two).trans (Kq.set (by simp))⟩
 ·refine az (σ1:=[some (.ref l),some (.ref w),some r,some (.int gi),some (.ref c2.length),none,none]) (c1:=c2++[.lst [.str x1,.str x2]]) (by erw[e1,e2]) ?_
  refine az f1 ?_
  have VL:ck (.ref P) (c6.set w (.lst (ws.map pr++[.tup [.str x,.str y]])))=some [.str x,.str y]:=aP (by rw[List.getElem?_set,if_neg (fun e=>PL e.symm)];exact q1)
  refine az (σ1:=[some (.ref l),some (.ref w),some r,some (.int gi),some (.ref P),none,none]) (c1:=c6.set w (.lst (ws.map pr++[.tup [.str x,.str y]]))) (by erw[de,sP,l6,ap]) ?_
  erw[de,VL]
 ·exact h6.lf.keep (Kq.set (S:=[w]) (by simp)) (by simpa using h6.ne)
 ·rw[List.getElem?_set,if_pos rfl,if_pos VJ]
  simp[pr]
 ·rw[List.getElem?_set,if_neg (fun e=>PL e.symm)];exact q1
theorem Bl{T B:FN}{r:Nat}(hT:∀q,r=q+1→vJ T q)(hB:∀q,r=q+1→jT B q "or" 2):vJ (dE 3 7 (eZ T B)) r:=by
 intro N l w m ws c h hm
 obtain⟨g,c1,e1,g0,g1,p1,k1⟩:=eh h.lf (k:=8) (by decide) (by decide)
 obtain⟨c2,e2,p2,k2⟩:=p1.store (σ:=[some (.ref l),some (.ref w),some (.int r),some (.int g),none,none,none]) rfl
 have hlen:=h.len
 have PJ:=h.big
 have PK:=h.m0
 have kk:=k1.trans k2
 have h2:St N l w (m+2) ws c2:=⟨p2,(kk.get h.at_ (by simpa using fun e=>h.ne e.symm)),h.wd,h.ne,by omega,h.big,by have:=h.m0;omega⟩
 have DA:=h2.lf.lt
 have YE:=h2.HU
 have ht:mn (tV (Qm.e2 j9 (eV 3) (eC (.int 4)))) (mn (tV (Qm.e2 j9 (eV 2) (eC (.int 1)))) (tV (Qm.e2 rH (Qm.e2 aZ (eV 0) (eC (.int 2))) (eC (.int 24))))) [some (.ref l),some (.ref w),some (.int r),some (.int g),none,none,none] c2=some (decide (g<4∨(r:Int)<1∨24<m+2),c2):=by
  have ix:=p2.ix
  by_cases a1:g<4<;>by_cases a2:(r:Int)<1<;>by_cases a3: 24<m+2<;>erw[a1,a2,a3,ix,true_or,or_true,or_false,false_or]
 have start:∀{R:Option (Fl×Qm.Env×Cells)},(aA (bV (mn (tV (Qm.e2 j9 (eV 3) (eC (.int 4)))) (mn (tV (Qm.e2 j9 (eV 2) (eC (.int 1)))) (tV (Qm.e2 rH (Qm.e2 aZ (eV 0) (eC (.int 2))) (eC (.int 24)))))) (aA (aF 4 (bC (ag (aw cg [] (ag (eV 0) ak)) (ag (aw cg [] (ag (eV 0) ak)) ak))))
   (aA (bV (dq (tV (Qm.e2 cQ (Qm.e2 eA (eV 3) (eC (.int 2))) (eC (.int 1)))) (tV (Qm.e2 jD (eV 1) (bC ak))))
   (aF 4 (eB qu (ag (Qm.e2 aZ (eV 1) (aw au [] (ag (eV 0) (ag (eB eD (ag (eV 1) ak)) ak)))) ak)))
   bp)
   (aA (bW (eM aW (eV 1) (ag (cc (ag (Qm.e2 aZ (eV 4) (eC (.int 0))) (ag (Qm.e2 aZ (eV 4) (eC (.int 1))) ak))) ak)))
   (bx (cc (ag (eV 4) (ag (cc (ag (eC (.str "is")) (ag (Qm.e2 aZ (eV 4) (eC (.int 0))) (ag (Qm.e2 aZ (eV 4) (eC (.int 1))) ak)))) ak))))))) bp)
   (aA (bV (tV (Qm.e2 cQ (eV 3) (eC (.int 4))))
   (bx (cc (ag (bC (ag (eC (.str "any")) ak)) (ag (cc (ag (eC (.str "any")) ak)) ak))))
   bp)
   (aA (bV (tV (Qm.e2 cQ (eV 3) (eC (.int 5))))
   (aA (jI (aw T [] (ag (eV 0) (ag (eV 1) (ag (Qm.e2 jc (eV 2) (eC (.int 1))) ak)))) (gj 2 (bP (aD 5) (bP (aD 6) gh))))
   (bx (cc (ag (Qm.e2 cn (bC (ag (eC (.str "not")) ak)) (eV 5)) (ag (cc (ag (eC (.str "not")) (ag (eV 6) ak))) ak)))))
   bp)
   (aA (jI (aw B [] (ag (eV 0) (ag (eV 1) (ag (Qm.e2 jc (eV 2) (eC (.int 1))) (ag (eC (.str "or")) ak))))) (gj 2 (bP (aD 5) (bP (aD 6) gh))))
   (bx (cc (ag (Qm.e2 cn (Qm.e2 cn (bC (ag (eC (.str "(")) ak)) (eV 5)) (bC (ag (eC (.str ")")) ak))) (ag (eV 6) ak)))))))) [some (.ref l),some (.ref w),some (.int r),some (.int g),none,none,none] c2=R→dE 3 7 (eZ T B) [.ref l,.ref w,.int r] c=R.bind fin:=by
  intro R hR
  rw[g8,if_pos (show [D.ref l,D.ref w,D.int r].length=3 from rfl)]
  congr 1
  unfold eZ
  show aA _ _ [some (.ref l),some (.ref w),some (.int r),none,none,none,none] c=R
  refine az (σ1:=[some (.ref l),some (.ref w),some (.int r),some (.int g),none,none,none]) (c1:=c1) (by erw[e1]) ?_
  refine az e2 ?_
  exact hR
 by_cases lf:g<4∨(r:Int)<1∨24<m+2
 ·obtain⟨P,x,y,c',f1,wx,wy,q1,q2,q3,q4,q5⟩:=LP (r:=.int r) (g:=.int g) rfl h2 (by omega)
  rw[decide_eq_true lf]at ht
  have run:=start (by
   refine Eq.trans (b:=some (.rt (.tup [.ref P,.tup [.str "is",.str x,.str y]]),[some (.ref l),some (.ref w),some (.int r),some (.int g),some (.ref P),none,none],c')) ?_ rfl
   rw[qE,rj,ht,Option.bind_some,if_pos rfl,f1]
   rfl)
  refine⟨P,.tup [.str "is",.str x,.str y],m+2,ws++[(x,y)],c',[x,y],[.str x,.str y],run,?_,by omega,by omega,⟨q1,q2,?_,h.ne,?_,h.big,by have:=h.m0;omega⟩,q3,by have:=kk.len;omega,?_,kk.two.trans q5⟩
  ·rw[show(m+2 - m).toNat=1+1 by omega];exact .is wx wy
  ·intro p hp
   rcases List.mem_append.mp hp with hp|hp
   ·exact h.wd p hp
   ·rw[List.mem_singleton.mp hp];exact⟨wx,wy⟩
  ·rw[List.length_append];simp only[List.length_cons,List.length_nil];omega
  ·simp only[List.length_cons,List.length_nil];omega
 ·rw[decide_eq_false lf]at ht
  obtain⟨q,rfl⟩:∃q,r=q+1:=⟨r - 1,by omega⟩
  have er:((q+1:Nat):Int) - 1=(q:Int):=by omega
  by_cases g4:g=4
  ·subst g4
   have run:=start (R:=some (.rt (.tup [.ref c2.length,.tup [.str "any"]]),[some (.ref l),some (.ref w),some (.int (q+1:Nat)),some (.int 4),none,none,none],c2++[.lst [.str "any"]])) (by
    rw[qE,rj,ht,Option.bind_some,if_neg Bool.false_ne_true]
    erw[])
   refine⟨c2.length,.tup [.str "any"],m+2,ws,c2++[Cell.lst [D.str "any"]],["any"],[.str "any"],run,?_,by omega,by omega,h2.more,aI,kk.len,?_,kk.two.trans Kq.more⟩
   ·rw[show(m+2 - m).toNat=1+1 by omega];exact .any
   ·simp only[List.length_cons,List.length_nil];omega
  by_cases g5:g=5
  ·subst g5
   obtain⟨s,t,m',fV,c',ss,is,f1,ft,fm,LR,fS,fs,fl,fn,fk⟩:=hT q rfl N l w (m+2) ws c2 h2 (by omega)
   have ha:=e9 (c:=c'++[.lst [.str "not"]]) (a:=c'.length) (b:=s) (xs:=[.str "not"]) (ys:=ss.map D.str) aI (bb fs) (by simp only[List.length_cons,List.length_nil,List.length_map];omega)
   simp only[List.cons_append,List.nil_append]at ha
   have run:=start (R:=some (.rt (.tup [.ref (c'++[Cell.lst [.str "not"]]).length,.tup [.str "not",t]]),[some (.ref l),some (.ref w),some (.int (q+1:Nat)),some (.int 5),none,some (.ref s),some t],c'++[.lst [.str "not"]]++[.lst (.str "not"::ss.map D.str)])) (by
    rw[qE,rj,ht,Option.bind_some,if_neg Bool.false_ne_true]
    erw[er,f1,ha])
   refine⟨_,.tup [.str "not",t],m',fV,_,"not"::ss,.str "not"::is,run,?_,by omega,by omega,fS.more.more,aI,?_,?_,(kk.two.trans fk).trans (Kq.more.trans Kq.more)⟩
   ·rw[show(m' - m).toNat=((m' - m).toNat - 1)+1 by omega];exact .not (ft.mono _ (by omega))
   ·have:=kk.len;have:=fk.len;rw[List.length_append];omega
   ·simp only[List.length_cons,List.length_nil];omega
  ·obtain⟨s,t,m',fV,c',ss,is,f1,ft,fm,LR,fS,fs,fl,fn,fk⟩:=hB q rfl N l w (m+2) ws c2 h2 (by omega)
   have ha:=e9 (c:=c'++[.lst [.str "("]]) (a:=c'.length) (b:=s) (xs:=[.str "("]) (ys:=ss.map D.str) aI (bb fs) (by simp only[List.length_cons,List.length_nil,List.length_map];omega)
   have hb:=e9 (c:=c'++[.lst [.str "("]]++[.lst (.str "("::ss.map D.str)]++[.lst [.str ")"]]) (a:=(c'++[Cell.lst [.str "("]]).length) (b:=(c'++[Cell.lst [.str "("]]++[Cell.lst (.str "("::ss.map D.str)]).length) (xs:=.str "("::ss.map D.str) (ys:=[.str ")"]) (bb aI) aI (by simp only[List.length_cons,List.length_nil,List.length_map];omega)
   simp only[List.cons_append,List.nil_append]at ha hb
   have run:=start (R:=some (.rt (.tup [.ref (c'++[Cell.lst [.str "("]]++[Cell.lst (.str "("::ss.map D.str)]++[Cell.lst [.str ")"]]).length,t]),[some (.ref l),some (.ref w),some (.int (q+1:Nat)),some (.int g),none,some (.ref s),some t],c'++[.lst [.str "("]]++[.lst (.str "("::ss.map D.str)]++[.lst [.str ")"]]++[.lst (.str "("::(ss.map D.str++[.str ")"]))])) (by
    rw[qE,rj,ht,Option.bind_some,if_neg Bool.false_ne_true]
    erw[er,f1,g4,g5,ha,hb])
   refine⟨_,t,m',fV,_,("(":Str)::(ss++[(")":Str)]),[t],run,(ft.mono (m' - m).toNat (by omega)).par,by omega,by omega,fS.more.more.more.more,by rw[List.map_cons,List.map_append];exact aI,?_,?_,(kk.two.trans fk).trans (Kq.more.trans (Kq.more.trans (Kq.more.trans Kq.more)))⟩
   ·have:=kk.len;have:=fk.len;rw[List.length_append,List.length_append,List.length_append];omega
   ·simp only[List.length_append,List.length_cons,List.length_nil];omega
theorem yC{T B:FN}{r:Nat}(hT:vJ T r):jT (dE 4 10 (dB T B)) r "" 0:=by
 intro N l w m ws c h hm
 obtain⟨s,t,m',fV,c',ss,is,f1,rest⟩:=hT N l w m ws c h hm
 refine⟨s,t,m',fV,c',ss,is,?_,rest⟩
 have e0:=gJ (x:="") (y:="") (c:=c) (dP (by decide)) (dP (by decide))
 have e1:decide (("":Str)= "")=true:=by decide
 rw[e1]at e0
 rw[g8,dB]
 erw[e0,f1]
noncomputable def wN(x:Str)(B:FN):XS:=(bV (tV (e2 j9 (e2 aZ (eV 0) (eC (.int 2))) (eC (.int 24))))
   (aA (jI (aw B [] (ag (eV 0) (ag (eV 1) (ag (eV 2) (ag (eV 4) ak))))) (gj 2 (bP (aD 8) (bP (aD 9) gh))))
   (aA (aF 5 (e2 cn (e2 cn (eV 5) (bC (ag (eV 3) ak))) (eV 8)))
   (aF 6 (cc (ag (eV 3) (ag (eV 6) (ag (eV 9) ak)))))))
   bp)
theorem r_{T B:FN}{r:Nat}{x y:Str}(VM:decide (x= "")=false)(bt:x.cps.all (fun k=>decide (k<1114112))=true)
  (hd:∀(σ:Qm.Env) (c:Cells),σ[3]? =some (some (.str x))→tN (jN "or" "and" "and" "") (eV 3) σ c=some (.str y,c++[.kD [("or",.str "and"),("and",.str "")]]))
  {k:Nat}(hk:k<2)(hx:x=kw k)(hB:jT B r y k):jT (dE 4 10 (dB T B)) r x (k+1):=by
 intro N l w m ws c h hm
 have h1:St N l w m ws (c++[.kD [("or",.str "and"),("and",.str "")]]):=h.more
 obtain⟨s,t,m1,PM,c2,ss,is,f1,ft,fm,LR,fS,fs,fl,fn,fk⟩:=hB N l w m ws _ h1 hm
 have k2:Kq [l,w] c c2:=Kq.more.trans fk
 have PN:St N l w m1 PM (c2++[.lst ([0,0,0,1,1,2,0,5].map D.int)]):=fS.more
 obtain⟨g,c4,e4,g0,g1,p4,k4⟩:=eh PN.lf (k:=8) (by decide) (by decide)
 have S4:=PN.keep k4 p4
 have DA:=fS.lf.lt
 have q4:c4[c2.length]? =some (.lst ([0,0,0,1,1,2,0,5].map D.int)):=k4.get aI (by simp;omega)
 obtain⟨d,ed,LS⟩:=kY (xs:=[0,0,0,1,1,2,0,5].map D.int) g0 (by simpa using g1)
 obtain⟨n,hn,rfl⟩:=List.mem_map.mp LS
 have BS:∀n∈([0,0,0,1,1,2,0,5]:List Int),0≤n∧n≤5:=by decide
 have PQ:=BS n hn
 have s4:=aP q4
 have VN:Kq [l,w] c c4:=k2.trans (Kq.more.trans k4.two)
 have VE:=h.lf.lt
 have YF:=h.HU
 have hlen:=h.len
 have PK:=h.m0
 have EY:c.length≤s:=by rw[List.length_append]at fl;omega
 have VO:c4[s]? =some (.lst (ss.map D.str)):=k4.get (bb fs) (by simp;omega)
 simp only[List.map_cons,List.map_nil]at e4 s4 ed
 have hr:dX (ag (e2 aZ (bC (ag (eC (.int 0)) (ag (eC (.int 0)) (ag (eC (.int 0)) (ag (eC (.int 1)) (ag (eC (.int 1)) (ag (eC (.int 2)) (ag (eC (.int 0)) (ag (eC (.int 5)) ak))))))))) (aw au [] (ag (eV 0) (ag (eC (.int 8)) ak)))) ak) [some (.ref l),some (.ref w),some (.int r),some (.str x),some (.str y),some (.ref s),some t,none,none,none] c2=some (⟨fT 0 n.toNat,[]⟩,c4):=pM (j:=n) (by erw[e4,de,s4,ed]) (by omega)
 have key:=eR (ks:=[]) (g:=aD 7) (body:=wN x B)
  (fun _ σ c'=>∃s t m' fV ss is j mo ot,σ=[some (.ref l),some (.ref w),some (.int r),some (.str x),some (.str y),some (.ref s),some t,j,mo,ot]∧Ex (k+1) (m' - m).toNat ss is t∧m+2≤m'∧m'≤26∧St N l w m' fV c'∧c'[s]? =some (.lst (ss.map D.str))∧c.length≤s∧(ss.length:Int)+1≤4*(m' - m)∧Kq [l,w] c c') (fT 0 n.toNat) 0 [some (.ref l),some (.ref w),some (.int r),some (.str x),some (.str y),some (.ref s),some t,none,none,none] c4 (fun _ _ _ _=>fY) (by
   rintro i d σ c' BC ⟨s,t,m',fV,ss,is,j,mo,ot,rfl,gt,gm,LU,gS,gs,gl,gn,gk⟩
   obtain⟨hi,rfl⟩:=ny BC
   have ix:=gS.lf.ix
   by_cases hb:m'<24
   ·obtain⟨s2,t2,m2,VP,c5,LV,VQ,j1,jt,jm,YG,jS,js,jl,jn,jk⟩:=hB N l w m' fV c' gS (by omega)
    have VR:c5[s]? =some (.lst (ss.map D.str)):=jk.get gs (by simp;omega)
    have a1:=e9 (c:=c5++[.lst [.str x]]) (a:=s) (b:=c5.length) (xs:=ss.map D.str) (ys:=[.str x]) (bb VR) aI (by simp only[List.length_cons,List.length_nil,List.length_map];omega)
    have a2:=e9 (c:=c5++[.lst [.str x]]++[.lst (ss.map D.str++[.str x])]) (a:=(c5++[Cell.lst [.str x]]).length) (b:=s2) (xs:=ss.map D.str++[.str x]) (ys:=LV.map D.str) aI (bb (bb js)) (by simp only[List.length_append,List.length_cons,List.length_nil,List.length_map];omega)
    refine⟨_,c',[some (.ref l),some (.ref w),some (.int r),some (.str x),some (.str y),some (.ref (c5++[Cell.lst [.str x]]++[Cell.lst (ss.map D.str++[.str x])]).length),some (.tup [.str x,t,t2]),some (.int (0+(i:Int))),some (.ref s2),some t2],c5++[.lst [.str x]]++[.lst (ss.map D.str++[.str x])]++[.lst (ss.map D.str++[.str x]++LV.map D.str)],rfl,?_,⟨_,_,m2,VP,ss++[x]++LV,is++[.str x]++VQ,_,_,_,rfl,?_,by omega,by omega,jS.more.more.more,by rw[List.map_append,List.map_append];exact aI,?_,?_,(gk.trans jk).trans (Kq.more.trans (Kq.more.trans Kq.more))⟩⟩
    ·unfold wN
     erw[ix,hb,j1,a1,a2]
    ·rw[show(m2 - m).toNat=((m2 - m).toNat - 1)+1 by omega]
     subst hx;exact .bin hk (gt.mono _ (by omega)) (jt.mono _ (by omega))
    ·have:=(gk.trans jk).len
     simp only[List.length_append,List.length_cons,List.length_nil];omega
    ·simp only[List.length_append,List.length_cons,List.length_nil];omega
   ·refine⟨_,c',[some (.ref l),some (.ref w),some (.int r),some (.str x),some (.str y),some (.ref s),some t,some (.int (0+(i:Int))),mo,ot],c',rfl,?_,⟨s,t,m',fV,ss,is,_,_,_,rfl,gt,gm,LU,gS,gs,gl,gn,gk⟩⟩
    unfold wN
    erw[ix,hb]) ⟨s,t,m1,PM,ss,is,none,none,none,rfl,.up hk ft,fm,LR,S4,VO,EY,fn,VN⟩
 obtain⟨σ',c',e',s',t',m',fV,VS,t4,j,mo,ot,rfl,gt,gm,LU,gS,gs,gl,gn,gk⟩:=key
 refine⟨s',t',m',fV,c',VS,t4,?_,gt,gm,LU,gS,gs,gl,gn,gk⟩
 have f2:g6 (dX (ag (e2 aZ (bC (ag (eC (.int 0)) (ag (eC (.int 0)) (ag (eC (.int 0)) (ag (eC (.int 1)) (ag (eC (.int 1)) (ag (eC (.int 2)) (ag (eC (.int 0)) (ag (eC (.int 5)) ak))))))))) (aw au [] (ag (eV 0) (ag (eC (.int 8)) ak)))) ak)) (aD 7) (wN x B) [some (.ref l),some (.ref w),some (.int r),some (.str x),some (.str y),some (.ref s),some t,none,none,none] c2=some (.nx,[some (.ref l),some (.ref w),some (.int r),some (.str x),some (.str y),some (.ref s'),some t',j,mo,ot],c'):=by rw[ka hr];exact e'
 have e0:=gJ (x:=x) (y:="") (c:=c) bt (dP (by decide))
 rw[VM]at e0
 have run:dB T B [some (.ref l),some (.ref w),some (.int r),some (.str x),none,none,none,none,none,none] c=some (.rt (.tup [.ref s',t']),[some (.ref l),some (.ref w),some (.int r),some (.str x),some (.str y),some (.ref s'),some t',j,mo,ot],c'):=by
  unfold dB
  refine az (σ1:=[some (.ref l),some (.ref w),some (.int r),some (.str x),none,none,none,none,none,none]) (c1:=c) (by erw[e0]) ?_
  refine az (σ1:=[some (.ref l),some (.ref w),some (.int r),some (.str x),some (.str y),none,none,none,none,none]) (c1:=c++[.kD [("or",.str "and"),("and",.str "")]]) (by rw[qD,hd _ _ rfl];rfl) ?_
  refine az (σ1:=[some (.ref l),some (.ref w),some (.int r),some (.str x),some (.str y),some (.ref s),some t,none,none,none]) (c1:=c2) (by erw[f1]) ?_
  refine az f2 ?_
  erw[]
 erw[run]
theorem yD(σ:Qm.Env)(c:Cells)(h:σ[3]? =some (some (.str "or"))):tN (jN "or" "and" "and" "") (eV 3) σ c=some (.str "and",c++[.kD [("or",.str "and"),("and",.str "")]]):=by
 have h2:ye [(("or":Str),D.str "and"),(("and":Str),D.str "")] "or" =some (.str "and"):=rfl
 simp[tN,jN,h,tM,gw,h2]
theorem vK(σ:Qm.Env)(c:Cells)(h:σ[3]? =some (some (.str "and"))):tN (jN "or" "and" "and" "") (eV 3) σ c=some (.str "",c++[.kD [("or",.str "and"),("and",.str "")]]):=by
 have h2:ye [(("or":Str),D.str "and"),(("and":Str),D.str "")] "and" =some (.str ""):=rfl
 simp[tN,jN,h,tM,gw,h2]
theorem PR:∀(r f:Nat),(4*r+1≤f→vJ (ay f).1 r)∧(4*r+2≤f→jT (ay f).2 r "" 0)∧(4*r+3≤f→jT (ay f).2 r "and" 1)∧(4*r+4≤f→jT (ay f).2 r "or" 2):=by
 intro r
 induction r with
 |zero=>
  have a1:∀f,1≤f→vJ (ay f).1 0:=fun f hf=>by
   obtain⟨g,rfl⟩:∃g,f=g+1:=⟨f - 1,by omega⟩
   exact Bl (fun q h=>by omega) (fun q h=>by omega)
  have a2:∀f,2≤f→jT (ay f).2 0 "" 0:=fun f hf=>by
   obtain⟨g,rfl⟩:∃g,f=g+1:=⟨f - 1,by omega⟩
   exact yC (a1 g (by omega))
  have a3:∀f,3≤f→jT (ay f).2 0 "and" 1:=fun f hf=>by
   obtain⟨g,rfl⟩:∃g,f=g+1:=⟨f - 1,by omega⟩
   exact r_ (by decide) (dP (by decide)) vK (k:=0) (by decide) rfl (a2 g (by omega))
  have a4:∀f,4≤f→jT (ay f).2 0 "or" 2:=fun f hf=>by
   obtain⟨g,rfl⟩:∃g,f=g+1:=⟨f - 1,by omega⟩
   exact r_ (by decide) (dP (by decide)) yD (k:=1) (by decide) rfl (a3 g (by omega))
  exact fun f=>⟨a1 f,a2 f,a3 f,a4 f⟩
 |succ r ih=>
  have a1:∀f,4*(r+1)+1≤f→vJ (ay f).1 (r+1):=fun f hf=>by
   obtain⟨g,rfl⟩:∃g,f=g+1:=⟨f - 1,by omega⟩
   exact Bl (fun q h=>by cases h;exact(ih g).1 (by omega)) (fun q h=>by cases h;exact(ih g).2.2.2 (by omega))
  have a2:∀f,4*(r+1)+2≤f→jT (ay f).2 (r+1) "" 0:=fun f hf=>by
   obtain⟨g,rfl⟩:∃g,f=g+1:=⟨f - 1,by omega⟩
   exact yC (a1 g (by omega))
  have a3:∀f,4*(r+1)+3≤f→jT (ay f).2 (r+1) "and" 1:=fun f hf=>by
   obtain⟨g,rfl⟩:∃g,f=g+1:=⟨f - 1,by omega⟩
   exact r_ (by decide) (dP (by decide)) vK (k:=0) (by decide) rfl (a2 g (by omega))
  have a4:∀f,4*(r+1)+4≤f→jT (ay f).2 (r+1) "or" 2:=fun f hf=>by
   obtain⟨g,rfl⟩:∃g,f=g+1:=⟨f - 1,by omega⟩
   exact r_ (by decide) (dP (by decide)) yD (k:=1) (by decide) rfl (a3 g (by omega))
  exact fun f=>⟨a1 f,a2 f,a3 f,a4 f⟩
theorem yE:jT cw 6 "or" 2:=(PR 6 60).2.2.2 (by decide)
def sg(x:Str):List Nat:=x.cps.toList
theorem lD{x y:Str}(h:sg x=sg y):x=y:=Str.ext' (Array.toList_inj.mp h)
theorem cO(x y:Str):sg (x++y)=sg x++sg y:=by show(x.cps++y.cps).toList=_;rw[Array.toList_append];rfl
theorem wO(l:List Nat):sg ⟨l.toArray⟩=l:=by simp[sg]
def jn(s:List Nat):List (List Nat)→List Nat
 |[]=>[]
 |[p]=>p
 |p::q::r=>p++s++jn s (q::r)
theorem Fe{s p:List Nat}{r:List (List Nat)}(h:r≠[]):jn s (p::r)=p++s++jn s r:=by
 cases r with
 |nil=>exact absurd rfl h
 |cons q r=>rfl
theorem pO(s:Str):∀ps:List Str,sg (Str.join s ps)=jn (sg s) (ps.map sg)
 |[]=>rfl
 |[p]=>rfl
 |p::q::r=>by
  show sg (p++s++Str.join s (q::r))=_
  rw[cO,cO,pO s (q::r)]
  rfl
def dQ(c:Nat):List Nat→List (List Nat)
 |[]=>[[]]
 |k::l=>if k=c then []::dQ c l else match dQ c l with
  |[]=>[[k]]
  |p::r=>(k::p)::r
theorem Ff(c:Nat):∀l,dQ c l≠[]
 |[]=>by simp[dQ]
 |k::l=>by
  unfold dQ
  split
  ·simp
  ·split<;>simp
theorem oj{c:Nat}:∀{p l:List Nat},c∉p→dQ c (p++c::l)=p::dQ c l
 |[],l,_=>by simp[dQ]
 |k::p,l,h=>by
  have hk:k≠c:=fun e=>h (by simp[e])
  have ih:=oj (c:=c) (p:=p) (l:=l) fun e=>h (List.mem_cons_of_mem _ e)
  rw[List.cons_append,dQ,if_neg hk,ih]
theorem om{c:Nat}:∀{p:List Nat},c∉p→dQ c p=[p]
 |[],_=>rfl
 |k::p,h=>by
  have hk:k≠c:=fun e=>h (by simp[e])
  have ih:=om (c:=c) (p:=p) fun e=>h (List.mem_cons_of_mem _ e)
  unfold dQ
  rw[if_neg hk,ih]
theorem t5{c:Nat}:∀{ps:List (List Nat)},ps≠[]→(∀p∈ps,c∉p)→dQ c (jn [c] ps)=ps
 |[],h,_=>absurd rfl h
 |[p],_,h=>om (h p (by simp))
 |p::q::r,_,h=>by
  have e:jn [c] (p::q::r)=p++c::jn [c] (q::r):=by show p++[c]++_=_;simp
  rw[e,oj (h p (by simp)),t5 (by simp) fun z hz=>h z (List.mem_cons_of_mem _ hz)]
theorem Cu(x:Str)(c:Nat):Txt.split x ⟨#[c]⟩≠[]:=by
 intro e
 unfold Txt.split at e
 split at e
 ·cases e
 ·split at e
  ·cases e
  ·rw[StrLaws.partsBetween_eq]at e
   obtain⟨p,r,h⟩:=StrLaws.partsFrom_ne x (⟨#[c]⟩:Str).length 0 (Builtin.Str.occurrences x ⟨#[c]⟩ 0 x.length (x.length+1))
   rw[h]at e;cases e
theorem kL(x:Str)(c:Nat):(Txt.split x ⟨#[c]⟩).map sg=dQ c (sg x):=by
 have h1:=congrArg sg (StrLaws.join_split x ⟨#[c]⟩)
 rw[pO]at h1
 rw[←h1]
 refine(t5 (by simpa using Cu x c) fun p hp=>?_).symm
 obtain⟨y,hy,rfl⟩:=List.mem_map.mp hp
 exact StrLaws.split_free x c y hy
theorem yF{c:Nat}{ps:List Str}(hn:ps≠[])(h:∀p∈ps,c∉sg p):Txt.split (Str.join ⟨#[c]⟩ ps) ⟨#[c]⟩=ps:=by
 have e:(Txt.split (Str.join ⟨#[c]⟩ ps) ⟨#[c]⟩).map sg=ps.map sg:=by
  rw[kL,pO]
  refine t5 (by simpa using hn) fun p hp=>?_
  obtain⟨y,hy,rfl⟩:=List.mem_map.mp hp
  exact h y hy
 exact(List.map_inj_right fun _ _=>lD).mp e
def apart(c:Nat)(l:List Nat):List Nat:=l.flatMap fun k=>if k=c then [32,c,32] else [k]
theorem LW{s:List Nat}{k:Nat}{p:List Nat}:∀{r:List (List Nat)},jn s ((k::p)::r)=k::jn s (p::r)
 |[]=>rfl
 |_::_=>rfl
theorem Bm{c:Nat}:∀l:List Nat,jn [32,c,32] (dQ c l)=apart c l
 |[]=>rfl
 |k::l=>by
  have ih:=Bm (c:=c) l
  have hn:=Ff c l
  unfold dQ
  by_cases hk:k=c
  ·rw[if_pos hk,Fe hn,ih]
   subst hk
   simp[apart]
  ·rw[if_neg hk]
   cases hc:dQ c l with
   |nil=>exact absurd hc hn
   |cons p r=>
    rw[hc]at ih
    show jn _ ((k::p)::r)=_
    rw[LW,ih]
    simp[apart,hk]
theorem se(x:Str)(c:Nat):sg (mf x c)=apart c (sg x):=by
 unfold mf
 rw[StrLaws.replace_one,pO,kL]
 have:sg (Str.ofString " "++⟨#[c]⟩++Str.ofString " ")=[32,c,32]:=by
  rw[cO,cO];rfl
 rw[this]
 exact Bm _
def sgn(k:Nat):Bool:=k==40||k==41||k==58
def bG(l:List Nat):List Nat:=l.flatMap fun k=>if sgn k=true then [32,k,32] else [k]
theorem wQ(l:List Nat):apart 58 (apart 41 (apart 40 l))=bG l:=by
 unfold apart bG
 rw[List.flatMap_assoc,List.flatMap_assoc]
 congr 1
 funext k
 by_cases h1:k=40
 ·subst h1;rfl
 ·by_cases h2:k=41
  ·subst h2;rfl
  ·by_cases h3:k=58
   ·subst h3;rfl
   ·simp[h1,h2,h3,sgn]
def gK(l:List Nat):List (List Nat):=(dQ 32 l).filter fun p=>!p.isEmpty
theorem wR(l:List Nat):gK (32::l)=gK l:=by
 unfold gK
 rw[show dQ 32 (32::l)=[]::dQ 32 l by simp[dQ]]
 rfl
theorem vL{p l:List Nat}(h: 32∉p)(hp:p≠[]):gK (p++32::l)=p::gK l:=by
 unfold gK
 rw[oj h]
 cases p with
 |nil=>exact absurd rfl hp
 |cons a b=>rfl
theorem Cv{p:List Nat}(h: 32∉p)(hp:p≠[]):gK p=[p]:=by
 unfold gK
 rw[om h]
 cases p with
 |nil=>exact absurd rfl hp
 |cons a b=>rfl
theorem t6:gK []=[]:=rfl
theorem pP(n:Nat)(l:List Nat):gK (List.replicate n 32++l)=gK l:=by
 induction n with
 |zero=>rfl
 |succ n ih=>rw[List.replicate_succ,List.cons_append,wR,ih]
theorem cK{c c':Cells}{i:Nat}{z:Cell}(h:c <+:c')(hz:c[i]? =some z):c'[i]? =some z:=by
 obtain⟨t,rfl⟩:=h
 exact bb hz
theorem qF{α:Type}{e:α→D}{ks:List (Nat×Cell)}{tt:XT}{te:XE}{ρ:Qm.Env}{c:Cells}(hs:stays ks c)(b:α→Bool)(v:α→D):∀(l:List α),
  (∀a∈l,∀c',c <+:c'→tt (some (e a)::ρ) c'=some (b a,c'))→
  (∀a∈l,∀c',c <+:c'→te (some (e a)::ρ) c'=some (v a,c'))→
  ∀(acc:List D) (x:Option D),acc.length+l.length≤9000000→eU c.length ks (aD 0) tt te (l.map e) (x::ρ) (c++[.lst acc])=some (c++[.lst (acc++(l.filter b).map v)])
 |[],_,_,acc,x,_=>by
  have st:stays ks (c++[.lst acc]):=fun p hp=>cK ⟨_,rfl⟩ (hs p hp)
  rw[List.map_nil]
  unfold eU
  rw[if_pos st]
  simp
 |a::l,ht,hv,acc,x,hn=>by
  have st:stays ks (c++[.lst acc]):=fun p hp=>cK ⟨_,rfl⟩ (hs p hp)
  have e1:=ht a List.mem_cons_self (c++[.lst acc]) ⟨_,rfl⟩
  have e2:=hv a List.mem_cons_self (c++[.lst acc]) ⟨_,rfl⟩
  have PU:=fun d' hd=>ht d' (List.mem_cons_of_mem a hd)
  have HD:=fun d' hd=>hv d' (List.mem_cons_of_mem a hd)
  rw[List.length_cons]at hn
  rw[List.map_cons]
  unfold eU
  rw[if_pos st]
  by_cases hb:b a=true
  ·have e3:(c++[.lst acc])[c.length]? =some (.lst acc):=by simp
   have e4:(c++[Cell.lst acc]).set c.length (.lst (acc++[v a]))=c++[.lst (acc++[v a])]:=by simp
   have e5:=qF hs b v l PU HD (acc++[v a]) (some (e a)) (by simp only[List.length_append,List.length_cons,List.length_nil];omega)
   simp only[pL,List.set_cons_zero,Option.bind_some,e1,hb,if_true,e2,e3,e4]
   rw[if_pos (show acc.length<cU by rw[pe];omega),e5,List.filter_cons_of_pos hb]
   simp
  ·have e5:=qF hs b v l PU HD acc (some (e a)) (by omega)
   have VT:b a=false:=by simpa using hb
   simp only[pL,List.set_cons_zero,Option.bind_some,e1,VT,Bool.false_eq_true,if_false]
   rw[e5,List.filter_cons_of_neg hb]
theorem Fg{α:Type}{e:α→D}{l:List α}{it:XI}{cap:List (Option Nat)}{tt:XT}{te:XE}{σ ρ:Qm.Env}{x:Option D}{c0 c:Cells}{ks:List (Nat×Cell)}(b:α→Bool)(v:α→D)(hi:it σ c0=some (⟨l.map e,ks⟩,c))(hc:sY σ cap=x::ρ)(hs:stays ks c)
  (ht:∀a∈l,∀c',c <+:c'→tt (some (e a)::ρ) c'=some (b a,c'))(hv:∀a∈l,∀c',c <+:c'→te (some (e a)::ρ) c'=some (v a,c'))(hn:l.length≤9000000):
  fU it cap (aD 0) tt te σ c0=some (.ref c.length,c++[.lst ((l.filter b).map v)]):=by
 have e:=qF hs b v l ht hv [] x (by simp;omega)
 unfold fU
 rw[hi,Option.bind_some]
 dsimp only
 rw[hc,e]
 rfl
theorem vM{ks:List (Nat×Cell)}{g:XG}{te:XE}{E:Qm.Env→Prop}{c:Cells}(hs:stays ks c):∀(ds vs acc:List D) (zs:List Cell) (τ:Qm.Env),ds.length=vs.length→E τ→(∀(i:Nat) d v,ds[i]? =some d→vs[i]? =some v→∀τ c',E τ→c <+:c'→∃nG ws,g d τ c'=some (nG,c')∧te nG c'=some (v,c'++ws)∧E nG)→acc.length+ds.length≤1000→
  ∃LX,eU c.length ks g iQ te ds τ (c++.lst acc::zs)=some (c++.lst (acc++vs)::LX)
 |[],vs,acc,zs,τ,hl,_,_,_=>by
  cases vs with
  |nil=>
   have st:stays ks (c++.lst acc::zs):=fun p hp=>cK ⟨_,rfl⟩ (hs p hp)
   refine⟨zs,?_⟩
   unfold eU
   rw[if_pos st]
   simp
  |cons v vs=>simp at hl
 |d::ds,vs,acc,zs,τ,hl,hE,hv,hn=>by
  cases vs with
  |nil=>simp at hl
  |cons v vs=>
   have st:stays ks (c++.lst acc::zs):=fun p hp=>cK ⟨_,rfl⟩ (hs p hp)
   rw[List.length_cons]at hn
   obtain⟨nG,ws,f1,f2,VU⟩:=hv 0 d v rfl rfl τ (c++.lst acc::zs) hE ⟨_,rfl⟩
   have f3:(c++.lst acc::zs++ws)[c.length]? =some (.lst acc):=by simp
   have f4:(c++.lst acc::zs++ws).set c.length (.lst (acc++[v]))=c++.lst (acc++[v])::(zs++ws):=by simp
   obtain⟨LX,f5⟩:=vM hs ds vs (acc++[v]) (zs++ws) nG (by simpa using hl) VU (fun i d' v' h1 h2=>hv (i+1) d' v' (by simpa using h1) (by simpa using h2)) (by simp only[List.length_append,List.length_cons,List.length_nil];omega)
   refine⟨LX,?_⟩
   unfold eU
   rw[if_pos st]
   have f6:iQ nG (c++.lst acc::zs)=some (true,c++.lst acc::zs):=rfl
   simp only[f1,Option.bind_some,f6,if_true,f2,f3,f4]
   rw[if_pos (Nat.lt_of_lt_of_le (show acc.length<10000 by omega) (df (Nat.le_refl _))),f5]
   simp
theorem Fh{it:XI}{cap:List (Option Nat)}{g:XG}{te:XE}{σ:Qm.Env}{c0 c:Cells}{ds:List D}{ks:List (Nat×Cell)}(vs:List D)(E:Qm.Env→Prop)(hi:it σ c0=some (⟨ds,ks⟩,c))(hs:stays ks c)(hE:E (sY σ cap))(hl:ds.length=vs.length)(hv:∀(i:Nat) d v,ds[i]? =some d→vs[i]? =some v→∀τ c',E τ→c <+:c'→∃nG ws,g d τ c'=some (nG,c')∧te nG c'=some (v,c'++ws)∧E nG)(hn:ds.length≤1000):
  ∃c',fU it cap g iQ te σ c0=some (.ref c.length,c')∧c <+:c'∧c'[c.length]? =some (.lst vs):=by
 obtain⟨zs,e⟩:=vM (te:=te) (g:=g) (E:=E) (ks:=ks) (c:=c) hs ds vs [] [] (sY σ cap) hl hE hv (by simp;omega)
 refine⟨c++.lst vs::zs,?_,⟨_,rfl⟩,by simp⟩
 unfold fU
 rw[hi,Option.bind_some]
 dsimp only
 rw[e]
 rfl
theorem Kq.pre{S:List Nat}{c c':Cells}(h:c <+:c'):Kq S c c':=by
 obtain⟨t,rfl⟩:=h
 exact Kq.more
theorem t7{a:XE}{σ:Qm.Env}{c c1:Cells}{n:Nat}{xs:List D}(ha:a σ c=some (.ref n,c1))(h:c1[n]? =some (.lst xs)):gr a σ c=some (⟨xs,[(n,.lst xs)]⟩,c1):=by
 have s:=aP h
 unfold gr
 simp[ha,h,s]
theorem t9(c:Nat):∀l:List Nat,(apart c l).length≤3*l.length
 |[]=>Nat.le_refl _
 |k::l=>by
  have ih:=t9 c l
  unfold apart at ih ⊢
  rw[List.flatMap_cons,List.length_append,List.length_cons]
  split<;>simp only[List.length_cons,List.length_nil]<;>omega
theorem ei(x:Str):(sg x).length=x.length:=by simp[sg,Str.length]
theorem t_(x:Str)(c:Nat):(mf x c).length≤3*x.length:=by
 rw[←ei,←ei,se];exact t9 _ _
def lE(l:List Nat):Str:=⟨l.toArray⟩
theorem pQ(x:Str):lE (sg x)=x:=by simp[lE,sg]
theorem Bn{x:Str}{c:Cells}(hl:x.length≤3000):∃z,cJ [.str x] c=some (.ref (c.length+1),c++[z,.lst ((gK (bG (sg x))).map fun p=>.str (lE p))]):=by
 have l1:=t_ x 40
 have l2:=t_ (mf x 40) 41
 have l3:=t_ (mf (mf x 40) 41) 58
 generalize hy:mf (mf (mf x 40) 41) 58=y at l3
 have LY:sg y=bG (sg x):=by rw[←hy,se,se,se,wQ]
 have hw:("():":Str).cps.toList=[40,41,58]:=rfl
 have sp:pK 0 1 "():" [some (.str x),none] c=some (.nx,[some (.str y),some (.str ⟨#[58]⟩)],c):=by
  have ok:tU [40,41,58] x=true:=by
   simp only[tU,Bool.and_eq_true,decide_eq_true_eq]
   exact⟨by omega,by omega,by omega,trivial⟩
  show(if tU ("():":Str).cps.toList x=true then some (Fl.nx,Bj 0 1 ("():":Str).cps.toList [some (.str x),none] x,c)else none)=_
  rw[hw,if_pos ok,←hy]
  rfl
 have hs:(" ":Str)=⟨#[32]⟩:=rfl
 have ms:jP (.str y) [.str " "] c=some (.ref c.length,c++[.lst ((Txt.split y ⟨#[32]⟩).map D.str)]):=by
  show(if (" ":Str).length≠0∧y.length≤100000 then some (D.ref c.length,c++[Cell.lst ((Txt.split y " ").map D.str)])else none)=_
  rw[if_pos ⟨by decide,by omega⟩,hs]
 have hn:(Txt.split y ⟨#[32]⟩).length≤9000000:=by
  have h1:(Txt.split y ⟨#[32]⟩).length=(dQ 32 (sg y)).length:=by rw[←kL,List.length_map]
  have h2:∀l:List Nat,(dQ 32 l).length≤l.length+1:=by
   intro l
   induction l with
   |nil=>simp[dQ]
   |cons k l ih=>
    unfold dQ
    split
    ·simp only[List.length_cons];omega
    ·split
     ·simp
     ·rename_i p r h;rw[h]at ih;simp only[List.length_cons]at ih ⊢;omega
  have h3:=h2 (sg y)
  rw[ei]at h3
  omega
 have it:gr (nH jP (eV 0) (ag (eC (.str " ")) ak)) [some (.str y),some (.str ⟨#[58]⟩)] c=some (⟨(Txt.split y ⟨#[32]⟩).map D.str,[(c.length,.lst ((Txt.split y ⟨#[32]⟩).map D.str))]⟩,c++[.lst ((Txt.split y ⟨#[32]⟩).map D.str)]):=t7 (by erw[nH,gw,ms]) aI
 have cf:=Fg (it:=gr (nH jP (eV 0) (ag (eC (.str " ")) ak))) (cap:=[none]) (tt:=pH (eV 0)) (te:=eV 0) (ρ:=[]) (x:=none) (fun z:Str=>!(sg z).isEmpty) D.str it rfl (fun p hp=>by rw[List.mem_singleton.mp hp];exact aI) (fun z hz c' _=>?_) (fun z hz c' _=>rfl) hn
 ·refine⟨.lst ((Txt.split y ⟨#[32]⟩).map D.str),?_⟩
  rw[cJ,g8,jQ]
  have e:(List.filter (fun z:Str=>!(sg z).isEmpty) (Txt.split y ⟨#[32]⟩)).map D.str=(gK (bG (sg x))).map fun p=>.str (lE p):=by
   unfold gK
   rw[←LY,←kL,List.filter_map,List.map_map]
   have:(fun p=>D.str (lE p)) ∘ sg=D.str:=by funext z;simp[pQ]
   rw[this]
   rfl
  rw[e]at cf
  erw[sp,cf]
  simp
 ·have Pg:z.length≤100000:=by
   have:=List.mem_map_of_mem (f:=sg) hz
   rw[kL]at this
   have h2:∀l:List Nat,∀p∈dQ 32 l,p.length≤l.length:=by
    intro l
    induction l with
    |nil=>intro p hp;simp[dQ]at hp;simp[hp]
    |cons k l ih=>
     intro p hp
     unfold dQ at hp
     split at hp
     ·rcases List.mem_cons.mp hp with rfl|hp
      ·simp
      ·have:=ih p hp;simp only[List.length_cons];omega
     ·split at hp
      ·simp at hp;simp[hp]
      ·rename_i q r h
       rcases List.mem_cons.mp hp with rfl|hp
       ·have:=ih q (by rw[h];simp);simp only[List.length_cons];omega
       ·have:=ih p (by rw[h];simp[hp]);simp only[List.length_cons];omega
   have h3:=h2 _ _ this
   rw[ei,ei]at h3
   omega
  show(if z.length≤100000 then some (((z.length:Int) != 0),c')else none)=_
  rw[if_pos Pg]
  congr 2
  rw[←ei]
  cases sg z<;>simp
  omega
theorem Fi{n:Nat}{bs:List Bool}{c:Cells}(h:c[n]? =some (.lst (bs.map D.bl))):vv [.ref n] c=some (.bl (bs.all id),c):=by
 have:vv [.ref n] c=(bg (.ref n) c).bind fun l=>(omap mD l.2).bind fun bs=>some (.bl (bs.all id),c):=rfl
 have ho:∀bs:List Bool,omap mD (bs.map D.bl)=some bs:=fun bs=>by
  induction bs with
  |nil=>rfl
  |cons b bs ih=>rw[List.map_cons];unfold omap;rw[ih];rfl
 rw[this,aT h,Option.bind_some,ho]
 rfl
theorem vN(k:Nat)(y:Str):rh ⟨#[k]⟩ y=decide (k∈sg y):=StrLaws.found_one y k
theorem Ar{signs x:Str}{most:Int}{c:Cells}(h:∀k∈sg x,k∈sg signs∧k<128)(h1: 1≤x.length)(h2:(x.length:Int)≤most)(h3:x.length≤9000):∃z,bX [.str signs,.str x,.int most] c=some (.bl true,c++[z]):=by
 have hl:Ah [.str x] c=some (.int x.length,c):=by
  show(if x.length≤cU then some (D.int x.length,c)else none)=_
  rw[if_pos (df (by omega))]
 have hb:x.cps.all (fun k=>decide (k<128))=true:=by
  rw[←Array.all_toList]
  exact List.all_eq_true.mpr fun k hk=>decide_eq_true (h k hk).2
 have it:rY (eV 1) [some (.str signs),some (.str x),some (.int most)] c=some (⟨(sg x).map fun k=>.str ⟨#[k]⟩,[]⟩,c):=by
  show(if x.length≤100000∧x.cps.all (fun k=>decide (k<128))=true then some ((⟨x.cps.toList.map fun k=>D.str ⟨#[k]⟩,[]⟩:Itm),c)else none)=_
  rw[if_pos ⟨by omega,hb⟩]
  rfl
 have cf:=Fg (it:=rY (eV 1)) (cap:=[none,some 0]) (tt:=iQ) (te:=e2 EM (eV 0) (eV 1)) (ρ:=[some (.str signs)]) (x:=none) (fun _:Nat=>true) (fun _=>D.bl true) it rfl (fun p hp=>nomatch hp) (fun z hz c' _=>rfl) (fun z hz c' _=>by
  show some (D.bl (rh ⟨#[z]⟩ signs),c')=_
  rw[vN,decide_eq_true (h z hz).1]) (by rw[ei];omega)
 have e1:(List.filter (fun _:Nat=>true) (sg x)).map (fun _=>D.bl true)=(List.replicate (sg x).length true).map D.bl:=by
  rw[List.filter_eq_self.mpr (fun _ _=>rfl),List.map_replicate]
  exact List.map_const'
 rw[e1]at cf
 have ba:=Fi (n:=c.length) (bs:=List.replicate (sg x).length true) (c:=c++[.lst ((List.replicate (sg x).length true).map D.bl)]) aI
 rw[show(List.replicate (sg x).length true).all id=true by simp]at ba
 have a1:(1:Int)≤(x.length:Int):=by omega
 refine⟨.lst ((List.replicate (sg x).length true).map D.bl),?_⟩
 rw[bX,g8,ik]
 erw[hl,a1,h2,cf,ba,pf]
theorem Fj{x:Str}(h:W0 x):∀k∈sg x,k∈sg "abcdefghijklmnopqrstuvwxyz"∧k<128:=by
 intro k hk
 have:=List.all_eq_true.mp h.lt k hk
 simp only[decide_eq_true_eq]at this
 have e:sg "abcdefghijklmnopqrstuvwxyz" =List.range' 97 26:=by decide
 exact⟨by rw[e];exact List.mem_range'_1.mpr ⟨by omega,by omega⟩,by omega⟩
theorem Fm{x:Str}{c:Cells}(h:W0 x):∃z,f_ [.str x] c=some (.bl true,c++[z]):=by
 have:=h.LJ
 have:=h.pos
 obtain⟨z,e⟩:=Ar (c:=c) (most:=8) (Fj h) (by omega) (by omega) (by omega)
 refine⟨z,?_⟩
 rw[f_,g8,lA]
 erw[e]
theorem Fn{x:Str}{c:Cells}(h:Wd x):∃z,bZ [.str x] c=some (.bl true,c++[z]):=by
 obtain⟨z,e⟩:=Fm (c:=c) h.toW0
 refine⟨z,?_⟩
 have nk:mK ["and","or","not","any"] (eV 0) [some (.str x)] (c++[z])=some (.bl true,c++[z]):=by
  have:¬(PyData.str x∈(["and","or","not","any"]:List Str).map PyData.str):=by
   intro hm
   obtain⟨y,hy,e⟩:=List.mem_map.mp hm
   cases e
   exact h.free hy
  unfold mK
  rw[show eV 0 [some (.str x)] (c++[z])=some (.str x,c++[z])from rfl,Option.bind_some]
  dsimp only
  rw[bT h.ok,Option.bind_some]
  simp only[this,decide_false,Bool.not_false]
 have ix:bS [.str x,.ty "str"] c=some (.bl true,c):=by simp[bS,two,eH,d_]
 rw[bZ,g8,fP]
 erw[ix,e,nk]
theorem Fo{c:Cells}:∀{n:Nat}{t:D},Tr n t→∀k,n+1≤k→∃dd,data c k t=some dd:=by
 intro n t h
 have two:∀{k:Nat}{xs:List D}{ds:List PyData},omap (data c k) xs=some ds→∃dd,data c (k+1) (.tup xs)=some dd:=fun {k xs ds} e=>by
  have:data c (k+1) (.tup xs)=(omap (data c k) xs).bind fun ds=>some (.tuple ds):=rfl
  rw[this,e]
  exact⟨_,rfl⟩
 have cons:∀{k:Nat}{x:D}{xs:List D}{d:PyData}{ds:List PyData},data c k x=some d→omap (data c k) xs=some ds→omap (data c k) (x::xs)=some (d::ds):=fun {k x xs d ds} h1 h2=>by
  unfold omap
  rw[h1,h2]
  rfl
 have nil:∀{k:Nat},omap (data c k) []=some []:=rfl
 have st:∀{k:Nat} (x:Str),x.cps.toList.all (fun k=>decide (k<1114112))=true→data c (k+1) (.str x)=some (.str x):=fun x hx=>bT (dP hx)
 induction h with
 |@is n x y wx wy=>
  intro k hk
  obtain⟨j,rfl⟩:∃j,k=j+1+1:=⟨k - 2,by omega⟩
  exact two (cons (st "is" (by decide)) (cons (bT wx.ok) (cons (bT wy.ok) nil)))
 |@any n=>
  intro k hk
  obtain⟨j,rfl⟩:∃j,k=j+1+1:=⟨k - 2,by omega⟩
  exact two (cons (st "any" (by decide)) nil)
 |@not n t _ ih=>
  intro k hk
  obtain⟨j,rfl⟩:∃j,k=j+1+1:=⟨k - 2,by omega⟩
  obtain⟨d1,h1⟩:=ih (j+1) (by omega)
  exact two (cons (st "not" (by decide)) (cons h1 nil))
 |@and n t u _ _ kb kc=>
  intro k hk
  obtain⟨j,rfl⟩:∃j,k=j+1+1:=⟨k - 2,by omega⟩
  obtain⟨d1,h1⟩:=kb (j+1) (by omega)
  obtain⟨d2,h2⟩:=kc (j+1) (by omega)
  exact two (cons (st "and" (by decide)) (cons h1 (cons h2 nil)))
 |@or n t u _ _ kb kc=>
  intro k hk
  obtain⟨j,rfl⟩:∃j,k=j+1+1:=⟨k - 2,by omega⟩
  obtain⟨d1,h1⟩:=kb (j+1) (by omega)
  obtain⟨d2,h2⟩:=kc (j+1) (by omega)
  exact two (cons (st "or" (by decide)) (cons h1 (cons h2 nil)))
theorem jU{n:Nat}{t:D}(h:Tr n t):∃xs,t= .tup xs:=by cases h<;>exact⟨_,rfl⟩
theorem ua{n:Nat}{t:D}{c:Cells}(h:Tr n t)(k:Nat)(hk:n+1≤k):∃ds,data c k t=some (.tuple ds):=by
 obtain⟨dd,e⟩:=Fo (c:=c) h k hk
 obtain⟨xs,rfl⟩:=jU h
 obtain⟨j,rfl⟩:∃j,k=j+1:=⟨k - 1,by omega⟩
 have e2:data c (j+1) (.tup xs)=(omap (data c j) xs).bind fun ds=>some (.tuple ds):=rfl
 rw[e2]at e ⊢
 cases h2:omap (data c j) xs with
 |none=>rw[h2]at e;cases e
 |some ds=>exact⟨ds,rfl⟩
inductive It:D→Prop
 |str {y:Str}:y.cps.all (fun k=>decide (k<1114112))=true→It (.str y)
 |tr {t:D}:Tr 40 t→It t
def pR(w:Str):D→Bool
 |.str y=>decide (y=w)
 |_=>false
theorem wU{d:D}{w:Str}{c:Cells}(h:It d)(hw:w.cps.all (fun k=>decide (k<1114112))=true):mI d (.str w) c=some (.bl (pR w d),c):=by
 unfold mI yg
 rw[bT hw]
 cases h with
 |@str y hy=>
  rw[bT hy]
  simp[pR]
 |tr ht=>
  obtain⟨ds,e⟩:=ua (c:=c) ht 60 (by decide)
  obtain⟨xs,rfl⟩:=jU ht
  rw[e]
  simp[pR]
def dk(w:Str):List D→List D→List (List D)
 |g,[]=>[g]
 |g,d::r=>if pR w d=true then g::dk w [] r else dk w (g++[d]) r
theorem kJ{α:Type}{xs:List α}{x:α}:fA (xs++[x]) (-1)=some x:=by
 have h1:n_ (xs++[x]).length (-1)=some xs.length:=by
  unfold n_
  rw[if_neg (by decide),if_pos (by rw[List.length_append,List.length_singleton];omega),List.length_append,List.length_singleton]
  congr 1;omega
 unfold fA
 rw[h1]
 simp
theorem Kq.ub{c c':Cells}(k:Kq [] c c'):c <+:c':=by
 refine List.prefix_iff_eq_take.mpr (List.ext_getElem? fun i=>?_)
 by_cases hi:i<c.length
 ·rw[List.getElem?_take,if_pos hi,k.at_ i hi (by simp)]
 ·rw[List.getElem?_eq_none (by omega),List.getElem?_take,if_neg hi]
theorem Kq.uc{c c':Cells}{n:Nat}{z:Cell}(k:Kq [] c c')(h:c.length≤n):Kq [] c (c'.set n z):=⟨by rw[List.length_set];exact k.len,fun i hi _=>by rw[List.getElem?_set,if_neg (by omega)];exact k.at_ i hi (by simp)⟩
noncomputable def qG:XS:=(bV (tV (e2 mI (eV 3) (eV 0)))
   (bW (eM aW (eV 2) (ag (bC ak) ak)))
   (bW (eM aW (e2 aZ (eV 2) (e1 je (eC (.int 1)))) (ag (eV 3) ak))))
theorem ud{w:Str}{s P:Nat}{is:List D}{c0:Cells}(hw:w.cps.all (fun k=>decide (k<1114112))=true)(hs:c0[s]? =some (.lst is))(hP:c0.length≤P):∀(r:List D) (done:List (Nat×List D)) (p:Nat) (g:List D) (c':Cells) (th:Option D),
  (∀d∈r,It d)→Kq [] c0 c'→c'[P]? =some (.lst ((done.map fun q=>D.ref q.1)++[.ref p]))→(∀q∈done,c'[q.1]? =some (.lst q.2)∧q.1≠p∧q.1≠P)→c'[p]? =some (.lst g)→p≠P→c0.length≤p→done.length+r.length≤5000→g.length+r.length≤5000→
  ∃(wV:Option D) (tq:Cells) (ps:List (Nat×List D)),cj [(s,.lst is)] (aD 3) qG r [some (.str w),some (.ref s),some (.ref P),th] c'=some (.nx,[some (.str w),some (.ref s),some (.ref P),wV],tq)∧tq[P]? =some (.lst (ps.map fun q=>D.ref q.1))∧ps.map (·.2)=done.map (·.2)++dk w g r∧(∀q∈ps,tq[q.1]? =some (.lst q.2))∧Kq [] c0 tq
 |[],done,p,g,c',th,_,hk,h1,h2,h3,_,_,_,_=>by
  have st:stays [(s,Cell.lst is)] c':=fun q hq=>by rw[List.mem_singleton.mp hq];exact hk.get hs (by simp)
  refine⟨th,c',done++[(p,g)],?_,?_,?_,?_,hk⟩
  ·unfold cj;rw[if_pos st]
  ·rw[h1];simp
  ·simp[dk]
  ·intro q hq
   rcases List.mem_append.mp hq with hq|hq
   ·exact(h2 q hq).1
   ·rw[List.mem_singleton.mp hq];exact h3
 |d::r,done,p,g,c',th,hI,hk,h1,h2,h3,LZ,hp,n1,n2=>by
  have st:stays [(s,Cell.lst is)] c':=fun q hq=>by rw[List.mem_singleton.mp hq];exact hk.get hs (by simp)
  have eq:=wU (c:=c') (hI d (by simp)) hw
  have lP:=aT h1
  have VG:=dJ h1
  have iA:=dJ h3
  rw[List.length_cons]at n1 n2
  by_cases hd:pR w d=true
  ·have ap:=da (a:=P) (y:=.ref c'.length) (c:=c'++[.lst []]) (bb h1) (by simp only[List.length_append,List.length_map,List.length_cons,List.length_nil];omega)
   have q1:(((c'++[Cell.lst []]).set P (.lst (((done.map fun q=>D.ref q.1)++[.ref p])++[.ref c'.length]))))[P]? =some (.lst ((((done++[(p,g)]).map fun q=>D.ref q.1))++[.ref c'.length])):=by
    rw[List.getElem?_set,if_pos rfl,if_pos (by rw[List.length_append];omega)];simp
   have kk:Kq [] c0 ((c'++[Cell.lst []]).set P (.lst (((done.map fun q=>D.ref q.1)++[.ref p])++[.ref c'.length]))):=(hk.trans Kq.more).uc hP
   obtain⟨wV,tq,ps,e,a1,a2,a3,a4⟩:=ud hw hs hP r (done++[(p,g)]) c'.length [] _ (some d) (fun z hz=>hI z (List.mem_cons_of_mem _ hz)) kk q1 (fun q hq=>by
     have HV:c'[q.1]? =some (.lst q.2)∧q.1≠P:=by
      rcases List.mem_append.mp hq with hq|hq
      ·exact⟨(h2 q hq).1,(h2 q hq).2.2⟩
      ·rw[List.mem_singleton.mp hq];exact⟨h3,LZ⟩
     have:=dJ HV.1
     exact⟨by rw[List.getElem?_set,if_neg (fun e=>HV.2 e.symm)];exact bb HV.1,by omega,HV.2⟩)
    (by rw[List.getElem?_set,if_neg (by omega)];exact aI) (by omega) (by have:=hk.len;omega) (by simp only[List.length_append,List.length_cons,List.length_nil];omega) (by simp only[List.length_nil];omega)
   refine⟨wV,tq,ps,?_,a1,?_,a3,a4⟩
   ·unfold cj
    rw[if_pos st]
    have b:qG [some (.str w),some (.ref s),some (.ref P),some d] c'=some (.nx,[some (.str w),some (.ref s),some (.ref P),some d],(c'++[Cell.lst []]).set P (.lst (((done.map fun q=>D.ref q.1)++[.ref p])++[.ref c'.length]))):=by
     unfold qG
     erw[eq,hd,lP,jq,ap]
    simp only[pL,List.set_cons_succ,List.set_cons_zero,Option.bind_some,b]
    exact e
   ·rw[a2];simp[dk,hd]
  ·have BC:pR w d=false:=by simpa using hd
   have sP:=aP h1
   have lp:=aT h3
   have ap:=da (a:=p) (y:=d) (c:=c') h3 (by omega)
   have al:fA ((done.map fun q=>D.ref q.1)++[.ref p]) (-1)=some (.ref p):=kJ
   have kk:Kq [] c0 (c'.set p (.lst (g++[d]))):=hk.uc hp
   obtain⟨wV,tq,ps,e,a1,a2,a3,a4⟩:=ud hw hs hP r done p (g++[d]) _ (some d) (fun z hz=>hI z (List.mem_cons_of_mem _ hz)) kk (by rw[List.getElem?_set,if_neg LZ];exact h1) (fun q hq=>by
     obtain⟨b1,b2,b3⟩:=h2 q hq
     exact⟨by rw[List.getElem?_set,if_neg (fun e=>b2 e.symm)];exact b1,b2,b3⟩)
    (by rw[List.getElem?_set,if_pos rfl,if_pos iA]) LZ hp (by omega) (by simp only[List.length_append,List.length_cons,List.length_nil];omega)
   refine⟨wV,tq,ps,?_,a1,?_,a3,a4⟩
   ·unfold cj
    rw[if_pos st]
    have b:qG [some (.str w),some (.ref s),some (.ref P),some d] c'=some (.nx,[some (.str w),some (.ref s),some (.ref P),some d],c'.set p (.lst (g++[d]))):=by
     unfold qG
     erw[eq,BC,de,sP,al,lp,ap]
    simp only[pL,List.set_cons_succ,List.set_cons_zero,Option.bind_some,b]
    exact e
   ·rw[a2];simp[dk,BC]
theorem Fp{w:Str}{s:Nat}{is:List D}{c:Cells}(hw:w.cps.all (fun k=>decide (k<1114112))=true)(hs:c[s]? =some (.lst is))(hI:∀d∈is,It d)(hn:is.length≤4000):
  ∃(c':Cells) (ps:List (Nat×List D)),bJ [.str w,.ref s] c=some (.ref (c.length+1),c')∧c <+:c'∧c'[c.length+1]? =some (.lst ((ps:List (Nat×List D)).map fun q=>D.ref q.1))∧ps.map (·.2)=dk w [] is∧(∀q∈ps,c'[q.1]? =some (.lst q.2)):=by
 obtain⟨th,c',ps,e,a1,a2,a3,a4⟩:=ud (w:=w) (P:=c.length+1) (c0:=c) hw hs (by omega) is [] c.length [] (c++[.lst []]++[.lst [.ref c.length]]) none hI (Kq.more.trans Kq.more) (by simp) (fun q hq=>nomatch hq) (bb aI) (by omega) (Nat.le_refl _) (by simp only[List.length_nil];omega) (by simp only[List.length_nil];omega)
 refine⟨c',ps,?_,a4.ub,a1,by simpa using a2,a3⟩
 have it:gr (eV 1) [some (.str w),some (.ref s),some (.ref (c.length+1)),none] (c++[.lst []]++[.lst [.ref c.length]])=some (⟨is,[(s,.lst is)]⟩,c++[.lst []]++[.lst [.ref c.length]]):=t7 rfl (bb (bb hs))
 have f:=ka (g:=aD 3) (b:=qG) it
 rw[bJ,g8,iY]
 have lc:(c++[Cell.lst []]).length=c.length+1:=by simp
 have f':g6 (gr (eV 1)) (aD 3) (bV (tV (e2 mI (eV 3) (eV 0))) (bW (eM aW (eV 2) (ag (bC ak) ak))) (bW (eM aW (e2 aZ (eV 2) (e1 je (eC (.int 1)))) (ag (eV 3) ak)))) [some (.str w),some (.ref s),some (.ref (c.length+1)),none] (c++[.lst []]++[.lst [.ref c.length]])=some (.nx,[some (.str w),some (.ref s),some (.ref (c.length+1)),th],c'):=f.trans e
 erw[jq,lc,f']
theorem vO{α:Type}{xs:List α}{n:Nat}(h:n≤xs.length):Qm.cutD xs (some (n:Int)) none=xs.drop n:=by
 unfold Qm.cutD
 have e1:xY xs.length 0 (some (n:Int))=n:=by
  show(if (n:Int)<0 then((n:Int)+xs.length).toNat else min (n:Int).toNat xs.length)=n
  rw[if_neg (by omega)];omega
 have e2:xY xs.length xs.length none=xs.length:=rfl
 rw[e1,e2]
 exact List.take_of_length_le (by rw[List.length_drop];omega)
theorem oo{a:XE}{σ:Qm.Env}{c c':Cells}{i:Int}(h:a σ c=some (.int i,c')):j8 a σ c=some (some i,c'):=by
 unfold j8;rw[h,Option.bind_some]
theorem qH{s:Nat}{xs:List D}{lo hi:Option Int}{c:Cells}(h:c[s]? =some (.lst xs)):pg (.ref s) lo hi c=some (.ref c.length,c++[.lst (Qm.cutD xs lo hi)]):=by
 show((ck (.ref s) c).bind fun xs=>some (D.ref c.length,c++[Cell.lst (Qm.cutD xs lo hi)]))=_
 rw[aP h];rfl
theorem vP{c:Cells}:∀{xs:List D},(∀d∈xs,Tr 40 d)→∃ds,omap (data c 60) xs=some ds∧PyData.none∉ds
 |[],_=>⟨[],rfl,by simp⟩
 |d::xs,h=>by
  obtain⟨ds,e,hn⟩:=vP (c:=c) (xs:=xs) fun z hz=>h z (List.mem_cons_of_mem _ hz)
  obtain⟨es,e1⟩:=ua (c:=c) (h d (by simp)) 60 (by decide)
  refine⟨.tuple es::ds,?_,?_⟩
  ·unfold omap;rw[e1,e];rfl
  ·intro hm
   rcases List.mem_cons.mp hm with e|hm
   ·cases e
   ·exact hn hm
def fold(k:Str)(v:D)(vs:List D):D:=vs.foldl (fun a b=>.tup [.str k,a,b]) v
theorem Bo{k:Str}{s L:Nat}{xs:List D}{c:Cells}(hL:c[L]? =some (.lst xs)):∀(vs:List D) (v:D) (th:Option D),∃wV,cj [(L,.lst xs)] (aD 3) (aF 2 (cc (ag (eV 0) (ag (eV 2) (ag (eV 3) ak))))) vs [some (.str k),some (.ref s),some v,th] c=some (.nx,[some (.str k),some (.ref s),some (fold k v vs),wV],c)
 |[],v,th=>by
  have st:stays [(L,Cell.lst xs)] c:=fun q hq=>by rw[List.mem_singleton.mp hq];exact hL
  refine⟨th,?_⟩
  unfold cj;rw[if_pos st];rfl
 |d::vs,v,th=>by
  have st:stays [(L,Cell.lst xs)] c:=fun q hq=>by rw[List.mem_singleton.mp hq];exact hL
  obtain⟨wV,e⟩:=Bo (k:=k) (s:=s) hL vs (.tup [.str k,v,d]) (some d)
  refine⟨wV,?_⟩
  unfold cj
  rw[if_pos st]
  erw[]
  exact e
theorem PV{k:Str}{s:Nat}{v:D}{vs:List D}{c:Cells}(hs:c[s]? =some (.lst (v::vs)))(hT:∀d∈v::vs,Tr 40 d):∃z,bu [.str k,.ref s] c=some (fold k v vs,c++[z]):=by
 obtain⟨ds,e,hn⟩:=vP (c:=c) hT
 have g0:ym .bf (.ref s) c=some (.bl false,c):=by
  unfold ym
  dsimp only
  rw[aP hs,Option.bind_some,e,Option.bind_some]
  simp only[hn,decide_false]
 have g1:=qH (lo:=some ((1:Nat):Int)) (hi:=none) hs
 rw[vO (by simp)]at g1
 have VW:pg (.ref s) (some 1) none c=some (.ref c.length,c++[.lst vs]):=g1
 have o1:j8 (eC (.int 1)) [some (.str k),some (.ref s),some v,none] c=some (some 1,c):=oo rfl
 have it:gr (B4 pg (eV 1) (j8 (eC (.int 1))) qr) [some (.str k),some (.ref s),some v,none] c=some (⟨vs,[(c.length,.lst vs)]⟩,c++[.lst vs]):=t7 (by erw[o1,VW]) aI
 obtain⟨th,ef⟩:=Bo (k:=k) (s:=s) (c:=c++[.lst vs]) aI vs v none
 have f:=(ka (g:=aD 3) (b:=aF 2 (cc (ag (eV 0) (ag (eV 2) (ag (eV 3) ak))))) it).trans ef
 have ix:aZ (.ref s) (.int 0) c=some (v,c):=by rw[de,aP hs,Option.bind_some,E5];rfl
 refine⟨.lst vs,?_⟩
 rw[bu,g8,fO]
 erw[g0,ix,f]
inductive Core:List D→D→Prop
 |is {x y:Str}:Wd x→Wd y→Core [.str x,.str y] (.tup [.str "is",.str x,.str y])
 |any:Core [.str "any"] (.tup [.str "any"])
 |tr {t:D}:Tr 40 t→Core [t] t
theorem pS:("any":Str).cps.all (fun k=>decide (k<1114112))=true:=dP (by decide)
theorem qI{a b:Nat}{xs ys:List D}{ds es:List PyData}{c:Cells}(ha:c[a]? =some (.lst xs))(hb:c[b]? =some (.lst ys))(e1:omap (data c 59) xs=some ds)(e2:omap (data c 59) ys=some es)(q:Bool)(hq:q=true↔ds=es):mI (.ref a) (.ref b) c=some (.bl q,c):=by
 unfold mI yg
 rw[nA ha e1,nA hb e2]
 by_cases h:ds=es
 ·rw[hq.mpr h,h];simp
 ·have:q=false:=by
   cases q with
   |false=>rfl
   |true=>exact absurd (hq.mp rfl) h
  rw[this];simp[h]
theorem L0{c:Cells}{k:Nat}{a b:D}{x y:PyData}(h:data c k a=some x)(g:data c k b=some y):omap (data c k) [a,b]=some [x,y]:=by
 unfold omap omap omap;rw[h,g];rfl
theorem As{c:Cells}{k:Nat}{a:D}{x:PyData}(h:data c k a=some x):omap (data c k) [a]=some [x]:=by
 unfold omap omap;rw[h];rfl
theorem L4{is:List D}{t:D}{s:Nat}{c:Cells}(h:Core is t)(hs:c[s]? =some (.lst is)):∃c',bD [.ref s] c=some (t,c')∧c <+:c':=by
 have a1:(c++[Cell.lst [.str "any"]])[c.length]? =some (.lst [.str "any"]):=aI
 have s1:=bb (zs:=[Cell.lst [.str "any"]]) hs
 have o1:omap (data (c++[Cell.lst [.str "any"]]) 59) [.str "any"]=some [.str "any"]:=As (bT pS)
 have q1:=aP s1
 cases h with
 |@is x y wx wy=>
  have eq:=qI s1 a1 (L0 (bT wx.ok) (bT wy.ok)) o1 false (by simp)
  have bl:eD [.ref s] (c++[Cell.lst [.str "any"]])=some (.int 2,c++[Cell.lst [.str "any"]]):=by rw[iK,q1];rfl
  have i0:aZ (.ref s) (.int 0) (c++[Cell.lst [.str "any"]])=some (.str x,c++[Cell.lst [.str "any"]]):=by rw[de,q1];rfl
  obtain⟨z1,f1⟩:=Fn (c:=c++[Cell.lst [.str "any"]]) wx
  have q2:=aP (bb (zs:=[z1]) s1)
  have i1:aZ (.ref s) (.int 1) (c++[Cell.lst [.str "any"]]++[z1])=some (.str y,c++[Cell.lst [.str "any"]]++[z1]):=by rw[de,q2];rfl
  obtain⟨z2,f2⟩:=Fn (c:=c++[Cell.lst [.str "any"]]++[z1]) wy
  have q3:=aP (bb (zs:=[z2]) (bb (zs:=[z1]) s1))
  have j0:aZ (.ref s) (.int 0) (c++[Cell.lst [.str "any"]]++[z1]++[z2])=some (.str x,c++[Cell.lst [.str "any"]]++[z1]++[z2]):=by rw[de,q3];rfl
  have j1:aZ (.ref s) (.int 1) (c++[Cell.lst [.str "any"]]++[z1]++[z2])=some (.str y,c++[Cell.lst [.str "any"]]++[z1]++[z2]):=by rw[de,q3];rfl
  refine⟨c++[Cell.lst [.str "any"]]++[z1]++[z2],?_,⟨[.lst [.str "any"],z1,z2],by simp⟩⟩
  rw[bD,g8,cB]
  erw[eq,bl,i0,f1,i1,f2,j0,j1]
 |any=>
  have eq:=qI s1 a1 (As (bT pS)) o1 true (by simp)
  refine⟨c++[Cell.lst [.str "any"]],?_,⟨_,rfl⟩⟩
  rw[bD,g8,cB]
  erw[eq]
 |tr ht=>
  obtain⟨ds,e⟩:=ua (c:=c++[Cell.lst [.str "any"]]) ht 59 (by decide)
  have eq:=qI s1 a1 (As e) o1 false (by simp)
  have bl:eD [.ref s] (c++[Cell.lst [.str "any"]])=some (.int 1,c++[Cell.lst [.str "any"]]):=by rw[iK,q1];rfl
  have i0:aZ (.ref s) (.int 0) (c++[Cell.lst [.str "any"]])=some (t,c++[Cell.lst [.str "any"]]):=by rw[de,q1];rfl
  obtain⟨xs,rfl⟩:=jU ht
  have x4:bS [.tup xs,.ty "tuple"] (c++[Cell.lst [.str "any"]])=some (.bl true,c++[Cell.lst [.str "any"]]):=by simp[bS,two,eH,d_]
  refine⟨c++[Cell.lst [.str "any"]],?_,⟨_,rfl⟩⟩
  rw[bD,g8,cB]
  erw[eq,bl,i0,x4]
def rp:Nat→D→D
 |0,t=>t
 |k+1,t=>.tup [.str "not",rp k t]
theorem pT:("not":Str).cps.all (fun k=>decide (k<1114112))=true:=dP (by decide)
theorem wW{x w:Str}(h:Wd x)(hw:w∈(["and","or","not","any"]:List Str)):pR w (.str x)=false:=by
 refine decide_eq_false fun e=>?_
 subst e
 exact h.free hw
theorem Fq{is:List D}{t:D}(h:Core is t):∃d r,is=d::r∧It d∧pR "not" d=false:=by
 cases h with
 |is wx wy=>exact⟨_,_,rfl,.str wx.ok,wW wx (by simp)⟩
 |any=>exact⟨_,_,rfl,.str pS,by decide⟩
 |tr ht=>
  obtain⟨xs,rfl⟩:=jU ht
  exact⟨_,_,rfl,.tr ht,rfl⟩
theorem Cw{is:List D}{t:D}(h:Core is t):∃xs,t= .tup xs:=by
 cases h with
 |is wx wy=>exact⟨_,rfl⟩
 |any=>exact⟨_,rfl⟩
 |tr ht=>exact jU ht
theorem Cy{k:Nat}{t:D}(h:∃xs,t= .tup xs):∃xs,rp k t= .tup xs:=by
 cases k with
 |zero=>exact h
 |succ k=>exact⟨_,rfl⟩
theorem qJ{α:Type}{xs:List α}{i:Nat}(h:i<xs.length):fA xs (i:Int)=some xs[i]:=tX (List.getElem?_eq_getElem h)
theorem qK{xs:List D}{c:Cells}:kE (.tup xs) .bf c=some (.bl false,c):=rfl
noncomputable def Fs:XT:=dq (tV (e2 j9 (eV 1) (eB eD (ag (eV 0) ak)))) (tV (e2 mI (e2 aZ (eV 0) (eV 1)) (eC (.str "not"))))
theorem PX{k s:Nat}{core:List D}{t:D}{c:Cells}(hc:Core core t)(hs:c[s]? =some (.lst (List.replicate k (.str "not")++core))):∀(j i:Nat),i+j=k→dH Fs (aF 1 (e2 cn (eV 1) (eC (.int 1)))) [some (.ref s),some (.int i),none,none] c=some (.nx,[some (.ref s),some (.int k),none,none],c):=by
 obtain⟨d,r,rfl,hI,hd⟩:=Fq hc
 have q:=aP hs
 have hl:(List.replicate k (D.str "not")++d::r).length=k+(r.length+1):=by simp
 have bl:eD [.ref s] c=some (.int (k+(r.length+1):Nat),c):=by rw[iK,q];simp only[Option.bind_some,hl]
 intro j
 induction j with
 |zero=>
  intro i hi
  obtain rfl:i=k:=by omega
  refine gA ?_
  have a1:fA (List.replicate i (D.str "not")++d::r) (i:Int)=some d:=by
   rw[qJ (by rw[hl];omega)]
   simp
  have e:=wU (c:=c) hI pT
  rw[hd]at e
  have lt:(i:Int)<((i+(r.length+1):Nat):Int):=by omega
  unfold Fs
  erw[bl,lt,de,q,a1,e]
 |succ j ih=>
  intro i hi
  have e0:=ih (i+1) (by omega)
  have a1:fA (List.replicate k (D.str "not")++d::r) (i:Int)=some (.str "not"):=by
   rw[qJ (by rw[hl];omega)]
   congr 1
   rw[List.getElem_append_left (by simp;omega)]
   simp
  have e:=wU (c:=c) (.str pT) pT
  rw[show pR "not" (.str "not")=true by decide]at e
  have lt:(i:Int)<((k+(r.length+1):Nat):Int):=by omega
  refine oa (c':=c) (σ':=[some (.ref s),some (.int ((i+1:Nat):Int)),none,none]) (c2:=c) ?_ ?_ e0
  ·unfold Fs
   erw[bl,lt,de,q,a1,e]
  ·erw[]
   simp
theorem yG{k s:Nat}{core:List D}{t:D}{c:Cells}(hc:Core core t)(hs:c[s]? =some (.lst (List.replicate k (.str "not")++core)))(hk:k≤1000):∃c',cD [.ref s] c=some (rp k t,c')∧c <+:c':=by
 have w:=PX hc hs k 0 (by omega)
 have g1:=qH (lo:=some ((k:Nat):Int)) (hi:=none) hs
 rw[vO (by simp),show(List.replicate k (D.str "not")++core).drop k=core by simp]at g1
 have o1:j8 (eV 1) [some (.ref s),some (.int k),none,none] c=some (some (k:Int),c):=oo rfl
 obtain⟨c2,b,hp⟩:=L4 (c:=c++[.lst core]) hc aI
 have ht:=Cw hc
 have hr:dX (ag (eV 1) ak) [some (.ref s),some (.int k),some t,none] c2=some (⟨fT 0 (k:Int).toNat,[]⟩,c2):=pM (j:=k) (by erw[]) (by omega)
 have key:=eR (ks:=[]) (g:=aD 3) (body:=aF 2 (qq (tV (e2 kE (eV 2) (eC .bf))) (eC .bf) (cc (ag (eC (.str "not")) (ag (eV 2) ak))))) (fun i σ c'=>c'=c2∧∃j,σ=[some (.ref s),some (.int k),some (rp i t),j]) (fT 0 (k:Int).toNat) 0 [some (.ref s),some (.int k),some t,none] c2 (fun _ _ _ _=>fY) (by
  rintro i d σ c' hd ⟨rfl,j,rfl⟩
  obtain⟨hi,rfl⟩:=ny hd
  obtain⟨xs,ex⟩:=Cy (k:=0+i) ht
  refine⟨_,c',[some (.ref s),some (.int k),some (.tup [.str "not",rp (0+i) t]),some (.int (0+(i:Int)))],c',rfl,?_,rfl,_,rfl⟩
  rw[ex]
  erw[qK]) ⟨rfl,none,rfl⟩
 obtain⟨σ',c',ef,rfl,j,rfl⟩:=key
 rw[pN,Nat.zero_add,Int.toNat_natCast]at ef
 have f:=(ka (g:=aD 3) (b:=aF 2 (qq (tV (e2 kE (eV 2) (eC .bf))) (eC .bf) (cc (ag (eC (.str "not")) (ag (eV 2) ak))))) hr).trans (by simpa using ef)
 refine⟨c',?_,(List.prefix_append c _).trans hp⟩
 have run:fE [some (.ref s),none,none,none] c=some (.rt (rp k t),[some (.ref s),some (.int k),some (rp k t),j],c'):=by
  unfold fE
  refine az (σ1:=[some (.ref s),some (.int 0),none,none]) (c1:=c) (by erw[]) ?_
  refine az w ?_
  refine az (σ1:=[some (.ref s),some (.int k),some t,none]) (c1:=c') (by erw[o1,g1,b]) ?_
  refine az f ?_
  erw[]
 erw[cD,run]
theorem Ex.things{k n:Nat}{ts:List Str}{is:List D}{t:D}(h:Ex k n ts is t):k=0→n≤40→∃j core t0,is=List.replicate j (.str "not")++core∧t=rp j t0∧Core core t0:=by
 induction h with
 |is wx wy=>intro _ _;exact⟨0,_,_,rfl,rfl,.is wx wy⟩
 |any=>intro _ _;exact⟨0,_,_,rfl,rfl,.any⟩
 |not _ ih=>
  intro _ hn
  obtain⟨j,core,t0,rfl,rfl,hc⟩:=ih rfl (by omega)
  exact⟨j+1,core,t0,rfl,rfl,hc⟩
 |par h ih=>intro _ hn;exact⟨0,_,_,rfl,rfl,.tr (h.tr.mono hn)⟩
 |up _ _ _=>intro e;cases e
 |bin _ _ _ _ _=>intro e;cases e
theorem wX(k:Nat):(kw k).cps.all (fun k=>decide (k<1114112))=true:=by
 match k with
 |0=>exact dP (by decide)
 |_+1=>exact dP (x:="or") (by decide)
theorem Bp(k:Nat):kw k∈(["and","or","not","any"]:List Str):=by
 match k with
 |0=>simp[kw]
 |_+1=>simp[kw]
theorem Ex.items{k n:Nat}{ts:List Str}{is:List D}{t:D}(h:Ex k n ts is t):n≤40→∀d∈is,It d:=by
 induction h with
 |is wx wy=>
  intro _ d hd
  simp only[List.mem_cons,List.not_mem_nil,or_false]at hd
  rcases hd with rfl|rfl
  ·exact .str wx.ok
  ·exact .str wy.ok
 |any=>intro _ d hd;rw[List.mem_singleton.mp hd];exact .str pS
 |not _ ih=>
  intro hn d hd
  rcases List.mem_cons.mp hd with rfl|hd
  ·exact .str pT
  ·exact ih (by omega) d hd
 |par h ih=>intro hn d hd;rw[List.mem_singleton.mp hd];exact .tr (h.tr.mono hn)
 |up _ _ ih=>exact ih
 |bin _ _ _ kb kc=>
  intro hn d hd
  simp only[List.mem_append,List.mem_singleton]at hd
  rcases hd with(hd|rfl)|hd
  ·exact kb (by omega) d hd
  ·exact .str (wX _)
  ·exact kc (by omega) d hd
theorem Ex.free{k n:Nat}{ts:List Str}{is:List D}{t:D}(h:Ex k n ts is t):∀i,k≤i→i<2→∀d∈is,pR (kw i) d=false:=by
 induction h with
 |is wx wy=>
  intro i _ _ d hd
  simp only[List.mem_cons,List.not_mem_nil,or_false]at hd
  rcases hd with rfl|rfl
  ·exact wW wx (Bp i)
  ·exact wW wy (Bp i)
 |any=>
  intro i _ hi d hd
  rw[List.mem_singleton.mp hd]
  match i,hi with
  |0,_=>decide
  |1,_=>decide
 |not _ ih=>
  intro i hk hi d hd
  rcases List.mem_cons.mp hd with rfl|hd
  ·match i,hi with
   |0,_=>decide
   |1,_=>decide
  ·exact ih i hk hi d hd
 |par h _=>
  intro i _ _ d hd
  rw[List.mem_singleton.mp hd]
  obtain⟨xs,rfl⟩:=jU h.tr
  rfl
 |up _ _ ih=>intro i hk hi;exact ih i (by omega) hi
 |@bin k n ts us is js t u hk _ _ kb kc=>
  intro i VX hi d hd
  simp only[List.mem_append,List.mem_singleton]at hd
  rcases hd with(hd|rfl)|hd
  ·exact kb i VX hi d hd
  ·obtain rfl:i=1:=by omega
   obtain rfl:k=0:=by omega
   decide
  ·exact kc i (by omega) hi d hd
theorem mL{w:Str}:∀{r g:List D},(∀d∈r,pR w d=false)→dk w g r=[g++r]
 |[],g,_=>by simp[dk]
 |d::r,g,h=>by
  have h1:=h d (by simp)
  have ih:=mL (w:=w) (r:=r) (g:=g++[d]) fun z hz=>h z (List.mem_cons_of_mem _ hz)
  unfold dk
  rw[h1,if_neg (by decide),ih]
  simp
theorem oq{w:Str}{b:List D}:∀{a g:List D},dk w g (a++.str w::b)=dk w g a++dk w [] b
 |[],g=>by
  show(if pR w (.str w)=true then g::dk w [] b else dk w (g++[.str w]) b)=_
  rw[show pR w (.str w)=true from decide_eq_true rfl,if_pos rfl]
  rfl
 |d::a,g=>by
  rw[List.cons_append,dk,dk]
  by_cases h:pR w d=true
  ·rw[if_pos h,if_pos h,oq];rfl
  ·rw[if_neg h,if_neg h,oq]
theorem Ex.pieces{j n:Nat}{ts:List Str}{is:List D}{t:D}(h:Ex j n ts is t):∀k,j=k+1→∃(p:List D×D) (ps:List (List D×D)),(∀q∈p::ps,∃us,Ex k n us q.1 q.2)∧dk (kw k) [] is=(p::ps).map (·.1)∧t=fold (kw k) p.2 (ps.map (·.2)):=by
 induction h with
 |is _ _=>intro k e;cases e
 |any=>intro k e;cases e
 |not _ _=>intro k e;cases e
 |par _ _=>intro k e;cases e
 |@up k n ts is t hk h _=>
  intro k' e
  cases e
  refine⟨(is,t),[],fun q hq=>?_,?_,rfl⟩
  ·rw[List.mem_singleton.mp hq];exact⟨ts,h⟩
  ·rw[mL (h.free k (Nat.le_refl _) hk)];rfl
 |@bin k n ts us is js t u hk h1 h2 ih _=>
  intro k' e
  cases e
  obtain⟨p,ps,a1,a2,a3⟩:=ih k rfl
  refine⟨p,ps++[(js,u)],fun q hq=>?_,?_,?_⟩
  ·rw[←List.cons_append]at hq
   rcases List.mem_append.mp hq with hq|hq
   ·obtain⟨yj,hu⟩:=a1 q hq
    exact⟨yj,hu.mono _ (by omega)⟩
   ·rw[List.mem_singleton.mp hq];exact⟨us,h2.mono _ (by omega)⟩
  ·rw[List.append_assoc,List.singleton_append,oq,a2,mL (h2.free k (Nat.le_refl _) hk)]
   simp
  ·rw[a3];simp[fold]
def yH(F:FN)(k:Nat):Prop:=∀n ts is t s c,Ex k n ts is t→n≤40→is.length≤500→c[s]? =some (.lst is)→∃c',F [.ref s] c=some (t,c')∧c <+:c'
theorem VY:yH cD 0:=by
 intro n ts is t s c h hn hl hs
 obtain⟨j,core,t0,rfl,rfl,hc⟩:=h.things rfl hn
 rw[List.length_append,List.length_replicate]at hl
 exact yG hc hs (by omega)
theorem ou{w:Str}:∀{r g:List D},((dk w g r).length≤r.length+1)∧∀p∈dk w g r,p.length≤g.length+r.length
 |[],g=>by
  refine⟨by simp[dk],fun p hp=>?_⟩
  rw[List.mem_singleton.mp hp];simp
 |d::r,g=>by
  rw[dk]
  split
  ·obtain⟨h1,h2⟩:=ou (w:=w) (r:=r) (g:=[])
   refine⟨by simp only[List.length_cons];omega,fun p hp=>?_⟩
   rcases List.mem_cons.mp hp with rfl|hp
   ·omega
   ·have:=h2 p hp;simp only[List.length_nil,List.length_cons]at this ⊢;omega
  ·obtain⟨h1,h2⟩:=ou (w:=w) (r:=r) (g:=g++[d])
   refine⟨by simp only[List.length_cons];omega,fun p hp=>?_⟩
   have:=h2 p hp;simp only[List.length_append,List.length_nil,List.length_cons]at this ⊢;omega
theorem PY{F G:FN}{k:Nat}(hF:yH F k)(hG:∀s c c' r,aw bu [] (ag (eC (.str (kw k))) (ag (fU (gr (aw bJ [] (ag (eC (.str (kw k))) (ag (eV 0) ak)))) [none] (aD 0) iQ (aw F [] (ag (eV 0) ak))) ak)) [some (.ref s)] c=some (r,c')→G [.ref s] c=some (r,c')):yH G (k+1):=by
 intro n ts is t s c h hn hl hs
 obtain⟨p,ps,a1,a2,rfl⟩:=h.pieces k rfl
 obtain⟨c1,rs,e1,p1,q1,q2,q3⟩:=Fp (wX k) hs (h.items hn) (by omega)
 rw[a2]at q2
 have hlen:rs.length=(p::ps).length:=by have:=congrArg List.length q2;simpa using this
 have pl:=ou (w:=kw k) (r:=is) (g:=[])
 rw[a2]at pl
 have YH:(p::ps).length≤501:=by have:=pl.1;rw[List.length_map]at this;omega
 have it:gr (aw bJ [] (ag (eC (.str (kw k))) (ag (eV 0) ak))) [some (.ref s)] c=some (⟨rs.map fun q=>D.ref q.1,[(c.length+1,.lst (rs.map fun q=>D.ref q.1))]⟩,c1):=t7 (by erw[e1]) q1
 obtain⟨c2,e2,p2,l2⟩:=Fh (it:=gr (aw bJ [] (ag (eC (.str (kw k))) (ag (eV 0) ak)))) (cap:=[none]) (g:=aD 0) (te:=aw F [] (ag (eV 0) ak)) (vs:=(p::ps).map (·.2)) (fun τ=>∃x,τ=[x]) it (fun q hq=>by rw[List.mem_singleton.mp hq];exact q1) ⟨none,rfl⟩ (by rw[List.length_map,List.length_map,hlen]) (by
  rintro i d v hd hv τ c' ⟨x,rfl⟩ hc
  rw[List.getElem?_map]at hd hv
  obtain⟨r,hr,rfl⟩:=Option.map_eq_some_iff.mp hd
  obtain⟨q,hq,rfl⟩:=Option.map_eq_some_iff.mp hv
  have e3:r.2=q.1:=by
   have h1:=congrArg (fun l=>l[i]?) q2
   simp only[List.getElem?_map,hr,hq,Option.map_some]at h1
   exact Option.some.inj h1
  obtain⟨us,hx⟩:=a1 q (List.mem_of_getElem? hq)
  have VZ:=pl.2 q.1 (List.mem_map_of_mem (List.mem_of_getElem? hq))
  obtain⟨c3,f1,ws,rfl⟩:=hF n us q.1 q.2 r.1 c' hx hn (by simp only[List.length_nil]at VZ;omega) (by rw[←e3];exact cK hc (q3 r (List.mem_of_getElem? hr)))
  exact⟨[some (.ref r.1)],ws,rfl,by erw[f1],_,rfl⟩) (by rw[List.length_map,hlen];omega)
 obtain⟨z,e3⟩:=PV (k:=kw k) (c:=c2) l2 (by
  intro d hd
  obtain⟨q,hq,rfl⟩:=List.mem_map.mp (show d∈(p::ps).map (·.2)from hd)
  obtain⟨us,hx⟩:=a1 q hq
  exact hx.tr.mono hn)
 refine⟨c2++[z],hG s c _ _ ?_,(p1.trans p2).trans (List.prefix_append _ _)⟩
 erw[e2,e3]
theorem V0:yH dw 1:=PY VY fun s c c' r e=>by
 have e':aw bu [] (ag (eC (.str "and")) (ag (fU (gr (aw bJ [] (ag (eC (.str "and")) (ag (eV 0) ak)))) [none] (aD 0) iQ (aw cD [] (ag (eV 0) ak))) ak)) [some (.ref s)] c=some (r,c'):=e
 rw[dw,g8,iZ]
 simp only[List.length_cons,List.length_nil,if_true,List.map_cons,List.map_nil,Nat.reduceSub,List.replicate_zero,List.append_nil,wL,e',Option.bind_some,rZ]
theorem PZ:yH cm 2:=PY V0 fun s c c' r e=>by
 have e':aw bu [] (ag (eC (.str "or")) (ag (fU (gr (aw bJ [] (ag (eC (.str "or")) (ag (eV 0) ak)))) [none] (aD 0) iQ (aw dw [] (ag (eV 0) ak))) ak)) [some (.ref s)] c=some (r,c'):=e
 rw[cm,g8,ip]
 simp only[List.length_cons,List.length_nil,if_true,List.map_cons,List.map_nil,Nat.reduceSub,List.replicate_zero,List.append_nil,wL,e',Option.bind_some,rZ]
theorem mM{ks:List (Nat×Cell)}{g:XG}{body:XS}{d:D}{r:List D}{σ σ1 vZ:Qm.Env}{c c1 c2:Cells}(st:stays ks c)(h1:g d σ c=some (σ1,c1))(h2:body σ1 c1=some (.nx,vZ,c2)):cj ks g body (d::r) σ c=cj ks g body r vZ c2:=by
 rw[cj,if_pos st,h1,Option.bind_some]
 dsimp only
 rw[h2,Option.bind_some]
theorem Ex.Ft{k n:Nat}{ts:List Str}{is:List D}{t:D}(h:Ex k n ts is t):is.length≤ts.length:=by
 induction h with
 |is _ _=>simp
 |any=>simp
 |not _ ih=>simp only[List.length_cons];omega
 |par _ _=>simp
 |up _ _ ih=>exact ih
 |bin _ _ _ kb kc=>simp only[List.length_append,List.length_cons,List.length_nil];omega
noncomputable def iL:XS:=(bV (tV (e2 cQ (eV 2) (eC (.str "("))))
   (bW (eM aW (eV 1) (ag (bC ak) ak)))
   (bV (tV (e2 cQ (eV 2) (eC (.str ")"))))
   (aA (aF 3 (aw cm [] (ag (eM yk (eV 1) ak) ak)))
   (aA (bV (mn (tV (e2 kE (eV 3) (eC .bf))) (oR (pH (eV 1))))
   (bx (eC .bf))
   bp)
   (bW (eM aW (e2 aZ (eV 1) (e1 je (eC (.int 1)))) (ag (eV 3) ak)))))
   (bW (eM aW (e2 aZ (eV 1) (e1 je (eC (.int 1)))) (ag (eV 2) ak)))))
structure Tk(w:Str):Prop where
 ok:w.cps.all (fun k=>decide (k<1114112))=true
 no:decide (w= "(")=false
 nc:decide (w= ")")=false
theorem Tk.wd{x:Str}(h:W0 x):Tk x:=by
 refine⟨h.ok,decide_eq_false fun e=>?_,decide_eq_false fun e=>?_⟩
 ·have:=h.lt;rw[e]at this;revert this;decide
 ·have:=h.lt;rw[e]at this;revert this;decide
theorem wY:("(":Str).cps.all (fun k=>decide (k<1114112))=true:=dP (by decide)
theorem wZ:(")":Str).cps.all (fun k=>decide (k<1114112))=true:=dP (by decide)
theorem L6(k:Nat):Tk (kw k):=by
 match k with
 |0=>exact⟨wX 0,by decide,by decide⟩
 |j+1=>exact⟨wX (j+1),show decide (("or":Str)= "(")=false by decide,show decide (("or":Str)= ")")=false by decide⟩
structure Op(W U:Nat)(ws:List D)(st:List Nat)(p:Nat)(g:List D)(c:Cells):Prop where
 w:c[W]? =some (.lst ws)
 u:c[U]? =some (.lst ((st.map D.ref)++[.ref p]))
 t:c[p]? =some (.lst g)
 wu:W≠U
 wp:W≠p
 pu:p≠U
theorem Op.st{W U:Nat}{ws:List D}{st:List Nat}{p:Nat}{g:List D}{c:Cells}(h:Op W U ws st p g c):stays [(W,.lst ws)] c:=fun q hq=>by rw[List.mem_singleton.mp hq];exact h.w
theorem Op.put{W U:Nat}{ws:List D}{st:List Nat}{p:Nat}{g g':List D}{c:Cells}(h:Op W U ws st p g c):Op W U ws st p g' (c.set p (.lst g')):=by
 refine⟨?_,?_,?_,h.wu,h.wp,h.pu⟩
 ·rw[List.getElem?_set,if_neg (fun e=>h.wp e.symm)];exact h.w
 ·rw[List.getElem?_set,if_neg h.pu];exact h.u
 ·rw[List.getElem?_set,if_pos rfl,if_pos (dJ h.t)]
theorem P0{W U:Nat}{ws:List D}{st:List Nat}{p:Nat}{g:List D}{c:Cells}{x:Str}{wd cd:Option D}{r:List D}(h:Op W U ws st p g c)(hx:Tk x)(hg:g.length≤5000):cj [(W,.lst ws)] (aD 2) iL (.str x::r) [some (.ref W),some (.ref U),wd,cd] c=cj [(W,.lst ws)] (aD 2) iL r [some (.ref W),some (.ref U),some (.str x),cd] (c.set p (.lst (g++[.str x]))):=by
 refine mM h.st (σ1:=[some (.ref W),some (.ref U),some (.str x),cd]) (c1:=c) rfl ?_
 have q1:=gJ (c:=c) hx.ok wY
 have q2:=gJ (c:=c) hx.ok wZ
 rw[hx.no]at q1
 rw[hx.nc]at q2
 have sU:=aP h.u
 have al:fA ((st.map D.ref)++[.ref p]) (-1)=some (.ref p):=kJ
 have lp:=aT h.t
 have ap:=da (y:=.str x) h.t (by omega)
 unfold iL
 erw[q1,q2,de,sU,al,lp,ap]
theorem L8{W U:Nat}{ws:List D}{st:List Nat}{p:Nat}{g:List D}{c:Cells}{wd cd:Option D}{r:List D}(h:Op W U ws st p g c)(hg:st.length≤5000):cj [(W,.lst ws)] (aD 2) iL (.str "("::r) [some (.ref W),some (.ref U),wd,cd] c=cj [(W,.lst ws)] (aD 2) iL r [some (.ref W),some (.ref U),some (.str "("),cd] ((c++[Cell.lst []]).set U (Cell.lst (((st++[p]).map D.ref)++[D.ref c.length]))):=by
 refine mM h.st (σ1:=[some (.ref W),some (.ref U),some (.str "("),cd]) (c1:=c) rfl ?_
 have q1:=gJ (c:=c) wY wY
 rw[show decide (("(":Str)= "(")=true by decide]at q1
 have lU:=aT h.u
 have ap:=da (y:=.ref c.length) (bb (zs:=[.lst []]) h.u) (by simp only[List.length_append,List.length_map,List.length_cons,List.length_nil];omega)
 have e:(st.map D.ref++[D.ref p])++[D.ref c.length]=((st++[p]).map D.ref)++[.ref c.length]:=by simp
 rw[e]at ap
 unfold iL
 erw[q1,lU,jq,ap]
theorem Op.open{W U:Nat}{ws:List D}{st:List Nat}{p:Nat}{g:List D}{c:Cells}(h:Op W U ws st p g c):Op W U ws (st++[p]) c.length [] ((c++[Cell.lst []]).set U (Cell.lst (((st++[p]).map D.ref)++[D.ref c.length]))):=by
 have hU:=dJ h.u
 have hW:=dJ h.w
 refine⟨?_,?_,?_,h.wu,by omega,by omega⟩
 ·rw[List.getElem?_set,if_neg (fun e=>h.wu e.symm)];exact bb h.w
 ·rw[List.getElem?_set,if_pos rfl,if_pos (by rw[List.length_append];omega)]
 ·rw[List.getElem?_set,if_neg (by omega)];exact aI
theorem HW{W U:Nat}{ws:List D}{st:List Nat}{p q:Nat}{g is:List D}{c:Cells}{wd cd:Option D}{r:List D}{n:Nat}{ts:List Str}{t:D}(h:Op W U ws (st++[p]) q is c)(hp:c[p]? =some (.lst g))(wp:W≠p)(pu:p≠U)(pq:p≠q)(hx:Ex 2 n ts is t)(hn:n≤40)(hl:is.length≤500)(hg:g.length≤5000):
  ∃c',cj [(W,.lst ws)] (aD 2) iL (.str ")"::r) [some (.ref W),some (.ref U),wd,cd] c=cj [(W,.lst ws)] (aD 2) iL r [some (.ref W),some (.ref U),some (.str ")"),some t] c'∧Op W U ws st p (g++[t]) c'∧Kq [U,p] c c':=by
 have hU:=dJ h.u
 have u3:(c.set U (.lst ((st.map D.ref)++[.ref p])))[U]? =some (.lst ((st.map D.ref)++[.ref p])):=by rw[List.getElem?_set,if_pos rfl,if_pos hU]
 have q3:(c.set U (.lst ((st.map D.ref)++[.ref p])))[q]? =some (.lst is):=by rw[List.getElem?_set,if_neg (fun e=>h.pu e.symm)];exact h.t
 obtain⟨c4,e4,p4⟩:=PZ n ts is t q (c.set U (.lst ((st.map D.ref)++[.ref p]))) hx hn hl q3
 have u4:=cK p4 u3
 have L9:c4[p]? =some (.lst g):=cK p4 (by rw[List.getElem?_set,if_neg (fun e=>pu e.symm)];exact hp)
 have w4:c4[W]? =some (.lst ws):=cK p4 (by rw[List.getElem?_set,if_neg (fun e=>h.wu e.symm)];exact h.w)
 have O4:Op W U ws st p g c4:=⟨w4,u4,L9,h.wu,wp,pu⟩
 refine⟨c4.set p (.lst (g++[t])),?_,O4.put,((Kq.set (by simp)).trans (Kq.pre p4)).trans (Kq.set (by simp))⟩
 refine mM h.st (σ1:=[some (.ref W),some (.ref U),some (.str ")"),cd]) (c1:=c) rfl ?_
 have q1:=gJ (c:=c) wZ wY
 have q2:=gJ (c:=c) wZ wZ
 rw[show decide ((")":Str)= "(")=false by decide]at q1
 rw[show decide ((")":Str)= ")")=true by decide]at q2
 have lU:=aT h.u
 have pop:yk (.ref U) [] c=some (.ref q,c.set U (.lst ((st.map D.ref)++[.ref p]))):=by
  show((bg (.ref U) c).bind fun l=>(l.2[l.2.length - 1]?).bind fun d=>some (d,c.set l.1 (.lst l.2.dropLast)))=_
  rw[lU]
  simp
 have tr:pH (eV 1) [some (.ref W),some (.ref U),some (.str ")"),some t] c4=some (true,c4):=by
  show((bg (.ref U) c4).bind fun l=>some (!l.2.isEmpty,c4))=_
  rw[aT u4]
  simp
 obtain⟨xs,rfl⟩:=jU hx.tr
 have sU:=aP u4
 have al:fA ((st.map D.ref)++[.ref p]) (-1)=some (.ref p):=kJ
 have lp:=aT L9
 have ap:=da (y:=.tup xs) L9 (by omega)
 unfold iL
 erw[q1,q2,lU,pop,e4,qK,tr,de,sU,al,lp,ap]
def rL(W U:Nat)(ws:List D)(ts:List Str)(is:List D):Prop:=∀(st:List Nat) (p:Nat) (g:List D) (c:Cells) (wd cd:Option D) (r:List D),Op W U ws st p g c→st.length+ts.length≤4000→g.length+ts.length≤4000→
  ∃c' V1 V2,cj [(W,.lst ws)] (aD 2) iL (ts.map D.str++r) [some (.ref W),some (.ref U),wd,cd] c=cj [(W,.lst ws)] (aD 2) iL r [some (.ref W),some (.ref U),V1,V2] c'∧Op W U ws st p (g++is) c'∧Kq [U,p] c c'
theorem rL.one{W U:Nat}{ws:List D}{x:Str}(hx:Tk x):rL W U ws [x] [.str x]:=fun st p g c wd cd r h _ hg=>⟨_,_,_,P0 h hx (by simp only[List.length_cons,List.length_nil]at hg;omega),h.put,Kq.set (by simp)⟩
theorem rL.app{W U:Nat}{ws:List D}{ts us:List Str}{is js:List D}(h1:rL W U ws ts is)(h2:rL W U ws us js)(hl:is.length≤ts.length):rL W U ws (ts++us) (is++js):=by
 intro st p g c wd cd r h hs hg
 rw[List.length_append]at hs hg
 obtain⟨c1,w1,d1,e1,o1,k1⟩:=h1 st p g c wd cd (us.map D.str++r) h (by omega) (by omega)
 obtain⟨c2,w2,d2,e2,o2,k2⟩:=h2 st p (g++is) c1 w1 d1 r o1 (by omega) (by rw[List.length_append];omega)
 refine⟨c2,w2,d2,?_,by rw[←List.append_assoc];exact o2,k1.trans k2⟩
 rw[List.map_append,List.append_assoc,e1,e2]
theorem Fu{W U:Nat}{ws:List D}{k n:Nat}{ts:List Str}{is:List D}{t:D}(h:Ex k n ts is t):n≤40→ts.length≤500→rL W U ws ts is:=by
 induction h with
 |is wx wy=>intro _ _;exact(rL.one (Tk.wd wx.toW0)).app (rL.one (Tk.wd wy.toW0)) (by simp)
 |any=>intro _ _;exact rL.one ⟨pS,by decide,by decide⟩
 |not _ ih=>intro hn hl;rw[List.length_cons]at hl;exact(rL.one ⟨pT,by decide,by decide⟩).app (ih (by omega) (by omega)) (by simp)
 |@par n ts is t hx ih=>
  intro hn hl st p g c wd cd r h hs hg
  simp only[List.length_cons,List.length_append,List.length_nil]at hl hs hg
  have hU:=dJ h.u
  have hp:=dJ h.t
  obtain⟨c2,w2,d2,e2,o2,k2⟩:=ih hn (by omega) (st++[p]) c.length [] _ (some (.str "(")) cd (.str ")"::r) h.open (by simp only[List.length_append,List.length_cons,List.length_nil];omega) (by simp only[List.length_nil];omega)
  rw[List.nil_append]at o2
  have p2:c2[p]? =some (.lst g):=k2.get (by rw[List.getElem?_set,if_neg (fun e=>h.pu e.symm)];exact bb h.t) (by simp[h.pu];omega)
  have il:=hx.Ft
  obtain⟨c3,e3,o3,k3⟩:=HW (wd:=w2) (cd:=d2) (r:=r) o2 p2 h.wp h.pu (by omega) hx hn (by omega) (by omega)
  refine⟨c3,some (.str ")"),some t,?_,o3,?_⟩
  ·rw[List.map_cons,List.cons_append,L8 h (by omega),List.map_append,List.append_assoc]
   exact e2.trans e3
  ·have k1:Kq [U,p] c ((c++[Cell.lst []]).set U (Cell.lst (((st++[p]).map D.ref)++[D.ref c.length]))):=Kq.more.trans (Kq.set (by simp))
   refine(k1.less k2 fun x hx=>?_).trans k3
   simp only[List.mem_cons,List.not_mem_nil,or_false]at hx
   rcases hx with rfl|rfl
   ·exact .inl (by simp)
   ·exact .inr (Nat.le_refl _)
 |up _ _ ih=>exact ih
 |@bin k n ts us is js t u _ hx hy kb kc=>
  intro hn hl
  simp only[List.length_append,List.length_cons,List.length_nil]at hl
  have i1:=hx.Ft
  exact((kb (by omega) (by omega)).app (rL.one (L6 k)) i1).app (kc (by omega) (by omega)) (by simp only[List.length_append,List.length_cons,List.length_nil];omega)
theorem yI{W n:Nat}{ts:List Str}{is:List D}{t:D}{c:Cells}(h:Ex 2 n ts is t)(hn:n≤40)(hl:ts.length≤500)(hW:c[W]? =some (.lst (ts.map D.str))):∃c',cu [.ref W] c=some (t,c')∧c <+:c':=by
 have YI:=dJ hW
 have O:Op W (c.length+1) (ts.map D.str) [] c.length [] (c++[.lst []]++[.lst [.ref c.length]]):=⟨bb (bb hW),by simp,bb aI,by omega,by omega,by omega⟩
 obtain⟨c1,wd,cd,e1,o1,k1⟩:=Fu h hn hl [] c.length [] _ none none [] O (by simp only[List.length_nil];omega) (by simp only[List.length_nil];omega)
 rw[List.append_nil]at e1
 rw[cj,if_pos o1.st]at e1
 rw[List.nil_append]at o1
 have il:=h.Ft
 obtain⟨c2,e2,p2⟩:=PZ n ts is t c.length c1 h hn (by omega) o1.t
 have kp:c <+:c1:=by
  have k0:Kq [] c (c++[.lst []]++[.lst [.ref c.length]]):=Kq.more.trans Kq.more
  refine(k0.less k1 fun x hx=>?_).ub
  simp only[List.mem_cons,List.not_mem_nil,or_false]at hx
  rcases hx with rfl|rfl
  ·exact .inr (by omega)
  ·exact .inr (Nat.le_refl _)
 refine⟨c2,?_,kp.trans p2⟩
 have it:gr (eV 0) [some (.ref W),some (.ref (c.length+1)),none,none] (c++[.lst []]++[.lst [.ref c.length]])=some (⟨ts.map D.str,[(W,.lst (ts.map D.str))]⟩,c++[.lst []]++[.lst [.ref c.length]]):=t7 rfl (bb (bb hW))
 have f:=(ka (g:=aD 2) (b:=iL) it).trans e1
 have lc:(c++[Cell.lst []]).length=c.length+1:=by simp
 have sU:=aP o1.u
 have run:dz [some (.ref W),none,none,none] c=some (.rt t,[some (.ref W),some (.ref (c.length+1)),wd,cd],c2):=by
  unfold dz
  refine az (σ1:=[some (.ref W),some (.ref (c.length+1)),none,none]) (c1:=c++[.lst []]++[.lst [.ref c.length]]) (by erw[jq,lc]) ?_
  refine az f ?_
  have bl:eD [.ref (c.length+1)] c1=some (.int 1,c1):=by rw[iK,sU];rfl
  erw[bl,sU,de,e2]
 erw[cu,run]
theorem iF(a b:List Nat):bG (a++b)=bG a++bG b:=by simp[bG]
theorem jV(n:Nat):bG (List.replicate n 32)=List.replicate n 32:=by
 induction n with
 |zero=>rfl
 |succ n ih=>rw[List.replicate_succ,show(32:Nat)::List.replicate n 32=[32]++List.replicate n 32 from rfl,iF,ih];rfl
theorem pU:∀{l:List Nat},(∀k∈l,sgn k=false)→bG l=l
 |[],_=>rfl
 |k::l,h=>by
  have ih:=pU (l:=l) fun z hz=>h z (List.mem_cons_of_mem _ hz)
  rw[show k::l=[k]++l from rfl,iF,ih]
  simp[bG,h k (by simp)]
def gL(x:Str):Bool:=x=="("||x==")"||x==":"
structure Tx(x:Str):Prop where
 ok:x.cps.all (fun k=>decide (k<1114112))=true
 len:x.length≤16
 pos:sg x≠[]
 wd:gL x=false→∀k∈sg x,sgn k=false∧k≠32
 nl: 10∉sg x
theorem mN{x:Str}(h:gL x=true):∃k,sg x=[k]∧sgn k=true∧x=⟨#[k]⟩:=by
 simp only[gL,Bool.or_eq_true,beq_iff_eq]at h
 rcases h with(rfl|rfl)|rfl
 ·exact⟨40,rfl,rfl,rfl⟩
 ·exact⟨41,rfl,rfl,rfl⟩
 ·exact⟨58,rfl,rfl,rfl⟩
theorem Bq{x:Str}(h:gL x=true):rh x "():" =true:=by
 obtain⟨k,h1,h2,rfl⟩:=mN h
 rw[vN]
 refine decide_eq_true ?_
 have e:sg "():" =[40,41,58]:=rfl
 rw[e]
 simp only[sgn,Bool.or_eq_true,beq_iff_eq]at h2
 simp only[List.mem_cons,List.not_mem_nil,or_false]
 omega
theorem Br{x:Str}(h:Tx x)(hx:gL x=false):rh x "():" =false:=by
 cases hb:rh x "():" with
 |false=>rfl
 |true=>
  exfalso
  obtain⟨i,h1,h2⟩:=(StrLaws.found_iff ("():":Str) x).mp hb
  rw[StrLaws.subAt_eq,beq_iff_eq]at h2
  cases hs:sg x with
  |nil=>exact h.pos hs
  |cons k r=>
   have hk:=(h.wd hx k (by rw[hs];simp)).1
   have hm:k∈(("():":Str).cps.toList.drop i).take x.length:=by rw[h2];show k∈sg x;rw[hs];simp
   have:=List.mem_of_mem_drop (List.mem_of_mem_take hm)
   have e:("():":Str).cps.toList=[40,41,58]:=rfl
   rw[e]at this
   simp only[List.mem_cons,List.not_mem_nil,or_false]at this
   rcases this with rfl|rfl|rfl<;>exact absurd hk (by decide)
def Sp(l:List Nat):Prop:=l=[]∨∃r,l=32::r
theorem Fv{x:Str}(h:Tx x){l:List Nat}(hl:gL x=false→Sp l):gK (bG (sg x)++l)=sg x::gK l:=by
 cases hx:gL x with
 |true=>
  obtain⟨k,h1,h2,_⟩:=mN hx
  have e:bG (sg x)=[32,k,32]:=by rw[h1];simp[bG,h2]
  have hk:k≠32:=by rintro rfl;exact absurd h2 (by decide)
  rw[e,h1]
  show gK (32::([k]++32::l))=_
  rw[wR,vL (by simpa using fun e=>hk e.symm) (by simp)]
 |false=>
  have hw:=h.wd hx
  rw[pU fun k hk=>(hw k hk).1]
  have P4: 32∉sg x:=fun hm=>(hw 32 hm).2 rfl
  rcases hl hx with rfl|⟨r,rfl⟩
  ·rw[List.append_nil,Cv P4 h.pos];rfl
  ·rw[vL P4 h.pos,wR]
def Told(b:Bool)(x:Str)(pre:List (List Nat)):Prop:=∀l,(b=true→Sp l)→gK (bG (sg x)++l)=pre++gK l
theorem Told.more{b:Bool}{x y s:Str}{n:Nat}{pre:List (List Nat)}(h:Told b x pre)(hy:Tx y)(hs:sg s=List.replicate n 32)(hn:b=true→gL y=false→0<n):Told (!gL y) (x++s++y) (pre++[sg y]):=by
 intro l hl
 have e:bG (sg (x++s++y))++l=bG (sg x)++(List.replicate n 32++(bG (sg y)++l)):=by
  rw[cO,cO,iF,iF,hs,jV];simp
 rw[e,h _ ?_,pP,Fv hy (fun hx=>hl (by rw[hx];rfl))]
 ·simp
 ·intro hb
  cases n with
  |succ n=>exact .inr ⟨_,rfl⟩
  |zero=>
   cases oM:gL y with
   |false=>exact absurd (hn hb oM) (by decide)
   |true=>
    obtain⟨k,h1,h2,_⟩:=mN oM
    rw[h1]
    exact .inr ⟨_,by simp[bG,h2];rfl⟩
theorem Told.end{b:Bool}{x s:Str}{n:Nat}{pre:List (List Nat)}(h:Told b x pre)(hs:sg s=List.replicate n 32):gK (bG (sg (x++s)))=pre:=by
 have:=h (List.replicate n 32) (fun _=>by cases n with
  |zero=>exact .inl rfl
  |succ n=>exact .inr ⟨_,rfl⟩)
 rw[cO,iF,hs,jV,this]
 have e:=pP n []
 rw[List.append_nil]at e
 rw[e,t6,List.append_nil]
theorem Bs(a:Str)(n:Nat):sg (cN a n)=(List.replicate n (sg a)).flatten:=by
 have:∀(n:Nat) (acc:Array Nat),((List.replicate n a.cps).foldl (·++·) acc).toList=acc.toList++(List.replicate n (sg a)).flatten:=by
  intro n
  induction n with
  |zero=>intro acc;simp
  |succ n ih=>intro acc;rw[List.replicate_succ,List.foldl_cons,ih,Array.toList_append,List.replicate_succ,List.flatten_cons,List.append_assoc];rfl
 exact this n #[]
theorem e_(n:Nat):sg (cN " " n)=List.replicate n 32:=by
 rw[Bs]
 have:sg " " =[32]:=rfl
 rw[this]
 induction n with
 |zero=>rfl
 |succ n ih=>rw[List.replicate_succ,List.flatten_cons,ih];rfl
theorem nB{a:Str}{n:Int}{c:Cells}(h0: 0≤n)(h1:n≤1000)(ha:a.length≤1000):fX (.str a) (.int n) c=some (.str (cN a n.toNat),c):=by
 show(if 0≤n∧n≤1000∧a.length≤1000 then some (D.str (cN a n.toNat),c)else none)=_
 rw[if_pos ⟨h0,h1,ha⟩]
theorem Fw(a:Str):cN a 1=a:=lD (by rw[Bs];simp)
theorem Cz(a:Str):cN a 0=⟨#[]⟩:=rfl
def pw(ts:List Str):Nat→Bool
 |0=>false
 |i+1=>match ts[i]? with
  |some w=>!gL w
  |none=>false
theorem yJ{ts:List Str}{i:Nat}{w:Str}(h:ts[i]? =some w):pw ts (i+1)= !gL w:=by
 show(match ts[i]? with
  |some w=>!gL w
  |none=>false)=_
 rw[h]
theorem qL{x y:Str}{c:Cells}:fD (.str x) (.str y) c=some (.bl (!rh x y),c):=rfl
theorem Fx{xs:List D}{i:Nat}{d:D}(h:(iJ xs)[i]? =some d):∃x,xs[i]? =some x∧d= .tup [.int i,x]:=by
 unfold iJ at h
 rw[List.getElem?_map,List.getElem?_zipIdx]at h
 cases hx:xs[i]? with
 |none=>rw[hx]at h;cases h
 |some x=>rw[hx]at h;cases h;exact⟨x,rfl,by simp⟩
theorem P5{l S:Nat}{ts:List Str}{c:Cells}{x w:Str}{i:Nat}{gp:Int}(hS:c[S]? =some (.lst (ts.map D.str)))(hT:∀w∈ts,Tx w)(hw:ts[i]? =some w)(h0: 0≤gp)(h2:gp≤2):
  ∃gq,bV (dq (tV (e2 rH (eV 3) (eC (.int 0)))) (dq (tV (e2 cQ (eV 5) (eC (.int 0)))) (dq (tV (e2 fD (e2 aZ (eV 1) (e2 jc (eV 3) (eC (.int 1)))) (eC (.str "():")))) (tV (e2 fD (eV 4) (eC (.str "():"))))))) (aF 5 (eC (.int 1))) bp [some (.ref l),some (.ref S),some (.str x),some (.int i),some (.str w),some (.int gp)] c
   =some (.nx,[some (.ref l),some (.ref S),some (.str x),some (.int i),some (.str w),some (.int gq)],c)∧0≤gq∧gq≤2∧(pw ts i=true→gL w=false→0<gq):=by
 have tw:=hT w (List.mem_of_getElem? hw)
 cases i with
 |zero=>
  refine⟨gp,?_,h0,h2,fun h=>by cases h⟩
  erw[Int.natCast_zero]
 |succ i=>
  have i1:(0:Int)<((i+1:Nat):Int):=by omega
  by_cases hg:gp=0
  ·subst hg
   have hi:i<ts.length:=by have:=(List.getElem?_eq_some_iff.mp hw).1;omega
   have hv:ts[i]? =some ts[i]:=List.getElem?_eq_getElem hi
   have tv:=hT ts[i] (List.getElem_mem hi)
   have sS:=aP hS
   have L_:fA (ts.map D.str) (((i+1:Nat):Int) - 1)=some (.str ts[i]):=by
    rw[show((i+1:Nat):Int) - 1=((i:Nat):Int)by omega,qJ (by simpa using hi)]
    simp
   have ep:pw ts (i+1)= !gL ts[i]:=yJ hv
   rw[ep]
   generalize ts[i]=v at*
   cases hv:gL v with
   |true=>
    have e1:=Bq hv
    refine⟨0,?_,by decide,by decide,fun h=>by cases h⟩
    erw[i1,de,sS,L_,qL,e1]
   |false=>
    have e1:=Br tv hv
    cases P6:gL w with
    |true=>
     have e2:=Bq P6
     refine⟨0,?_,by decide,by decide,fun _ h=>by cases h⟩
     erw[i1,de,sS,L_,qL,e1,e2]
    |false=>
     have e2:=Br tw P6
     refine⟨1,?_,by decide,by decide,fun _ _=>by decide⟩
     erw[i1,de,sS,L_,qL,e1,e2]
  ·refine⟨gp,?_,h0,h2,fun _ _=>by omega⟩
   erw[i1,hg]
theorem lF{s:Str}{n:Nat}(h:sg s=List.replicate n 32):s.length=n:=by rw[←ei,h,List.length_replicate]
theorem Fy{l S:Nat}{m:Int}{ts:List Str}{c:Cells}(h:Lf l m c)(hS:c[S]? =some (.lst (ts.map D.str)))(Ma:l≠S)(hT:∀w∈ts,Tx w)(hn:ts.length≤160):
  ∃x c',cY [.ref l,.ref S] c=some (.str x,c')∧gK (bG (sg x))=ts.map sg∧x.length≤3000∧10∉sg x∧Lf l m c'∧Kq [l] c c':=by
 obtain⟨g0,c1,e1,V3,YJ,p1,k1⟩:=eh h (k:=4) (by decide) (by decide)
 have S1:c1[S]? =some (.lst (ts.map D.str)):=k1.get hS (by simpa using fun e=>Ma e.symm)
 have n0: 0≤g0 / 3:=Int.ediv_nonneg V3 (by decide)
 have n1:g0 / 3≤1:=by omega
 have l1:(" ":Str).length≤1000:=by decide
 have m1:=nB (c:=c1) (a:=" ") n0 (by omega) l1
 have d3:My.Bd 8900 (3:Int):=My.Bd.mono (rm (i:=3) (by decide)) (by decide)
 have hi:wD (ag (eV 1) ak) [some (.ref l),some (.ref S),some (.str (cN " " (g0 / 3).toNat)),none,none,none] c1=some (⟨iJ (ts.map D.str),[(S,.lst (ts.map D.str))]⟩,c1):=by
  have lb:=aT S1
  unfold wD
  simp[S1,lb]
 have key:=eR (ks:=[(S,.lst (ts.map D.str))]) (g:=gj 2 (bP (aD 3) (bP (aD 4) gh))) (body:=aA (aF 5 (e2 aZ (bC (ag (eC (.int 0)) (ag (eC (.int 1)) (ag (eC (.int 1)) (ag (eC (.int 2)) ak))))) (aw au [] (ag (eV 0) (ag (eC (.int 4)) ak)))))
   (aA (bV (dq (tV (e2 rH (eV 3) (eC (.int 0)))) (dq (tV (e2 cQ (eV 5) (eC (.int 0)))) (dq (tV (e2 fD (e2 aZ (eV 1) (e2 jc (eV 3) (eC (.int 1)))) (eC (.str "():")))) (tV (e2 fD (eV 4) (eC (.str "():"))))))) (aF 5 (eC (.int 1))) bp)
   (aF 2 (e2 dO (e2 dO (eV 2) (e2 fX (e2 fX (eC (.str " ")) (eV 5)) (eB tf (ag (e2 rH (eV 3) (eC (.int 0))) ak)))) (eV 4)))))
  (fun i σ c'=>∃x kk pp gg,σ=[some (.ref l),some (.ref S),some (.str x),kk,pp,gg]∧Told (pw ts i) x ((ts.take i).map sg)∧x.length≤2+18*i∧i≤ts.length∧10∉sg x∧Lf l m c'∧Kq [l] c1 c') (iJ (ts.map D.str)) 0 [some (.ref l),some (.ref S),some (.str (cN " " (g0 / 3).toNat)),none,none,none] c1
  (by
   rintro i σ c' ⟨_,_,_,_,_,_,_,_,_,_,hk⟩ z hz
   rw[List.mem_singleton.mp hz]
   exact hk.get S1 (by simpa using fun e=>Ma e.symm)) (by
   rintro i d σ c' hd ⟨x,kk,pp,gg,rfl,ht,hx,YK,Mb,hp,hk⟩
   rw[Nat.zero_add]at ht hx ⊢
   obtain⟨dd,h1,rfl⟩:=Fx hd
   rw[List.getElem?_map]at h1
   obtain⟨w,hw,rfl⟩:=Option.map_eq_some_iff.mp h1
   have tw:=hT w (List.mem_of_getElem? hw)
   have YL:=(List.getElem?_eq_some_iff.mp hw).1
   obtain⟨g,c2,ee,ga,gb,p2,k2⟩:=eh (hp.more (zs:=[.lst ([0,1,1,2].map D.int)])) (k:=4) (by decide) (by decide)
   have q2:c2[c'.length]? =some (.lst ([0,1,1,2].map D.int)):=k2.get aI (by have:=hp.lt;simp;omega)
   obtain⟨dn,ed,LS⟩:=kY (xs:=[0,1,1,2].map D.int) ga (by simpa using gb)
   obtain⟨gp,V4,rfl⟩:=List.mem_map.mp LS
   have P7:∀n∈([0,1,1,2]:List Int),0≤n∧n≤2:=by decide
   have Jp:=P7 gp V4
   have s2:=aP q2
   have P8:Kq [l] c' c2:=Kq.more.trans k2
   have S2:c2[S]? =some (.lst (ts.map D.str)):=(hk.trans P8).get S1 (by simpa using fun e=>Ma e.symm)
   obtain⟨gq,eg,V5,YM,V6⟩:=P5 (l:=l) (x:=x) S2 hT hw Jp.1 Jp.2
   have m2:=nB (c:=c2) (a:=" ") V5 (by omega) l1
   have lr:(cN " " gq.toNat).length=gq.toNat:=lF (e_ _)
   have m3:=nB (c:=c2) (a:=cN " " gq.toNat) (n:=if decide (0<(i:Int))=true then 1 else 0) (by split<;>decide) (by split<;>decide) (by rw[lr];omega)
   have lw:=tw.len
   generalize hs:cN (cN " " gq.toNat) (if decide (0<(i:Int))=true then(1:Int)else 0).toNat=s at m3
   have LY:∃n,sg s=List.replicate n 32∧n≤2∧(0<i→n=gq.toNat):=by
    rw[←hs]
    by_cases V7: 0<i
    ·refine⟨gq.toNat,?_,by omega,fun _=>rfl⟩
     rw[decide_eq_true (show(0:Int)<(i:Int)by omega),if_pos rfl,show(1:Int).toNat=1 from rfl,Fw,e_]
    ·refine⟨0,?_,by omega,fun h=>absurd h V7⟩
     rw[decide_eq_false (show ¬(0:Int)<(i:Int)by omega),if_neg Bool.false_ne_true,show(0:Int).toNat=0 from rfl,Cz]
     rfl
   obtain⟨n,HX,BS,PQ⟩:=LY
   have ls:=lF HX
   have a1:=iq (x:=x) (y:=s) (c:=c2) (by omega)
   have a2:=iq (x:=x++s) (y:=w) (c:=c2) (by rw[len_app];omega)
   refine⟨_,c',[some (.ref l),some (.ref S),some (.str (x++s++w)),some (.int i),some (.str w),some (.int gq)],c2,rfl,?_,⟨_,_,_,_,rfl,?_,?_,by omega,?_,p2,hk.trans P8⟩⟩
   ·simp only[List.map_cons,List.map_nil]at ee s2 ed
    refine az (σ1:=[some (.ref l),some (.ref S),some (.str x),some (.int i),some (.str w),some (.int gp)]) (c1:=c2) (by erw[ee,de,s2,ed]) ?_
    refine az eg ?_
    erw[m2,m3,a1,a2]
   ·have:=ht.more tw HX (fun hb V8=>by
     cases i with
     |zero=>cases hb
     |succ i=>rw[PQ (by omega)];have:=V6 hb V8;omega)
    have e1:pw ts (i+1)= !gL w:=yJ hw
    have e2:(ts.take (i+1)).map sg=(ts.take i).map sg++[sg w]:=by
     rw[List.take_succ,hw];simp
    rw[e1,e2]
    exact this
   ·rw[len_app,len_app];omega
   ·rw[cO,cO,HX]
    intro hm
    rcases List.mem_append.mp hm with hm|hm
    ·rcases List.mem_append.mp hm with hm|hm
     ·exact Mb hm
     ·have:=List.eq_of_mem_replicate hm;omega
    ·exact tw.nl hm) ⟨_,none,none,none,rfl,by
     intro l' _
     rw[e_,jV,pP];rfl,by rw[lF (e_ _)];omega,Nat.zero_le _,by
     rw[e_];intro hm;have:=List.eq_of_mem_replicate hm;omega,p1,Kq.refl _ _⟩
 obtain⟨σ',c2,ee,x,kk,pp,gg,rfl,ht,hx,_,Mb,p2,k2⟩:=key
 have hle:(iJ (ts.map D.str)).length=ts.length:=by simp[iJ]
 rw[hle,Nat.zero_add]at ht hx
 obtain⟨g3,c3,e3,PH,VA,p3,k3⟩:=eh p2 (k:=4) (by decide) (by decide)
 have V9: 0≤g3 / 3:=Int.ediv_nonneg PH (by decide)
 have m3:=nB (c:=c3) (a:=" ") V9 (by omega) l1
 have YN:(cN " " (g3 / 3).toNat).length=(g3 / 3).toNat:=lF (e_ _)
 have a3:=iq (x:=x) (y:=cN " " (g3 / 3).toNat) (c:=c3) (by omega)
 have h3:(0:Int)<3:=by decide
 refine⟨x++cN " " (g3 / 3).toNat,c3,?_,?_,by rw[len_app];omega,?_,p3,(k1.trans k2).trans k3⟩
 ·have f:=(ka (g:=gj 2 (bP (aD 3) (bP (aD 4) gh))) (b:=aA (aF 5 (e2 aZ (bC (ag (eC (.int 0)) (ag (eC (.int 1)) (ag (eC (.int 1)) (ag (eC (.int 2)) ak))))) (aw au [] (ag (eV 0) (ag (eC (.int 4)) ak)))))
   (aA (bV (dq (tV (e2 rH (eV 3) (eC (.int 0)))) (dq (tV (e2 cQ (eV 5) (eC (.int 0)))) (dq (tV (e2 fD (e2 aZ (eV 1) (e2 jc (eV 3) (eC (.int 1)))) (eC (.str "():")))) (tV (e2 fD (eV 4) (eC (.str "():"))))))) (aF 5 (eC (.int 1))) bp)
   (aF 2 (e2 dO (e2 dO (eV 2) (e2 fX (e2 fX (eC (.str " ")) (eV 5)) (eB tf (ag (e2 rH (eV 3) (eC (.int 0))) ak)))) (eV 4))))) hi).trans ee
  have run:fG [some (.ref l),some (.ref S),none,none,none,none] c=some (.rt (.str (x++cN " " (g3 / 3).toNat)),[some (.ref l),some (.ref S),some (.str x),kk,pp,gg],c3):=by
   unfold fG
   refine az (σ1:=[some (.ref l),some (.ref S),some (.str (cN " " (g0 / 3).toNat)),none,none,none]) (c1:=c1) (by erw[e1,ij h3 d3,m1]) ?_
   refine az f ?_
   erw[e3,ij h3 d3,m3,a3]
  erw[cY,run]
 ·have:=Told.end ht (e_ (g3 / 3).toNat)
  rw[this];simp
 ·rw[cO,e_]
  intro hm
  rcases List.mem_append.mp hm with hm|hm
  ·exact Mb hm
  ·have:=List.eq_of_mem_replicate hm;omega
theorem HY{i j:Int}{c:Cells}(h:j≠0):eA (.int i) (.int j) c=some (.int (i.fmod j),c):=by
 unfold eA;rw[yA,if_pos h];rfl
theorem yK{i j:Int}{c:Cells}(h:j≠0)(hb:My.Bd 8900 j):dY (.int i) (.int j) c=some (.int (i.fdiv j),c):=by
 unfold dY;rw[yA,if_pos ⟨h,hb⟩];rfl
theorem CA{n m:Int}{c:Cells}:fZ [.int n,.int m] c=some (.int (Int.gcd n m),c):=by
 have loop:∀(k:Nat) (x y:Int) (z:Option D),y.natAbs=k→∃g z',dH (tV (e2 jD (eV 1) (eC (.int 0)))) (aA (aF 2 (e2 eA (eV 0) (eV 1))) (aA (aF 0 (eV 1)) (aF 1 (eV 2)))) [some (.int x),some (.int y),z] c=some (.nx,[some (.int g),some (.int 0),z'],c)∧(if g<0 then -g else g)=(Int.gcd x y:Int):=by
  intro k
  induction k using Nat.strongRecOn with
  |_ k ih=>
   intro x y z hk
   by_cases h:y=0
   ·subst h
    exact⟨x,z,gA (by erw[]),(My.gcd_zero x).symm⟩
   ·have lt:=My.rF x h
    obtain⟨g,z',e,r⟩:=ih (x.fmod y).natAbs (by omega) y (x.fmod y) (some (.int (x.fmod y))) rfl
    rw[My.BV]at r
    exact⟨g,z',oa (c':=c) (c2:=c) (by erw[decide_eq_false h]) (by erw[HY h]) e,r⟩
 obtain⟨g,z',e,r⟩:=loop _ n m none rfl
 erw[fZ,lz,e,r]
theorem Fz{n d:Int}{c:Cells}(h:d≠0)(hb:My.Bd 8900 d):eY [.int n,.int d] c=some (.tup [.int (My.nm n d),.int (My.dn n d)],c):=by
 have d1:=CA (n:=n) (m:=d) (c:=c)
 have n0:=My.DQ (n:=n) h
 have nb:My.Bd 8900 (My.sg n d):=by
  refine My.Bd.of_le hb ?_
  rw[My.sN]
  exact Nat.le_of_dvd (by omega) (Int.natAbs_dvd_natAbs.mpr (Int.gcd_dvd_right n d))
 unfold My.nm My.dn
 by_cases hd:d<0
 ·have es:My.sg n d= -(Int.gcd n d:Int):=by unfold My.sg;rw[if_pos hd]
  rw[es]at n0 nb ⊢
  erw[eY,kK,d1,hd,yK n0 nb]
 ·have es:My.sg n d=(Int.gcd n d:Int):=by unfold My.sg;rw[if_neg hd]
  rw[es]at n0 nb ⊢
  erw[eY,kK,d1,hd,yK n0 nb]
theorem yL{n d:Int}{c:Cells}(h: 0<d)(h2:d<2 ^ 40)(hg:Int.gcd n d=1):eY [.int n,.int d] c=some (.tup [.int n,.int d],c):=by
 have e:=Fz (n:=n) (d:=d) (c:=c) (by omega) (My.Bd.mono (rm (i:=d) (by omega)) (by decide))
 have es:My.sg n d=1:=by unfold My.sg;rw[if_neg (by omega),hg];rfl
 unfold My.nm My.dn at e
 rw[es,Int.fdiv_one,Int.fdiv_one]at e
 exact e
theorem CB{A B:Int}{c:Cells}:∀(n:Nat) (x y:Int),x.toNat≤n→0≤x→x<2 ^ 60→0<y→y<2 ^ 60→∃x' y',0<y'∧y'<2 ^ 60∧y'=(Int.gcd x y:Int)∧dH (tV (e2 jD (eV 2) (eC (.int 0)))) (A3 [2,3] (ag (e2 eA (eV 3) (eV 2)) (ag (eV 2) ak))) [some (.int A),some (.int B),some (.int x),some (.int y)] c=some (.nx,[some (.int A),some (.int B),some (.int x'),some (.int y')],c):=by
 intro n
 induction n with
 |zero=>
  intro x y hn h0 h1 h2 h3
  have hx:x=0:=by omega
  subst hx
  exact⟨0,y,h2,h3,by rw[Int.gcd_comm,My.gcd_zero,if_neg (by omega)],gA (by erw[])⟩
 |succ n ih=>
  intro x y hn h0 h1 h2 h3
  by_cases hx:x=0
  ·subst hx
   exact⟨0,y,h2,h3,by rw[Int.gcd_comm,My.gcd_zero,if_neg (by omega)],gA (by erw[])⟩
  ·have m0:=Int.emod_nonneg y hx
   have m1:=Int.emod_lt_of_pos y (show 0<x by omega)
   obtain⟨x',y',g1,g2,g3,e⟩:=ih (y % x) x (by omega) m0 (by omega) (by omega) h1
   have hd:decide (x=0)=false:=decide_eq_false hx
   have hp: 0<x:=by omega
   refine⟨x',y',g1,g2,by rw[g3,Int.gcd_comm,My.BW,Int.gcd_comm],oa (c':=c) (σ':=[some (.int A),some (.int B),some (.int (y % x)),some (.int x)]) (c2:=c) (by erw[hd]) (by erw[]) e⟩
theorem FA{a b:Int}{c:Cells}(h1: -(2 ^ 50)<a)(h2:a<2 ^ 50)(h3: 0<b)(h4:b<2 ^ 50):dG [.int a,.int b] c=some (.tup [.int (My.nm a b),.int (My.dn a b)],c):=by
 obtain⟨x',y',g1,g2,g3,e⟩:=CB (A:=a) (B:=b) (c:=c) (if a<0 then -a else a).toNat (if a<0 then -a else a) b (Nat.le_refl _) (by split<;>omega) (by split<;>omega) h3 (by omega)
 have hb:My.Bd 8900 y':=My.Bd.mono (rm (i:=y') (by omega)) (by decide)
 have es:My.sg a b=y':=by
  unfold My.sg
  rw[if_neg (by omega),g3]
  have:=My.DP a b
  rw[if_neg (show ¬b<0 by omega)]at this
  rw[this]
 have ea:a / y'=My.nm a b:=by unfold My.nm;rw[es,Int.fdiv_eq_ediv_of_nonneg _ (by omega)]
 have eb:b / y'=My.dn a b:=by unfold My.dn;rw[es,Int.fdiv_eq_ediv_of_nonneg _ (by omega)]
 have run:fF [some (.int a),some (.int b),none,none] c=some (.rt (.tup [.int (a / y'),.int (b / y')]),[some (.int a),some (.int b),some (.int x'),some (.int y')],c):=by
  unfold fF
  refine az (σ1:=[some (.int a),some (.int b),some (.int (if a<0 then -a else a)),none]) (c1:=c) (by erw[]) ?_
  refine az (σ1:=[some (.int a),some (.int b),some (.int (if a<0 then -a else a)),some (.int b)]) (c1:=c) (by erw[]) ?_
  refine az e ?_
  erw[ij g1 hb]
 rw[←ea,←eb]
 erw[dG,run]
structure Nb(x y:Int):Prop where
 lo: -1000000<x
 hi:x<1000000
 pos: 0<y
 le:y<1000000
 one:Int.gcd x y=1
theorem Mc{a b:Int}(h1: -1000000<a)(h2:a<1000000)(h3: 0<b)(h4:b<1000000):Nb (My.nm a b) (My.dn a b):=by
 have n1:=My.Ky (n:=a) (d:=b) (by omega)
 have d0:=My.GY (n:=a) (d:=b) (by omega)
 have d1:=My.wb a b
 have g:=My.sM (n:=a) (d:=b) (by omega)
 have es:My.sg a b=(Int.gcd a b:Int):=by unfold My.sg;rw[if_neg (by omega)]
 rw[es]at d1
 have d2:My.dn a b≤(Int.gcd a b:Int)*My.dn a b:=by
  have:=Int.mul_le_mul_of_nonneg_right (show(1:Int)≤(Int.gcd a b:Int)by omega) (show 0≤My.dn a b by omega)
  omega
 exact⟨by omega,by omega,d0,by omega,My.zM (by omega)⟩
theorem HZ{l:Nat}{m:Int}{c:Cells}(h:Lf l m c):∃x y c',dC [.ref l] c=some (.tup [.int x,.int y],c')∧Nb x y∧Lf l m c'∧Kq [l] c c':=by
 obtain⟨g1,c1,e1,a1,b1,p1,k1⟩:=eh h (k:=1999999) (by decide) (by decide)
 obtain⟨g2,c2,e2,a2,b2,p2,k2⟩:=eh p1 (k:=2) (by decide) (by decide)
 have s1:∃be c3,bV (tV (Qm.e2 cQ (aw au [] (ag (eV 0) (ag (eC (.int 2)) ak))) (eC (.int 1)))) (aF 2 (Qm.e2 cn (eC (.int 1)) (aw au [] (ag (eV 0) (ag (eC (.int 999999)) ak))))) bp [some (.ref l),some (.int (g1 - 999999)),some (.int 1)] c1=some (.nx,[some (.ref l),some (.int (g1 - 999999)),some (.int be)],c3)∧0<be∧be<1000000∧Lf l m c3∧Kq [l] c1 c3:=by
  by_cases h1:g2=1
  ·subst h1
   obtain⟨g3,c3,e3,a3,b3,p3,k3⟩:=eh p2 (k:=999999) (by decide) (by decide)
   exact⟨1+g3,c3,by erw[e2,e3],by omega,by omega,p3,k2.trans k3⟩
  ·exact⟨1,c2,by erw[e2,h1],by omega,by omega,p2,k2⟩
 obtain⟨be,c3,f1,YO,Ab,p3,k3⟩:=s1
 obtain⟨g4,c4,e4,a4,b4,p4,k4⟩:=eh p3 (k:=3) (by decide) (by decide)
 have s2:∃ab yM,bV (tV (Qm.e2 cQ (aw au [] (ag (eV 0) (ag (eC (.int 3)) ak))) (eC (.int 0)))) (aA (aF 1 (Qm.e2 jc (Qm.e2 eA (eV 1) (eC (.int 9))) (eC (.int 4)))) (aF 2 (Qm.e2 cn (eC (.int 1)) (Qm.e2 eA (eV 2) (eC (.int 4)))))) bp [some (.ref l),some (.int (g1 - 999999)),some (.int be)] c3=some (.nx,[some (.ref l),some (.int ab),some (.int yM)],c4)∧0<yM∧yM<1000000∧-1000000<ab∧ab<1000000:=by
  by_cases h1:g4=0
  ·subst h1
   have m0:=Int.emod_nonneg (g1 - 999999) (show(9:Int)≠0 by decide)
   have m1:=Int.emod_lt_of_pos (g1 - 999999) (show(0:Int)<9 by decide)
   have n0:=Int.emod_nonneg be (show(4:Int)≠0 by decide)
   have n1:=Int.emod_lt_of_pos be (show(0:Int)<4 by decide)
   exact⟨(g1 - 999999) % 9 - 4,1+be % 4,by erw[e4],by omega,by omega,by omega,by omega⟩
  ·exact⟨g1 - 999999,be,by erw[e4,h1],by omega,by omega,by omega,by omega⟩
 obtain⟨ab,yM,f2,q1,q2,q3,q4⟩:=s2
 have e5:=FA (a:=ab) (b:=yM) (c:=c4) (by omega) (by omega) q1 (by omega)
 have nb:=Mc q3 q4 q1 q2
 generalize My.nm ab yM=x at e5 nb
 generalize My.dn ab yM=y at e5 nb
 refine⟨x,y,c4,?_,nb,p4,k1.trans (k3.trans k4)⟩
 have run:gH [some (.ref l),none,none] c=some (.rt (.tup [.int x,.int y]),[some (.ref l),some (.int ab),some (.int yM)],c4):=by
  unfold gH
  refine az (σ1:=[some (.ref l),some (.int (g1 - 999999)),none]) (c1:=c1) (by erw[e1]) ?_
  refine az (σ1:=[some (.ref l),some (.int (g1 - 999999)),some (.int 1)]) (c1:=c1) rfl ?_
  refine az f1 ?_
  refine az f2 ?_
  erw[e5]
 erw[dC,run]
def rq(n:Nat):List Nat:=(Nat.toDigits 10 n).map Char.toNat
noncomputable def sI(x:Int):Str:=Str.ofString (toString x)
theorem jW(n:Nat):sg (sI (n:Int))=rq n:=PySem.W.KIN.signs_num n
theorem Bt{x:Int}(h:x<0):sI x= "-"++sI (x.natAbs:Int):=by
 obtain⟨m,rfl⟩:∃m:Nat,x=Int.negSucc m:=⟨(-x - 1).toNat,by omega⟩
 refine lD ?_
 rw[cO,jW]
 show(Str.ofString ("-"++Nat.repr (m+1))).cps.toList=_
 rw[signs_ofString,String.toList_append,List.map_append,Nat.toList_repr]
 rfl
theorem w6{x:Int}(h: 0≤x):sI x=sI (x.natAbs:Int):=by rw[show((x.natAbs:Nat):Int)=x by omega]
theorem qM{n k:Nat}(h:k∈rq n): 48≤k∧k≤57:=by
 obtain⟨ch,iw,rfl⟩:=List.mem_map.mp h
 exact digit_range (Nat.isDigit_of_mem_toDigits (by decide) (by decide) iw)
theorem ue(n:Nat):rq n≠[]:=by
 intro e
 have h:=PySem.W.KIN.val_back n
 have hl:=Nat.toDigits_ne_nil (b:=10) (n:=n)
 exact hl (List.map_eq_nil_iff.mp e)
theorem mO{n:Nat}(h:n<1000000):(sI (n:Int)).length≤6:=PyProof.Rows.toString_length_le (by omega) (by decide) (by omega)
noncomputable def TT(x y:Int):Str:=if y=1 then sI x else sI x++"/"++sI y
theorem ow(x:Int):sg (sI x)=(if x<0 then [45] else [])++rq x.natAbs:=by
 by_cases h:x<0
 ·rw[Bt h,cO,jW,if_pos h];rfl
 ·rw[w6 (by omega),jW,if_neg h];rfl
theorem sf{x:Int}{k:Nat}(h:k∈sg (sI x)):k=45∨(48≤k∧k≤57):=by
 rw[ow]at h
 rcases List.mem_append.mp h with h|h
 ·split at h
  ·exact .inl (by simpa using h)
  ·cases h
 ·exact .inr (qM h)
theorem jX{x:Int}(h:x.natAbs<1000000):(sI x).length≤7:=by
 have:=mO h
 rw[←ei,jW]at this
 rw[←ei,ow,List.length_append]
 split<;>simp only[List.length_cons,List.length_nil]<;>omega
theorem w9{x y:Int}{k:Nat}(h:k∈sg (TT x y)):k=45∨(47≤k∧k≤57):=by
 unfold TT at h
 split at h
 ·rcases sf h with h|h<;>omega
 ·rw[cO,cO]at h
  rcases List.mem_append.mp h with h|h
  ·rcases List.mem_append.mp h with h|h
   ·rcases sf h with h|h<;>omega
   ·have e:sg "/" =[47]:=rfl
    rw[e]at h
    have:=List.mem_singleton.mp h;omega
  ·rcases sf h with h|h<;>omega
theorem Md{x:Str}(h:∀k∈sg x,k<1114112):x.cps.all (fun k=>decide (k<1114112))=true:=dP (List.all_eq_true.mpr fun k hk=>decide_eq_true (h k hk))
theorem Bu{x y:Int}(h:Nb x y):(TT x y).length≤15:=by
 have h1:=jX (x:=x) (by have:=h.lo;have:=h.hi;omega)
 have h2:=jX (x:=y) (by have:=h.pos;have:=h.le;omega)
 unfold TT
 split
 ·omega
 ·rw[len_app,len_app]
  have:("/":Str).length=1:=by decide
  omega
theorem Me{x y:Int}:sg (TT x y)≠[]:=by
 have:rq x.natAbs≠[]:=ue _
 unfold TT
 split
 ·rw[ow];simp[this]
 ·rw[cO,cO,ow];simp[this]
theorem Au{x y:Int}(h:Nb x y):Tx (TT x y):=by
 refine⟨Md fun k hk=>by rcases w9 hk with h|h<;>omega,by have:=Bu h;omega,Me,fun _ k hk=>?_,fun hm=>by rcases w9 hm with h|h<;>omega⟩
 have:=w9 hk
 refine⟨?_,by omega⟩
 simp only[sgn,Bool.or_eq_false_iff,beq_eq_false_iff_ne]
 omega
theorem w_{i:Int}{c:Cells}(h:i.natAbs<10 ^ 60):qC [.int i] c=some (.str (sI i),c):=by
 show(if i.natAbs<10 ^ 70 then some (D.str (Str.ofString (toString i)),c)else none)=_
 rw[if_pos (Nat.lt_trans h (by decide))]
 rfl
theorem yN{x y:Int}{c:Cells}(h:Nb x y):bK [.tup [.int x,.int y]] c=some (.str (TT x y),c):=by
 have b1:=w_ (i:=x) (c:=c) (Nat.lt_trans (show x.natAbs<1000000 by have:=h.lo;have:=h.hi;omega) (by decide))
 have b2:=w_ (i:=y) (c:=c) (Nat.lt_trans (show y.natAbs<1000000 by have:=h.pos;have:=h.le;omega) (by decide))
 have l1:=jX (x:=x) (by have:=h.lo;have:=h.hi;omega)
 have l2:=jX (x:=y) (by have:=h.pos;have:=h.le;omega)
 have ls:("/":Str).length=1:=by decide
 have a1:=iq (x:=sI x) (y:="/") (c:=c) (by omega)
 have a2:=iq (x:=sI x++"/") (y:=sI y) (c:=c) (by rw[len_app];omega)
 unfold TT
 by_cases hy:y=1
 ·subst hy
  erw[bK,dD,b1]
 ·erw[bK,dD,b1,b2,hy,a1,a2]
theorem H_{c:Cells}:sZ (.int 10) (.int 60) c=some (.int (10 ^ 60),c):=by
 unfold sZ;rw[yA,if_pos (by decide)];rfl
theorem yO{x:Str}(h:x.length≤100):JoinOk (Str.ofString "") [x]=true:=by
 unfold JoinOk
 have e:([x].toArray.foldl (fun a y=>a+y.length+(Str.ofString "").length) 0)=x.length:=by
  show 0+x.length+(Str.ofString "").length=x.length
  have:(Str.ofString "").length=0:=by decide +kernel
  omega
 rw[e]
 unfold Builtin.Str.tooLong
 rw[decide_eq_false]
 ·rfl
 ·rw[sizeLine_eq];omega
theorem vQ{n:Int}{c:Cells}(h0: 0≤n)(h:n<1000000):∃z,dF [.int n] c=some (.str (sI n),c++[z]):=by
 have hp:=H_ (c:=c)
 have V_:¬((10:Int) ^ 60≤n):=by
  have:(1000000:Int)≤10 ^ 60:=by decide
  omega
 have b1:=w_ (i:=n) (c:=c++[.lst []]) (Nat.lt_trans (show n.natAbs<1000000 by omega) (by decide))
 have ln:=jX (x:=n) (by omega)
 have ap:=da (a:=c.length) (y:=.str (sI n)) (c:=c++[.lst []]) aI (by simp)
 have es:(c++[Cell.lst []]).set c.length (.lst ([]++[D.str (sI n)]))=c++[.lst [.str (sI n)]]:=by simp
 rw[es]at ap
 have lc:=aT (c:=c++[.lst []]) (n:=c.length) aI
 have w:dH (tV (e2 G_ (eV 0) (eV 1))) (aA (bW (eM aW (eV 2) (ag Ae ak))) (aF 0 (e2 dY (eV 0) (eV 1)))) [some (.int n),some (.int (10 ^ 60)),some (.ref c.length)] (c++[.lst []])=some (.nx,[some (.int n),some (.int (10 ^ 60)),some (.ref c.length)],c++[.lst []]):=gA (by
  erw[decide_eq_false V_])
 have jr:nr "" (eV 2) [some (.int n),some (.int (10 ^ 60)),some (.ref c.length)] (c++[.lst [.str (sI n)]])=some (.str (sI n),c++[.lst [.str (sI n)]]):=by
  unfold nr
  rw[show eV 2 [some (.int n),some (.int (10 ^ 60)),some (.ref c.length)] (c++[.lst [.str (sI n)]])=some (.ref c.length,c++[.lst [.str (sI n)]])from rfl,Option.bind_some]
  dsimp only
  rw[aT aI,Option.bind_some]
  show(if JoinOk "" [sI n]=true then some (D.str (Txt.join "" [sI n]),c++[Cell.lst [.str (sI n)]])else none)=_
  rw[if_pos (yO (by omega))]
  rfl
 refine⟨.lst [.str (sI n)],?_⟩
 have run:jo [some (.int n),none,none] c=some (.rt (.str (sI n)),[some (.int n),some (.int (10 ^ 60)),some (.ref c.length)],c++[.lst [.str (sI n)]]):=by
  unfold jo
  refine az (σ1:=[some (.int n),some (.int (10 ^ 60)),none]) (c1:=c) (by rw[qD,Pk];simp only[Pj,Option.bind_some,hp];rfl) ?_
  refine az (σ1:=[some (.int n),some (.int (10 ^ 60)),some (.ref c.length)]) (c1:=c++[.lst []]) (by erw[jq]) ?_
  refine az w ?_
  refine az (σ1:=[some (.int n),some (.int (10 ^ 60)),some (.ref c.length)]) (c1:=c++[.lst [.str (sI n)]]) (by erw[lc,b1,ap]) ?_
  rw[wL,jr]
  rfl
 rw[dF,g8]
 simp only[List.length_cons,List.length_nil,Nat.reduceAdd,if_true,List.map_cons,List.map_nil,Nat.reduceSub,List.replicate_succ,List.replicate_zero,List.cons_append,List.nil_append,run,Option.bind_some,rZ]
theorem CC{x y:Int}{c:Cells}(h:Nb x y):∃c',cI [.tup [.int x,.int y]] c=some (.str (TT x y),c')∧c <+:c':=by
 have hx:x.natAbs<1000000:=by have:=h.lo;have:=h.hi;omega
 have hy:y.natAbs<1000000:=by have:=h.pos;have:=h.le;omega
 obtain⟨z1,e1⟩:=vQ (n:=if x<0 then -x else x) (c:=c) (by split<;>omega) (by split<;>omega)
 obtain⟨z2,e2⟩:=vQ (n:=y) (c:=c++[z1]) (by have:=h.pos;omega) (by have:=h.le;omega)
 have ln:=mO hx
 have l1:=jX (x:=x) hx
 have l2:=jX (x:=y) hy
 have ls:("/":Str).length=1:=by decide
 have lm:("-":Str).length=1:=by decide
 have ea:(if x<0 then -x else x)=(x.natAbs:Int):=by split<;>omega
 rw[ea]at e1
 have s1:bV (tV (Qm.e2 j9 (Qm.e2 aZ (eV 0) (eC (.int 0))) (eC (.int 0)))) (aF 1 (Qm.e2 dO (eC (.str "-")) (eV 1))) bp [some (.tup [.int x,.int y]),some (.str (sI (x.natAbs:Int)))] (c++[z1])=some (.nx,[some (.tup [.int x,.int y]),some (.str (sI x))],c++[z1]):=by
  by_cases hn:x<0
  ·have a1:=iq (x:="-") (y:=sI (x.natAbs:Int)) (c:=c++[z1]) (by omega)
   rw[←Bt hn]at a1
   erw[hn,a1]
  ·have e:=w6 (x:=x) (by omega)
   rw[←e]
   erw[hn]
 have a1:=iq (x:=sI x) (y:="/") (c:=c++[z1]) (by omega)
 have a2:=iq (x:=sI x++"/") (y:=sI y) (c:=c++[z1]++[z2]) (by rw[len_app];omega)
 have b0:rg [.int x] c=some (.int (x.natAbs:Int),c):=by rw[E6,ea]
 have P9:aF 1 (aw dF [] (ag (eB rg (ag (Qm.e2 aZ (eV 0) (eC (.int 0))) ak)) ak)) [some (.tup [.int x,.int y]),none] c=some (.nx,[some (.tup [.int x,.int y]),some (.str (sI (x.natAbs:Int)))],c++[z1]):=by
  erw[ea,e1]
 by_cases h1:y=1
 ·refine⟨c++[z1],?_,⟨_,rfl⟩⟩
  have run:dg [some (.tup [.int x,.int y]),none] c=some (.rt (.str (TT x y)),[some (.tup [.int x,.int y]),some (.str (sI x))],c++[z1]):=by
   unfold dg TT
   refine az P9 ?_
   refine az s1 ?_
   rw[if_pos h1]
   erw[h1]
  erw[cI,run]
 ·refine⟨c++[z1]++[z2],?_,⟨[z1,z2],by simp⟩⟩
  have run:dg [some (.tup [.int x,.int y]),none] c=some (.rt (.str (TT x y)),[some (.tup [.int x,.int y]),some (.str (sI x++"/"++sI y))],c++[z1]++[z2]):=by
   unfold dg TT
   refine az P9 ?_
   refine az s1 ?_
   rw[if_neg h1]
   erw[h1,a1,e2,a2]
  erw[cI,run]
theorem Av{x:Str}{k:Nat}(h:k∉sg x):Txt.partition x ⟨#[k]⟩=(x,Str.empty,Str.empty):=by
 unfold Txt.partition
 rcases StrLaws.occ_head x ⟨#[k]⟩ 1 (Nat.le_refl _)with⟨e,_⟩|⟨i,r,e,ha,_⟩
 ·rw[e]
 ·exact absurd (List.mem_of_getElem? ((StrLaws.subAt_one x k i).mp ha)) h
theorem FC{x:Str}{k:Nat}{a b:List Nat}(h:sg x=a++k::b)(hk:k∉a):Txt.partition x ⟨#[k]⟩=(lE a,⟨#[k]⟩,lE b):=by
 unfold Txt.partition
 rcases StrLaws.occ_head x ⟨#[k]⟩ 1 (Nat.le_refl _)with⟨e,hn⟩|⟨i,r,e,ha,hf⟩
 ·exact absurd ((StrLaws.subAt_one x k a.length).mpr (by show(sg x)[a.length]? =some k;rw[h];simp)) (hn a.length)
 ·have h1:(sg x)[i]? =some k:=(StrLaws.subAt_one x k i).mp ha
  have hi:i=a.length:=by
   rcases Nat.lt_trichotomy i a.length with hl|he|hg
   ·rw[h,List.getElem?_append_left hl]at h1
    exact absurd (List.mem_of_getElem? h1) hk
   ·exact he
   ·exact absurd ((StrLaws.subAt_one x k a.length).mpr (by show(sg x)[a.length]? =some k;rw[h];simp)) (hf a.length hg)
  rw[e]
  dsimp only
  have e1:Builtin.Str.strSub x 0 i=lE a:=lD (by
   show(Builtin.Str.strSub x 0 i).cps.toList=_
   rw[StrLaws.strSub_toList,lE,wO]
   show((sg x).drop 0).take (i - 0)=a
   rw[h,hi];simp)
  have e2:Builtin.Str.strSub x (i+(⟨#[k]⟩:Str).length) x.length=lE b:=lD (by
   show(Builtin.Str.strSub x (i+1) x.length).cps.toList=_
   rw[StrLaws.strSub_toList,lE,wO]
   show((sg x).drop (i+1)).take (x.length - (i+1))=b
   rw[←ei,h,hi]
   have:(a++k::b).drop (a.length+1)=b:=by rw[List.drop_append];simp
   rw[this]
   refine List.take_of_length_le ?_
   simp only[List.length_append,List.length_cons];omega)
  rw[e1,e2]
theorem Aw{x:Str}{k:Nat}{r:List Nat}(h:sg x=k::r):Txt.slice x (some 1) none=lE r:=by
 have hl: 1≤x.length:=by rw[←ei,h];simp
 have e:Txt.slice x (some 1) none=StrLaws.sliceText x (some ((1:Nat):Int)) (some ((x.length:Nat):Int)):=by
  unfold Txt.slice StrLaws.sliceText
  rw[StrLaws.sliceIdx_none_hi]
  rfl
 rw[e,StrLaws.sliceText_nat x hl (Nat.le_refl _)]
 refine lD ((wO _).trans ?_)
 rw[show sg (lE r)=r from wO r,←ei]
 show((sg x).drop 1).take ((sg x).length - 1)=r
 rw[h]
 simp
theorem yP(x:Str)(k:Nat):Txt.startswith x ⟨#[k]⟩=decide ((sg x)[0]? =some k):=by
 rw[Bool.eq_iff_iff,decide_eq_true_eq]
 unfold Txt.startswith
 rw[Bool.and_eq_true,decide_eq_true_eq]
 exact StrLaws.subAt_one x k 0
theorem vR{n:Nat}:∀k∈sg (sI (n:Int)),k∈sg "0123456789"∧k<128:=by
 intro k hk
 rw[jW]at hk
 have:=qM hk
 have e:sg "0123456789" =List.range' 48 10:=by decide
 exact⟨by rw[e];exact List.mem_range'_1.mpr ⟨by omega,by omega⟩,by omega⟩
theorem yQ(n:Nat): 1≤(sI (n:Int)).length:=by
 rw[←ei,jW]
 exact List.length_pos_iff.mpr (ue n)
theorem FD{n:Nat}{l:List Nat}(h:l=rq n):lE l=sI (n:Int):=by rw[h,←jW,pQ]
theorem CD{x y:Int}{c:Cells}(h:Nb x y):∃c',dh [.str (TT x y)] c=some (.tup [.int x,.int y],c')∧c <+:c':=by
 have hx:x.natAbs<1000000:=by have:=h.lo;have:=h.hi;omega
 have hy:y.natAbs<1000000:=by have:=h.pos;have:=h.le;omega
 have Wa:=h.pos
 have ey:((y.natAbs:Nat):Int)=y:=by omega
 have lt:=Bu h
 have l1:=jX (x:=x) hx
 have l7:=mO hx
 have l8:=mO hy
 have P_: 47∉sg (sI x):=fun hm=>by rcases sf hm with h|h<;>omega
 have fs:("/":Str)=⟨#[47]⟩:=rfl
 have fm:("-":Str)=⟨#[45]⟩:=rfl
 -- nE parts
 obtain⟨sep,be,ep,Qa⟩:∃sep be:Str,Txt.partition (TT x y) "/" =(sI x,sep,be)∧((y=1∧sep.length=0)∨(y≠1∧sep.length=1∧be=sI (y.natAbs:Int))):=by
  rw[fs]
  by_cases h1:y=1
  ·refine⟨Str.empty,Str.empty,?_,.inl ⟨h1,rfl⟩⟩
   unfold TT;rw[if_pos h1]
   exact Av P_
  ·refine⟨⟨#[47]⟩,sI y,?_,.inr ⟨h1,rfl,by rw[ey]⟩⟩
   have e:sg (TT x y)=sg (sI x)++47::sg (sI y):=by
    unfold TT;rw[if_neg h1,cO,cO]
    show sg (sI x)++[47]++sg (sI y)=_
    simp
   have:=FC e P_
   rw[pQ,pQ]at this
   exact this
 have mp:wI (.str (TT x y)) [.str "/"] c=some (.tup [.str (sI x),.str sep,.str be],c):=by
  show(if ("/":Str).length≠0∧(TT x y).length≤100000 then some (D.tup [.str (Txt.partition (TT x y) "/").1,.str (Txt.partition (TT x y) "/").2.1,.str (Txt.partition (TT x y) "/").2.2],c)else none)=_
  rw[if_pos ⟨by decide,by omega⟩,ep]
 -- nE sign
 have mv:Txt.startswith (TT x y) "-" =decide (x<0):=by
  rw[fm,yP]
  have hd:=ue x.natAbs
  have e:∃r,sg (TT x y)=sg (sI x)++r:=by
   unfold TT
   split
   ·exact⟨[],by simp⟩
   ·exact⟨sg "/"++sg (sI y),by rw[cO,cO,List.append_assoc]⟩
  obtain⟨r,er⟩:=e
  by_cases hn:x<0
  ·rw[decide_eq_true hn,er,ow,if_pos hn]
   exact decide_eq_true rfl
  ·rw[decide_eq_false hn,er,ow,if_neg hn]
   cases hq:rq x.natAbs with
   |nil=>exact absurd hq hd
   |cons a b=>
    refine decide_eq_false ?_
    have:=qM (n:=x.natAbs) (k:=a) (by rw[hq];simp)
    simp;omega
 have ms:∀c:Cells,iD (.str (TT x y)) [.str "-"] c=some (.bl (decide (x<0)),c):=fun c=>by
  show some (D.bl (Txt.startswith (TT x y) "-"),c)=_
  rw[mv]
 have ab:qq (tV (nH iD (eV 0) (ag (eC (.str "-")) ak))) (pG (e2 aZ (eV 1) (eC (.int 0)))) (e2 aZ (eV 1) (eC (.int 0))) [some (.str (TT x y)),some (.tup [.str (sI x),.str sep,.str be]),none,none,none] c=some (.str (sI (x.natAbs:Int)),c):=by
  have t1:nH iD (eV 0) (ag (eC (.str "-")) ak) [some (.str (TT x y)),some (.tup [.str (sI x),.str sep,.str be]),none,none,none] c=some (.bl (decide (x<0)),c):=by erw[nH,gw,ms]
  by_cases hn:x<0
  ·have r1:pG (e2 aZ (eV 1) (eC (.int 0))) [some (.str (TT x y)),some (.tup [.str (sI x),.str sep,.str be]),none,none,none] c=some (.str (sI (x.natAbs:Int)),c):=by
    unfold pG
    have g0:e2 aZ (eV 1) (eC (.int 0)) [some (.str (TT x y)),some (.tup [.str (sI x),.str sep,.str be]),none,none,none] c=some (.str (sI x),c):=by erw[]
    rw[g0,Option.bind_some]
    show(if (sI x).length≤100000 then some (D.str (Txt.slice (sI x) (some 1) none),c)else none)=_
    rw[if_pos (by omega)]
    have e1:sg (sI x)=45::rq x.natAbs:=by rw[ow,if_pos hn];rfl
    rw[Aw e1,FD rfl]
   erw[t1,hn,r1]
  ·have e:=w6 (x:=x) (by omega)
   rw[←e]
   erw[t1,hn]
 have bl:qq (pH (e2 aZ (eV 1) (eC (.int 1)))) (e2 aZ (eV 1) (eC (.int 2))) (eC (.str "1")) [some (.str (TT x y)),some (.tup [.str (sI x),.str sep,.str be]),some (.str (sI (x.natAbs:Int))),none,none] c=some (.str (sI (y.natAbs:Int)),c):=by
  have g1:e2 aZ (eV 1) (eC (.int 1)) [some (.str (TT x y)),some (.tup [.str (sI x),.str sep,.str be]),some (.str (sI (x.natAbs:Int))),none,none] c=some (.str sep,c):=by erw[]
  have t1:pH (e2 aZ (eV 1) (eC (.int 1))) [some (.str (TT x y)),some (.tup [.str (sI x),.str sep,.str be]),some (.str (sI (x.natAbs:Int))),none,none] c=some (((sep.length:Int) != 0),c):=by
   unfold pH
   rw[g1,Option.bind_some]
   dsimp only
   rw[if_pos (by rcases Qa with⟨_,h⟩|⟨_,h,_⟩<;>omega)]
  rcases Qa with⟨h1,h2⟩|⟨h1,h2,rfl⟩
  ·have e1:sI (y.natAbs:Int)= "1":=by subst h1;refine lD ?_;rw[jW];decide
   rw[e1]
   rw[h2]at t1
   have:(((0:Nat):Int) != 0)=false:=rfl
   rw[this]at t1
   erw[t1]
  ·rw[h2]at t1
   have:(((1:Nat):Int) != 0)=true:=rfl
   rw[this]at t1
   erw[t1]
 obtain⟨z1,m1⟩:=Ar (signs:="0123456789") (x:=sI (x.natAbs:Int)) (most:=6) (c:=c) vR (yQ _) (by omega) (by omega)
 obtain⟨z2,m2⟩:=Ar (signs:="0123456789") (x:=sI (y.natAbs:Int)) (most:=6) (c:=c++[z1]) vR (yQ _) (by omega) (by omega)
 have i1:∀(n:Nat) (c:Cells),n<1000000→lx [.str (sI (n:Int))] c=some (.int n,c):=fun n c hn=>by
  have:=mO hn
  show(if (sI (n:Int)).length≤640 then(PySem.intText? (sI (n:Int))).bind fun n=>some (D.int n,c)else none)=_
  rw[if_pos (by omega)]
  have e:PySem.intText? (sI (n:Int))=some (n:Int):=PySem.W.KIN.num_reads (by omega) (by omega)
  rw[e];rfl
 have iy:∀c,lx [.str (sI (y.natAbs:Int))] c=some (.int y,c):=fun c=>by rw[i1 y.natAbs c hy,ey]
 have ix:∀c,lx [.str (sI (x.natAbs:Int))] c=some (.int (x.natAbs:Int),c):=fun c=>i1 x.natAbs c hx
 have nu:=yL (c:=c++[z1]++[z2]) (n:=x) (d:=y) Wa (by have:=h.le;omega) h.one
 obtain⟨c3,nt,p3⟩:=CC (c:=c++[z1]++[z2]) h
 have eq:=gJ (c:=c3) (x:=TT x y) (y:=TT x y) (Au h).ok (Au h).ok
 rw[decide_eq_true rfl]at eq
 have K_:decide (y=0)=false:=decide_eq_false (by omega)
 refine⟨c3,?_,?_⟩
 ·have run:eS [some (.str (TT x y)),none,none,none,none] c=some (.rt (.tup [.int x,.int y]),[some (.str (TT x y)),some (.tup [.str (sI x),.str sep,.str be]),some (.str (sI (x.natAbs:Int))),some (.str (sI (y.natAbs:Int))),some (.tup [.int x,.int y])],c3):=by
   unfold eS
   refine az (σ1:=[some (.str (TT x y)),some (.tup [.str (sI x),.str sep,.str be]),none,none,none]) (c1:=c) (by erw[nH,gw,mp]) ?_
   refine az (σ1:=[some (.str (TT x y)),some (.tup [.str (sI x),.str sep,.str be]),some (.str (sI (x.natAbs:Int))),none,none]) (c1:=c) (by rw[qD,ab];rfl) ?_
   refine az (σ1:=[some (.str (TT x y)),some (.tup [.str (sI x),.str sep,.str be]),some (.str (sI (x.natAbs:Int))),some (.str (sI (y.natAbs:Int))),none]) (c1:=c) (by rw[qD,bl];rfl) ?_
   refine az (σ1:=[some (.str (TT x y)),some (.tup [.str (sI x),.str sep,.str be]),some (.str (sI (x.natAbs:Int))),some (.str (sI (y.natAbs:Int))),none]) (c1:=c++[z1]++[z2]) (by erw[m1,m2,iy,K_]) ?_
   have t1:nH iD (eV 0) (ag (eC (.str "-")) ak) [some (.str (TT x y)),some (.tup [.str (sI x),.str sep,.str be]),some (.str (sI (x.natAbs:Int))),some (.str (sI (y.natAbs:Int))),none] (c++[z1]++[z2])=some (.bl (decide (x<0)),c++[z1]++[z2]):=by erw[nH,gw,ms]
   refine az (σ1:=[some (.str (TT x y)),some (.tup [.str (sI x),.str sep,.str be]),some (.str (sI (x.natAbs:Int))),some (.str (sI (y.natAbs:Int))),some (.tup [.int x,.int y])]) (c1:=c++[z1]++[z2]) ?_ ?_
   ·by_cases hn:x<0
    ·have e1: -((x.natAbs:Nat):Int)=x:=by omega
     erw[t1,hn,ix,e1,iy,nu]
    ·have e1:((x.natAbs:Nat):Int)=x:=by omega
     have Wb:∀c,lx [.str (sI (x.natAbs:Int))] c=some (.int x,c):=fun c=>(ix c).trans (by rw[e1])
     erw[t1,hn,Wb,iy,nu]
   ·erw[nt,eq]
  erw[dh,run]
 ·exact((List.prefix_append c [z1]).trans (List.prefix_append _ [z2])).trans p3
theorem FE{x y:Str}{c:Cells}(hx:x.cps.all (fun k=>decide (k<1114112))=true)(hy:y.cps.all (fun k=>decide (k<1114112))=true):jD (.str x) (.str y) c=some (.bl (!decide (x=y)),c):=by
 have:wj (.str x) (.str y) c=(data c 6 (.str x)).bind fun d=>(data c 6 (.str y)).bind fun e=>some (@decide (d=e) (Classical.propDecidable _)):=rfl
 unfold jD
 rw[this,bT hx,bT hy]
 simp
theorem Ia{α:Type}{xs:List α}{y z:α}:fA (xs++[y,z]) (-1)=some z:=by
 rw[show xs++[y,z]=(xs++[y])++[z] by simp];exact kJ
theorem Ib{α:Type}{xs:List α}{y z:α}:fA (xs++[y,z]) (-2)=some y:=by
 have h1:n_ (xs++[y,z]).length (-2)=some xs.length:=by
  have hl:(xs++[y,z]).length=xs.length+2:=by simp
  unfold n_
  rw[if_neg (by decide),hl,if_pos (by omega)]
  congr 1;omega
 unfold fA
 rw[h1]
 simp
theorem Ic{α:Type}{xs:List α}{y z:α}:Qm.cutD (xs++[y,z]) none (some (-2))=xs:=by
 have hl:(xs++[y,z]).length=xs.length+2:=by simp
 unfold Qm.cutD
 have e1:xY (xs++[y,z]).length 0 none=0:=rfl
 have e2:xY (xs++[y,z]).length (xs++[y,z]).length (some (-2))=xs.length:=by
  show(if (-2:Int)<0 then((-2:Int)+((xs++[y,z]).length:Nat)).toNat else min (-2:Int).toNat (xs++[y,z]).length)=_
  rw[if_pos (by decide),hl];omega
 rw[e1,e2]
 simp
def rl(r:D×Int×Int):D:=.tup [r.1,.tup [.int r.2.1,.int r.2.2]]
inductive Row:Str→Option (D×Int×Int)→Prop
 |blank {x:Str}:gK (bG (sg x))=[]→Row x none
 |rule {x:Str}{n:Nat}{ts:List Str}{is:List D}{t:D}{a b:Int}:gK (bG (sg x))=(ts++[(":":Str),TT a b]).map sg→Ex 2 n ts is t→n≤40→ts.length≤500→Nb a b→Row x (some (t,a,b))
theorem Bv:(":":Str).cps.all (fun k=>decide (k<1114112))=true:=dP (by decide)
theorem Mf{x:Str}{n:Nat}{ts:List Str}{is:List D}{t:D}{a b:Int}{c:Cells}(hl:x.length≤3000)(hw:gK (bG (sg x))=(ts++[(":":Str),TT a b]).map sg)(hx:Ex 2 n ts is t)(hn:n≤40)(ht:ts.length≤500)(hb:Nb a b):
  ∃c',dA [.str x] c=some (rl (t,a,b),c')∧c <+:c':=by
 obtain⟨z,e1⟩:=Bn (c:=c) hl
 have ew:(gK (bG (sg x))).map (fun p=>D.str (lE p))=ts.map D.str++[.str ":",.str (TT a b)]:=by
  rw[hw,List.map_map,show((fun p=>D.str (lE p)) ∘ sg)=D.str from funext fun z=>by simp[pQ]]
  simp
 rw[ew]at e1
 generalize lq:c++[z,Cell.lst (ts.map D.str++[.str ":",.str (TT a b)])]=c1 at e1
 have w1:c1[c.length+1]? =some (.lst (ts.map D.str++[.str ":",.str (TT a b)])):=by rw[←lq];simp
 have p1:c <+:c1:=⟨_,lq⟩
 have s1:=aP w1
 have bl:eD [.ref (c.length+1)] c1=some (.int ((ts.length+2:Nat):Int),c1):=by
  rw[iK,s1];simp
 have h2:¬(((ts.length+2:Nat):Int)<2):=by omega
 have Wc:fA (ts.map D.str++[.str ":",.str (TT a b)]) (-2)=some (.str ":"):=Ib
 have We:fA (ts.map D.str++[.str ":",.str (TT a b)]) (-1)=some (.str (TT a b)):=Ia
 have ne:=FE (c:=c1) Bv Bv
 rw[show(!decide ((":":Str)= ":"))=false by decide]at ne
 have gc:=qH (lo:=none) (hi:=some (-2)) w1
 rw[Ic]at gc
 have o2:j8 (Qm.e1 je (eC (.int 2))) [some (.str x),some (.ref (c.length+1)),none,none] c1=some (some (-2),c1):=oo rfl
 obtain⟨c2,e2,p2⟩:=yI (c:=c1++[.lst (ts.map D.str)]) hx hn ht aI
 have Hy:c1 <+:c2:=(List.prefix_append c1 _).trans p2
 have s2:=aP (cK Hy w1)
 obtain⟨c3,e3,p3⟩:=CD (c:=c2) hb
 obtain⟨xs,rfl⟩:=jU hx.tr
 refine⟨c3,?_,p1.trans (Hy.trans p3)⟩
 have run:gF [some (.str x),none,none,none] c=some (.rt (rl (.tup xs,a,b)),[some (.str x),some (.ref (c.length+1)),some (.tup xs),some (.tup [.int a,.int b])],c3):=by
  unfold gF
  refine az (σ1:=[some (.str x),some (.ref (c.length+1)),none,none]) (c1:=c1) (by erw[e1]) ?_
  refine az (σ1:=[some (.str x),some (.ref (c.length+1)),none,none]) (c1:=c1) (by erw[bl,decide_eq_false h2,de,s1,Wc,ne]) ?_
  refine az (σ1:=[some (.str x),some (.ref (c.length+1)),some (.tup xs),none]) (c1:=c2) (by erw[o2,gc,e2]) ?_
  refine az (σ1:=[some (.str x),some (.ref (c.length+1)),some (.tup xs),some (.tup [.int a,.int b])]) (c1:=c3) (by erw[de,s2,We,e3]) ?_
  erw[qK,rl]
 erw[dA,run]
theorem FG{e:XE}{σ:Qm.Env}{c c':Cells}{n:Nat}{xs:List D}(h:e σ c=some (.ref n,c'))(hn:c'[n]? =some (.lst xs)):pH e σ c=some (!xs.isEmpty,c'):=by
 unfold pH
 rw[h,Option.bind_some]
 dsimp only
 rw[aT hn]
 rfl
theorem Row.t6{x:Str}{r:Option (D×Int×Int)}(h:Row x r):(gK (bG (sg x))).isEmpty=r.isNone:=by
 cases h with
 |blank h=>rw[h];rfl
 |rule h=>rw[h];simp
noncomputable def xa:XS:=(bV (pH (aw cJ [] (ag (e2 aZ (eV 2) (eV 3)) ak)))
   (aA (aF 4 (aw dA [] (ag (e2 aZ (eV 2) (eV 3)) ak)))
   (aA (bV (tV (e2 kE (eV 4) (eC .bf)))
   Ak
   bp)
   (bW (eM aW (eV 1) (ag (eV 4) ak)))))
   bp)
theorem Mg{xs:List Str}{rs:List (Option (D×Int×Int))}{c:Cells}(h:xs.length=rs.length)(hr:∀(i:Nat) x r,xs[i]? =some x→rs[i]? =some r→Row x r∧x.length≤3000∧10∉sg x)(hn:xs≠[])(hl:xs.length≤1000)(ht:(Str.join "\n" xs).length≤100000):
  ∃c',cE [.str (Str.join "\n" xs)] c=some (.ref c.length,c')∧c'[c.length]? =some (.lst ((rs.filterMap id).map rl))∧c <+:c':=by
 have fn:("\n":Str)=⟨#[10]⟩:=rfl
 have sp:Txt.split (Str.join "\n" xs) "\n" =xs:=by
  rw[fn]
  refine yF hn fun p hp=>?_
  obtain⟨i,hi,rfl⟩:=List.mem_iff_getElem.mp hp
  exact(hr i xs[i] (rs[i]'(by omega)) (List.getElem?_eq_getElem hi) (List.getElem?_eq_getElem (by omega))).2.2
 have ms:jP (.str (Str.join "\n" xs)) [.str "\n"] (c++[.lst []])=some (.ref (c.length+1),c++[.lst []]++[.lst (xs.map D.str)]):=by
  show(if ("\n":Str).length≠0∧(Str.join "\n" xs).length≤100000 then some (D.ref (c++[Cell.lst []]).length,c++[Cell.lst []]++[Cell.lst ((Txt.split (Str.join "\n" xs) "\n").map D.str)])else none)=_
  rw[if_pos ⟨by decide,ht⟩,sp]
  simp
 generalize Str.join "\n" xs=X at ms
 generalize lq:c++[Cell.lst []]++[Cell.lst (xs.map D.str)]=c1 at ms
 have R1:c1[c.length+1]? =some (.lst (xs.map D.str)):=by rw[←lq];simp
 have B1:c1[c.length]? =some (.lst []):=by rw[←lq];simp
 have p1:c <+:c1:=⟨[.lst [],.lst (xs.map D.str)],by rw[←lq];simp⟩
 have bl:eD [.ref (c.length+1)] c1=some (.int xs.length,c1):=by rw[iK,aP R1];simp
 have Wf:dX (ag (eB eD (ag (eV 2) ak)) ak) [some (.str X),some (.ref c.length),some (.ref (c.length+1)),none,none] c1=some (⟨fT 0 (xs.length:Int).toNat,[]⟩,c1):=pM (j:=xs.length) (by erw[bl]) (by omega)
 have key:=eR (ks:=[]) (g:=aD 3) (body:=xa)
  (fun i σ c'=>∃kk rr,σ=[some (.str X),some (.ref c.length),some (.ref (c.length+1)),kk,rr]∧c'[c.length+1]? =some (.lst (xs.map D.str))∧c'[c.length]? =some (.lst (((rs.take i).filterMap id).map rl))∧Kq [] c c') (fT 0 (xs.length:Int).toNat) 0 [some (.str X),some (.ref c.length),some (.ref (c.length+1)),none,none] c1 (fun _ _ _ _=>fY) (by
   rintro i d σ c' hd ⟨kk,rr,rfl,hR,hB,hk⟩
   obtain⟨hi,rfl⟩:=ny hd
   rw[Nat.zero_add]at hB ⊢
   have hi:i<xs.length:=by omega
   have hx:xs[i]? =some xs[i]:=List.getElem?_eq_getElem hi
   have FH:rs[i]? =some (rs[i]'(by omega)):=List.getElem?_eq_getElem (by omega)
   generalize xs[i]=x at hx
   generalize (rs[i]'(by omega))=r at FH
   obtain⟨Bw,Qb,_⟩:=hr i x r hx FH
   have sR:=aP hR
   have ai:fA (xs.map D.str) (0+(i:Int))=some (.str x):=by
    rw[Int.zero_add]
    exact tX (by rw[List.getElem?_map,hx];rfl)
   obtain⟨z,e1⟩:=Bn (c:=c') Qb
   have q1:(c'++[z,Cell.lst ((gK (bG (sg x))).map fun p=>.str (lE p))])[c'.length+1]? =some (.lst ((gK (bG (sg x))).map fun p=>.str (lE p))):=by simp
   have t1:=FG (e:=aw cJ [] (ag (e2 aZ (eV 2) (eV 3)) ak)) (σ:=[some (.str X),some (.ref c.length),some (.ref (c.length+1)),some (.int (0+(i:Int))),rr]) (c:=c') (by erw[de,sR,ai,e1]) q1
   rw[List.isEmpty_map,Bw.t6]at t1
   generalize uI:c'++[z,Cell.lst ((gK (bG (sg x))).map fun p=>.str (lE p))]=c2 at t1
   have p2:c' <+:c2:=⟨_,uI⟩
   have R2:=cK p2 hR
   have B2:=cK p2 hB
   have Qc:(rs.take (i+1)).filterMap id=(rs.take i).filterMap id++r.toList:=by
    rw[List.take_succ,FH,List.filterMap_append]
    cases r<;>rfl
   cases r with
   |none=>
    refine⟨[some (.str X),some (.ref c.length),some (.ref (c.length+1)),some (.int (0+(i:Int))),rr],c',[some (.str X),some (.ref c.length),some (.ref (c.length+1)),some (.int (0+(i:Int))),rr],c2,rfl,?_,⟨_,_,rfl,R2,?_,hk.trans (Kq.pre p2)⟩⟩
    ·unfold xa
     rw[rj,t1]
     rfl
    ·rw[Qc,B2];simp
   |some r=>
    cases Bw with
    |rule hw JM BS Wg Eu=>
     rename_i n ts is t a b
     obtain⟨c3,e3,p3⟩:=Mf (c:=c2) Qb hw JM BS Wg Eu
     have B3:=cK p3 B2
     have R3:=cK p3 R2
     have Wh:=aP R2
     have lB:=aT B3
     have YQ:(((rs.take i).filterMap id).map rl).length≤1000:=by
      rw[List.length_map]
      refine Nat.le_trans (List.length_filterMap_le _ _) ?_
      rw[List.length_take];omega
     have ap:=da (y:=rl (t,a,b)) B3 (by omega)
     have gn:kE (rl (t,a,b)) .bf c3=some (.bl false,c3):=rfl
     have EY:=dJ B3
     refine⟨[some (.str X),some (.ref c.length),some (.ref (c.length+1)),some (.int (0+(i:Int))),rr],c',[some (.str X),some (.ref c.length),some (.ref (c.length+1)),some (.int (0+(i:Int))),some (rl (t,a,b))],c3.set c.length (.lst (((rs.take i).filterMap id).map rl++[rl (t,a,b)])),rfl,?_,⟨_,_,rfl,?_,?_,?_⟩⟩
     ·unfold xa
      rw[rj,t1,Option.bind_some]
      dsimp only
      rw[if_pos (show(!(some (t,a,b)).isNone)=true from rfl)]
      erw[de,Wh,ai,e3,gn,lB,ap]
     ·rw[List.getElem?_set,if_neg (by omega)];exact R3
     ·rw[Qc,List.getElem?_set,if_pos rfl,if_pos EY];simp
     ·exact((hk.trans (Kq.pre p2)).trans (Kq.pre p3)).uc (Nat.le_refl _)) ⟨none,none,rfl,R1,by simpa using B1,Kq.pre p1⟩
 obtain⟨σ',c',ee,kk,rr,rfl,hR,hB,hk⟩:=key
 rw[pN,Nat.zero_add,Int.toNat_natCast]at hB
 refine⟨c',?_,by rw[hB,h,List.take_length],hk.ub⟩
 have f:=(ka (g:=aD 3) (b:=xa) Wf).trans ee
 have run:gG [some (.str X),none,none,none,none] c=some (.rt (.ref c.length),[some (.str X),some (.ref c.length),some (.ref (c.length+1)),kk,rr],c'):=by
  unfold gG
  refine az (σ1:=[some (.str X),some (.ref c.length),none,none,none]) (c1:=c++[.lst []]) (by erw[jq]) ?_
  refine az (σ1:=[some (.str X),some (.ref c.length),some (.ref (c.length+1)),none,none]) (c1:=c1) (by erw[nH,gw,ms]) ?_
  refine az f ?_
  erw[]
 erw[cE,run]
theorem x1{i:Int}{c:Cells}:bS [.int i,.tup [.ty "list",.ty "tuple"]] c=some (.bl false,c):=by simp[bS,two,eH,d_]
theorem x2{xs:List D}{c:Cells}:bS [.tup xs,.tup [.ty "list",.ty "tuple"]] c=some (.bl true,c):=by simp[bS,two,eH,d_]
theorem x3{xs:List D}{c:Cells}:bS [.tup xs,.ty "list"] c=some (.bl false,c):=by simp[bS,two,eH,d_]
theorem x4{xs:List D}{c:Cells}:bS [.tup xs,.ty "tuple"] c=some (.bl true,c):=by simp[bS,two,eH,d_]
theorem x5{i:Int}{c:Cells}:bS [.int i,.ty "int"] c=some (.bl true,c):=by simp[bS,two,eH,d_]
theorem x6{i:Int}{c:Cells}:bS [.int i,.ty "bool"] c=some (.bl false,c):=by simp[bS,two,eH,d_]
theorem x7{i:Int}{c:Cells}:bS [.int i,.ty "str"] c=some (.bl false,c):=by simp[bS,two,eH,d_]
theorem Ie:(true==true)=true:=rfl
theorem Ig:(false==false)=true:=rfl
theorem Ax{n:Nat}{i:Int}{c:Cells}:bE (n+1) [.int i,.int i] c=some (.bl true,c):=by
 show dE 2 2 (cx (bE n)) _ c=_
 unfold cx
 erw[x1,x5,x6,x7,Ie,Ig]
inductive Pl:Nat→D→Prop
 |str {n:Nat}{x:Str}:x.cps.all (fun k=>decide (k<1114112))=true→Pl (n+1) (.str x)
 |int {n:Nat}{i:Int}:Pl (n+1) (.int i)
 |tup {n:Nat}{ds:List D}:(∀d∈ds,Pl n d)→ds.length≤900→Pl (n+1) (.tup ds)
theorem Pl.mono{n:Nat}{d:D}(h:Pl n d):∀m,n≤m→Pl m d:=by
 induction h with
 |str h=>intro m hm;obtain⟨m,rfl⟩:∃q,m=q+1:=⟨m - 1,by omega⟩;exact .str h
 |int=>intro m hm;obtain⟨m,rfl⟩:∃q,m=q+1:=⟨m - 1,by omega⟩;exact .int
 |tup _ hl ih=>intro m hm;obtain⟨m,rfl⟩:∃q,m=q+1:=⟨m - 1,by omega⟩;exact .tup (fun d hd=>ih d hd m (by omega)) hl
theorem Tr.pl{n:Nat}{t:D}(h:Tr n t):Pl (n+1) t:=by
 have ok:∀(x:Str),x∈(["is","any","not","and","or"]:List Str)→x.cps.all (fun k=>decide (k<1114112))=true:=by
  intro x hx
  have h:∀x∈(["is","any","not","and","or"]:List Str),x.cps.toList.all (fun k=>decide (k<1114112))=true:=by decide
  exact dP (h x hx)
 induction h with
 |is wx wy=>
  refine .tup (fun d hd=>?_) (by simp)
  simp only[List.mem_cons,List.not_mem_nil,or_false]at hd
  rcases hd with rfl|rfl|rfl
  ·exact .str (ok _ (by simp))
  ·exact .str wx.ok
  ·exact .str wy.ok
 |any=>exact .tup (fun d hd=>by rw[List.mem_singleton.mp hd];exact .str (ok _ (by simp))) (by simp)
 |not _ ih=>
  refine .tup (fun d hd=>?_) (by simp)
  simp only[List.mem_cons,List.not_mem_nil,or_false]at hd
  rcases hd with rfl|rfl
  ·exact .str (ok _ (by simp))
  ·exact ih
 |and _ _ kb kc=>
  refine .tup (fun d hd=>?_) (by simp)
  simp only[List.mem_cons,List.not_mem_nil,or_false]at hd
  rcases hd with rfl|rfl|rfl
  ·exact .str (ok _ (by simp))
  ·exact kb
  ·exact kc
 |or _ _ kb kc=>
  refine .tup (fun d hd=>?_) (by simp)
  simp only[List.mem_cons,List.not_mem_nil,or_false]at hd
  rcases hd with rfl|rfl|rfl
  ·exact .str (ok _ (by simp))
  ·exact kb
  ·exact kc
theorem Mh{n:Nat}{t:D}{a b:Int}(h:Tr n t):Pl (n+3) (rl (t,a,b)):=by
 refine .tup (fun d hd=>?_) (by simp)
 simp only[List.mem_cons,List.not_mem_nil,or_false]at hd
 rcases hd with rfl|rfl
 ·exact h.pl.mono _ (by omega)
 ·refine .tup (fun d hd=>?_) (by simp)
  simp only[List.mem_cons,List.not_mem_nil,or_false]at hd
  rcases hd with rfl|rfl<;>exact .int
theorem y1{x:Str}{c:Cells}:bS [.str x,.tup [.ty "list",.ty "tuple"]] c=some (.bl false,c):=by simp[bS,two,eH,d_]
theorem y5{x:Str}{c:Cells}:bS [.str x,.ty "int"] c=some (.bl false,c):=by simp[bS,two,eH,d_]
theorem y6{x:Str}{c:Cells}:bS [.str x,.ty "bool"] c=some (.bl false,c):=by simp[bS,two,eH,d_]
theorem y7{x:Str}{c:Cells}:bS [.str x,.ty "str"] c=some (.bl true,c):=by simp[bS,two,eH,d_]
theorem Ih{xs:List D}{i:Nat}{d:D}(h:(fq xs xs)[i]? =some d):∃x∈xs,d= .tup [x,x]:=by
 unfold fq at h
 rw[List.getElem?_map]at h
 obtain⟨p,hp,rfl⟩:=Option.map_eq_some_iff.mp h
 rw[List.getElem?_zip_eq_some]at hp
 obtain⟨h1,h2⟩:=hp
 rw[h1]at h2
 have e:=Option.some.inj h2
 exact⟨p.1,List.mem_of_getElem? h1,by rw[←e]⟩
def Jq(n:Nat)(d:D):Prop:=∀(f:Nat) (c:Cells),n≤f→∃c',bE f [d,d] c=some (.bl true,c')∧c <+:c'
theorem yR{f:Nat}{xs:List D}{it:XI}{σ:Qm.Env}{c:Cells}{ks:List (Nat×Cell)}{n:Nat}(ih:∀d∈xs,Jq n d)(hf:n≤f)(hl:xs.length≤900)(hi:it σ c=some (⟨fq xs xs,ks⟩,c))(hs:stays ks c):
  ∃c',fU it [none,none] (gj 2 (bP (aD 0) (bP (aD 1) gh))) iQ (aw (bE f) [] (ag (eV 0) (ag (eV 1) ak))) σ c=some (.ref c.length,c')∧c <+:c'∧vv [.ref c.length] c'=some (.bl true,c'):=by
 have hz:(fq xs xs).length=xs.length:=by simp[fq]
 obtain⟨c',e,hp,hc⟩:=Fh (te:=aw (bE f) [] (ag (eV 0) (ag (eV 1) ak))) (g:=gj 2 (bP (aD 0) (bP (aD 1) gh))) (cap:=[none,none]) ((List.replicate xs.length true).map D.bl) (fun τ=>∃a b,τ=[a,b]) hi hs ⟨none,none,rfl⟩ (by simp[hz]) (by
  rintro i d w g1 g2 τ c2 ⟨a,b,rfl⟩ _
  obtain⟨x,hx,rfl⟩:=Ih g1
  have hw:w= .bl true:=by
   have:=List.mem_of_getElem? g2
   obtain⟨q,hq,rfl⟩:=List.mem_map.mp this
   rw[List.eq_of_mem_replicate hq]
  subst hw
  obtain⟨c3,e3,ws,rfl⟩:=ih x hx f c2 hf
  exact⟨[some x,some x],ws,rfl,by erw[e3],⟨_,_,rfl⟩⟩) (by rw[hz];omega)
 have ba:=Fi hc
 rw[show(List.replicate xs.length true).all id=true by simp]at ba
 exact⟨c',e,hp,ba⟩
theorem CF{n:Nat}{d:D}(h:Pl n d):Jq n d:=by
 induction h with
 |@str n x hx=>
  intro f c hf
  obtain⟨f,rfl⟩:∃q,f=q+1:=⟨f - 1,by omega⟩
  have eq:=gJ (c:=c) hx hx
  rw[decide_eq_true rfl]at eq
  refine⟨c,?_,List.prefix_rfl⟩
  show dE 2 2 (cx (bE f)) _ c=_
  unfold cx
  erw[y1,y5,y6,y7,Ie,Ig,eq]
 |int=>
  intro f c hf
  obtain⟨f,rfl⟩:∃q,f=q+1:=⟨f - 1,by omega⟩
  exact⟨c,Ax,List.prefix_rfl⟩
 |@tup n ds hd hl ih=>
  intro f c hf
  obtain⟨f,rfl⟩:∃q,f=q+1:=⟨f - 1,by omega⟩
  have hi:vD (xZ (ag (eV 0) (ag (eV 1) ak))) (qB (ag (eV 0) (ag (eV 1) ak))) [some (.tup ds),some (.tup ds)] c=some (⟨fq ds ds,[]⟩,c):=rfl
  obtain⟨c',e,hp,ba⟩:=yR (f:=f) ih (by omega) hl hi fY
  refine⟨c',?_,hp⟩
  show dE 2 2 (cx (bE f)) _ c=_
  unfold cx
  have li:((ds.length:Int)=(ds.length:Int)):=rfl
  erw[x2,x3,x4,Ie,Ig,iK,e,ba]
theorem uf{a b:Nat}{xs:List D}{c:Cells}(ha:c[a]? =some (.lst xs))(hb:c[b]? =some (.lst xs))(h:∀d∈xs,Pl 50 d)(hl:xs.length≤900):∃c',cW [.ref a,.ref b] c=some (.bl true,c')∧c <+:c':=by
 have za:∀{q:Nat},c[q]? =some (.lst xs)→bS [.ref q,.tup [.ty "list",.ty "tuple"]] c=some (.bl true,c)∧bS [.ref q,.ty "list"] c=some (.bl true,c)∧bS [.ref q,.ty "tuple"] c=some (.bl false,c):=fun hq=>by
  refine⟨?_,?_,?_⟩<;>simp[bS,two,eH,d_,hq]
 obtain⟨b1,b2,b3⟩:=za hb
 obtain⟨_,a2,a3⟩:=za ha
 have la:=aT ha
 have lb:=aT hb
 have hi:vD (xZ (ag (eV 0) (ag (eV 1) ak))) (qB (ag (eV 0) (ag (eV 1) ak))) [some (.ref a),some (.ref b)] c=some (⟨fq xs xs,[(a,.lst xs),(b,.lst xs)]⟩,c):=by
  have e1:xZ (ag (eV 0) (ag (eV 1) ak)) [some (.ref a),some (.ref b)] c=none:=rfl
  have e2:qB (ag (eV 0) (ag (eV 1) ak)) [some (.ref a),some (.ref b)] c=some (⟨fq xs xs,[(a,.lst xs),(b,.lst xs)]⟩,c):=by
   show((c[a]?).bind fun z=>(c[b]?).bind fun y=>(bg (.ref a) c).bind fun l=>(bg (.ref b) c).bind fun k=>some ((⟨fq l.2 k.2,[(a,z),(b,y)]⟩:Itm),c))=_
   rw[ha,hb,la,lb]
   rfl
  unfold vD
  rw[e1]
  exact e2
 obtain⟨c',e,hp,ba⟩:=yR (n:=50) (f:=59) (fun d hd=>CF (h d hd)) (by decide) hl hi (fun p hp=>by
  simp only[List.mem_cons,List.not_mem_nil,or_false]at hp
  rcases hp with rfl|rfl
  ·exact ha
  ·exact hb)
 refine⟨c',?_,hp⟩
 have sa:=aP ha
 have sb:=aP hb
 have run:bE (59+1) [.ref a,.ref b] c=some (.bl true,c'):=by
  show dE 2 2 (cx (bE 59)) _ c=_
  unfold cx
  erw[b1,b2,b3,a2,a3,Ie,Ig,iK,sa,sb,e,ba]
 exact run
theorem FI{x:Str}(h:W0 x):Tx x:=by
 have hl:∀k∈sg x,97≤k∧k≤122:=fun k hk=>by simpa using List.all_eq_true.mp h.lt k hk
 refine⟨h.ok,by have:=h.LJ;omega,fun e=>?_,fun _ k hk=>?_,fun hm=>by have:=hl 10 hm;omega⟩
 ·have:=h.pos
  rw[←ei,e]at this
  exact absurd this (by decide)
 ·have:=hl k hk
  refine⟨?_,by omega⟩
  simp only[sgn,Bool.or_eq_false_iff,beq_eq_false_iff_ne]
  omega
theorem qN{x:Str}(h:x∈(["and","or","not","any","(",")",":"]:List Str)):Tx x:=by
 have h1:∀x∈(["and","or","not","any","(",")",":"]:List Str),(sg x).all (fun k=>decide (k<1114112))=true∧x.length≤16∧sg x≠[]∧(gL x=false→∀k∈sg x,sgn k=false∧k≠32)∧10∉sg x:=by decide
 obtain⟨a1,a2,a3,a4,a5⟩:=h1 x h
 exact⟨dP a1,a2,a3,a4,a5⟩
theorem Mi(k:Nat):Tx (kw k):=qN (by
 match k with
 |0=>simp[kw]
 |_+1=>simp[kw])
theorem Ex.tx{k n:Nat}{ts:List Str}{is:List D}{t:D}(h:Ex k n ts is t):∀w∈ts,Tx w:=by
 induction h with
 |is wx wy=>
  intro w hw
  simp only[List.mem_cons,List.not_mem_nil,or_false]at hw
  rcases hw with rfl|rfl
  ·exact FI wx.toW0
  ·exact FI wy.toW0
 |any=>intro w hw;rw[List.mem_singleton.mp hw];exact qN (by simp)
 |not _ ih=>
  intro w hw
  rcases List.mem_cons.mp hw with rfl|hw
  ·exact qN (by simp)
  ·exact ih w hw
 |par _ ih=>
  intro w hw
  rcases List.mem_cons.mp hw with rfl|hw
  ·exact qN (by simp)
  ·rcases List.mem_append.mp hw with hw|hw
   ·exact ih w hw
   ·rw[List.mem_singleton.mp hw];exact qN (by simp)
 |up _ _ ih=>exact ih
 |bin _ _ _ kb kc=>
  intro w hw
  simp only[List.mem_append,List.mem_singleton]at hw
  rcases hw with(hw|rfl)|hw
  ·exact kb w hw
  ·exact Mi _
  ·exact kc w hw
noncomputable def ox:XS:=(aA (aF 7 (e2 cn (e2 cn (bC (ag (eC (.str "(")) ak)) (eV 7)) (bC (ag (eC (.str ")")) ak))))
   (bV (tV (e2 cQ (aw au [] (ag (eV 5) (ag (eC (.int 2)) ak))) (eC (.int 0))))
   (aA (aF 7 (e2 cn (bC (ag (eC (.str "not")) ak)) (eV 7)))
   (aF 8 (cc (ag (eC (.str "not")) (ag (eV 8) ak)))))
   bp))
theorem Mj{l s n:Nat}{m:Int}{ts:List Str}{is:List D}{t:D}{c:Cells}{q0 q1 q2 q3 q4 q6 j gM gN:Option D}(h:Lf l m c)(hs:c[s]? =some (.lst (ts.map D.str)))(Ii:s≠l)(hx:Ex 2 n ts is t)(hn:ts.length≤500):
  ∃s' n' kd t4 t' c',ox [q0,q1,q2,q3,q4,some (.ref l),q6,some (.ref s),some t,j,gM,gN] c=some (.nx,[q0,q1,q2,q3,q4,some (.ref l),q6,some (.ref s'),some t',j,gM,gN],c')∧Lf l m c'∧c'[s']? =some (.lst (kd.map D.str))∧s'≠l∧Ex 2 n' kd t4 t'∧n'≤n+1∧kd.length≤ts.length+3∧Kq [l] c c':=by
 have hl:=h.lt
 have ha:=e9 (c:=c++[.lst [.str "("]]) (a:=c.length) (b:=s) (xs:=[.str "("]) (ys:=ts.map D.str) aI (bb hs) (by simp only[List.length_cons,List.length_nil,List.length_map];omega)
 have hb:=e9 (c:=c++[.lst [.str "("]]++[.lst (.str "("::ts.map D.str)]++[.lst [.str ")"]]) (a:=(c++[Cell.lst [.str "("]]).length) (b:=(c++[Cell.lst [.str "("]]++[Cell.lst (.str "("::ts.map D.str)]).length) (xs:=.str "("::ts.map D.str) (ys:=[.str ")"]) (bb aI) aI (by simp only[List.length_cons,List.length_nil,List.length_map];omega)
 simp only[List.cons_append,List.nil_append]at ha hb
 generalize lq:c++[Cell.lst [.str "("]]++[Cell.lst (.str "("::ts.map D.str)]++[Cell.lst [.str ")"]]=c1 at hb
 generalize hr:c1.length=r at hb
 generalize uI:c1++[Cell.lst (.str "("::(ts.map D.str++[.str ")"]))]=c2 at hb
 have k2:Kq [l] c c2:=by rw[←uI,←lq];exact Kq.more.trans (Kq.more.trans (Kq.more.trans Kq.more))
 have r2:c2[r]? =some (.lst ((("(":Str)::(ts++[(")":Str)])).map D.str)):=by rw[←uI,←hr,List.map_cons,List.map_append];exact aI
 have Qd:r≠l:=by
  have:c.length≤r:=by rw[←hr,←lq];simp only[List.length_append];omega
  omega
 have p2:Lf l m c2:=by rw[←uI,←lq];exact h.more.more.more.more
 have f1:aF 7 (e2 cn (e2 cn (bC (ag (eC (.str "(")) ak)) (eV 7)) (bC (ag (eC (.str ")")) ak))) [q0,q1,q2,q3,q4,some (.ref l),q6,some (.ref s),some t,j,gM,gN] c=some (.nx,[q0,q1,q2,q3,q4,some (.ref l),q6,some (.ref r),some t,j,gM,gN],c2):=by
  erw[ha,lq,hb]
 obtain⟨g,c3,e3,g0,g1,p3,k3⟩:=eh p2 (k:=2) (by decide) (by decide)
 have r3:c3[r]? =some (.lst ((("(":Str)::(ts++[(")":Str)])).map D.str)):=k3.get r2 (by simpa using Qd)
 have hp:Ex 0 n (("(":Str)::(ts++[(")":Str)])) [t] t:=.par hx
 by_cases hg:g=0
 ·subst hg
  have hd:=e9 (c:=c3++[.lst [.str "not"]]) (a:=c3.length) (b:=r) (xs:=[.str "not"]) (ys:=(("(":Str)::(ts++[(")":Str)])).map D.str) aI (bb r3) (by simp only[List.length_cons,List.length_nil,List.length_map,List.length_append];omega)
  have Wi:=p3.lt
  refine⟨(c3++[Cell.lst [.str "not"]]).length,n+1,"not"::(("(":Str)::(ts++[(")":Str)])),[.str "not",t],.tup [.str "not",t],c3++[.lst [.str "not"]]++[.lst ((("not":Str)::(("(":Str)::(ts++[(")":Str)]))).map D.str)],?_,p3.more.more,aI,by rw[List.length_append];omega,.up (by decide) (.up (by decide) (.not hp)),Nat.le_refl _,by simp only[List.length_cons,List.length_append,List.length_nil];omega,k2.trans (k3.trans (Kq.more.trans Kq.more))⟩
  unfold ox
  refine az f1 ?_
  generalize pC:(("(":Str)::(ts++[(")":Str)])).map D.str=ys at hd
  erw[e3,hd]
  subst pC
  simp
 ·refine⟨r,n,("(":Str)::(ts++[(")":Str)]),[t],t,c3,?_,p3,r3,Qd,.up (by decide) (.up (by decide) hp),by omega,by simp only[List.length_cons,List.length_append,List.length_nil];omega,k2.trans k3⟩
  unfold ox
  refine az f1 ?_
  erw[e3,hg]
theorem Mk{l s n:Nat}{m:Int}{ts:List Str}{is:List D}{t:D}{c:Cells}{q0 q1 q2 q3 q4 q6 j gM gN:Option D}(h:Lf l m c)(hs:c[s]? =some (.lst (ts.map D.str)))(Ii:s≠l)(hx:Ex 2 n ts is t)(hn:n≤26)(hl:ts.length≤104)(hm:m<14→ts.length≤60):
  ∃s' n' kd t4 t' j' c',bV (dq (tV (e2 j9 (e2 aZ (eV 5) (eC (.int 2))) (eC (.int 14)))) (tV (e2 cQ (aw au [] (ag (eV 5) (ag (eC (.int 4)) ak))) (eC (.int 0))))) (g6 (dX (ag (aw au [] (ag (eV 5) (ag (eC (.int 8)) ak))) ak)) (aD 9) ox) bp [q0,q1,q2,q3,q4,some (.ref l),q6,some (.ref s),some t,j,gM,gN] c
   =some (.nx,[q0,q1,q2,q3,q4,some (.ref l),q6,some (.ref s'),some t',j',gM,gN],c')∧Lf l m c'∧c'[s']? =some (.lst (kd.map D.str))∧Ex 2 n' kd t4 t'∧n'≤34∧kd.length≤130∧Kq [l] c c':=by
 have ix:=h.ix
 by_cases Ij:m<14
 ·obtain⟨g,c1,e1,_,_,p1,k1⟩:=eh h (k:=4) (by decide) (by decide)
  have s1:c1[s]? =some (.lst (ts.map D.str)):=k1.get hs (by simpa using Ii)
  by_cases hg:g=0
  ·subst hg
   obtain⟨r,c2,e2,r0,r1,p2,k2⟩:=eh p1 (k:=8) (by decide) (by decide)
   have s2:c2[s]? =some (.lst (ts.map D.str)):=k2.get s1 (by simpa using Ii)
   have hr:dX (ag (aw au [] (ag (eV 5) (ag (eC (.int 8)) ak))) ak) [q0,q1,q2,q3,q4,some (.ref l),q6,some (.ref s),some t,j,gM,gN] c1=some (⟨fT 0 r.toNat,[]⟩,c2):=pM (j:=r) (by erw[e2]) (by omega)
   have key:=eR (ks:=[]) (g:=aD 9) (body:=ox)
    (fun i σ c'=>∃s' n' kd t4 t' j',σ=[q0,q1,q2,q3,q4,some (.ref l),q6,some (.ref s'),some t',j',gM,gN]∧Lf l m c'∧c'[s']? =some (.lst (kd.map D.str))∧s'≠l∧Ex 2 n' kd t4 t'∧n'≤26+i∧kd.length≤60+3*i∧i≤r.toNat∧Kq [l] c2 c') (fT 0 r.toNat) 0 [q0,q1,q2,q3,q4,some (.ref l),q6,some (.ref s),some t,j,gM,gN] c2 (fun _ _ _ _=>fY) (by
     rintro i d σ c' hd ⟨s',n',kd,t4,t',j',rfl,a1,a2,a3,a4,a5,a6,_,a7⟩
     obtain⟨hi,rfl⟩:=ny hd
     obtain⟨s3,n3,Wj,Wk,t3,c3,f3,b1,b2,b3,b4,b5,b6,b7⟩:=Mj (q0:=q0) (q1:=q1) (q2:=q2) (q3:=q3) (q4:=q4) (q6:=q6) (j:=some (.int (0+(i:Int)))) (gM:=gM) (gN:=gN) a1 a2 a3 a4 (by omega)
     exact⟨[q0,q1,q2,q3,q4,some (.ref l),q6,some (.ref s'),some t',some (.int (0+(i:Int))),gM,gN],c',_,c3,rfl,f3,s3,n3,Wj,Wk,t3,_,rfl,b1,b2,b3,b4,by omega,by omega,by omega,a7.trans b7⟩)
     ⟨s,n,ts,is,t,j,rfl,p2,s2,Ii,hx,by omega,by have:=hm Ij;omega,Nat.zero_le _,Kq.refl _ _⟩
   obtain⟨σ',c',ef,s',n',kd,t4,t',j',rfl,a1,a2,a3,a4,a5,a6,_,a7⟩:=key
   rw[pN]at a5 a6
   have f:=(ka (g:=aD 9) (b:=ox) hr).trans ef
   refine⟨s',n',kd,t4,t',j',c',?_,a1,a2,a4,by omega,by omega,k1.trans (k2.trans a7)⟩
   have tt:dq (tV (Qm.e2 j9 (Qm.e2 aZ (eV 5) (eC (.int 2))) (eC (.int 14)))) (tV (Qm.e2 cQ (aw au [] (ag (eV 5) (ag (eC (.int 4)) ak))) (eC (.int 0)))) [q0,q1,q2,q3,q4,some (.ref l),q6,some (.ref s),some t,j,gM,gN] c=some (true,c1):=by erw[ix,Ij,e1]
   rw[rj,tt,Option.bind_some]
   dsimp only
   rw[if_pos rfl,f]
  ·refine⟨s,n,ts,is,t,j,c1,?_,p1,s1,hx,by omega,by omega,k1⟩
   erw[ix,Ij,e1,hg]
 ·refine⟨s,n,ts,is,t,j,c,?_,h,hs,hx,by omega,by omega,Kq.refl _ _⟩
  erw[ix,Ij]
structure Bk(ns:List Int)(N M W:Nat)(xs:List Str)(rs:List (Option (D×Int×Int)))(ws:List (Str×Str))(c:Cells):Prop where
 s0:c[0]? =some (.ro (ns.map D.int))
 r1:c[1]? =some (.lst (xs.map D.str))
 d2:c[2]? =some (.lst ((rs.filterMap id).map rl))
 w3:c[3]? =some (.lst (ws.map pr))
 wd:∀p∈ws,Wd p.1∧Wd p.2
 wl:ws.length≤W
 len:xs.length=rs.length
 rows:∀(j:Nat) x r,xs[j]? =some x→rs[j]? =some r→Row x r∧x.length≤3000∧10∉sg x
 n1:xs.length≤N
 sm:(xs.map (·.length)).sum≤M
 tr:∀r∈rs.filterMap id,Tr 34 r.1
variable{ns:List Int}{N M W:Nat}{xs:List Str}{rs:List (Option (D×Int×Int))}{ws:List (Str×Str)}{c c':Cells}
theorem Bk.keep{S:List Nat}(h:Bk ns N M W xs rs ws c)(k:Kq S c c')(hs:∀x∈S,4≤x):Bk ns N M W xs rs ws c':=by
 have no:∀i,i<4→i∉S:=fun i hi hm=>by have:=hs i hm;omega
 exact⟨k.get h.s0 (no 0 (by decide)),k.get h.r1 (no 1 (by decide)),k.get h.d2 (no 2 (by decide)),k.get h.w3 (no 3 (by decide)),h.wd,h.wl,h.len,h.rows,h.n1,h.sm,h.tr⟩
theorem Bk.lt(h:Bk ns N M W xs rs ws c): 3<c.length:=dJ h.w3
theorem ug{x:Str}{r:Option (D×Int×Int)}(hl:xs.length=rs.length)(h:∀(j:Nat) x r,xs[j]? =some x→rs[j]? =some r→Row x r∧x.length≤3000∧10∉sg x)(hx:Row x r∧x.length≤3000∧10∉sg x):∀(j:Nat) y q,(xs++[x])[j]? =some y→(rs++[r])[j]? =some q→Row y q∧y.length≤3000∧10∉sg y:=by
 intro j y q h1 h2
 by_cases hj:j<xs.length
 ·rw[List.getElem?_append_left hj]at h1
  rw[List.getElem?_append_left (by omega)]at h2
  exact h j y q h1 h2
 ·have h3:=(List.getElem?_eq_some_iff.mp h1).1
  rw[List.length_append,List.length_singleton]at h3
  obtain rfl:j=xs.length:=by omega
  rw[List.getElem?_append_right (Nat.le_refl _)]at h1
  rw[hl,List.getElem?_append_right (Nat.le_refl _)]at h2
  simp at h1 h2
  subst h1 h2
  exact hx
theorem Bk.push{x:Str}(h:Bk ns N M W xs rs ws c)(hx:Row x none∧x.length≤3000∧10∉sg x){k:Nat}(hk:x.length≤k):Bk ns (N+1) (M+k) W (xs++[x]) (rs++[none]) ws (c.set 1 (.lst (xs.map D.str++[.str x]))):=by
 have hl:=h.lt
 refine⟨?_,?_,?_,?_,h.wd,h.wl,by simp[h.len],ug h.len h.rows hx,by have:=h.n1;simp;omega,by have:=h.sm;simp;omega,by simpa using h.tr⟩
 ·rw[List.getElem?_set,if_neg (by decide)];exact h.s0
 ·rw[List.getElem?_set,if_pos rfl,if_pos (by omega)];simp
 ·rw[List.getElem?_set,if_neg (by decide),h.d2];simp
 ·rw[List.getElem?_set,if_neg (by decide)];exact h.w3
theorem uh(n:Nat)(hn:n≤3000):Row (cN " " n) none∧(cN " " n).length≤3000∧10∉sg (cN " " n):=by
 refine⟨.blank ?_,by rw[lF (e_ n)];exact hn,?_⟩
 ·rw[e_,jV]
  have:=pP n []
  rwa[List.append_nil]at this
 ·rw[e_];intro hm;have:=List.eq_of_mem_replicate hm;omega
theorem Ik{l:Nat}{m:Int}{q0 q2 q3 q4 q6 q7 q8 q9 gM gN:Option D}(h:Bk ns N M W xs rs ws c)(hl:Lf l m c)(h4: 4≤l)(hN:N≤1000):∃oK FJ c',bV (tV (e2 cQ (aw au [] (ag (eV 5) (ag (eC (.int 6)) ak))) (eC (.int 0)))) (bW (eM aW (eV 1) (ag (e2 fX (eC (.str " ")) (aw au [] (ag (eV 5) (ag (eC (.int 3)) ak)))) ak))) bp [q0,some (.ref 1),q2,q3,q4,some (.ref l),q6,q7,q8,q9,gM,gN] c
  =some (.nx,[q0,some (.ref 1),q2,q3,q4,some (.ref l),q6,q7,q8,q9,gM,gN],c')∧Bk ns (N+1) (M+2) W oK FJ ws c'∧Lf l m c'∧c.length≤c'.length:=by
 obtain⟨g,c1,e1,_,_,p1,k1⟩:=eh hl (k:=6) (by decide) (by decide)
 have b1:=h.keep k1 (by simpa using h4)
 by_cases hg:g=0
 ·subst hg
  obtain⟨g2,c2,e2,LL,PF,p2,k2⟩:=eh p1 (k:=3) (by decide) (by decide)
  have b2:=b1.keep k2 (by simpa using h4)
  have m2:=nB (c:=c2) (a:=" ") LL (by omega) (by decide)
  have l1:=aT b1.r1
  have ap:=da (y:=.str (cN " " g2.toNat)) b2.r1 (by rw[List.length_map];have:=b2.n1;omega)
  have hlen:(cN " " g2.toNat).length≤2:=by rw[lF (e_ _)];omega
  refine⟨xs++[cN " " g2.toNat],rs++[none],_,?_,b2.push (uh _ (by omega)) hlen,p2.keep (Kq.set (S:=[1]) (by simp)) (by simp;omega),by rw[List.length_set];have:=k1.len;have:=k2.len;omega⟩
  erw[e1,l1,e2,m2,ap]
 ·exact⟨xs,rs,c1,by erw[e1,hg],⟨b1.s0,b1.r1,b1.d2,b1.w3,b1.wd,b1.wl,b1.len,b1.rows,by have:=b1.n1;omega,by have:=b1.sm;omega,b1.tr⟩,p1,k1.len⟩
noncomputable def Bx:XS:=(aA (aF 5 (aw dS [] (ag (eV 0) (ag (eV 4) ak))))
   (aA (aF 6 (aw dC [] (ag (eV 5) ak)))
   (aA (bV (tV (e2 cQ (aw au [] (ag (eV 5) (ag (eC (.int 6)) ak))) (eC (.int 0))))
   (bW (eM aW (eV 1) (ag (e2 fX (eC (.str " ")) (aw au [] (ag (eV 5) (ag (eC (.int 3)) ak)))) ak)))
   bp)
   (aA (jI (aw cw [] (ag (eV 5) (ag (eV 3) (ag (eC (.int 6)) (ag (eC (.str "or")) ak))))) (gj 2 (bP (aD 7) (bP (aD 8) gh))))
   (aA (bV (dq (tV (e2 j9 (e2 aZ (eV 5) (eC (.int 2))) (eC (.int 14)))) (tV (e2 cQ (aw au [] (ag (eV 5) (ag (eC (.int 4)) ak))) (eC (.int 0)))))
   (g6 (dX (ag (aw au [] (ag (eV 5) (ag (eC (.int 8)) ak))) ak)) (aD 9)
   ox)
   bp)
   (aA (bW (eM aW (eV 1) (ag (aw cY [] (ag (eV 5) (ag (e2 cn (eV 7) (bC (ag (eC (.str ":")) (ag (aw bK [] (ag (eV 6) ak)) ak)))) ak))) ak)))
   (bW (eM aW (eV 2) (ag (cc (ag (eV 8) (ag (eV 6) ak))) ak)))))))))
theorem CG{k:Int}{q5 q6 q7 q8 q9 gM gN:Option D}(h:Bk ns N M W xs rs ws c)(k0: 0≤k)(k1:k<1000)(hN:N≤100)(hW:W≤8000):∃oK FJ fV c' r5 r6 r7 r8 r9,Bx [some (.ref 0),some (.ref 1),some (.ref 2),some (.ref 3),some (.int k),q5,q6,q7,q8,q9,gM,gN] c
  =some (.nx,[some (.ref 0),some (.ref 1),some (.ref 2),some (.ref 3),some (.int k),r5,r6,r7,r8,r9,gM,gN],c')∧Bk ns (N+2) (M+3002) (W+26) oK FJ fV c':=by
 have hc:=h.lt
 obtain⟨a,b,e1⟩:=LO h.s0 k0 k1
 have L1:Lf c.length 0 (c++[.lst [.int a,.int b,.int 0]]):=⟨a,b,aI⟩
 have b1:Bk ns N M W xs rs ws (c++[.lst [.int a,.int b,.int 0]]):=h.keep (S:=[]) Kq.more (fun x hx=>nomatch hx)
 generalize hl:c.length=l at e1 L1
 obtain⟨x,y,c2,e2,nb,L2,k2⟩:=HZ L1
 have h4: 4≤l:=by omega
 have b2:=b1.keep k2 (by simpa using h4)
 obtain⟨FK,FL,c3,e3,b3,L3,YR⟩:=Ik (q0:=some (.ref 0)) (q2:=some (.ref 2)) (q3:=some (.ref 3)) (q4:=some (.int k)) (q6:=some (.tup [.int x,.int y])) (q7:=q7) (q8:=q8) (q9:=q9) (gM:=gM) (gN:=gN) b2 L2 h4 (by omega)
 have Wi:=L3.lt
 have S3:St (ws.length:Int) l 3 0 ws c3:=⟨L3,b3.w3,b3.wd,by omega,by omega,by have:=b3.wl;omega,by decide⟩
 obtain⟨s,t,m',fV,c4,ts,is,e4,x4,m0,m1,S4,s4,sl,tl,k4⟩:=yE _ _ _ _ _ _ S3 (by decide)
 have b4:Bk ns (N+1) (M+2) (W+26) FK FL fV c4:=by
  have no:∀i,i<3→i∉[l,3]:=fun i hi=>by simp;omega
  exact⟨k4.get b3.s0 (no 0 (by decide)),k4.get b3.r1 (no 1 (by decide)),k4.get b3.d2 (no 2 (by decide)),S4.at_,S4.wd,by have:=S4.len;have:=b3.wl;omega,b3.len,b3.rows,b3.n1,b3.sm,b3.tr⟩
 obtain⟨s',n',kd,t4,t',j',c5,e5,L5,s5,x5,n5,YS,k5⟩:=Mk (q0:=some (.ref 0)) (q1:=some (.ref 1)) (q2:=some (.ref 2)) (q3:=some (.ref 3)) (q4:=some (.int k)) (q6:=some (.tup [.int x,.int y])) (j:=q9) (gM:=gM) (gN:=gN) S4.lf s4 (by omega) x4 (by omega) (by omega) (fun _=>by omega)
 have b5:=b4.keep k5 (by simpa using h4)
 have wt:=yN (c:=c5) nb
 have ga:=e9 (c:=c5++[.lst [.str ":",.str (TT x y)]]) (a:=s') (b:=c5.length) (xs:=kd.map D.str) (ys:=[.str ":",.str (TT x y)]) (bb s5) aI (by simp only[List.length_cons,List.length_nil,List.length_map];omega)
 have emap:kd.map D.str++[D.str ":",.str (TT x y)]=(kd++[(":":Str),TT x y]).map D.str:=by simp
 rw[emap]at ga
 have hS:(c5++[Cell.lst [.str ":",.str (TT x y)]]++[Cell.lst ((kd++[(":":Str),TT x y]).map D.str)])[(c5++[Cell.lst [.str ":",.str (TT x y)]]).length]? =some (.lst ((kd++[(":":Str),TT x y]).map D.str)):=aI
 have YT:=L5.lt
 obtain⟨tx,c7,e7,w7,Qe,Wl,L7,k7⟩:=Fy (L5.more.more) hS (by rw[List.length_append];omega) (by
  intro w hw
  rcases List.mem_append.mp hw with hw|hw
  ·exact x5.tx w hw
  ·simp only[List.mem_cons,List.not_mem_nil,or_false]at hw
   rcases hw with rfl|rfl
   ·exact qN (by simp)
   ·exact Au nb) (by simp only[List.length_append,List.length_cons,List.length_nil];omega)
 generalize YU:(c5++[Cell.lst [.str ":",.str (TT x y)]]).length=ST at ga e7
 generalize Wm:c5++[Cell.lst [.str ":",.str (TT x y)]]++[Cell.lst ((kd++[(":":Str),TT x y]).map D.str)]=c6 at ga e7 k7
 have Wn:Kq [] c5 c6:=by rw[←Wm];exact Kq.more.trans Kq.more
 have b7:=(b5.keep Wn (fun x hx=>nomatch hx)).keep k7 (by simpa using h4)
 have Bw:Row tx (some (t',x,y)):=.rule w7 x5 (by omega) (by omega) nb
 have l1:=aT b5.r1
 have ap:=da (y:=.str tx) b7.r1 (by rw[List.length_map];have:=b7.n1;omega)
 have YV:=b7.lt
 have d7:(c7.set 1 (.lst (FK.map D.str++[.str tx])))[2]? =some (.lst ((FL.filterMap id).map rl)):=by rw[List.getElem?_set,if_neg (by decide)];exact b7.d2
 have l2:=aT d7
 have fl:((FL.filterMap id).map rl).length≤1000:=by
  rw[List.length_map]
  refine Nat.le_trans (List.length_filterMap_le _ _) ?_
  have:=b7.n1;have:=b7.len;omega
 have Wo:=da (y:=.tup [t',.tup [.int x,.int y]]) d7 (by omega)
 refine⟨FK++[tx],FL++[some (t',x,y)],fV,(c7.set 1 (.lst (FK.map D.str++[.str tx]))).set 2 (.lst ((FL.filterMap id).map rl++[.tup [t',.tup [.int x,.int y]]])),some (.ref l),some (.tup [.int x,.int y]),some (.ref s'),some t',j',?_,?_⟩
 ·unfold Bx
  refine az (σ1:=[some (.ref 0),some (.ref 1),some (.ref 2),some (.ref 3),some (.int k),some (.ref l),q6,q7,q8,q9,gM,gN]) (c1:=c++[.lst [.int a,.int b,.int 0]]) (by erw[e1]) ?_
  refine az (σ1:=[some (.ref 0),some (.ref 1),some (.ref 2),some (.ref 3),some (.int k),some (.ref l),some (.tup [.int x,.int y]),q7,q8,q9,gM,gN]) (c1:=c2) (by erw[e2]) ?_
  refine az e3 ?_
  refine az (σ1:=[some (.ref 0),some (.ref 1),some (.ref 2),some (.ref 3),some (.int k),some (.ref l),some (.tup [.int x,.int y]),some (.ref s),some t,q9,gM,gN]) (c1:=c4) (by
   have Wq:cw [.ref l,.ref 3,.int 6,.str "or"] c3=some (.tup [.ref s,t],c4):=e4
   erw[Wq]) ?_
  refine az e5 ?_
  refine az (σ1:=[some (.ref 0),some (.ref 1),some (.ref 2),some (.ref 3),some (.int k),some (.ref l),some (.tup [.int x,.int y]),some (.ref s'),some t',j',gM,gN]) (c1:=c7.set 1 (.lst (FK.map D.str++[.str tx]))) (by erw[l1,wt,ga,e7,ap]) ?_
  erw[l2,Wo]
 ·refine⟨?_,?_,?_,?_,b7.wd,b7.wl,by simp[b7.len],ug b7.len b7.rows ⟨Bw,Qe,Wl⟩,by have:=b7.n1;simp;omega,by have:=b7.sm;simp;omega,?_⟩
  ·rw[List.getElem?_set,if_neg (by decide),List.getElem?_set,if_neg (by decide)];exact b7.s0
  ·rw[List.getElem?_set,if_neg (by decide),List.getElem?_set,if_pos rfl,if_pos (by omega)];simp
  ·rw[List.getElem?_set,if_pos rfl,if_pos (by rw[List.length_set];omega)];simp[rl]
  ·rw[List.getElem?_set,if_neg (by decide),List.getElem?_set,if_neg (by decide)];exact b7.w3
  ·intro r hr
   rw[List.filterMap_append]at hr
   rcases List.mem_append.mp hr with hr|hr
   ·exact b7.tr r hr
   ·simp at hr
    rw[hr]
    exact x5.tr.mono n5
theorem yS:∀(xs:List Str),strsOf (xs.map D.str)=some xs
 |[]=>rfl
 |x::xs=>by
  show(strsOf (xs.map D.str)).map (x::·)=_
  rw[yS xs];rfl
theorem CH(ns:List Int)(h:ns.length≤63):∃c,oi [.ref 0] [.ro (ns.map Qm.D.int)]=some (.bl true,c):=by
 have c0:Bk ns 0 0 0 [] [] [] [.ro (ns.map D.int),.lst [],.lst [],.lst []]:=⟨rfl,rfl,rfl,rfl,(fun p hp=>nomatch hp),Nat.le_refl _,rfl,(fun j x r h1=>by simp at h1),Nat.le_refl _,Nat.le_refl _,(fun r hr=>by simp at hr)⟩
 have s0:ck (.ref 0) [.ro (ns.map D.int),.lst [],.lst [],.lst []]=some (ns.map D.int):=vH rfl
 have Cg:((ns.map D.int).length:Int)=ns.length:=by simp
 have hr:nV (ag (eC (.int 1)) (ag (eB wk (ag (eC (.int 21)) (ag (eB eD (ag (eV 0) ak)) ak))) ak)) [some (.ref 0),some (.ref 1),some (.ref 2),some (.ref 3),none,none,none,none,none,none,none,none] [.ro (ns.map D.int),.lst [],.lst [],.lst []]=some (⟨fT 1 ((if ((ns.map D.int).length:Int)<21 then((ns.map D.int).length:Int)else 21) - 1).toNat,[]⟩,[.ro (ns.map D.int),.lst [],.lst [],.lst []]):=HP (by erw[iK,s0]) (by decide) (by rw[Cg];split<;>omega)
 have key:=eR (ks:=[]) (g:=aD 4) (body:=Bx)
  (fun i σ c'=>∃xs rs ws q4 q5 q6 q7 q8 q9,σ=[some (.ref 0),some (.ref 1),some (.ref 2),some (.ref 3),q4,q5,q6,q7,q8,q9,none,none]∧i≤20∧Bk ns (2*i) (3002*i) (26*i) xs rs ws c') (fT 1 ((if ((ns.map D.int).length:Int)<21 then((ns.map D.int).length:Int)else 21) - 1).toNat) 0 [some (.ref 0),some (.ref 1),some (.ref 2),some (.ref 3),none,none,none,none,none,none,none,none] [.ro (ns.map D.int),.lst [],.lst [],.lst []] (fun _ _ _ _=>fY) (by
   rintro i dd σ c' hd ⟨xs,rs,ws,q4,q5,q6,q7,q8,q9,rfl,Qf,hb⟩
   obtain⟨hi,rfl⟩:=ny hd
   rw[Nat.zero_add]at Qf hb ⊢
   have NX:i<20:=by rw[Cg]at hi;split at hi<;>omega
   obtain⟨oK,FJ,fV,c2,r5,r6,r7,r8,r9,e,b2⟩:=CG (k:=1+(i:Int)) (q5:=q5) (q6:=q6) (q7:=q7) (q8:=q8) (q9:=q9) (gM:=none) (gN:=none) hb (by omega) (by omega) (by omega) (by omega)
   exact⟨[some (.ref 0),some (.ref 1),some (.ref 2),some (.ref 3),some (.int (1+(i:Int))),q5,q6,q7,q8,q9,none,none],c',_,c2,rfl,e,oK,FJ,fV,_,_,_,_,_,_,rfl,by omega,by
    rw[show 2*(i+1)=2*i+2 by omega,show 3002*(i+1)=3002*i+3002 by omega,show 26*(i+1)=26*i+26 by omega]
    exact b2⟩) ⟨[],[],[],none,none,none,none,none,none,rfl,by decide,c0⟩
 obtain⟨σ',c1,e1,xs,rs,ws,q4,q5,q6,q7,q8,q9,rfl,hi,b1⟩:=key
 rw[Nat.zero_add]at hi b1
 generalize (fT 1 ((if ((ns.map D.int).length:Int)<21 then((ns.map D.int).length:Int)else 21) - 1).toNat).length=I at hi b1
 have f1:=(ka (g:=aD 4) (b:=Bx) hr).trans e1
 obtain⟨z,ez⟩:=Aq b1.s0 (k:=0) (by decide)
 -- a last blank row,Qg
 have h2:(0:Int)<2:=by decide
 have h6:(0:Int)<6:=by decide
 have d2:My.Bd 8900 (2:Int):=My.Bd.mono (rm (i:=2) (by decide)) (by decide)
 have d6:My.Bd 8900 (6:Int):=My.Bd.mono (rm (i:=6) (by decide)) (by decide)
 have step:∃xs rs c2,bV (tV (e2 cQ (e2 eA (e2 dY (aw aY [] (ag (eV 0) (ag (eC (.int 0)) ak))) (eC (.int 2))) (eC (.int 3))) (eC (.int 0)))) (bW (eM aW (eV 1) (ag (e2 fX (eC (.str " ")) (e2 eA (e2 dY (aw aY [] (ag (eV 0) (ag (eC (.int 0)) ak))) (eC (.int 6))) (eC (.int 3)))) ak))) bp [some (.ref 0),some (.ref 1),some (.ref 2),some (.ref 3),q4,q5,q6,q7,q8,q9,none,none] c1=some (.nx,[some (.ref 0),some (.ref 1),some (.ref 2),some (.ref 3),q4,q5,q6,q7,q8,q9,none,none],c2)∧Bk ns 41 60042 520 xs rs ws c2:=by
  have n1:=b1.n1
  have sm:=b1.sm
  have wl:=b1.wl
  by_cases hz:z / 2 % 3=0
  ·have m0:=Int.emod_nonneg (z / 6) (show(3:Int)≠0 by decide)
   have m1:=Int.emod_lt_of_pos (z / 6) (show(0:Int)<3 by decide)
   have m2:=nB (c:=c1) (a:=" ") m0 (by omega) (by decide)
   have l1:=aT b1.r1
   have ap:=da (y:=.str (cN " " (z / 6 % 3).toNat)) b1.r1 (by rw[List.length_map];omega)
   have hlen:(cN " " (z / 6 % 3).toNat).length≤2:=by rw[lF (e_ _)];omega
   have b2:=b1.push (uh (z / 6 % 3).toNat (by omega)) hlen
   refine⟨_,_,_,?_,⟨b2.s0,b2.r1,b2.d2,b2.w3,b2.wd,by omega,b2.len,b2.rows,by have:=b2.n1;omega,by have:=b2.sm;omega,b2.tr⟩⟩
   erw[ez,ij h2 d2,hz,l1,ij h6 d6,m2,ap]
  ·refine⟨xs,rs,c1,?_,⟨b1.s0,b1.r1,b1.d2,b1.w3,b1.wd,by omega,b1.len,b1.rows,by omega,by omega,b1.tr⟩⟩
   erw[ez,ij h2 d2,hz]
 clear b1 ez
 obtain⟨xs,rs,c2,e2,b2⟩:=step
 have HX:=b2.n1
 have YW:=b2.sm
 have uI:=b2.lt
 -- nE text
 have jl:=StrLaws.join_length_le "\n" xs
 have ln:("\n":Str).length=1:=by decide
 rw[ln]at jl
 have ej:wH "\n" (eV 1) [some (.ref 0),some (.ref 1),some (.ref 2),some (.ref 3),q4,q5,q6,q7,q8,q9,none,none] c2=some (.str (Str.join "\n" xs),c2):=by
  unfold wH
  rw[show eV 1 [some (.ref 0),some (.ref 1),some (.ref 2),some (.ref 3),q4,q5,q6,q7,q8,q9,none,none] c2=some (.ref 1,c2)from rfl,Option.bind_some]
  dsimp only
  rw[aT b2.r1,Option.bind_some]
  dsimp only
  rw[yS,Option.bind_some,if_pos (by rw[ln];omega)]
  rw[show Txt.join "\n" xs=Str.join "\n" xs from StrLaws.glued_eq_join "\n" xs]
 -- nE rows Ym are read
 obtain⟨ys,qs,hX,hlen,Ml,wA,Wr,FH⟩:∃(ys:List Str) (qs:List (Option (D×Int×Int))),Str.join "\n" ys=Str.join "\n" xs∧ys.length=qs.length∧(∀(i:Nat) x r,ys[i]? =some x→qs[i]? =some r→Row x r∧x.length≤3000∧10∉sg x)∧ys≠[]∧ys.length≤1000∧qs.filterMap id=rs.filterMap id:=by
  by_cases hx:xs=[]
  ·subst hx
   have O8:rs=[]:=List.length_eq_zero_iff.mp b2.len.symm
   subst O8
   refine⟨[Str.empty],[none],rfl,rfl,fun i x r h1 h2=>?_,by simp,by simp,rfl⟩
   match i with
   |0=>
    cases h1;cases h2
    exact⟨.blank rfl,by decide,by decide⟩
   |i+1=>simp at h1
  ·exact⟨xs,rs,rfl,b2.len,b2.rows,hx,by omega,rfl⟩
 have hT:(Str.join "\n" ys).length≤100000:=by rw[hX];omega
 have bk:∀c:Cells,∃c',cE [.str (Str.join "\n" xs)] c=some (.ref c.length,c')∧c'[c.length]? =some (.lst ((rs.filterMap id).map rl))∧c <+:c':=fun c=>by
  have:=Mg (c:=c) hlen Ml wA Wr hT
  rw[hX,FH]at this
  exact this
 have pl:∀d∈(rs.filterMap id).map rl,Pl 50 d:=by
  intro d hd
  obtain⟨r,hr,rfl⟩:=List.mem_map.mp hd
  exact(Mh (b2.tr r hr)).mono _ (by decide)
 have fl:((rs.filterMap id).map rl).length≤900:=by
  rw[List.length_map]
  refine Nat.le_trans (List.length_filterMap_le _ _) ?_
  have:=b2.len;omega
 obtain⟨c3,e3,q3,p3⟩:=bk c2
 have d3:=cK p3 b2.d2
 obtain⟨c4,e4,p4⟩:=uf q3 d3 pl fl
 have Qh:=cK p4 q3
 have d4:=cK p4 d3
 have l4:=aT Qh
 have ap:=da (y:=.int 7) Qh (by omega)
 have d5:(c4.set c2.length (.lst ((rs.filterMap id).map rl++[.int 7])))[2]? =some (.lst ((rs.filterMap id).map rl)):=by rw[List.getElem?_set,if_neg (by omega)];exact d4
 generalize c4.set c2.length (.lst ((rs.filterMap id).map rl++[.int 7]))=c5 at ap d5
 obtain⟨c6,e6,Ws,p6⟩:=bk c5
 obtain⟨c7,e7,p7⟩:=uf Ws (cK p6 d5) pl fl
 refine⟨c7,?_⟩
 generalize Str.join "\n" xs=X at ej e3 e6
 have run:tY [some (.ref 0),none,none,none,none,none,none,none,none,none,none,none] [.ro (ns.map D.int)]=some (.rt (.bl true),[some (.ref 0),some (.ref 1),some (.ref 2),some (.ref 3),q4,q5,q6,q7,q8,q9,some (.str X),some (.ref c2.length)],c7):=by
  unfold tY
  refine az (σ1:=[some (.ref 0),some (.ref 1),none,none,none,none,none,none,none,none,none,none]) (c1:=[.ro (ns.map D.int),.lst []]) (by erw[jq]) ?_
  refine az (σ1:=[some (.ref 0),some (.ref 1),some (.ref 2),none,none,none,none,none,none,none,none,none]) (c1:=[.ro (ns.map D.int),.lst [],.lst []]) (by erw[jq]) ?_
  refine az (σ1:=[some (.ref 0),some (.ref 1),some (.ref 2),some (.ref 3),none,none,none,none,none,none,none,none]) (c1:=[.ro (ns.map D.int),.lst [],.lst [],.lst []]) (by erw[jq]) ?_
  refine az f1 ?_
  refine az e2 ?_
  refine az (σ1:=[some (.ref 0),some (.ref 1),some (.ref 2),some (.ref 3),q4,q5,q6,q7,q8,q9,some (.str X),none]) (c1:=c2) (by rw[qD,ej];rfl) ?_
  refine az (σ1:=[some (.ref 0),some (.ref 1),some (.ref 2),some (.ref 3),q4,q5,q6,q7,q8,q9,some (.str X),some (.ref c2.length)]) (c1:=c3) (by erw[e3]) ?_
  refine az (σ1:=[some (.ref 0),some (.ref 1),some (.ref 2),some (.ref 3),q4,q5,q6,q7,q8,q9,some (.str X),some (.ref c2.length)]) (c1:=c4) (by erw[e4]) ?_
  refine az (σ1:=[some (.ref 0),some (.ref 1),some (.ref 2),some (.ref 3),q4,q5,q6,q7,q8,q9,some (.str X),some (.ref c2.length)]) (c1:=c5) (by erw[l4,ap]) ?_
  erw[e6,e7]
 erw[oi,run]
end wM
set_option maxHeartbeats 4000000
namespace wM
open PySem L2
def top(i:Nat):Stmt:=PySem.Challenge.pw_sheetlay_k45_books_read.main.body.getD i (.Pass ⟨0,0,0,0⟩)
set_option genInjectivity false in
structure Qi where
 lG:Tok
 lH:Tok
 eF:Addr
 oy:Addr
 oz:FuncData
 qO:Addr
 nC:FuncData
 CI:Tok
 oA:Addr
 oB:FuncData
 ju:Addr
 jv:FuncData
 ke:Addr
 kf:FuncData
 oC:Addr
 oD:FuncData
 jw:Addr
 jx:FuncData
 mP:Addr
 mQ:FuncData
 lI:Addr
 lJ:FuncData
 iM:Addr
 iN:FuncData
 iO:Addr
 iP:FuncData
 gd:Addr
 gf:FuncData
 kg:Addr
 kh:FuncData
 lK:Addr
 lL:FuncData
 ki:Addr
 kj:FuncData
 gP:Addr
 gQ:FuncData
 lM:Addr
 lN:FuncData
 lO:Addr
 lQ:FuncData
 jy:Addr
 jz:FuncData
 mR:Addr
 mS:FuncData
 mT:Addr
 mU:FuncData
 mV:Addr
 mW:FuncData
 lR:Addr
 lS:FuncData
 i5:Addr
 i6:FuncData
 kl:Addr
 km:FuncData
 lT:Addr
 lV:FuncData
 gR:Addr
 gU:FuncData
 kn:Addr
 ko:FuncData
 i7:Addr
 i8:FuncData
 Ay:Addr
 ui:FuncData
structure Txt(K:PySem.W.Frag)(mg:Str→Option Value)(t:Qi):Prop where
 jA:mg "LETTERS" =some (.str "abcdefghijklmnopqrstuvwxyz" t.lG)
 hZ:mg "FIGURES" =some (.str "0123456789" t.lH)
 fH:mg "KEPT_WORDS" =some (.ref t.eF)
 uT:yy K t.eF ["and","or","not","any"]
 fZ:eJ K "divisor" "divisor" (top 4) t.oy t.oz
 Az:mg "divisor" =some (.ref t.oy)
 AA:Binds K t.oz ["n","m"] []
 eY:vn K "number" "number" (top 5) t.qO t.nC
 CJ:mg "number" =some (.ref t.qO)
 CK:Binds K t.nC ["n","d"] []
 Mm:Binds K t.nC ["n","d"] [Value.int 1 t.CI]
 dF:eJ K "figures" "figures" (top 6) t.oA t.oB
 uj:mg "figures" =some (.ref t.oA)
 uk:Binds K t.oB ["n"] []
 cI:eJ K "number_text" "number_text" (top 7) t.ju t.jv
 um:mg "number_text" =some (.ref t.ju)
 uo:Binds K t.jv ["a"] []
 bX:eJ K "is_made_of" "is_made_of" (top 11) t.ke t.kf
 kq:mg "is_made_of" =some (.ref t.ke)
 kr:Binds K t.kf ["signs","text","most"] []
 f_:eJ K "is_word" "is_word" (top 12) t.oC t.oD
 AB:mg "is_word" =some (.ref t.oC)
 AD:Binds K t.oD ["text"] []
 dh:eJ K "read_number" "read_number" (top 13) t.jw t.jx
 uq:mg "read_number" =some (.ref t.jw)
 ur:Binds K t.jx ["text"] []
 cJ:eJ K "words_of" "words_of" (top 16) t.mP t.mQ
 rz:mg "words_of" =some (.ref t.mP)
 rA:Binds K t.mQ ["row"] []
 bJ:eJ K "parted_by" "parted_by" (top 17) t.lI t.lJ
 pV:mg "parted_by" =some (.ref t.lI)
 pW:Binds K t.lJ ["word","some"] []
 bu:eJ K "put_together" "put_together" (top 18) t.iM t.iN
 mh:mg "put_together" =some (.ref t.iM)
 mi:Binds K t.iN ["kind","some"] []
 bZ:eJ K "is_free_word" "is_free_word" (top 19) t.iO t.iP
 mj:mg "is_free_word" =some (.ref t.iO)
 ml:Binds K t.iP ["thing"] []
 bD:eJ K "read_bare_thing" "read_bare_thing" (top 20) t.gd t.gf
 oE:mg "read_bare_thing" =some (.ref t.gd)
 oF:Binds K t.gf ["some"] []
 cD:eJ K "read_thing" "read_thing" (top 21) t.kg t.kh
 uU:mg "read_thing" =some (.ref t.kg)
 uV:Binds K t.kh ["some"] []
 dw:eJ K "read_part" "read_part" (top 22) t.lK t.lL
 xb:mg "read_part" =some (.ref t.lK)
 xc:Binds K t.lL ["some"] []
 cm:eJ K "read_parts" "read_parts" (top 23) t.ki t.kj
 nQ:mg "read_parts" =some (.ref t.ki)
 nR:Binds K t.kj ["some"] []
 cu:eJ K "read_condition" "read_condition" (top 24) t.gP t.gQ
 pX:mg "read_condition" =some (.ref t.gP)
 pY:Binds K t.gQ ["words"] []
 dA:eJ K "read_rule" "read_rule" (top 25) t.lM t.lN
 xf:mg "read_rule" =some (.ref t.lM)
 xg:Binds K t.lN ["row"] []
 cE:eJ K "read_book" "read_book" (top 26) t.lO t.lQ
 pZ:mg "read_book" =some (.ref t.lO)
 p_:Binds K t.lQ ["text"] []
 aY:eJ K "_law_cell_at" "_law_cell_at" (top 28) t.jy t.jz
 gW:mg "_law_cell_at" =some (.ref t.jy)
 gX:Binds K t.jz ["_law_script","_law_k"] []
 au:eJ K "_law_take" "_law_take" (top 29) t.mR t.mS
 bj:mg "_law_take" =some (.ref t.mR)
 bo:Binds K t.mS ["_law_left_here","_law_many"] []
 dS:eJ K "_law_left" "_law_left" (top 30) t.mT t.mU
 yT:mg "_law_left" =some (.ref t.mT)
 yU:Binds K t.mU ["_law_script","_law_k"] []
 cg:eJ K "_law_word" "_law_word" (top 31) t.mV t.mW
 rB:mg "_law_word" =some (.ref t.mV)
 rC:Binds K t.mW ["_law_left_here"] []
 i4:eJ K "_law_thing" "_law_thing" (top 32) t.lR t.lS
 qa:mg "_law_thing" =some (.ref t.lR)
 qb:Binds K t.lS ["_law_left_here","_law_words","_law_room"] []
 cw:eJ K "_law_built" "_law_built" (top 33) t.i5 t.i6
 i9:mg "_law_built" =some (.ref t.i5)
 i_:Binds K t.i6 ["_law_left_here","_law_words","_law_room","_law_word_here"] []
 dG:eJ K "_law_lowest" "_law_lowest" (top 34) t.kl t.km
 uW:mg "_law_lowest" =some (.ref t.kl)
 uX:Binds K t.km ["_law_above","_law_below"] []
 dC:eJ K "_law_worth" "_law_worth" (top 35) t.lT t.lV
 xi:mg "_law_worth" =some (.ref t.lT)
 xj:Binds K t.lV ["_law_left_here"] []
 bK:eJ K "_law_worth_text" "_law_worth_text" (top 36) t.gR t.gU
 qc:mg "_law_worth_text" =some (.ref t.gR)
 qd:Binds K t.gU ["_law_pair"] []
 cY:eJ K "_law_spaced" "_law_spaced" (top 37) t.kn t.ko
 uY:mg "_law_spaced" =some (.ref t.kn)
 uZ:Binds K t.ko ["_law_left_here","_law_some"] []
 cW:eJ K "_law_alike" "_law_alike" (top 38) t.i7 t.i8
 lW:mg "_law_alike" =some (.ref t.i7)
 lX:Binds K t.i8 ["_law_got","_law_due"] []
 oi:eJ K "law" "law" (top 39) t.Ay t.ui
 Mn:mg "law" =some (.ref t.Ay)
 Wt:Binds K t.ui ["_law_script"] []
 mX:mg "abs" =none
 qP:mg "all" =none
 nD:mg "bool" =none
 gY:mg "enumerate" =none
 h_:mg "int" =none
 bc:mg "isinstance" =none
 fw:mg "len" =none
 jY:mg "list" =none
 uu:mg "min" =none
 fI:mg "range" =none
 iG:mg "reversed" =none
 jB:mg "str" =none
 iH:mg "tuple" =none
 qQ:mg "zip" =none
section
open L2.Zu
variable{P:Program}{w:World}{K:PySem.W.Frag}{mg:Str→Option Value}{base:Heap}{t:Qi}
theorem jZ:aU ["n","m","rest"] ["n","m"] (av (top 4)):=⟨rfl,rfl,rfl,by decide +kernel,rfl,by decide +kernel,by decide +kernel⟩
theorem yV(T:Txt K mg t):bM P w K mg base dj 1 t.oy t.oz ["n","m"] (dN K fZ):=by
 refine T.fZ.fW (n:=2) (m:=3) (B:=lz) jZ rfl rfl (by decide) rfl fun bF A outer s H E hr=>?_
 unfold lz
 exact(aq (nj PassesOwn.never (aK (iX hr.units) ll (aj 1 (pv 1)) ar (aH _)) (aq (aC (i:=2) jZ.nd rfl (Or.inl rfl) (aL eK gC (aj 0 (pv 0)) (aj 1 (pv 1))))
   (aq (aC (i:=0) jZ.nd rfl (Or.inl rfl) (aj 1 (pv 1)))
   (ax (aC (i:=1) jZ.nd rfl (Or.inl rfl) (aj 2 (pv 2)))))))
   (ax (aR (aS ng rV (by rfl) T.mX rQ (ah (aj 0 (pv 0)) ao)))))
theorem oG:aU ["n","d","shared"] ["n","d"] (av (top 5)):=⟨rfl,rfl,rfl,by decide +kernel,rfl,by decide +kernel,by decide +kernel⟩
theorem AE(T:Txt K mg t):bM P w K mg base dj 2 t.qO t.nC ["n","d"] (dN K eY):=by
 refine T.eY.fW (n:=2) (m:=3) (B:=kK) oG rfl rfl (by decide) rfl fun bF A outer s H E hr=>?_
 unfold kK
 exact(aq (aC (i:=2) oG.nd rfl (Or.inl rfl) (aB [] (yV T) (hr.mono (by decide)) (by rfl) T.Az T.fZ.kp T.AA .nil (fun _ _ _=>.nil) (ah (aj 0 (pv 0)) (ah (aj 1 (pv 1)) ao))))
   (aq (bL (aK kP kX (aj 1 (pv 1)) ar (aH _)) (ax (aC (i:=2) oG.nd rfl (Or.inl rfl) (jJ (aj 2 (pv 2))))) aX)
   (ax (aR (cC (ah (aL dM eO (aj 0 (pv 0)) (aj 2 (pv 2))) (ah (aL dM eO (aj 1 (pv 1)) (aj 2 (pv 2))) ao)))))))
theorem j5:aU ["n","run","parts"] ["n"] (av (top 6)):=⟨rfl,rfl,rfl,by decide +kernel,rfl,by decide +kernel,by decide +kernel⟩
theorem rD(T:Txt K mg t):bM P w K mg base dj 1 t.oA t.oB ["n"] (dN K dF):=by
 refine T.dF.fW (n:=1) (m:=3) (B:=jo) j5 rfl rfl (by decide) rfl fun bF A outer s H E hr=>?_
 unfold jo
 exact(aq (aC (i:=1) j5.nd rfl (Or.inl rfl) (aL AK A5 ar ar))
   (aq (aC (i:=2) j5.nd rfl (Or.inl rfl) (bQ ao))
   (aq (nj PassesOwn.never (aK Kf KN (aj 0 (pv 0)) (aj 1 (pv 1)) (aH _)) (aq (dv (jK PySem.F.slot_list_append PySem.F.type_list_append b_ cq (aj 2 (pv 2)) (ah ED ao)))
   (ax (aC (i:=0) j5.nd rfl (Or.inl rfl) (aL dM eO (aj 0 (pv 0)) (aj 1 (pv 1)))))))
   (aq (dv (jK PySem.F.slot_list_append PySem.F.type_list_append b_ cq (aj 2 (pv 2)) (ah (cR ic pJ (by rfl) T.jB kS (ah (aj 0 (pv 0)) ao)) ao)))
   (ax (aR (yx rfl (by rfl) T.iG (aj 2 (pv 2)))))))))
theorem fQ:aU ["a","text"] ["a"] (av (top 7)):=⟨rfl,rfl,rfl,by decide +kernel,rfl,by decide +kernel,by decide +kernel⟩
theorem rM(T:Txt K mg t):bM P w K mg base dj 2 t.ju t.jv ["a"] (dN K cI):=by
 refine T.cI.fW (n:=1) (m:=2) (B:=dg) fQ rfl rfl (by decide) rfl fun bF A outer s H E hr=>?_
 unfold dg
 exact(aq (aC (i:=1) fQ.nd rfl (Or.inl rfl) (aB [] (rD T) (hr.mono (by decide)) (by rfl) T.uj T.dF.kp T.uk .nil (fun _ _ _=>.nil) (ah (aS ng rV (by rfl) T.mX rQ (ah (aJ (aj 0 (pv 0)) ar (fun _ _=>rfl)) ao)) ao)))
   (aq (bL (aK kP kX (aJ (aj 0 (pv 0)) ar (fun _ _=>rfl)) ar (aH _)) (ax (aC (i:=1) fQ.nd rfl (Or.inl rfl) (aL cX fC aN (aj 1 (pv 1))))) aX)
   (aq (bL (aK (iX hr.units) ll (aJ (aj 0 (pv 0)) ar (fun _ _=>rfl)) ar (aH _)) (ax (aC (i:=1) fQ.nd rfl (Or.inl rfl) (aL cX fC (aL cX fC (aj 1 (pv 1)) aN) (aB [] (rD T) (hr.mono (by decide)) (by rfl) T.uj T.dF.kp T.uk .nil (fun _ _ _=>.nil) (ah (aJ (aj 0 (pv 0)) ar (fun _ _=>rfl)) ao))))) aX)
   (ax (aR (aj 1 (pv 1)))))))
theorem uv:aU ["signs","text","most"] ["signs","text","most"] (av (top 11)):=⟨rfl,rfl,rfl,by decide +kernel,rfl,by decide +kernel,by decide +kernel⟩
theorem jC(T:Txt K mg t):bM P w K mg base dj 1 t.ke t.kf ["signs","text","most"] (dN K bX):=by
 refine T.bX.fW (n:=3) (m:=3) (B:=ik) uv rfl rfl (by decide) rfl fun bF A outer s H E hr=>?_
 unfold ik
 exact(ax (aR (pA (B6 Di D7 Di D7 ar (aS uM EN (by rfl) T.fw fL (ah (aj 1 (pv 1)) ao)) (aj 2 (pv 2))) (rS (aS (tK rfl) Bb (by rfl) T.qP Bc (ah (mG (N':=["sign","signs"]) (cap:=[none,some 0]) (pb (sc:=av (top 11)) (NN:=["signs","text","most"]) rfl rfl rfl (by decide +kernel) (by decide +kernel) (by decide +kernel) (by decide +kernel)) rfl (Cq (aj 1 (pv 1))) (fun _ _ _ _=>(bz (i:=0) (show List.Nodup (["sign","signs"]:List Str)by decide +kernel) rfl (Or.inl rfl))) (fun _ _ _ _=>lj) (fun _ _ _ _=>(kW zm Hu (aj 0 (pv 0)) (aj 1 (pv 1)) (by with_unfolding_all rfl)))) ao))))))
theorem yW:aU ["text"] ["text"] (av (top 12)):=⟨rfl,rfl,rfl,by decide +kernel,rfl,by decide +kernel,by decide +kernel⟩
theorem yX(T:Txt K mg t):bM P w K mg base dj 2 t.oC t.oD ["text"] (dN K f_):=by
 refine T.f_.fW (n:=1) (m:=1) (B:=lA) yW rfl rfl (by decide) rfl fun bF A outer s H E hr=>?_
 unfold lA
 exact(ax (aR (aB [] (jC T) (hr.mono (by decide)) (by rfl) T.kq T.bX.kp T.kr .nil (fun _ _ _=>.nil) (ah (fB (.str "abcdefghijklmnopqrstuvwxyz") (oQ (v:=.str "abcdefghijklmnopqrstuvwxyz") (by rfl) T.jA ⟨_,rfl⟩) fun _ _ _=>.str "abcdefghijklmnopqrstuvwxyz") (ah (aj 0 (pv 0)) (ah ar ao))))))
theorem eE:aU ["text","parts","above","below","told"] ["text"] (av (top 13)):=⟨rfl,rfl,rfl,by decide +kernel,rfl,by decide +kernel,by decide +kernel⟩
theorem rN(T:Txt K mg t):bM P w K mg base dj 3 t.jw t.jx ["text"] (dN K dh):=by
 refine T.dh.fW (n:=1) (m:=5) (B:=eS) eE rfl rfl (by decide) rfl fun bF A outer s H E hr=>?_
 unfold eS
 exact(aq (aC (i:=1) eE.nd rfl (Or.inl rfl) (tP PySem.F.slot_str_partition PySem.F.type_str_partition Cn Co (aj 0 (pv 0)) (ah aN ao)))
   (aq (aC (i:=2) eE.nd rfl (Or.inl rfl) (hJ (iU (tP PySem.F.slot_str_startswith PySem.F.type_str_startswith tQ tR (aj 0 (pv 0)) (ah aN ao))) (EU (aJ (aj 1 (pv 1)) ar (fun _ _=>rfl))) (aJ (aj 1 (pv 1)) ar (fun _ _=>rfl))))
   (aq (aC (i:=3) eE.nd rfl (Or.inl rfl) (hJ (wJ (aJ (aj 1 (pv 1)) ar (fun _ _=>rfl))) (aJ (aj 1 (pv 1)) ar (fun _ _=>rfl)) aN))
   (aq (bL (PW.pt (k_ (rT (iU (aB [] (jC T) (hr.mono (by decide)) (by rfl) T.kq T.bX.kp T.kr .nil (fun _ _ _=>.nil) (ah (fB (.str "0123456789") (oQ (v:=.str "0123456789") (by rfl) T.hZ ⟨_,rfl⟩) fun _ _ _=>.str "0123456789") (ah (aj 2 (pv 2)) (ah ar ao)))))) (k_ (rT (iU (aB [] (jC T) (hr.mono (by decide)) (by rfl) T.kq T.bX.kp T.kr .nil (fun _ _ _=>.nil) (ah (fB (.str "0123456789") (oQ (v:=.str "0123456789") (by rfl) T.hZ ⟨_,rfl⟩) fun _ _ _=>.str "0123456789") (ah (aj 3 (pv 3)) (ah ar ao)))))) (kZ (aK (bN hr.units) cS (cR ly pI (by rfl) T.h_ iT (ah (aj 3 (pv 3)) ao)) ar (aH _)))))) (ax (aR dZ)) aX)
   (aq (aC (i:=4) eE.nd rfl (Or.inl rfl) (aB [] (AE T) (hr.mono (by decide)) (by rfl) T.CJ T.eY.kp T.CK .nil (fun _ _ _=>.nil) (ah (hJ (iU (tP PySem.F.slot_str_startswith PySem.F.type_str_startswith tQ tR (aj 0 (pv 0)) (ah aN ao))) (jJ (cR ly pI (by rfl) T.h_ iT (ah (aj 2 (pv 2)) ao))) (cR ly pI (by rfl) T.h_ iT (ah (aj 2 (pv 2)) ao))) (ah (cR ly pI (by rfl) T.h_ iT (ah (aj 3 (pv 3)) ao)) ao))))
   (ax (aR (hJ (aK (bN hr.units) cS (aB [] (rM T) (hr.mono (by decide)) (by rfl) T.um T.cI.kp T.uo .nil (fun _ _ _=>.nil) (ah (aj 4 (pv 4)) ao)) (aj 0 (pv 0)) (aH _)) (aj 4 (pv 4)) dZ))))))))
theorem qe:aU ["row","sign"] ["row"] (av (top 16)):=⟨rfl,rfl,rfl,by decide +kernel,rfl,by decide +kernel,by decide +kernel⟩
theorem qf(T:Txt K mg t):bM P w K mg base dj 1 t.mP t.mQ ["row"] (dN K cJ):=by
 refine T.cJ.fW (n:=1) (m:=2) (B:=jQ) qe rfl rfl (by decide) rfl fun bF A outer s H E hr=>?_
 unfold jQ
 exact(aq (Al (Aj (i:=0) (j:=1) PassesOwn.never rfl qe.nd rfl rfl (by decide) rfl rfl (by decide +kernel)))
   (ax (aR (mG (N':=["word"]) (cap:=[none]) (pb (sc:=av (top 16)) (NN:=["row","sign"]) rfl rfl rfl (by decide +kernel) (by decide +kernel) (by decide +kernel) (by decide +kernel)) rfl (kG (tP PySem.F.slot_str_split PySem.F.type_str_split vA vB (aj 0 (pv 0)) (ah aN ao))) (fun _ _ _ _=>(bz (i:=0) (show List.Nodup (["word"]:List Str)by decide +kernel) rfl (Or.inl rfl))) (fun _ _ _ _=>(B8 (wJ (aj 0 (pv 0))))) (fun _ _ _ _=>(aj 0 (pv 0)))))))
theorem ku:aU ["word","some","parts","thing"] ["word","some"] (av (top 17)):=⟨rfl,rfl,rfl,by decide +kernel,rfl,by decide +kernel,by decide +kernel⟩
theorem nS(T:Txt K mg t):bM P w K mg base dj 1 t.lI t.lJ ["word","some"] (dN K bJ):=by
 refine T.bJ.fW (n:=2) (m:=4) (B:=iY) ku rfl rfl (by decide) rfl fun bF A outer s H E hr=>?_
 unfold iY
 exact(aq (aC (i:=2) ku.nd rfl (Or.inl rfl) (bQ (ah (bQ ao) ao)))
   (aq (ie PassesOwn.never rfl (kG (aj 1 (pv 1))) (bz (i:=3) ku.nd rfl (Or.inl rfl)) (ax (bL (aK (bN hr.units) wF (aj 3 (pv 3)) (aj 0 (pv 0)) (aH _)) (ax (dv (jK PySem.F.slot_list_append PySem.F.type_list_append b_ cq (aj 2 (pv 2)) (ah (bQ ao) ao)))) (ax (dv (jK PySem.F.slot_list_append PySem.F.type_list_append b_ cq (aJ (aj 2 (pv 2)) (jJ ar) (fun _ _=>rfl)) (ah (aj 3 (pv 3)) ao)))))))
   (ax (aR (aj 2 (pv 2))))))
theorem ff:aU ["kind","some","whole","thing"] ["kind","some"] (av (top 18)):=⟨rfl,rfl,rfl,by decide +kernel,rfl,by decide +kernel,by decide +kernel⟩
theorem kM(T:Txt K mg t):bM P w K mg base dj 1 t.iM t.iN ["kind","some"] (dN K bu):=by
 refine T.bu.fW (n:=2) (m:=4) (B:=fO) ff rfl rfl (by decide) rfl fun bF A outer s H E hr=>?_
 unfold fO
 exact(aq (bL (aK (Ba hr.units) HB dZ (aj 1 (pv 1)) (by with_unfolding_all rfl)) (ax (aR dZ)) aX)
   (aq (aC (i:=2) ff.nd rfl (Or.inl rfl) (aJ (aj 1 (pv 1)) ar (fun _ _=>rfl)))
   (aq (ie PassesOwn.never rfl (kG (qx (aj 1 (pv 1)) (tD ar) tu)) (bz (i:=3) ff.nd rfl (Or.inl rfl)) (ax (aC (i:=2) ff.nd rfl (Or.inl rfl) (cC (ah (aj 0 (pv 0)) (ah (aj 2 (pv 2)) (ah (aj 3 (pv 3)) ao)))))))
   (ax (aR (aj 2 (pv 2)))))))
theorem qR:aU ["thing"] ["thing"] (av (top 19)):=⟨rfl,rfl,rfl,by decide +kernel,rfl,by decide +kernel,by decide +kernel⟩
theorem kN(T:Txt K mg t):bM P w K mg base dj 3 t.iO t.iP ["thing"] (dN K bZ):=by
 refine T.bZ.fW (n:=1) (m:=1) (B:=fP) qR rfl rfl (by decide) rfl fun bF A outer s H E hr=>?_
 unfold fP
 exact(ax (aR (pA (aS c_ eX (by rfl) T.bc bw (ah (aj 0 (pv 0)) (ah (fB (.ty "str") (dm (v:=.ty "str") (by rfl) T.jB kS rfl) fun _ _ _=>.ty "str") ao))) (pA (aB [] (yX T) (hr.mono (by decide)) (by rfl) T.AB T.f_.kp T.AD .nil (fun _ _ _=>.nil) (ah (aj 0 (pv 0)) ao)) (rS (yz hr.units (by rfl) T.fH T.uT (by decide +kernel) (aj 0 (pv 0))))))))
theorem nI:aU ["some"] ["some"] (av (top 20)):=⟨rfl,rfl,rfl,by decide +kernel,rfl,by decide +kernel,by decide +kernel⟩
theorem nJ(T:Txt K mg t):bM P w K mg base dj 4 t.gd t.gf ["some"] (dN K bD):=by
 refine T.bD.fW (n:=1) (m:=1) (B:=cB) nI rfl rfl (by decide) rfl fun bF A outer s H E hr=>?_
 unfold cB
 exact(aq (bL (aK (bN hr.units) wF (aj 0 (pv 0)) (bQ (ah aN ao)) (aH _)) (ax (aR (cC (ah aN ao)))) aX)
   (aq (bL (PW.pt (iV (aK (bN hr.units) cS (aS bU gD (by rfl) T.fw fL (ah (aj 0 (pv 0)) ao)) ar (aH _)) (kF (iU (aS c_ eX (by rfl) T.bc bw (ah (aJ (aj 0 (pv 0)) ar (fun _ _=>rfl)) (ah (fB (.ty "tuple") (dm (v:=.ty "tuple") (by rfl) T.iH ni rfl) fun _ _ _=>.ty "tuple") ao))))))) (ax (aR (aJ (aj 0 (pv 0)) ar (fun _ _=>rfl)))) aX)
   (aq (bL (PW.pt (iV (aK (bN hr.units) cS (aS bU gD (by rfl) T.fw fL (ah (aj 0 (pv 0)) ao)) ar (aH _)) (iV (iU (aB [] (kN T) (hr.mono (by decide)) (by rfl) T.mj T.bZ.kp T.ml .nil (fun _ _ _=>.nil) (ah (aJ (aj 0 (pv 0)) ar (fun _ _=>rfl)) ao))) (kF (iU (aB [] (kN T) (hr.mono (by decide)) (by rfl) T.mj T.bZ.kp T.ml .nil (fun _ _ _=>.nil) (ah (aJ (aj 0 (pv 0)) ar (fun _ _=>rfl)) ao))))))) (ax (aR (cC (ah aN (ah (aJ (aj 0 (pv 0)) ar (fun _ _=>rfl)) (ah (aJ (aj 0 (pv 0)) ar (fun _ _=>rfl)) ao)))))) aX)
   (ax (aR dZ)))))
theorem dR:aU ["some","count","thing","k"] ["some"] (av (top 21)):=⟨rfl,rfl,rfl,by decide +kernel,rfl,by decide +kernel,by decide +kernel⟩
theorem uw(T:Txt K mg t):bM P w K mg base dj 5 t.kg t.kh ["some"] (dN K cD):=by
 refine T.cD.fW (n:=1) (m:=4) (B:=fE) dR rfl rfl (by decide) rfl fun bF A outer s H E hr=>?_
 unfold fE
 exact(aq (aC (i:=1) dR.nd rfl (Or.inl rfl) ar)
   (aq (nj PassesOwn.never (PW.pt (iV (aK kP kX (aj 1 (pv 1)) (aS bU gD (by rfl) T.fw fL (ah (aj 0 (pv 0)) ao)) (aH _)) (kF (aK (bN hr.units) wF (aJ (aj 0 (pv 0)) (aj 1 (pv 1)) (fun _ _=>rfl)) aN (aH _))))) (ax (aC (i:=1) dR.nd rfl (Or.inl rfl) (aL cH du (aj 1 (pv 1)) ar))))
   (aq (aC (i:=2) dR.nd rfl (Or.inl rfl) (aB [] (nJ T) (hr.mono (by decide)) (by rfl) T.oE T.bD.kp T.oF .nil (fun _ _ _=>.nil) (ah (qx (aj 0 (pv 0)) (tD (aj 1 (pv 1))) tu) ao)))
   (aq (ie PassesOwn.never rfl (jj (by rfl) T.fI (ah (aj 1 (pv 1)) ao)) (bz (i:=3) dR.nd rfl (Or.inl rfl)) (ax (aC (i:=2) dR.nd rfl (Or.inl rfl) (hJ (aK oW pE (aj 2 (pv 2)) dZ (aH _)) dZ (cC (ah aN (ah (aj 2 (pv 2)) ao)))))))
   (ax (aR (aj 2 (pv 2))))))))
theorem u5:aU ["some"] ["some"] (av (top 22)):=⟨rfl,rfl,rfl,by decide +kernel,rfl,by decide +kernel,by decide +kernel⟩
theorem u6(T:Txt K mg t):bM P w K mg base dj 6 t.lK t.lL ["some"] (dN K dw):=by
 refine T.dw.fW (n:=1) (m:=1) (B:=iZ) u5 rfl rfl (by decide) rfl fun bF A outer s H E hr=>?_
 unfold iZ
 exact(ax (aR (aB [] (kM T) (hr.mono (by decide)) (by rfl) T.mh T.bu.kp T.mi .nil (fun _ _ _=>.nil) (ah aN (ah (mG (N':=["thing"]) (cap:=[none]) (pb (sc:=av (top 22)) (NN:=["some"]) rfl rfl rfl (by decide +kernel) (by decide +kernel) (by decide +kernel) (by decide +kernel)) rfl (kG (aB [] (nS T) (hr.mono (by decide)) (by rfl) T.pV T.bJ.kp T.pW .nil (fun _ _ _=>.nil) (ah aN (ah (aj 0 (pv 0)) ao)))) (fun _ _ _ _=>(bz (i:=0) (show List.Nodup (["thing"]:List Str)by decide +kernel) rfl (Or.inl rfl))) (fun _ _ _ _=>lj) (fun _ _ _ _=>(aB [] (uw T) (hr.mono (by decide)) (by rfl) T.uU T.cD.kp T.uV .nil (fun _ _ _=>.nil) (ah (aj 0 (pv 0)) ao)))) ao)))))
theorem uz:aU ["some"] ["some"] (av (top 23)):=⟨rfl,rfl,rfl,by decide +kernel,rfl,by decide +kernel,by decide +kernel⟩
theorem mY(T:Txt K mg t):bM P w K mg base dj 7 t.ki t.kj ["some"] (dN K cm):=by
 refine T.cm.fW (n:=1) (m:=1) (B:=ip) uz rfl rfl (by decide) rfl fun bF A outer s H E hr=>?_
 unfold ip
 exact(ax (aR (aB [] (kM T) (hr.mono (by decide)) (by rfl) T.mh T.bu.kp T.mi .nil (fun _ _ _=>.nil) (ah aN (ah (mG (N':=["part"]) (cap:=[none]) (pb (sc:=av (top 23)) (NN:=["some"]) rfl rfl rfl (by decide +kernel) (by decide +kernel) (by decide +kernel) (by decide +kernel)) rfl (kG (aB [] (nS T) (hr.mono (by decide)) (by rfl) T.pV T.bJ.kp T.pW .nil (fun _ _ _=>.nil) (ah aN (ah (aj 0 (pv 0)) ao)))) (fun _ _ _ _=>(bz (i:=0) (show List.Nodup (["part"]:List Str)by decide +kernel) rfl (Or.inl rfl))) (fun _ _ _ _=>lj) (fun _ _ _ _=>(aB [] (u6 T) (hr.mono (by decide)) (by rfl) T.xb T.dw.kp T.xc .nil (fun _ _ _=>.nil) (ah (aj 0 (pv 0)) ao)))) ao)))))
theorem en:aU ["words","unclosed","word","condition"] ["words"] (av (top 24)):=⟨rfl,rfl,rfl,by decide +kernel,rfl,by decide +kernel,by decide +kernel⟩
theorem oH(T:Txt K mg t):bM P w K mg base dj 8 t.gP t.gQ ["words"] (dN K cu):=by
 refine T.cu.fW (n:=1) (m:=4) (B:=dz) en rfl rfl (by decide) rfl fun bF A outer s H E hr=>?_
 unfold dz
 exact(aq (aC (i:=1) en.nd rfl (Or.inl rfl) (bQ (ah (bQ ao) ao)))
   (aq (ie PassesOwn.never rfl (kG (aj 0 (pv 0))) (bz (i:=2) en.nd rfl (Or.inl rfl)) (ax (bL (aK (bN hr.units) cS (aj 2 (pv 2)) aN (aH _)) (ax (dv (jK PySem.F.slot_list_append PySem.F.type_list_append b_ cq (aj 1 (pv 1)) (ah (bQ ao) ao)))) (ax (bL (aK (bN hr.units) cS (aj 2 (pv 2)) aN (aH _)) (aq (aC (i:=3) en.nd rfl (Or.inl rfl) (aB [] (mY T) (hr.mono (by decide)) (by rfl) T.nQ T.cm.kp T.nR .nil (fun _ _ _=>.nil) (ah (KQ PySem.F.slot_list_pop PySem.F.type_list_pop GO Hv (aj 1 (pv 1))) ao)))
   (aq (bL (PW.pt (k_ (aK oW pE (aj 3 (pv 3)) dZ (aH _)) (kZ (rT (wJ (aj 1 (pv 1))))))) (ax (aR dZ)) aX)
   (ax (dv (jK PySem.F.slot_list_append PySem.F.type_list_append b_ cq (aJ (aj 1 (pv 1)) (jJ ar) (fun _ _=>rfl)) (ah (aj 3 (pv 3)) ao)))))) (ax (dv (jK PySem.F.slot_list_append PySem.F.type_list_append b_ cq (aJ (aj 1 (pv 1)) (jJ ar) (fun _ _=>rfl)) (ah (aj 2 (pv 2)) ao)))))))))
   (ax (aR (hJ (aK (bN hr.units) cS (aS bU gD (by rfl) T.fw fL (ah (aj 1 (pv 1)) ao)) ar (aH _)) (aB [] (mY T) (hr.mono (by decide)) (by rfl) T.nQ T.cm.kp T.nR .nil (fun _ _ _=>.nil) (ah (aJ (aj 1 (pv 1)) ar (fun _ _=>rfl)) ao)) dZ)))))
theorem ir:aU ["row","words","condition","amount"] ["row"] (av (top 25)):=⟨rfl,rfl,rfl,by decide +kernel,rfl,by decide +kernel,by decide +kernel⟩
theorem u7(T:Txt K mg t):bM P w K mg base dj 9 t.lM t.lN ["row"] (dN K dA):=by
 refine T.dA.fW (n:=1) (m:=4) (B:=gF) ir rfl rfl (by decide) rfl fun bF A outer s H E hr=>?_
 unfold gF
 exact(aq (aC (i:=1) ir.nd rfl (Or.inl rfl) (aB [] (qf T) (hr.mono (by decide)) (by rfl) T.rz T.cJ.kp T.rA .nil (fun _ _ _=>.nil) (ah (aj 0 (pv 0)) ao)))
   (aq (bL (PW.pt (k_ (aK kP kX (aS bU gD (by rfl) T.fw fL (ah (aj 1 (pv 1)) ao)) ar (aH _)) (kZ (aK (iX hr.units) ll (aJ (aj 1 (pv 1)) (jJ ar) (fun _ _=>rfl)) aN (aH _))))) (ax (aR dZ)) aX)
   (aq (aC (i:=2) ir.nd rfl (Or.inl rfl) (aB [] (oH T) (hr.mono (by decide)) (by rfl) T.pX T.cu.kp T.pY .nil (fun _ _ _=>.nil) (ah (qx (aj 1 (pv 1)) tu (tD (jJ ar))) ao)))
   (aq (aC (i:=3) ir.nd rfl (Or.inl rfl) (aB [] (rN T) (hr.mono (by decide)) (by rfl) T.uq T.dh.kp T.ur .nil (fun _ _ _=>.nil) (ah (aJ (aj 1 (pv 1)) (jJ ar) (fun _ _=>rfl)) ao)))
   (ax (aR (hJ (PW.pt (k_ (aK oW pE (aj 2 (pv 2)) dZ (aH _)) (kZ (aK oW pE (aj 3 (pv 3)) dZ (aH _))))) dZ (cC (ah (aj 2 (pv 2)) (ah (aj 3 (pv 3)) ao))))))))))
theorem fJ:aU ["text","book","rows","k","rule"] ["text"] (av (top 26)):=⟨rfl,rfl,rfl,by decide +kernel,rfl,by decide +kernel,by decide +kernel⟩
theorem nT(T:Txt K mg t):bM P w K mg base dj 10 t.lO t.lQ ["text"] (dN K cE):=by
 refine T.cE.fW (n:=1) (m:=5) (B:=gG) fJ rfl rfl (by decide) rfl fun bF A outer s H E hr=>?_
 unfold gG
 exact(aq (aC (i:=1) fJ.nd rfl (Or.inl rfl) (bQ ao))
   (aq (aC (i:=2) fJ.nd rfl (Or.inl rfl) (tP PySem.F.slot_str_split PySem.F.type_str_split vA vB (aj 0 (pv 0)) (ah aN ao)))
   (aq (ie PassesOwn.never rfl (jj (by rfl) T.fI (ah (aS bU gD (by rfl) T.fw fL (ah (aj 2 (pv 2)) ao)) ao)) (bz (i:=3) fJ.nd rfl (Or.inl rfl)) (ax (bL (wJ (aB [] (qf T) (hr.mono (by decide)) (by rfl) T.rz T.cJ.kp T.rA .nil (fun _ _ _=>.nil) (ah (aJ (aj 2 (pv 2)) (aj 3 (pv 3)) (fun _ _=>rfl)) ao))) (aq (aC (i:=4) fJ.nd rfl (Or.inl rfl) (aB [] (u7 T) (hr.mono (by decide)) (by rfl) T.xf T.dA.kp T.xg .nil (fun _ _ _=>.nil) (ah (aJ (aj 2 (pv 2)) (aj 3 (pv 3)) (fun _ _=>rfl)) ao)))
   (aq (bL (aK oW pE (aj 4 (pv 4)) dZ (aH _)) (ax EV) aX)
   (ax (dv (jK PySem.F.slot_list_append PySem.F.type_list_append b_ cq (aj 1 (pv 1)) (ah (aj 4 (pv 4)) ao)))))) aX)))
   (ax (aR (aj 1 (pv 1)))))))
theorem rO:aU ["_law_script","_law_k"] ["_law_script","_law_k"] (av (top 28)):=⟨rfl,rfl,rfl,by decide +kernel,rfl,by decide +kernel,by decide +kernel⟩
theorem fR(T:Txt K mg t):bM P w K mg base dj 1 t.jy t.jz ["_law_script","_law_k"] (dN K aY):=by
 refine T.aY.fW (n:=2) (m:=2) (B:=eT) rO rfl rfl (by decide) rfl fun bF A outer s H E hr=>?_
 unfold eT
 exact(aq (bL (aK kP kX (aj 1 (pv 1)) (aS bU gD (by rfl) T.fw fL (ah (aj 0 (pv 0)) ao)) (aH _)) (ax (aR (aJ (aj 0 (pv 0)) (aj 1 (pv 1)) (fun _ _=>rfl)))) aX)
   (ax (aR ar)))
theorem lY:aU ["_law_left_here","_law_many","_law_at","_law_got"] ["_law_left_here","_law_many"] (av (top 29)):=⟨rfl,rfl,rfl,by decide +kernel,rfl,by decide +kernel,by decide +kernel⟩
theorem a_(T:Txt K mg t):bM P w K mg base dj 1 t.mR t.mS ["_law_left_here","_law_many"] (dN K au):=by
 refine T.au.fW (n:=2) (m:=4) (B:=iE) lY rfl rfl (by decide) rfl fun bF A outer s H E hr=>?_
 unfold iE
 exact(aq (aC (i:=2) lY.nd rfl (Or.inl rfl) (cR nW tE (by rfl) T.h_ iT (ah (kW (bN hr.units) cS (aJ (aj 0 (pv 0)) ar (fun _ _=>rfl)) ar (aH _)) ao)))
   (aq (aC (i:=3) lY.nd rfl (Or.inl rfl) (aL eK gC (aJ (aj 0 (pv 0)) (aj 2 (pv 2)) (fun _ _=>rfl)) (aj 1 (pv 1))))
   (aq (lg (aL dM eO (aJ (aj 0 (pv 0)) (aj 2 (pv 2)) (fun _ _=>rfl)) (aj 1 (pv 1))) (A7 (aj 0 (pv 0)) (aj 2 (pv 2))))
   (ax (aR (aj 3 (pv 3)))))))
theorem lZ:aU ["_law_script","_law_k","_law_cell","_law_mixed"] ["_law_script","_law_k"] (av (top 30)):=⟨rfl,rfl,rfl,by decide +kernel,rfl,by decide +kernel,by decide +kernel⟩
theorem xk(T:Txt K mg t):bM P w K mg base dj 2 t.mT t.mU ["_law_script","_law_k"] (dN K dS):=by
 refine T.dS.fW (n:=2) (m:=4) (B:=jR) lZ rfl rfl (by decide) rfl fun bF A outer s H E hr=>?_
 unfold jR
 exact(aq (aC (i:=2) lZ.nd rfl (Or.inl rfl) (aS ng rV (by rfl) T.mX rQ (ah (aB [] (fR T) (hr.mono (by decide)) (by rfl) T.gW T.aY.kp T.gX .nil (fun _ _ _=>.nil) (ah (aj 0 (pv 0)) (ah (aj 1 (pv 1)) ao))) ao)))
   (aq (aC (i:=3) lZ.nd rfl (Or.inl rfl) (aL dM eO (aL Ep Er (aL cH du ar (aL eK gC (aL cH du (aL cH du (aL sO wq (aL eK gC (aj 2 (pv 2)) ar) ar) (aL sO wq ar (aj 1 (pv 1)))) ar) ar)) ar) (aL AK A5 ar ar)))
   (ax (aR (bQ (ah (aL sO wq (aj 2 (pv 2)) (cR nW tE (by rfl) T.h_ iT (ah (kW (bN hr.units) cS (aL eK gC (aB [] (fR T) (hr.mono (by decide)) (by rfl) T.gW T.aY.kp T.gX .nil (fun _ _ _=>.nil) (ah (aj 0 (pv 0)) (ah ar ao))) ar) ar (aH _)) ao))) (ah (aj 3 (pv 3)) (ah ar ao))))))))
theorem eo:aU ["_law_left_here","_law_letters","_law_word_here","_law_k"] ["_law_left_here"] (av (top 31)):=⟨rfl,rfl,rfl,by decide +kernel,rfl,by decide +kernel,by decide +kernel⟩
theorem qg(T:Txt K mg t):bM P w K mg base dj 2 t.mV t.mW ["_law_left_here"] (dN K cg):=by
 refine T.cg.fW (n:=1) (m:=4) (B:=gu) eo rfl rfl (by decide) rfl fun bF A outer s H E hr=>?_
 unfold gu
 exact(aq (aC (i:=1) eo.nd rfl (Or.inl rfl) aN)
   (aq (aC (i:=2) eo.nd rfl (Or.inl rfl) aN)
   (aq (ie PassesOwn.never rfl (jj (by rfl) T.fI (ah (aL cH du ar (aB [] (a_ T) (hr.mono (by decide)) (by rfl) T.bj T.au.kp T.bo .nil (fun _ _ _=>.nil) (ah (aj 0 (pv 0)) (ah ar ao)))) ao)) (bz (i:=3) eo.nd rfl (Or.inl rfl)) (ax (aC (i:=2) eo.nd rfl (Or.inl rfl) (aL cX fC (aj 2 (pv 2)) (Cc (aj 1 (pv 1)) (aB [] (a_ T) (hr.mono (by decide)) (by rfl) T.bj T.au.kp T.bo .nil (fun _ _ _=>.nil) (ah (aj 0 (pv 0)) (ah ar ao))) (fun _ _=>rfl))))))
   (aq (bL (aK (bN hr.units) cS (aB [] (a_ T) (hr.mono (by decide)) (by rfl) T.bj T.au.kp T.bo .nil (fun _ _ _=>.nil) (ah (aj 0 (pv 0)) (ah ar ao))) ar (aH _)) (ax (aC (i:=2) eo.nd rfl (Or.inl rfl) (aJ (by refine bQ ?_;refine fN ?_;refine fN ?_;refine fN ?_;refine fN ?_;refine fN ?_;refine fN ?_;refine fN ?_;refine fN ?_;refine fN ?_;refine fN ?_;refine fN ?_;refine fN ?_;exact ao) (aB [] (a_ T) (hr.mono (by decide)) (by rfl) T.bj T.au.kp T.bo .nil (fun _ _ _=>.nil) (ah (aj 0 (pv 0)) (ah ar ao))) (fun _ _=>rfl)))) aX)
   (aq (bL (aK (Ba hr.units) K1 (aj 2 (pv 2)) (cC (ah aN (ah aN (ah aN (ah aN ao))))) (by with_unfolding_all rfl)) (ax (aC (i:=2) eo.nd rfl (Or.inl rfl) (aL cX fC (aj 2 (pv 2)) aN))) aX)
   (ax (aR (aj 2 (pv 2)))))))))
theorem cZ:aU ["_law_left_here","_law_words","_law_room","_law_way","_law_pair","_law_some","_law_tree"] ["_law_left_here","_law_words","_law_room"] (av (top 32)):=⟨rfl,rfl,rfl,by decide +kernel,rfl,by decide +kernel,by decide +kernel⟩
theorem cF:aU ["_law_left_here","_law_words","_law_room","_law_word_here","_law_below","_law_some","_law_tree","_law_k","_law_more","_law_other"] ["_law_left_here","_law_words","_law_room","_law_word_here"] (av (top 33)):=⟨rfl,rfl,rfl,by decide +kernel,rfl,by decide +kernel,by decide +kernel⟩
theorem fK(T:Txt K mg t):∀n,bM P w K mg base dj (2+n) t.lR t.lS ["_law_left_here","_law_words","_law_room"] (dN K (ay n).1)∧bM P w K mg base dj (2+n) t.i5 t.i6 ["_law_left_here","_law_words","_law_room","_law_word_here"] (dN K (ay n).2)
 |0=>⟨bM.none fun _ _=>rfl,bM.none fun _ _=>rfl⟩
 |n+1=>by
  obtain⟨qh,l_⟩:=fK T n
  refine⟨?_,?_⟩
  ·refine T.i4.fW (k:=2+n) (n:=3) (m:=7) (B:=eZ (ay n).1 (ay n).2) cZ rfl rfl (by decide) rfl fun bF A outer s H E hr=>?_
   unfold eZ
   exact(aq (aC (i:=3) cZ.nd rfl (Or.inl rfl) (aB [] (a_ T) (hr.mono (by omega)) (by rfl) T.bj T.au.kp T.bo .nil (fun _ _ _=>.nil) (ah (aj 0 (pv 0)) (ah ar ao))))
   (aq (lg (aL cH du (aJ (aj 0 (pv 0)) ar (fun _ _=>rfl)) ar) (A7 (aj 0 (pv 0)) ar))
   (aq (bL (PW.pt (k_ (aK kP kX (aj 3 (pv 3)) ar (aH _)) (k_ (aK kP kX (aj 2 (pv 2)) ar (aH _)) (kZ (aK zk zT (aJ (aj 0 (pv 0)) ar (fun _ _=>rfl)) ar (aH _)))))) (aq (aC (i:=4) cZ.nd rfl (Or.inl rfl) (bQ (ah (aB [] (qg T) (hr.mono (by omega)) (by rfl) T.rB T.cg.kp T.rC .nil (fun _ _ _=>.nil) (ah (aj 0 (pv 0)) ao)) (ah (aB [] (qg T) (hr.mono (by omega)) (by rfl) T.rB T.cg.kp T.rC .nil (fun _ _ _=>.nil) (ah (aj 0 (pv 0)) ao)) ao))))
   (aq (bL (PW.pt (iV (aK (bN hr.units) cS (aL eK gC (aj 3 (pv 3)) ar) ar (aH _)) (kF (aK (iX hr.units) ll (aj 1 (pv 1)) (bQ ao) (aH _))))) (ax (aC (i:=4) cZ.nd rfl (Or.inl rfl) (cR uN Ec (by rfl) T.jY o9 (ah (aJ (aj 1 (pv 1)) (aB [] (a_ T) (hr.mono (by omega)) (by rfl) T.bj T.au.kp T.bo .nil (fun _ _ _=>.nil) (ah (aj 0 (pv 0)) (ah (aS bU gD (by rfl) T.fw fL (ah (aj 1 (pv 1)) ao)) ao))) (fun _ _=>rfl)) ao)))) aX)
   (aq (dv (jK PySem.F.slot_list_append PySem.F.type_list_append b_ cq (aj 1 (pv 1)) (ah (cC (ah (aJ (aj 4 (pv 4)) ar (fun _ _=>rfl)) (ah (aJ (aj 4 (pv 4)) ar (fun _ _=>rfl)) ao))) ao)))
   (ax (aR (cC (ah (aj 4 (pv 4)) (ah (cC (ah aN (ah (aJ (aj 4 (pv 4)) ar (fun _ _=>rfl)) (ah (aJ (aj 4 (pv 4)) ar (fun _ _=>rfl)) ao)))) ao)))))))) aX)
   (aq (bL (aK (bN hr.units) cS (aj 3 (pv 3)) ar (aH _)) (ax (aR (cC (ah (bQ (ah aN ao)) (ah (cC (ah aN ao)) ao))))) aX)
   (aq (bL (aK (bN hr.units) cS (aj 3 (pv 3)) ar (aH _)) (aq (lg (aB [] qh (hr.mono (by omega)) (by rfl) T.qa T.i4.kp T.qb .nil (fun _ _ _=>.nil) (ah (aj 0 (pv 0)) (ah (aj 1 (pv 1)) (ah (aL oV pz (aj 2 (pv 2)) ar) ao)))) (lh rfl (cL (bz (i:=5) cZ.nd rfl (Or.inl rfl)) (cL (bz (i:=6) cZ.nd rfl (Or.inl rfl)) ji))))
   (ax (aR (cC (ah (aL cH du (bQ (ah aN ao)) (aj 5 (pv 5))) (ah (cC (ah aN (ah (aj 6 (pv 6)) ao))) ao)))))) aX)
   (aq (lg (aB [] l_ (hr.mono (by omega)) (by rfl) T.i9 T.cw.kp T.i_ .nil (fun _ _ _=>.nil) (ah (aj 0 (pv 0)) (ah (aj 1 (pv 1)) (ah (aL oV pz (aj 2 (pv 2)) ar) (ah aN ao))))) (lh rfl (cL (bz (i:=5) cZ.nd rfl (Or.inl rfl)) (cL (bz (i:=6) cZ.nd rfl (Or.inl rfl)) ji))))
   (ax (aR (cC (ah (aL cH du (aL cH du (bQ (ah aN ao)) (aj 5 (pv 5))) (bQ (ah aN ao))) (ah (aj 6 (pv 6)) ao)))))))))))
  ·refine T.cw.fW (k:=2+n) (n:=4) (m:=10) (B:=dB (ay n).1 (ay n).2) cF rfl rfl (by decide) rfl fun bF A outer s H E hr=>?_
   unfold dB
   exact(aq (bL (aK (bN hr.units) cS (aj 3 (pv 3)) aN (aH _)) (ax (aR (aB [] qh (hr.mono (by omega)) (by rfl) T.qa T.i4.kp T.qb .nil (fun _ _ _=>.nil) (ah (aj 0 (pv 0)) (ah (aj 1 (pv 1)) (ah (aj 2 (pv 2)) ao)))))) aX)
   (aq (aC (i:=4) cF.nd rfl (Or.inl rfl) (Hk hr.units (Cd (by decide)) (aj 3 (pv 3)) (fun _ _=>rfl)))
   (aq (lg (aB [] l_ (hr.mono (by omega)) (by rfl) T.i9 T.cw.kp T.i_ .nil (fun _ _ _=>.nil) (ah (aj 0 (pv 0)) (ah (aj 1 (pv 1)) (ah (aj 2 (pv 2)) (ah (aj 4 (pv 4)) ao))))) (lh rfl (cL (bz (i:=5) cF.nd rfl (Or.inl rfl)) (cL (bz (i:=6) cF.nd rfl (Or.inl rfl)) ji))))
   (aq (ie PassesOwn.never rfl (jj (by rfl) T.fI (ah (aJ (by refine bQ ?_;refine jO ?_;refine jO ?_;refine jO ?_;refine jO ?_;refine jO ?_;refine jO ?_;refine jO ?_;refine jO ?_;exact ao) (aB [] (a_ T) (hr.mono (by omega)) (by rfl) T.bj T.au.kp T.bo .nil (fun _ _ _=>.nil) (ah (aj 0 (pv 0)) (ah ar ao))) (fun _ _=>rfl)) ao)) (bz (i:=7) cF.nd rfl (Or.inl rfl)) (ax (bL (aK kP kX (aJ (aj 0 (pv 0)) ar (fun _ _=>rfl)) ar (aH _)) (aq (lg (aB [] l_ (hr.mono (by omega)) (by rfl) T.i9 T.cw.kp T.i_ .nil (fun _ _ _=>.nil) (ah (aj 0 (pv 0)) (ah (aj 1 (pv 1)) (ah (aj 2 (pv 2)) (ah (aj 4 (pv 4)) ao))))) (lh rfl (cL (bz (i:=8) cF.nd rfl (Or.inl rfl)) (cL (bz (i:=9) cF.nd rfl (Or.inl rfl)) ji))))
   (aq (aC (i:=5) cF.nd rfl (Or.inl rfl) (aL cH du (aL cH du (aj 5 (pv 5)) (bQ (ah (aj 3 (pv 3)) ao))) (aj 8 (pv 8))))
   (ax (aC (i:=6) cF.nd rfl (Or.inl rfl) (cC (ah (aj 3 (pv 3)) (ah (aj 6 (pv 6)) (ah (aj 9 (pv 9)) ao)))))))) aX)))
   (ax (aR (cC (ah (aj 5 (pv 5)) (ah (aj 6 (pv 6)) ao)))))))))
theorem u9(T:Txt K mg t):bM P w K mg base dj 62 t.i5 t.i6 ["_law_left_here","_law_words","_law_room","_law_word_here"] (dN K cw):=(fK T 60).2
theorem gZ:aU ["_law_above","_law_below","_law_one","_law_other"] ["_law_above","_law_below"] (av (top 34)):=⟨rfl,rfl,rfl,by decide +kernel,rfl,by decide +kernel,by decide +kernel⟩
theorem uA(T:Txt K mg t):bM P w K mg base dj 1 t.kl t.km ["_law_above","_law_below"] (dN K dG):=by
 refine T.dG.fW (n:=2) (m:=4) (B:=fF) gZ rfl rfl (by decide) rfl fun bF A outer s H E hr=>?_
 unfold fF
 exact(aq (aC (i:=2) gZ.nd rfl (Or.inl rfl) (aS ng rV (by rfl) T.mX rQ (ah (aj 0 (pv 0)) ao)))
   (aq (aC (i:=3) gZ.nd rfl (Or.inl rfl) (aj 1 (pv 1)))
   (aq (nj PassesOwn.never (aK (iX hr.units) ll (aj 2 (pv 2)) ar (aH _)) (ax (Ed (i:=2) (j:=3) rfl gZ.nd rfl rfl (by decide) rfl rfl (ah (aL eK gC (aj 3 (pv 3)) (aj 2 (pv 2))) (ah (aj 2 (pv 2)) ao)) (by rfl))))
   (ax (aR (cC (ah (aL dM eO (aj 0 (pv 0)) (aj 3 (pv 3))) (ah (aL dM eO (aj 1 (pv 1)) (aj 3 (pv 3))) ao))))))))
theorem eG:aU ["_law_left_here","_law_above","_law_below"] ["_law_left_here"] (av (top 35)):=⟨rfl,rfl,rfl,by decide +kernel,rfl,by decide +kernel,by decide +kernel⟩
theorem u_(T:Txt K mg t):bM P w K mg base dj 2 t.lT t.lV ["_law_left_here"] (dN K dC):=by
 refine T.dC.fW (n:=1) (m:=3) (B:=gH) eG rfl rfl (by decide) rfl fun bF A outer s H E hr=>?_
 unfold gH
 exact(aq (aC (i:=1) eG.nd rfl (Or.inl rfl) (aL oV pz (aB [] (a_ T) (hr.mono (by decide)) (by rfl) T.bj T.au.kp T.bo .nil (fun _ _ _=>.nil) (ah (aj 0 (pv 0)) (ah ar ao))) ar))
   (aq (aC (i:=2) eG.nd rfl (Or.inl rfl) ar)
   (aq (bL (aK (bN hr.units) cS (aB [] (a_ T) (hr.mono (by decide)) (by rfl) T.bj T.au.kp T.bo .nil (fun _ _ _=>.nil) (ah (aj 0 (pv 0)) (ah ar ao))) ar (aH _)) (ax (aC (i:=2) eG.nd rfl (Or.inl rfl) (aL cH du ar (aB [] (a_ T) (hr.mono (by decide)) (by rfl) T.bj T.au.kp T.bo .nil (fun _ _ _=>.nil) (ah (aj 0 (pv 0)) (ah ar ao)))))) aX)
   (aq (bL (aK (bN hr.units) cS (aB [] (a_ T) (hr.mono (by decide)) (by rfl) T.bj T.au.kp T.bo .nil (fun _ _ _=>.nil) (ah (aj 0 (pv 0)) (ah ar ao))) ar (aH _)) (aq (aC (i:=1) eG.nd rfl (Or.inl rfl) (aL oV pz (aL eK gC (aj 1 (pv 1)) ar) ar))
   (ax (aC (i:=2) eG.nd rfl (Or.inl rfl) (aL cH du ar (aL eK gC (aj 2 (pv 2)) ar))))) aX)
   (ax (aR (aB [] (uA T) (hr.mono (by decide)) (by rfl) T.uW T.dG.kp T.uX .nil (fun _ _ _=>.nil) (ah (aj 1 (pv 1)) (ah (aj 2 (pv 2)) ao)))))))))
theorem oI:aU ["_law_pair"] ["_law_pair"] (av (top 36)):=⟨rfl,rfl,rfl,by decide +kernel,rfl,by decide +kernel,by decide +kernel⟩
theorem oJ(T:Txt K mg t):bM P w K mg base dj 1 t.gR t.gU ["_law_pair"] (dN K bK):=by
 refine T.bK.fW (n:=1) (m:=1) (B:=dD) oI rfl rfl (by decide) rfl fun bF A outer s H E hr=>?_
 unfold dD
 exact(aq (bL (aK (bN hr.units) cS (aJ (aj 0 (pv 0)) ar (fun _ _=>rfl)) ar (aH _)) (ax (aR (cR ic pJ (by rfl) T.jB kS (ah (aJ (aj 0 (pv 0)) ar (fun _ _=>rfl)) ao)))) aX)
   (ax (aR (aL cX fC (aL cX fC (cR ic pJ (by rfl) T.jB kS (ah (aJ (aj 0 (pv 0)) ar (fun _ _=>rfl)) ao)) aN) (cR ic pJ (by rfl) T.jB kS (ah (aJ (aj 0 (pv 0)) ar (fun _ _=>rfl)) ao))))))
theorem di:aU ["_law_left_here","_law_some","_law_text","_law_k","_law_piece","_law_gap"] ["_law_left_here","_law_some"] (av (top 37)):=⟨rfl,rfl,rfl,by decide +kernel,rfl,by decide +kernel,by decide +kernel⟩
theorem uB(T:Txt K mg t):bM P w K mg base dj 2 t.kn t.ko ["_law_left_here","_law_some"] (dN K cY):=by
 refine T.cY.fW (n:=2) (m:=6) (B:=fG) di rfl rfl (by decide) rfl fun bF A outer s H E hr=>?_
 unfold fG
 exact(aq (aC (i:=2) di.nd rfl (Or.inl rfl) (aL kH kI aN (aL dM eO (aB [] (a_ T) (hr.mono (by decide)) (by rfl) T.bj T.au.kp T.bo .nil (fun _ _ _=>.nil) (ah (aj 0 (pv 0)) (ah ar ao))) ar)))
   (aq (ie PassesOwn.never rfl (Ey (by rfl) T.gY (ah (aj 1 (pv 1)) ao)) (lh rfl (cL (bz (i:=3) di.nd rfl (Or.inl rfl)) (cL (bz (i:=4) di.nd rfl (Or.inl rfl)) ji))) (aq (aC (i:=5) di.nd rfl (Or.inl rfl) (aJ (bQ (ah ar (ah ar (ah ar (ah ar ao))))) (aB [] (a_ T) (hr.mono (by decide)) (by rfl) T.bj T.au.kp T.bo .nil (fun _ _ _=>.nil) (ah (aj 0 (pv 0)) (ah ar ao))) (fun _ _=>rfl)))
   (aq (bL (PW.pt (iV (aK zk zT (aj 3 (pv 3)) ar (aH _)) (iV (aK (bN hr.units) cS (aj 5 (pv 5)) ar (aH _)) (iV (aK nL tT (aJ (aj 1 (pv 1)) (aL oV pz (aj 3 (pv 3)) ar) (fun _ _=>rfl)) aN (by with_unfolding_all rfl)) (kF (aK nL tT (aj 4 (pv 4)) aN (by with_unfolding_all rfl))))))) (ax (aC (i:=5) di.nd rfl (Or.inl rfl) ar)) aX)
   (ax (aC (i:=2) di.nd rfl (Or.inl rfl) (aL cX fC (aL cX fC (aj 2 (pv 2)) (aL kH kI (aL kH kI aN (aj 5 (pv 5))) (cR nW tE (by rfl) T.h_ iT (ah (kW zk zT (aj 3 (pv 3)) ar (aH _)) ao)))) (aj 4 (pv 4))))))))
   (ax (aR (aL cX fC (aj 2 (pv 2)) (aL kH kI aN (aL dM eO (aB [] (a_ T) (hr.mono (by decide)) (by rfl) T.bj T.au.kp T.bo .nil (fun _ _ _=>.nil) (ah (aj 0 (pv 0)) (ah ar ao))) ar)))))))
theorem vc:aU ["_law_got","_law_due"] ["_law_got","_law_due"] (av (top 38)):=⟨rfl,rfl,rfl,by decide +kernel,rfl,by decide +kernel,by decide +kernel⟩
theorem mZ(T:Txt K mg t):∀n,bM P w K mg base dj (0+n) t.i7 t.i8 ["_law_got","_law_due"] (dN K (bE n))
 |0=>bM.none fun _ _=>rfl
 |n+1=>by
  have xl:=mZ T n
  refine T.cW.fW (k:=0+n) (n:=2) (m:=2) (B:=cx (bE n)) vc rfl rfl (by decide) rfl fun bF A outer s H E hr=>?_
  unfold cx
  exact(aq (bL (iU (aS c_ eX (by rfl) T.bc bw (ah (aj 1 (pv 1)) (ah (cC (ah (fB (.ty "list") (dm (v:=.ty "list") (by rfl) T.jY o9 rfl) fun _ _ _=>.ty "list") (ah (fB (.ty "tuple") (dm (v:=.ty "tuple") (by rfl) T.iH ni rfl) fun _ _ _=>.ty "tuple") ao))) ao)))) (aq (bL (PW.pt (k_ (aK (iX hr.units) ll (aS c_ eX (by rfl) T.bc bw (ah (aj 0 (pv 0)) (ah (fB (.ty "list") (dm (v:=.ty "list") (by rfl) T.jY o9 rfl) fun _ _ _=>.ty "list") ao))) (aS c_ eX (by rfl) T.bc bw (ah (aj 1 (pv 1)) (ah (fB (.ty "list") (dm (v:=.ty "list") (by rfl) T.jY o9 rfl) fun _ _ _=>.ty "list") ao))) (aH _)) (kZ (aK (iX hr.units) ll (aS c_ eX (by rfl) T.bc bw (ah (aj 0 (pv 0)) (ah (fB (.ty "tuple") (dm (v:=.ty "tuple") (by rfl) T.iH ni rfl) fun _ _ _=>.ty "tuple") ao))) (aS c_ eX (by rfl) T.bc bw (ah (aj 1 (pv 1)) (ah (fB (.ty "tuple") (dm (v:=.ty "tuple") (by rfl) T.iH ni rfl) fun _ _ _=>.ty "tuple") ao))) (aH _))))) (ax (aR zS)) aX)
   (ax (aR (pA (kW (bN hr.units) cS (aS bU gD (by rfl) T.fw fL (ah (aj 0 (pv 0)) ao)) (aS bU gD (by rfl) T.fw fL (ah (aj 1 (pv 1)) ao)) (aH _)) (rS (aS (tK rfl) Bb (by rfl) T.qP Bc (ah (mG (N':=["_law_one","_law_other"]) (cap:=[none,none]) (pb (sc:=av (top 38)) (NN:=["_law_got","_law_due"]) rfl rfl rfl (by decide +kernel) (by decide +kernel) (by decide +kernel) (by decide +kernel)) rfl (HC (Hm (by rfl) T.qQ (ah (aj 0 (pv 0)) (ah (aj 1 (pv 1)) ao))) (EJ (by rfl) T.qQ (ah (aj 0 (pv 0)) (ah (aj 1 (pv 1)) ao)))) (fun _ _ _ _=>(lh rfl (cL (bz (i:=0) (show List.Nodup (["_law_one","_law_other"]:List Str)by decide +kernel) rfl (Or.inl rfl)) (cL (bz (i:=1) (show List.Nodup (["_law_one","_law_other"]:List Str)by decide +kernel) rfl (Or.inl rfl)) ji)))) (fun _ _ _ _=>lj) (fun _ _ _ _=>(aB [] xl (hr.mono (by omega)) (by rfl) T.lW T.cW.kp T.lX .nil (fun _ _ _=>.nil) (ah (aj 0 (pv 0)) (ah (aj 1 (pv 1)) ao))))) ao))))))) aX)
   (aq (bL (PW.pt (k_ (aK (iX hr.units) ll (aS c_ eX (by rfl) T.bc bw (ah (aj 0 (pv 0)) (ah (fB (.ty "int") (dm (v:=.ty "int") (by rfl) T.h_ iT rfl) fun _ _ _=>.ty "int") ao))) (aS c_ eX (by rfl) T.bc bw (ah (aj 1 (pv 1)) (ah (fB (.ty "int") (dm (v:=.ty "int") (by rfl) T.h_ iT rfl) fun _ _ _=>.ty "int") ao))) (aH _)) (kZ (aK (iX hr.units) ll (aS c_ eX (by rfl) T.bc bw (ah (aj 0 (pv 0)) (ah (fB (.ty "bool") (dm (v:=.ty "bool") (by rfl) T.nD xW rfl) fun _ _ _=>.ty "bool") ao))) (aS c_ eX (by rfl) T.bc bw (ah (aj 1 (pv 1)) (ah (fB (.ty "bool") (dm (v:=.ty "bool") (by rfl) T.nD xW rfl) fun _ _ _=>.ty "bool") ao))) (aH _))))) (ax (aR zS)) aX)
   (ax (aR (pA (kW (bN hr.units) cS (aS c_ eX (by rfl) T.bc bw (ah (aj 0 (pv 0)) (ah (fB (.ty "str") (dm (v:=.ty "str") (by rfl) T.jB kS rfl) fun _ _ _=>.ty "str") ao))) (aS c_ eX (by rfl) T.bc bw (ah (aj 1 (pv 1)) (ah (fB (.ty "str") (dm (v:=.ty "str") (by rfl) T.jB kS rfl) fun _ _ _=>.ty "str") ao))) (aH _)) (rS (kW (bN hr.units) cS (aj 0 (pv 0)) (aj 1 (pv 1)) (aH _))))))))
theorem nU(T:Txt K mg t):bM P w K mg base dj 60 t.i7 t.i8 ["_law_got","_law_due"] (dN K cW):=mZ T 60
theorem et:aU ["_law_script","_law_rows","_law_due","_law_words","_law_k","_law_left_here","_law_pair","_law_some","_law_tree","_law_j","_law_text","_law_book"] ["_law_script"] (av (top 39)):=⟨rfl,rfl,rfl,by decide +kernel,rfl,by decide +kernel,by decide +kernel⟩
theorem Il(T:Txt K mg t):bM P w K mg base dj 63 t.Ay t.ui ["_law_script"] (dN K oi):=by
 refine T.oi.fW (n:=1) (m:=12) (B:=tY) et rfl rfl (by decide) rfl fun bF A outer s H E hr=>?_
 unfold tY
 exact(aq (aC (i:=1) et.nd rfl (Or.inl rfl) (bQ ao))
   (aq (aC (i:=2) et.nd rfl (Or.inl rfl) (bQ ao))
   (aq (aC (i:=3) et.nd rfl (Or.inl rfl) (bQ ao))
   (aq (ie PassesOwn.never rfl (zV (by rfl) T.fI (ah ar (ah (aS (zp rfl) Eb (by rfl) T.uu G3 (ah ar (ah (aS bU gD (by rfl) T.fw fL (ah (aj 0 (pv 0)) ao)) ao))) ao))) (bz (i:=4) et.nd rfl (Or.inl rfl)) (aq (aC (i:=5) et.nd rfl (Or.inl rfl) (aB [] (xk T) (hr.mono (by decide)) (by rfl) T.yT T.dS.kp T.yU .nil (fun _ _ _=>.nil) (ah (aj 0 (pv 0)) (ah (aj 4 (pv 4)) ao))))
   (aq (aC (i:=6) et.nd rfl (Or.inl rfl) (aB [] (u_ T) (hr.mono (by decide)) (by rfl) T.xi T.dC.kp T.xj .nil (fun _ _ _=>.nil) (ah (aj 5 (pv 5)) ao)))
   (aq (bL (aK (bN hr.units) cS (aB [] (a_ T) (hr.mono (by decide)) (by rfl) T.bj T.au.kp T.bo .nil (fun _ _ _=>.nil) (ah (aj 5 (pv 5)) (ah ar ao))) ar (aH _)) (ax (dv (jK PySem.F.slot_list_append PySem.F.type_list_append b_ cq (aj 1 (pv 1)) (ah (aL kH kI aN (aB [] (a_ T) (hr.mono (by decide)) (by rfl) T.bj T.au.kp T.bo .nil (fun _ _ _=>.nil) (ah (aj 5 (pv 5)) (ah ar ao)))) ao)))) aX)
   (aq (lg (aB [] (u9 T) (hr.mono (by decide)) (by rfl) T.i9 T.cw.kp T.i_ .nil (fun _ _ _=>.nil) (ah (aj 5 (pv 5)) (ah (aj 3 (pv 3)) (ah ar (ah aN ao))))) (lh rfl (cL (bz (i:=7) et.nd rfl (Or.inl rfl)) (cL (bz (i:=8) et.nd rfl (Or.inl rfl)) ji))))
   (aq (bL (PW.pt (iV (aK kP kX (aJ (aj 5 (pv 5)) ar (fun _ _=>rfl)) ar (aH _)) (kF (aK (bN hr.units) cS (aB [] (a_ T) (hr.mono (by decide)) (by rfl) T.bj T.au.kp T.bo .nil (fun _ _ _=>.nil) (ah (aj 5 (pv 5)) (ah ar ao))) ar (aH _))))) (ax (ie PassesOwn.never rfl (jj (by rfl) T.fI (ah (aB [] (a_ T) (hr.mono (by decide)) (by rfl) T.bj T.au.kp T.bo .nil (fun _ _ _=>.nil) (ah (aj 5 (pv 5)) (ah ar ao))) ao)) (bz (i:=9) et.nd rfl (Or.inl rfl)) (aq (aC (i:=7) et.nd rfl (Or.inl rfl) (aL cH du (aL cH du (bQ (ah aN ao)) (aj 7 (pv 7))) (bQ (ah aN ao))))
   (ax (bL (aK (bN hr.units) cS (aB [] (a_ T) (hr.mono (by decide)) (by rfl) T.bj T.au.kp T.bo .nil (fun _ _ _=>.nil) (ah (aj 5 (pv 5)) (ah ar ao))) ar (aH _)) (aq (aC (i:=7) et.nd rfl (Or.inl rfl) (aL cH du (bQ (ah aN ao)) (aj 7 (pv 7))))
   (ax (aC (i:=8) et.nd rfl (Or.inl rfl) (cC (ah aN (ah (aj 8 (pv 8)) ao)))))) aX))))) aX)
   (aq (dv (jK PySem.F.slot_list_append PySem.F.type_list_append b_ cq (aj 1 (pv 1)) (ah (aB [] (uB T) (hr.mono (by decide)) (by rfl) T.uY T.cY.kp T.uZ .nil (fun _ _ _=>.nil) (ah (aj 5 (pv 5)) (ah (aL cH du (aj 7 (pv 7)) (bQ (ah aN (ah (aB [] (oJ T) (hr.mono (by decide)) (by rfl) T.qc T.bK.kp T.qd .nil (fun _ _ _=>.nil) (ah (aj 6 (pv 6)) ao)) ao)))) ao))) ao)))
   (ax (dv (jK PySem.F.slot_list_append PySem.F.type_list_append b_ cq (aj 2 (pv 2)) (ah (cC (ah (aj 8 (pv 8)) (ah (aj 6 (pv 6)) ao))) ao)))))))))))
   (aq (bL (aK (bN hr.units) cS (aL eK gC (aL dM eO (aB [] (fR T) (hr.mono (by decide)) (by rfl) T.gW T.aY.kp T.gX .nil (fun _ _ _=>.nil) (ah (aj 0 (pv 0)) (ah ar ao))) ar) ar) ar (aH _)) (ax (dv (jK PySem.F.slot_list_append PySem.F.type_list_append b_ cq (aj 1 (pv 1)) (ah (aL kH kI aN (aL eK gC (aL dM eO (aB [] (fR T) (hr.mono (by decide)) (by rfl) T.gW T.aY.kp T.gX .nil (fun _ _ _=>.nil) (ah (aj 0 (pv 0)) (ah ar ao))) ar) ar)) ao)))) aX)
   (aq (aC (i:=10) et.nd rfl (Or.inl rfl) (EL (aj 1 (pv 1))))
   (aq (aC (i:=11) et.nd rfl (Or.inl rfl) (aB [] (nT T) (hr.mono (by decide)) (by rfl) T.pZ T.cE.kp T.p_ .nil (fun _ _ _=>.nil) (ah (aj 10 (pv 10)) ao)))
   (aq (bL (rT (iU (aB [] (nU T) (hr.mono (by decide)) (by rfl) T.lW T.cW.kp T.lX .nil (fun _ _ _=>.nil) (ah (aj 11 (pv 11)) (ah (aj 2 (pv 2)) ao))))) (ax (aR zS)) aX)
   (aq (dv (jK PySem.F.slot_list_append PySem.F.type_list_append b_ cq (aj 11 (pv 11)) (ah ar ao)))
   (ax (aR (aB [] (nU T) (hr.mono (by decide)) (by rfl) T.lW T.cW.kp T.lX .nil (fun _ _ _=>.nil) (ah (aB [] (nT T) (hr.mono (by decide)) (by rfl) T.pZ T.cE.kp T.p_ .nil (fun _ _ _=>.nil) (ah (aj 10 (pv 10)) ao)) (ah (aj 2 (pv 2)) ao))))))))))))))
end
theorem Im{K:PySem.W.Frag}{h:Heap}{mg:Str→Option Value}(X:K.In h)(G:h.Ns mainGlobals mg)
  {f0:Addr}{Wu Wv:Option Addr}{Ww:Array (Option Value)}{Wx Wy Wz WA Qj WB:Value}
  {f1:Addr}{WC Mo:Option Addr}{WD:Array (Option Value)}{WE Mp Mq Mr Io Ms:Value}
  {Ip:Addr}{WG:Value}{Qk:Option Addr}{WH:Nat}{Mt:Tok}{Ql:Array (Option Value)}
  {f2:Addr}{WI WJ:Option Addr}{GD:Array (Option Value)}{WK WL WM WN Qn WO:Value}
  {f3:Addr}{WQ WR:Option Addr}{WS:Array (Option Value)}{WT WU WV WW Qo WX:Value}
  {f4:Addr}{WY WZ:Option Addr}{W2:Array (Option Value)}{W3 W4 W5 W6 Qp W7:Value}
  {f5:Addr}{W8 W9:Option Addr}{W_:Array (Option Value)}{Xa Xb Xc Xd Qq Xe:Value}
  {f6:Addr}{Xf Xg:Option Addr}{Xh:Array (Option Value)}{Xi Xj Xk Xl Qr Xm:Value}
  {f7:Addr}{Xn Xo:Option Addr}{Xp:Array (Option Value)}{Xq Xr Xs Xt Qs Xu:Value}
  {f8:Addr}{Xv Xw:Option Addr}{Xx:Array (Option Value)}{Xy Xz XB XC Qt XD:Value}
  {f9:Addr}{XF XH:Option Addr}{XJ:Array (Option Value)}{XM XN XQ XR Qu XU:Value}
  {Iq:Addr}{Qv Qw:Option Addr}{Qx:Array (Option Value)}{Qy Qz QB QC Jr QD:Value}
  {Ir:Addr}{QF QH:Option Addr}{QJ:Array (Option Value)}{QK QL QM QN Js QP:Value}
  {Iu:Addr}{QQ QR:Option Addr}{QU:Array (Option Value)}{QV QX QY QZ Jt Q0:Value}
  {Iv:Addr}{Q1 Q2:Option Addr}{Q3:Array (Option Value)}{Q4 Q5 Q6 Q7 Ju Q8:Value}
  {Iw:Addr}{Q9 Q_:Option Addr}{Ra:Array (Option Value)}{Rb Rc Rf Rg Jv Rh:Value}
  {Iy:Addr}{Ri Rj:Option Addr}{Rk:Array (Option Value)}{Rl Rm Rn Ro Jw Rp:Value}
  {Iz:Addr}{Rq Rr:Option Addr}{Rt:Array (Option Value)}{Ru Rv Rw Rx Jx Ry:Value}
  {IA:Addr}{Rz RB:Option Addr}{RC:Array (Option Value)}{RF RG RH RI Jy RJ:Value}
  {IB:Addr}{RL RM:Option Addr}{RN:Array (Option Value)}{RO RP RQ RT Jz RU:Value}
  {IC:Addr}{RV RW:Option Addr}{RX:Array (Option Value)}{RY RZ R0 R4 JA R5:Value}
  {ID:Addr}{R6 R7:Option Addr}{R8:Array (Option Value)}{R9 R_ Sa Sb JB Sd:Value}
  {IE:Addr}{Se Sf:Option Addr}{Sg:Array (Option Value)}{Sh Si Sj Sk JC Sl:Value}
  {IF:Addr}{Sm Sn:Option Addr}{So:Array (Option Value)}{Sq Sr Ss Su JD Sv:Value}
  {IG:Addr}{Sw Sx:Option Addr}{Sy:Array (Option Value)}{Sz SA SD SE JE SF:Value}
  {IH:Addr}{SG SH:Option Addr}{SI:Array (Option Value)}{SJ SK SM SN JF SO:Value}
  {II:Addr}{SR SS:Option Addr}{SU:Array (Option Value)}{SV SW SX SY JG S0:Value}
  {IJ:Addr}{S5 S6:Option Addr}{S7:Array (Option Value)}{S8 S9 S_ Ta JH Tb:Value}
  {IK:Addr}{Tc Td:Option Addr}{Te:Array (Option Value)}{Tf Tg Th Ti JI Tj:Value}
  {IL:Addr}{Tn To:Option Addr}{Tp:Array (Option Value)}{Tq Tt Tu Tv JJ Tw:Value}
  {IM:Addr}{TB TC:Option Addr}{TF:Array (Option Value)}{TH TJ TK TL JK TM:Value}
  (a0:PySem.W.nsIn K mainGlobals "divisor" =some (some (.ref f0)))
  (l0:K.lookup f0=some ⟨Wx,Wu,.func (PySem.W.fnOf "divisor" "divisor" (aQ (top 4)) (aM (top 4)) (av (top 4)) .none Wy Wz WA Wv Qj WB),Ww⟩)
  (c0:PySem.W.codeIn K Qj "divisor" =true)(k0:PySem.W.keepIn K (.ref f0)=true)
  (a1:PySem.W.nsIn K mainGlobals "number" =some (some (.ref f1)))
  (l1:K.lookup f1=some ⟨WE,WC,.func (PySem.W.fnOf "number" "number" (aQ (top 5)) (aM (top 5)) (av (top 5)) (.ref Ip) Mp Mq Mr Mo Io Ms),WD⟩)
  (c1:PySem.W.codeIn K Io "number" =true)(k1:PySem.W.keepIn K (.ref f1)=true)
  (IP:K.lookup Ip=some ⟨WG,Qk,.seq #[Value.int 1 Mt] WH,Ql⟩)
  (a2:PySem.W.nsIn K mainGlobals "figures" =some (some (.ref f2)))
  (l2:K.lookup f2=some ⟨WK,WI,.func (PySem.W.fnOf "figures" "figures" (aQ (top 6)) (aM (top 6)) (av (top 6)) .none WL WM WN WJ Qn WO),GD⟩)
  (c2:PySem.W.codeIn K Qn "figures" =true)(k2:PySem.W.keepIn K (.ref f2)=true)
  (a3:PySem.W.nsIn K mainGlobals "number_text" =some (some (.ref f3)))
  (l3:K.lookup f3=some ⟨WT,WQ,.func (PySem.W.fnOf "number_text" "number_text" (aQ (top 7)) (aM (top 7)) (av (top 7)) .none WU WV WW WR Qo WX),WS⟩)
  (c3:PySem.W.codeIn K Qo "number_text" =true)(k3:PySem.W.keepIn K (.ref f3)=true)
  (a4:PySem.W.nsIn K mainGlobals "is_made_of" =some (some (.ref f4)))
  (l4:K.lookup f4=some ⟨W3,WY,.func (PySem.W.fnOf "is_made_of" "is_made_of" (aQ (top 11)) (aM (top 11)) (av (top 11)) .none W4 W5 W6 WZ Qp W7),W2⟩)
  (c4:PySem.W.codeIn K Qp "is_made_of" =true)(k4:PySem.W.keepIn K (.ref f4)=true)
  (a5:PySem.W.nsIn K mainGlobals "is_word" =some (some (.ref f5)))
  (l5:K.lookup f5=some ⟨Xa,W8,.func (PySem.W.fnOf "is_word" "is_word" (aQ (top 12)) (aM (top 12)) (av (top 12)) .none Xb Xc Xd W9 Qq Xe),W_⟩)
  (c5:PySem.W.codeIn K Qq "is_word" =true)(k5:PySem.W.keepIn K (.ref f5)=true)
  (a6:PySem.W.nsIn K mainGlobals "read_number" =some (some (.ref f6)))
  (l6:K.lookup f6=some ⟨Xi,Xf,.func (PySem.W.fnOf "read_number" "read_number" (aQ (top 13)) (aM (top 13)) (av (top 13)) .none Xj Xk Xl Xg Qr Xm),Xh⟩)
  (c6:PySem.W.codeIn K Qr "read_number" =true)(k6:PySem.W.keepIn K (.ref f6)=true)
  (a7:PySem.W.nsIn K mainGlobals "words_of" =some (some (.ref f7)))
  (l7:K.lookup f7=some ⟨Xq,Xn,.func (PySem.W.fnOf "words_of" "words_of" (aQ (top 16)) (aM (top 16)) (av (top 16)) .none Xr Xs Xt Xo Qs Xu),Xp⟩)
  (c7:PySem.W.codeIn K Qs "words_of" =true)(k7:PySem.W.keepIn K (.ref f7)=true)
  (a8:PySem.W.nsIn K mainGlobals "parted_by" =some (some (.ref f8)))
  (l8:K.lookup f8=some ⟨Xy,Xv,.func (PySem.W.fnOf "parted_by" "parted_by" (aQ (top 17)) (aM (top 17)) (av (top 17)) .none Xz XB XC Xw Qt XD),Xx⟩)
  (c8:PySem.W.codeIn K Qt "parted_by" =true)(k8:PySem.W.keepIn K (.ref f8)=true)
  (a9:PySem.W.nsIn K mainGlobals "put_together" =some (some (.ref f9)))
  (l9:K.lookup f9=some ⟨XM,XF,.func (PySem.W.fnOf "put_together" "put_together" (aQ (top 18)) (aM (top 18)) (av (top 18)) .none XN XQ XR XH Qu XU),XJ⟩)
  (c9:PySem.W.codeIn K Qu "put_together" =true)(k9:PySem.W.keepIn K (.ref f9)=true)
  (EE:PySem.W.nsIn K mainGlobals "is_free_word" =some (some (.ref Iq)))
  (Mu:K.lookup Iq=some ⟨Qy,Qv,.func (PySem.W.fnOf "is_free_word" "is_free_word" (aQ (top 19)) (aM (top 19)) (av (top 19)) .none Qz QB QC Qw Jr QD),Qx⟩)
  (Mv:PySem.W.codeIn K Jr "is_free_word" =true)(Mw:PySem.W.keepIn K (.ref Iq)=true)
  (Mx:PySem.W.nsIn K mainGlobals "read_bare_thing" =some (some (.ref Ir)))
  (Mz:K.lookup Ir=some ⟨QK,QF,.func (PySem.W.fnOf "read_bare_thing" "read_bare_thing" (aQ (top 20)) (aM (top 20)) (av (top 20)) .none QL QM QN QH Js QP),QJ⟩)
  (MA:PySem.W.codeIn K Js "read_bare_thing" =true)(MB:PySem.W.keepIn K (.ref Ir)=true)
  (MC:PySem.W.nsIn K mainGlobals "read_thing" =some (some (.ref Iu)))
  (MD:K.lookup Iu=some ⟨QV,QQ,.func (PySem.W.fnOf "read_thing" "read_thing" (aQ (top 21)) (aM (top 21)) (av (top 21)) .none QX QY QZ QR Jt Q0),QU⟩)
  (ME:PySem.W.codeIn K Jt "read_thing" =true)(MF:PySem.W.keepIn K (.ref Iu)=true)
  (MG:PySem.W.nsIn K mainGlobals "read_part" =some (some (.ref Iv)))
  (MH:K.lookup Iv=some ⟨Q4,Q1,.func (PySem.W.fnOf "read_part" "read_part" (aQ (top 22)) (aM (top 22)) (av (top 22)) .none Q5 Q6 Q7 Q2 Ju Q8),Q3⟩)
  (MI:PySem.W.codeIn K Ju "read_part" =true)(MJ:PySem.W.keepIn K (.ref Iv)=true)
  (MK:PySem.W.nsIn K mainGlobals "read_parts" =some (some (.ref Iw)))
  (ML:K.lookup Iw=some ⟨Rb,Q9,.func (PySem.W.fnOf "read_parts" "read_parts" (aQ (top 23)) (aM (top 23)) (av (top 23)) .none Rc Rf Rg Q_ Jv Rh),Ra⟩)
  (MM:PySem.W.codeIn K Jv "read_parts" =true)(MN:PySem.W.keepIn K (.ref Iw)=true)
  (MO:PySem.W.nsIn K mainGlobals "read_condition" =some (some (.ref Iy)))
  (MP:K.lookup Iy=some ⟨Rl,Ri,.func (PySem.W.fnOf "read_condition" "read_condition" (aQ (top 24)) (aM (top 24)) (av (top 24)) .none Rm Rn Ro Rj Jw Rp),Rk⟩)
  (MQ:PySem.W.codeIn K Jw "read_condition" =true)(MR:PySem.W.keepIn K (.ref Iy)=true)
  (MS:PySem.W.nsIn K mainGlobals "read_rule" =some (some (.ref Iz)))
  (MT:K.lookup Iz=some ⟨Ru,Rq,.func (PySem.W.fnOf "read_rule" "read_rule" (aQ (top 25)) (aM (top 25)) (av (top 25)) .none Rv Rw Rx Rr Jx Ry),Rt⟩)
  (MU:PySem.W.codeIn K Jx "read_rule" =true)(MV:PySem.W.keepIn K (.ref Iz)=true)
  (MW:PySem.W.nsIn K mainGlobals "read_book" =some (some (.ref IA)))
  (MX:K.lookup IA=some ⟨RF,Rz,.func (PySem.W.fnOf "read_book" "read_book" (aQ (top 26)) (aM (top 26)) (av (top 26)) .none RG RH RI RB Jy RJ),RC⟩)
  (MY:PySem.W.codeIn K Jy "read_book" =true)(MZ:PySem.W.keepIn K (.ref IA)=true)
  (M0:PySem.W.nsIn K mainGlobals "_law_cell_at" =some (some (.ref IB)))
  (M1:K.lookup IB=some ⟨RO,RL,.func (PySem.W.fnOf "_law_cell_at" "_law_cell_at" (aQ (top 28)) (aM (top 28)) (av (top 28)) .none RP RQ RT RM Jz RU),RN⟩)
  (M3:PySem.W.codeIn K Jz "_law_cell_at" =true)(M4:PySem.W.keepIn K (.ref IB)=true)
  (M5:PySem.W.nsIn K mainGlobals "_law_take" =some (some (.ref IC)))
  (M6:K.lookup IC=some ⟨RY,RV,.func (PySem.W.fnOf "_law_take" "_law_take" (aQ (top 29)) (aM (top 29)) (av (top 29)) .none RZ R0 R4 RW JA R5),RX⟩)
  (M7:PySem.W.codeIn K JA "_law_take" =true)(M8:PySem.W.keepIn K (.ref IC)=true)
  (M9:PySem.W.nsIn K mainGlobals "_law_left" =some (some (.ref ID)))
  (M_:K.lookup ID=some ⟨R9,R6,.func (PySem.W.fnOf "_law_left" "_law_left" (aQ (top 30)) (aM (top 30)) (av (top 30)) .none R_ Sa Sb R7 JB Sd),R8⟩)
  (Na:PySem.W.codeIn K JB "_law_left" =true)(Nc:PySem.W.keepIn K (.ref ID)=true)
  (Nd:PySem.W.nsIn K mainGlobals "_law_word" =some (some (.ref IE)))
  (Nf:K.lookup IE=some ⟨Sh,Se,.func (PySem.W.fnOf "_law_word" "_law_word" (aQ (top 31)) (aM (top 31)) (av (top 31)) .none Si Sj Sk Sf JC Sl),Sg⟩)
  (Ng:PySem.W.codeIn K JC "_law_word" =true)(Nh:PySem.W.keepIn K (.ref IE)=true)
  (Ni:PySem.W.nsIn K mainGlobals "_law_thing" =some (some (.ref IF)))
  (Nj:K.lookup IF=some ⟨Sq,Sm,.func (PySem.W.fnOf "_law_thing" "_law_thing" (aQ (top 32)) (aM (top 32)) (av (top 32)) .none Sr Ss Su Sn JD Sv),So⟩)
  (Nk:PySem.W.codeIn K JD "_law_thing" =true)(Nl:PySem.W.keepIn K (.ref IF)=true)
  (Nm:PySem.W.nsIn K mainGlobals "_law_built" =some (some (.ref IG)))
  (Nn:K.lookup IG=some ⟨Sz,Sw,.func (PySem.W.fnOf "_law_built" "_law_built" (aQ (top 33)) (aM (top 33)) (av (top 33)) .none SA SD SE Sx JE SF),Sy⟩)
  (Np:PySem.W.codeIn K JE "_law_built" =true)(Nq:PySem.W.keepIn K (.ref IG)=true)
  (Nr:PySem.W.nsIn K mainGlobals "_law_lowest" =some (some (.ref IH)))
  (Nt:K.lookup IH=some ⟨SJ,SG,.func (PySem.W.fnOf "_law_lowest" "_law_lowest" (aQ (top 34)) (aM (top 34)) (av (top 34)) .none SK SM SN SH JF SO),SI⟩)
  (Nu:PySem.W.codeIn K JF "_law_lowest" =true)(Nv:PySem.W.keepIn K (.ref IH)=true)
  (Nw:PySem.W.nsIn K mainGlobals "_law_worth" =some (some (.ref II)))
  (Ny:K.lookup II=some ⟨SV,SR,.func (PySem.W.fnOf "_law_worth" "_law_worth" (aQ (top 35)) (aM (top 35)) (av (top 35)) .none SW SX SY SS JG S0),SU⟩)
  (Nz:PySem.W.codeIn K JG "_law_worth" =true)(NA:PySem.W.keepIn K (.ref II)=true)
  (NB:PySem.W.nsIn K mainGlobals "_law_worth_text" =some (some (.ref IJ)))
  (NC:K.lookup IJ=some ⟨S8,S5,.func (PySem.W.fnOf "_law_worth_text" "_law_worth_text" (aQ (top 36)) (aM (top 36)) (av (top 36)) .none S9 S_ Ta S6 JH Tb),S7⟩)
  (ND:PySem.W.codeIn K JH "_law_worth_text" =true)(NF:PySem.W.keepIn K (.ref IJ)=true)
  (NG:PySem.W.nsIn K mainGlobals "_law_spaced" =some (some (.ref IK)))
  (NH:K.lookup IK=some ⟨Tf,Tc,.func (PySem.W.fnOf "_law_spaced" "_law_spaced" (aQ (top 37)) (aM (top 37)) (av (top 37)) .none Tg Th Ti Td JI Tj),Te⟩)
  (NI:PySem.W.codeIn K JI "_law_spaced" =true)(NJ:PySem.W.keepIn K (.ref IK)=true)
  (NK:PySem.W.nsIn K mainGlobals "_law_alike" =some (some (.ref IL)))
  (NL:K.lookup IL=some ⟨Tq,Tn,.func (PySem.W.fnOf "_law_alike" "_law_alike" (aQ (top 38)) (aM (top 38)) (av (top 38)) .none Tt Tu Tv To JJ Tw),Tp⟩)
  (NM:PySem.W.codeIn K JJ "_law_alike" =true)(NO:PySem.W.keepIn K (.ref IL)=true)
  (NP:PySem.W.nsIn K mainGlobals "law" =some (some (.ref IM)))
  (NQ:K.lookup IM=some ⟨TH,TB,.func (PySem.W.fnOf "law" "law" (aQ (top 39)) (aM (top 39)) (av (top 39)) .none TJ TK TL TC JK TM),TF⟩)
  (NR:PySem.W.codeIn K JK "law" =true)(NS:PySem.W.keepIn K (.ref IM)=true)
  (mX:PySem.W.nsIn K mainGlobals "abs" =some none)
  (qP:PySem.W.nsIn K mainGlobals "all" =some none)
  (nD:PySem.W.nsIn K mainGlobals "bool" =some none)
  (gY:PySem.W.nsIn K mainGlobals "enumerate" =some none)
  (h_:PySem.W.nsIn K mainGlobals "int" =some none)
  (bc:PySem.W.nsIn K mainGlobals "isinstance" =some none)
  (fw:PySem.W.nsIn K mainGlobals "len" =some none)
  (jY:PySem.W.nsIn K mainGlobals "list" =some none)
  (uu:PySem.W.nsIn K mainGlobals "min" =some none)
  (fI:PySem.W.nsIn K mainGlobals "range" =some none)
  (iG:PySem.W.nsIn K mainGlobals "reversed" =some none)
  (jB:PySem.W.nsIn K mainGlobals "str" =some none)
  (iH:PySem.W.nsIn K mainGlobals "tuple" =some none)
  (qQ:PySem.W.nsIn K mainGlobals "zip" =some none)
  {lG:Tok}(jA:PySem.W.nsIn K mainGlobals "LETTERS" =some (some (.str "abcdefghijklmnopqrstuvwxyz" lG)))
  {lH:Tok}(hZ:PySem.W.nsIn K mainGlobals "FIGURES" =some (some (.str "0123456789" lH)))
  {eF:Addr}(fH:PySem.W.nsIn K mainGlobals "KEPT_WORDS" =some (some (.ref eF)))
  {uC uD uE uF:Tok}{vd:Option Addr}{ve:Nat}{uG:Array (Option Value)}(ky:K.lookup eF=some ⟨.type "tuple",vd,.seq #[.str "and" uC,.str "or" uD,.str "not" uE,.str "any" uF] ve,uG⟩)
  :∃t,Txt K mg t∧(∀(s:Shared) (v:Value),BindsTo s t.ui ⟨[v],[]⟩ [("_law_script",v)]):=by
 have F0:=bI (st:=top 4) l0 c0 k0
 have b0:=F0.binds (ps:=["n","m"]) fun _ _ _ _ _ _ us hl=>match us,hl with|[_,_],_=>rfl
 have F1:=DR (st:=top 5) l1 c1 k1
 have b1:Binds K (PySem.W.fnOf "number" "number" (aQ (top 5)) (aM (top 5)) (av (top 5)) (.ref Ip) Mp Mq Mr Mo Io Ms) ["n","d"] []:=fun s us zd hl=>by
  obtain⟨_,_,rfl⟩:=Kz hl
  exact BindsTo.of_defaults rfl (zd _ _ IP) rfl rfl rfl
 have e1:Binds K (PySem.W.fnOf "number" "number" (aQ (top 5)) (aM (top 5)) (av (top 5)) (.ref Ip) Mp Mq Mr Mo Io Ms) ["n","d"] [Value.int 1 Mt]:=fun s us zd hl=>by
  obtain⟨_,rfl⟩:=OB hl
  exact BindsTo.of_defaults rfl (zd _ _ IP) rfl rfl rfl
 have F2:=bI (st:=top 6) l2 c2 k2
 have b2:=F2.binds (ps:=["n"]) fun _ _ _ _ _ _ us hl=>match us,hl with|[_],_=>rfl
 have F3:=bI (st:=top 7) l3 c3 k3
 have b3:=F3.binds (ps:=["a"]) fun _ _ _ _ _ _ us hl=>match us,hl with|[_],_=>rfl
 have F4:=bI (st:=top 11) l4 c4 k4
 have b4:=F4.binds (ps:=["signs","text","most"]) fun _ _ _ _ _ _ us hl=>match us,hl with|[_,_,_],_=>rfl
 have F5:=bI (st:=top 12) l5 c5 k5
 have b5:=F5.binds (ps:=["text"]) fun _ _ _ _ _ _ us hl=>match us,hl with|[_],_=>rfl
 have F6:=bI (st:=top 13) l6 c6 k6
 have b6:=F6.binds (ps:=["text"]) fun _ _ _ _ _ _ us hl=>match us,hl with|[_],_=>rfl
 have F7:=bI (st:=top 16) l7 c7 k7
 have b7:=F7.binds (ps:=["row"]) fun _ _ _ _ _ _ us hl=>match us,hl with|[_],_=>rfl
 have F8:=bI (st:=top 17) l8 c8 k8
 have b8:=F8.binds (ps:=["word","some"]) fun _ _ _ _ _ _ us hl=>match us,hl with|[_,_],_=>rfl
 have F9:=bI (st:=top 18) l9 c9 k9
 have b9:=F9.binds (ps:=["kind","some"]) fun _ _ _ _ _ _ us hl=>match us,hl with|[_,_],_=>rfl
 have TN:=bI (st:=top 19) Mu Mv Mw
 have XW:=TN.binds (ps:=["thing"]) fun _ _ _ _ _ _ us hl=>match us,hl with|[_],_=>rfl
 have TR:=bI (st:=top 20) Mz MA MB
 have XX:=TR.binds (ps:=["some"]) fun _ _ _ _ _ _ us hl=>match us,hl with|[_],_=>rfl
 have TU:=bI (st:=top 21) MD ME MF
 have XY:=TU.binds (ps:=["some"]) fun _ _ _ _ _ _ us hl=>match us,hl with|[_],_=>rfl
 have TV:=bI (st:=top 22) MH MI MJ
 have XZ:=TV.binds (ps:=["some"]) fun _ _ _ _ _ _ us hl=>match us,hl with|[_],_=>rfl
 have TX:=bI (st:=top 23) ML MM MN
 have X0:=TX.binds (ps:=["some"]) fun _ _ _ _ _ _ us hl=>match us,hl with|[_],_=>rfl
 have TY:=bI (st:=top 24) MP MQ MR
 have X1:=TY.binds (ps:=["words"]) fun _ _ _ _ _ _ us hl=>match us,hl with|[_],_=>rfl
 have TZ:=bI (st:=top 25) MT MU MV
 have X2:=TZ.binds (ps:=["row"]) fun _ _ _ _ _ _ us hl=>match us,hl with|[_],_=>rfl
 have T1:=bI (st:=top 26) MX MY MZ
 have X3:=T1.binds (ps:=["text"]) fun _ _ _ _ _ _ us hl=>match us,hl with|[_],_=>rfl
 have T2:=bI (st:=top 28) M1 M3 M4
 have X4:=T2.binds (ps:=["_law_script","_law_k"]) fun _ _ _ _ _ _ us hl=>match us,hl with|[_,_],_=>rfl
 have T3:=bI (st:=top 29) M6 M7 M8
 have X5:=T3.binds (ps:=["_law_left_here","_law_many"]) fun _ _ _ _ _ _ us hl=>match us,hl with|[_,_],_=>rfl
 have T4:=bI (st:=top 30) M_ Na Nc
 have X6:=T4.binds (ps:=["_law_script","_law_k"]) fun _ _ _ _ _ _ us hl=>match us,hl with|[_,_],_=>rfl
 have T5:=bI (st:=top 31) Nf Ng Nh
 have X7:=T5.binds (ps:=["_law_left_here"]) fun _ _ _ _ _ _ us hl=>match us,hl with|[_],_=>rfl
 have T6:=bI (st:=top 32) Nj Nk Nl
 have X8:=T6.binds (ps:=["_law_left_here","_law_words","_law_room"]) fun _ _ _ _ _ _ us hl=>match us,hl with|[_,_,_],_=>rfl
 have T7:=bI (st:=top 33) Nn Np Nq
 have X9:=T7.binds (ps:=["_law_left_here","_law_words","_law_room","_law_word_here"]) fun _ _ _ _ _ _ us hl=>match us,hl with|[_,_,_,_],_=>rfl
 have T8:=bI (st:=top 34) Nt Nu Nv
 have X_:=T8.binds (ps:=["_law_above","_law_below"]) fun _ _ _ _ _ _ us hl=>match us,hl with|[_,_],_=>rfl
 have T9:=bI (st:=top 35) Ny Nz NA
 have Ya:=T9.binds (ps:=["_law_left_here"]) fun _ _ _ _ _ _ us hl=>match us,hl with|[_],_=>rfl
 have T_:=bI (st:=top 36) NC ND NF
 have Yb:=T_.binds (ps:=["_law_pair"]) fun _ _ _ _ _ _ us hl=>match us,hl with|[_],_=>rfl
 have Ua:=bI (st:=top 37) NH NI NJ
 have Yc:=Ua.binds (ps:=["_law_left_here","_law_some"]) fun _ _ _ _ _ _ us hl=>match us,hl with|[_,_],_=>rfl
 have Ub:=bI (st:=top 38) NL NM NO
 have Yd:=Ub.binds (ps:=["_law_got","_law_due"]) fun _ _ _ _ _ _ us hl=>match us,hl with|[_,_],_=>rfl
 have Uc:=bI (st:=top 39) NQ NR NS
 have Ye:=Uc.binds (ps:=["_law_script"]) fun _ _ _ _ _ _ us hl=>match us,hl with|[_],_=>rfl
 exact⟨⟨lG,lH,eF,f0,_,f1,_,Mt,f2,_,f3,_,f4,_,f5,_,f6,_,f7,_,f8,_,f9,_,Iq,_,Ir,_,Iu,_,Iv,_,Iw,_,Iy,_,Iz,_,IA,_,IB,_,IC,_,ID,_,IE,_,IF,_,IG,_,IH,_,II,_,IJ,_,IK,_,IL,_,IM,_⟩,⟨PySem.W.mg_of X G jA,PySem.W.mg_of X G hZ,PySem.W.mg_of X G fH,yy.Vt ky (.cons ⟨_,rfl⟩ (.cons ⟨_,rfl⟩ (.cons ⟨_,rfl⟩ (.cons ⟨_,rfl⟩ (.nil))))),F0,PySem.W.mg_of X G a0,b0,F1,PySem.W.mg_of X G a1,b1,e1,F2,PySem.W.mg_of X G a2,b2,F3,PySem.W.mg_of X G a3,b3,F4,PySem.W.mg_of X G a4,b4,F5,PySem.W.mg_of X G a5,b5,F6,PySem.W.mg_of X G a6,b6,F7,PySem.W.mg_of X G a7,b7,F8,PySem.W.mg_of X G a8,b8,F9,PySem.W.mg_of X G a9,b9,TN,PySem.W.mg_of X G EE,XW,TR,PySem.W.mg_of X G Mx,XX,TU,PySem.W.mg_of X G MC,XY,TV,PySem.W.mg_of X G MG,XZ,TX,PySem.W.mg_of X G MK,X0,TY,PySem.W.mg_of X G MO,X1,TZ,PySem.W.mg_of X G MS,X2,T1,PySem.W.mg_of X G MW,X3,T2,PySem.W.mg_of X G M0,X4,T3,PySem.W.mg_of X G M5,X5,T4,PySem.W.mg_of X G M9,X6,T5,PySem.W.mg_of X G Nd,X7,T6,PySem.W.mg_of X G Ni,X8,T7,PySem.W.mg_of X G Nm,X9,T8,PySem.W.mg_of X G Nr,X_,T9,PySem.W.mg_of X G Nw,Ya,T_,PySem.W.mg_of X G NB,Yb,Ua,PySem.W.mg_of X G NG,Yc,Ub,PySem.W.mg_of X G NK,Yd,Uc,PySem.W.mg_of X G NP,Ye,PySem.W.mg_none_of X G mX,PySem.W.mg_none_of X G qP,PySem.W.mg_none_of X G nD,PySem.W.mg_none_of X G gY,PySem.W.mg_none_of X G h_,PySem.W.mg_none_of X G bc,PySem.W.mg_none_of X G fw,PySem.W.mg_none_of X G jY,PySem.W.mg_none_of X G uu,PySem.W.mg_none_of X G fI,PySem.W.mg_none_of X G iG,PySem.W.mg_none_of X G jB,PySem.W.mg_none_of X G iH,PySem.W.mg_none_of X G qQ⟩,fun s v=>.of_eq rfl⟩
theorem walk{l:PySem.W.OpenLaw}{q:Program}{loose:List Str}{XP:(Str→Option Value)→Heap→Prop}{YP:World→Heap→Prop}{d:DefRec}{K:Params→PySem.W.Frag}(hn:l.most=some 63)(DC:d.params.defaults=[])
  (hY:∀(w:World) (h:Heap),YP w h→(K w.params).In h)
  (F:∀(w:World) (mg:Str→Option Value) (fa:Addr) (h:Heap),(K w.params).In h→h.Ns mainGlobals mg→mg d.name=some (.ref fa)→
   ∃fd:FuncData,(∀(s:Shared) (u:Value),BindsTo s fd ⟨[u],[]⟩ [("_law_script",u)])∧∀base:Heap,(K w.params).In base→base.Ns mainGlobals mg→bM l.prog w (K w.params) mg base dj 63 fa fd ["_law_script"] (dN (K w.params) oi)):
  PySem.W.WalkO q loose XP YP l.row.toRowW d [] (fun f vs=>PySem.call f vs):=
 L2.DF (n:=63) (k:=63) (x:="_law_script") (CX:=fun _=>dj) (sp:=fun w=>dN (K w.params) oi) hn (by decide) DC ⟨rfl,by decide,by decide⟩ hY F (fun _ _ a ns hl hO hS=>let ⟨_,h⟩:=CH ns hl;Hf hO hS h) fun _ _ _ _ _ z=>z
end wM
open PySem PySem.W PyProof.Rows
local macro_rules (kind:=Lean.Parser.Term.structInst)|stx=>do
 if (stx.find? fun x=>x.isIdent&&x.getId.eraseMacroScopes==`globals).isSome then Lean.Macro.throwError "as a whole" else Lean.Macro.throwUnsupported
set_option maxRecDepth 100000 in
set_option maxHeartbeats 0 in
theorem PySem.Challenge.cw_sheetlay_k45_books_read_holds : PySem.Challenge.rw_sheetlay_k45_books_read.Holds := by
 w_on;o_law;k_head;(case hw=>w_witness2)
 k_fill
 refine wM.walk (l:=PySem.Challenge.rw_sheetlay_k45_books_read) rfl rfl (fun w h Y=>PySem.W.kIn_of Y) ?F
 case F=>
  intro w mg fa h KX G DD
  have TT:∃t,wM.Txt (L2.Oy KX) mg t∧(∀(s:Shared) (v:Value),BindsTo s t.ui ⟨[v],[]⟩ [("_law_script",v)]):=by
   dsimp only[L2.Oy]
   refine' wM.Im KX G ?a0 ?l0 ?c0 ?k0 ?a1 ?l1 ?c1 ?k1 ?IP ?a2 ?l2 ?c2 ?k2 ?a3 ?l3 ?c3 ?k3 ?a4 ?l4 ?c4 ?k4 ?a5 ?l5 ?c5 ?k5 ?a6 ?l6 ?c6 ?k6 ?a7 ?l7 ?c7 ?k7 ?a8 ?l8 ?c8 ?k8 ?a9 ?l9 ?c9 ?k9 ?EE ?Mu ?Mv ?Mw ?Mx ?Mz ?MA ?MB ?MC ?MD ?ME ?MF ?MG ?MH ?MI ?MJ ?MK ?ML ?MM ?MN ?MO ?MP ?MQ ?MR ?MS ?MT ?MU ?MV ?MW ?MX ?MY ?MZ ?M0 ?M1 ?M3 ?M4 ?M5 ?M6 ?M7 ?M8 ?M9 ?M_ ?Na ?Nc ?Nd ?Nf ?Ng ?Nh ?Ni ?Nj ?Nk ?Nl ?Nm ?Nn ?Np ?Nq ?Nr ?Nt ?Nu ?Nv ?Nw ?Ny ?Nz ?NA ?NB ?NC ?ND ?NF ?NG ?NH ?NI ?NJ ?NK ?NL ?NM ?NO ?NP ?NQ ?NR ?NS ?mX ?qP ?nD ?gY ?h_ ?bc ?fw ?jY ?uu ?fI ?iG ?jB ?iH ?qQ ?jA ?hZ ?fH ?ky
   (case a0=>k_is)
   (case l0=>k_is)
   (case c0=>k_is)
   (case k0=>k_is)
   (case a1=>k_is)
   (case l1=>k_is)
   (case c1=>k_is)
   (case k1=>k_is)
   (case IP=>k_is)
   (case a2=>k_is)
   (case l2=>k_is)
   (case c2=>k_is)
   (case k2=>k_is)
   (case a3=>k_is)
   (case l3=>k_is)
   (case c3=>k_is)
   (case k3=>k_is)
   (case a4=>k_is)
   (case l4=>k_is)
   (case c4=>k_is)
   (case k4=>k_is)
   (case a5=>k_is)
   (case l5=>k_is)
   (case c5=>k_is)
   (case k5=>k_is)
   (case a6=>k_is)
   (case l6=>k_is)
   (case c6=>k_is)
   (case k6=>k_is)
   (case a7=>k_is)
   (case l7=>k_is)
   (case c7=>k_is)
   (case k7=>k_is)
   (case a8=>k_is)
   (case l8=>k_is)
   (case c8=>k_is)
   (case k8=>k_is)
   (case a9=>k_is)
   (case l9=>k_is)
   (case c9=>k_is)
   (case k9=>k_is)
   (case EE=>k_is)
   (case Mu=>k_is)
   (case Mv=>k_is)
   (case Mw=>k_is)
   (case Mx=>k_is)
   (case Mz=>k_is)
   (case MA=>k_is)
   (case MB=>k_is)
   (case MC=>k_is)
   (case MD=>k_is)
   (case ME=>k_is)
   (case MF=>k_is)
   (case MG=>k_is)
   (case MH=>k_is)
   (case MI=>k_is)
   (case MJ=>k_is)
   (case MK=>k_is)
   (case ML=>k_is)
   (case MM=>k_is)
   (case MN=>k_is)
   (case MO=>k_is)
   (case MP=>k_is)
   (case MQ=>k_is)
   (case MR=>k_is)
   (case MS=>k_is)
   (case MT=>k_is)
   (case MU=>k_is)
   (case MV=>k_is)
   (case MW=>k_is)
   (case MX=>k_is)
   (case MY=>k_is)
   (case MZ=>k_is)
   (case M0=>k_is)
   (case M1=>k_is)
   (case M3=>k_is)
   (case M4=>k_is)
   (case M5=>k_is)
   (case M6=>k_is)
   (case M7=>k_is)
   (case M8=>k_is)
   (case M9=>k_is)
   (case M_=>k_is)
   (case Na=>k_is)
   (case Nc=>k_is)
   (case Nd=>k_is)
   (case Nf=>k_is)
   (case Ng=>k_is)
   (case Nh=>k_is)
   (case Ni=>k_is)
   (case Nj=>k_is)
   (case Nk=>k_is)
   (case Nl=>k_is)
   (case Nm=>k_is)
   (case Nn=>k_is)
   (case Np=>k_is)
   (case Nq=>k_is)
   (case Nr=>k_is)
   (case Nt=>k_is)
   (case Nu=>k_is)
   (case Nv=>k_is)
   (case Nw=>k_is)
   (case Ny=>k_is)
   (case Nz=>k_is)
   (case NA=>k_is)
   (case NB=>k_is)
   (case NC=>k_is)
   (case ND=>k_is)
   (case NF=>k_is)
   (case NG=>k_is)
   (case NH=>k_is)
   (case NI=>k_is)
   (case NJ=>k_is)
   (case NK=>k_is)
   (case NL=>k_is)
   (case NM=>k_is)
   (case NO=>k_is)
   (case NP=>k_is)
   (case NQ=>k_is)
   (case NR=>k_is)
   (case NS=>k_is)
   (case mX=>k_is)
   (case qP=>k_is)
   (case nD=>k_is)
   (case gY=>k_is)
   (case h_=>k_is)
   (case bc=>k_is)
   (case fw=>k_is)
   (case jY=>k_is)
   (case uu=>k_is)
   (case fI=>k_is)
   (case iG=>k_is)
   (case jB=>k_is)
   (case iH=>k_is)
   (case qQ=>k_is)
   (case jA=>k_is)
   (case hZ=>k_is)
   (case fH=>k_is)
   (case ky=>k_is)
  obtain⟨t,T,hb⟩:=TT
  have e0:=DD.symm.trans T.Mn
  cases e0
  exact⟨_,hb,fun base _ _=>wM.Il T⟩
