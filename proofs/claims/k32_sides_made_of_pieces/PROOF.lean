import PyProof.Rows.All
import Wide.All
import OpenK.AllK
import Wide.FinOn
import Lean
import PyProof.EqAt
import PyProof.EqKinds
import PyProof.TupleCall
import PySem.Challenge.RW_sheetlay_k32_sides_made_of_pieces
set_option Elab.async false
set_option linter.all false
set_option maxRecDepth 100000
namespace PySem
open Sem (wp)
section
variable{prog:Program}{w:World}{K:Type}[DecidableEq K](knd:KeyKind prog w K)
inductive jE(h:Heap):List (List K)→List Value→Prop
 |nil:jE h [] []
 |cons {ks:List K}{a:Addr}{bN:List (List K)}{vs:List Value}:IsTupleKey knd h ks a→jE h bN vs→jE h (ks::bN) (.ref a::vs)
def eT(h:Heap)(bN:List (List K))(a:Addr):Prop:=∃ob its m,h.get? a=some ob∧ob.cls= .type "tuple"∧ob.data= .seq its m∧jE knd h bN its.toList
variable{knd}
theorem jE.inj{h:Heap}{x y:List (List K)}{vs:List Value}(p:jE knd h x vs):jE knd h y vs→x=y:=by
 induction p generalizing y with
 |nil=>intro q;cases q;rfl
 |cons h1 _ ih=>
  intro q
  cases q with
  |cons h2 t2=>rw[h1.inj h2,ih t2]
theorem eT.typeIs{s:Shared}{bN:List (List K)}{a:Addr}(x:eT knd s.heap bN a):s.TypeIs (.ref a) "tuple":=by
 obtain⟨ob,_,_,ho,hc,_⟩:=x
 exact⟨ob,ho,hc⟩
theorem eT.inj{h:Heap}{a:Addr}{x y:List (List K)}(p:eT knd h x a)(q:eT knd h y a):x=y:=by
 obtain⟨o1,i1,n1,a1,_,b1,c1⟩:=p
 obtain⟨o2,i2,n2,a2,_,b2,c2⟩:=q
 rw[a1]at a2
 cases a2
 rw[b1]at b2
 injection b2 with b2 _
 subst b2
 exact c1.inj c2
theorem jE.keeps{h h':Heap}{bN:List (List K)}{vs:List Value}{d:Addr}{ob:Obj}{es ep}(x:jE knd h bN vs)(ho:h.get? d=some ob)(hd:ob.data= .dict es ep)(hs:Heap.SameBut d h h'):jE knd h' bN vs:=by
 induction x with
 |nil=>exact .nil
 |cons h1 _ ih=>exact .cons (h1.keeps ho hd hs) ih
theorem eT.keeps{h h':Heap}{bN:List (List K)}{a d:Addr}{ob:Obj}{es ep}(x:eT knd h bN a)(ho:h.get? d=some ob)(hd:ob.data= .dict es ep)(hs:Heap.SameBut d h h'):eT knd h' bN a:=by
 obtain⟨o1,i1,n1,a1,c1,b1,r1⟩:=x
 have ne:a≠d:=by
  intro e
  rw[e,ho]at a1
  cases a1
  rw[hd]at b1
  cases b1
 exact⟨o1,i1,n1,(hs.2 a ne).trans a1,c1,b1,r1.keeps ho hd hs⟩
def Cp(knd:KeyKind prog w K)(bN:List (List K)):Int:=reduceHash (Builtin.Tuple.tupleHashOf (bN.map (tupleKeyHash knd)))
def lR:List (List K)→Nat
 |[]=>0
 |ks::r=>(ks.length+1)+lR r
theorem xX:∀(x y:List (List K)),lR (x++y)=lR x+lR y
 |[],y=>by simp[lR]
 |a::x,y=>by simp only[List.cons_append,lR,xX x y];omega
variable{A:Around}{E:Value→Shared→Prop}{s:Shared}
theorem GZ{bN:List (List K)}{a:Addr}{Q:Int→Shared→Prop}(hu:A.units+4<cLine)(hk:eT knd s.heap bN a)(q:Q (Cp knd bN) { s with toks:=s.toks+(lR bN+1) }):
  wpAny (model prog w) A (pyHash (.ref a)) Q E s:=by
 have ty:=hk.typeIs
 obtain⟨ob,its,m,ho,_,hd,hi⟩:=hk
 unfold pyHash
 first|unfold pyHashByItsType|skip
 first|refine wpAny_bind (wpAny_cRoomFor_or (.inr (by omega)) ?_)|skip
 refine wpAny_bind (wpAny_specialOf ty F.slot_tuple_hash.lookup ?_)
 show wpAny _ _ (if (some (Value.builtin "tuple.__hash__")==some Value.none)=true then _ else _) Q E s
 rw[if_neg (by rw[beq_builtin_none];exact Bool.false_ne_true)]
 refine wpAny_bind (wpAny_specialOf ty F.slot_tuple_hash.lookup ?_)
 show wpAny _ _ (callSpecialIfBoundUnlessNone? (.ref a) "__hash__" _ >>= _) Q E s
 refine wpAny_bind (wpAny_callSpecialIfBoundUnlessNone?_slot ty F.slot_tuple_hash (wpAny_call_entry F.slot_tuple_hash ty F.entry_tuple_hash ?_ (F.args_tuple_hash_1 _)))
 show wpAny _ _ (Builtin.Tuple.tupleItemsOf (.ref a) >>= _) _ _ s
 refine wpAny_bind (wpAny_tupleItemsOf ho hd (wpAny_bind ?_))
 rw[←Array.forIn_toList]
 refine wpAny_forIn_list _ (fun rest (b:Array Int) s'=>∃done left,bN=done++left∧jE knd s.heap left rest∧b.toList=done.map (tupleKeyHash knd)∧s'= { s with toks:=s.toks+lR done }) _ ?_ ?_ _ _ ⟨[],bN,rfl,hi,rfl,rfl⟩
 ·rintro x rest b s' ⟨done,left,rfl,hl,hb,rfl⟩
  cases hl with
  |@cons ks c As _ h1 Cq=>
   refine wpAny_bind (wpAny_pyHash_tuple (s:={ s with toks:=s.toks+lR done }) (by show A.units+1<cLine;omega) h1 ?_)
   have fin:∃dn lf,done++ks::As=dn++lf∧jE knd s.heap lf rest∧(b.push (tupleKeyHash knd ks)).toList=dn.map (tupleKeyHash knd)∧({ s with toks:=s.toks+lR done+(ks.length+1) }:Shared)= { s with toks:=s.toks+lR dn }:=
    ⟨done++[ks],As,by simp,Cq,by simp[hb],by rw[xX];simp[lR,Nat.add_assoc]⟩
   first
    |exact wpAny_pure fin
    |exact wpAny_bind (wpAny_pure (wpAny_pure fin))
 ·rintro b s' ⟨done,left,rfl,hl,hb,rfl⟩
  cases hl
  rw[List.append_nil]at q
  show wpAny _ _ (retInt (Builtin.Tuple.tupleHashOf b.toList)) _ _ _
  rw[hb]
  refine wpAny_ret_mkInt ?_
  show wpAny _ _ (if (decide (-(2:Int) ^ 63≤Builtin.Tuple.tupleHashOf (done.map (tupleKeyHash knd)))&&decide (Builtin.Tuple.tupleHashOf (done.map (tupleKeyHash knd))<2 ^ 63))=true then _ else _) Q E _
  unfold Cp reduceHash at q
  by_cases hr:(decide (-(2:Int) ^ 63≤Builtin.Tuple.tupleHashOf (done.map (tupleKeyHash knd)))&&decide (Builtin.Tuple.tupleHashOf (done.map (tupleKeyHash knd))<2 ^ 63))=true
  ·rw[if_pos hr]at q ⊢
   exact wpAny_pure (by simpa[Nat.add_assoc]using q)
  ·rw[if_neg hr]at q ⊢
   exact wpAny_bind (wpAny_rule (wpAny_pure (by simpa[Nat.add_assoc]using q)))
theorem G0{x y:List (List K)}{a b:Addr}{P:Fin→Shared→Prop}(hu:A.units+2<cLine)(hx:eT knd s.heap x a)(hy:eT knd s.heap y b)(q:P (.done (.ret (.bool (decide (x=y))))) s):
  wpAny (model prog w) A (Builtin.«tuple.__eq__» ⟨[.ref a,.ref b],[]⟩) P E s:=by
 have ty:=hy.typeIs
 obtain⟨o1,xs,n1,ho1,_,hd1,PK⟩:=hx
 obtain⟨o2,ys,n2,Fg,_,hd2,S_⟩:=hy
 show wpAny _ _ (isInstance (.ref b) (.type "tuple") >>= _) _ _ s
 refine wpAny_bind (wpAny_isInstance ty isSubtype_tuple_tuple ?_)
 simp only[Bool.not_true,Bool.false_eq_true,if_false]
 refine wpAny_bind (wpAny_tupleItemsOf ho1 hd1 (wpAny_bind (wpAny_tupleItemsOf Fg hd2 (wpAny_bind ?_))))
 refine wpAny_forIn_list _ (fun rest r s'=>r.1=none∧s'=s∧∃x' y' qW qX,rest=List.zip qW qX∧jE knd s.heap x' qW∧jE knd s.heap y' qX∧decide (x'=y')=decide (x=y)∧(qW.length==qX.length)=(xs.size==ys.size)) _ ?_ ?_ _ _ ⟨rfl,rfl,x,y,xs.toList,ys.toList,rfl,PK,S_,rfl,by simp⟩
 ·rintro⟨u,v⟩ rest r s' ⟨hr,rfl,x',y',qW,qX,hz,hV,kA,qY,hlen⟩
  cases hV with
  |nil=>simp at hz
  |@cons k1 c1 x2 xs2 h1 hx2=>
   cases kA with
   |nil=>simp at hz
   |@cons k2 c2 y2 ys2 h2 hy2=>
    simp only[List.zip_cons_cons,List.cons.injEq,Prod.mk.injEq]at hz
    obtain⟨⟨rfl,rfl⟩,rfl⟩:=hz
    refine wpAny_bind (wpAny_eqBool_tuple (x:=k1) (y:=k2) (by omega) h1 h2 ?_)
    by_cases hk:k1=k2
    ·subst hk
     rw[decide_eq_true rfl]
     simp only[Bool.not_true,Bool.false_eq_true,if_false]
     refine wpAny_pure ⟨rfl,rfl,x2,y2,xs2,ys2,rfl,hx2,hy2,?_,by simpa using hlen⟩
     rw[←qY]
     by_cases Cr:x2=y2
     ·simp[Cr]
     ·simp[Cr]
    ·rw[decide_eq_false hk]
     simp only[Bool.not_false,if_true]
     have hf:decide (x=y)=false:=by rw[←qY];simp[hk]
     rw[hf]at q
     exact wpAny_bind (wpAny_pure (wpAny_pure (wpAny_pure q)))
 ·rintro⟨r1,r2⟩ s' ⟨hr,rfl,x',y',qW,qX,hz,hV,kA,qY,hlen⟩
  simp only at hr
  subst hr
  refine wpAny_pure ?_
  have fin:(xs.size==ys.size)=decide (x=y):=by
   rw[←qY,←hlen]
   cases hV with
   |nil=>
    cases kA with
    |nil=>simp
    |cons _ _=>simp
   |cons _ _=>
    cases kA with
    |nil=>simp
    |cons _ _=>simp at hz
  show P (.done (.ret (.bool (xs.size==ys.size)))) s'
  rw[fin]
  exact q
theorem G3{x y:List (List K)}{a b:Addr}{Q:Bool→Shared→Prop}(hu:A.units+4<cLine)(hx:eT knd s.heap x a)(hy:eT knd s.heap y b)(q:Q (decide (x=y)) s):
  wpAny (model prog w) A (eqBool (.ref a) (.ref b)) Q E s:=by
 unfold eqBool
 try with_reducible refine wpAny_holding ?_
 show wpAny _ _ (if (Value.ref a==Value.ref b)=true then _ else _) Q E s
 by_cases vO:(Value.ref a==Value.ref b)=true
 ·rw[if_pos vO]
  have e:a=b:=by have:=eq_of_beq vO;injection this
  subst e
  obtain rfl:=hx.inj hy
  exact wpAny_bind (wpAny_rule (wpAny_pure (by simpa using q)))
 ·rw[if_neg vO]
  exact wpAny_bind (wpAny_richCompare_same_room (op:=.Eq) hx.typeIs hy.typeIs F.slot_tuple_eq
   (wpAny_call_entry F.slot_tuple_eq hx.typeIs F.entry_tuple_eq (G0 (by show A.units+1+2<cLine;omega) hx hy ⟨_,rfl,(fun e=>nomatch e),wpAny_truthy_bool q⟩) (F.args_tuple_eq_2 _ _)) (by omega))
theorem KJ{ks:List K}{n:Nat}{a:Addr}{Q:Bool→Shared→Prop}(hk:IsTupleKey knd s.heap ks a)(q:Q true s):wpAny (model prog w) A (eqIsQuiet (n+1) (.ref a)) Q E s:=by
 have ty:=hk.typeIs
 obtain⟨ob,its,m,ho,_,hd,hi⟩:=hk
 unfold eqIsQuiet
 refine wpAny_bind (wpAny_specialOf ty F.slot_tuple_eq.lookup ?_)
 show wpAny _ _ (isInstance (.ref a) (.type "tuple") >>= _) _ _ s
 refine wpAny_bind (wpAny_isInstance ty isSubtype_tuple_tuple ?_)
 simp only[Bool.not_true,Bool.false_eq_true,if_false]
 refine wpAny_bind (wpAny_seqItems ho hd (wpAny_bind ?_))
 show wpAny _ _ (forIn its _ _) _ _ s
 rw[←Array.forIn_toList]
 refine wpAny_forIn_list _ (fun rest r s'=>r.1=none∧s'=s∧∀v∈rest,carriedByValue v=true) _ ?_ ?_ _ _ ⟨rfl,rfl,hi.byValue⟩
 ·rintro v rest r s' ⟨hr,rfl,qb⟩
  rw[eqIsQuiet_byValue _ (qb v List.mem_cons_self)]
  refine wpAny_bind (wpAny_pure ?_)
  simp only[Bool.not_true,Bool.false_eq_true,if_false]
  exact wpAny_pure ⟨rfl,rfl,fun u hu'=>qb u (List.mem_cons_of_mem _ hu')⟩
 ·rintro⟨r1,r2⟩ s' ⟨hr,rfl,_⟩
  simp only at hr
  subst hr
  exact wpAny_pure q
theorem KL{bN:List (List K)}{a:Addr}{Q:Bool→Shared→Prop}(hk:eT knd s.heap bN a)(q:Q true s):wpAny (model prog w) A (eqIsQuiet 8 (.ref a)) Q E s:=by
 have ty:=hk.typeIs
 obtain⟨ob,its,m,ho,_,hd,hi⟩:=hk
 unfold eqIsQuiet
 refine wpAny_bind (wpAny_specialOf ty F.slot_tuple_eq.lookup ?_)
 show wpAny _ _ (isInstance (.ref a) (.type "tuple") >>= _) _ _ s
 refine wpAny_bind (wpAny_isInstance ty isSubtype_tuple_tuple ?_)
 simp only[Bool.not_true,Bool.false_eq_true,if_false]
 refine wpAny_bind (wpAny_seqItems ho hd (wpAny_bind ?_))
 show wpAny _ _ (forIn its _ _) _ _ s
 rw[←Array.forIn_toList]
 refine wpAny_forIn_list _ (fun rest r s'=>r.1=none∧s'=s∧∃As,jE knd s.heap As rest) _ ?_ ?_ _ _ ⟨rfl,rfl,bN,hi⟩
 ·rintro v rest r s' ⟨hr,rfl,As,hl⟩
  cases hl with
  |@cons ks c Ta _ h1 Cq=>
   refine wpAny_bind (KJ (n:=6) h1 ?_)
   simp only[Bool.not_true,Bool.false_eq_true,if_false]
   exact wpAny_pure ⟨rfl,rfl,Ta,Cq⟩
 ·rintro⟨r1,r2⟩ s' ⟨hr,rfl,_⟩
  simp only at hr
  subst hr
  exact wpAny_pure q
end
def mF{prog:Program}{w:World}{K:Type}[DecidableEq K](knd:KeyKind prog w K):HeapKind prog w (List (List K)) where
 is:=eT knd
 hash:=Cp knd
 draws:=fun bN=>lR bN+1
 room:=fun A=>A.units+4<cLine
 inj:=fun hx hy=>hx.inj hy
 keeps:=fun x ho hd hs=>x.keeps ho hd hs
 pyHash:=fun hu hk h=>GZ hu hk h
 eqBool:=fun hu hx hy h=>G3 hu hx hy h
 quiet:=fun hk h=>KL hk h
end PySem
namespace PySem
open Sem (wp)
def dg(h:Heap)(d:Addr)(es:Array DictEntry)(ep:Nat):Prop:=∃ob,h.get? d=some ob∧ob.ExactDict∧ob.data= .dict es ep
section
variable{prog:Program}{w:World}{A:Around}{E:Value→Shared→Prop}{s:Shared}
theorem dg.at{h h':Heap}{d:Addr}{es:Array DictEntry}{ep:Nat}(x:dg h d es ep)(k:∀o,h.get? d=some o→h'.get? d=some o):dg h' d es ep:=by
 obtain⟨ob,h1,h2⟩:=x
 exact⟨ob,k _ h1,h2⟩
theorem dg.lt{h:Heap}{d:Addr}{es:Array DictEntry}{ep:Nat}(x:dg h d es ep):d<h.objs.size:=by
 obtain⟨ob,h1,_⟩:=x
 exact Heap.lt_size h1
theorem dg.typeIs{d:Addr}{es:Array DictEntry}{ep:Nat}(x:dg s.heap d es ep):s.TypeIs (.ref d) "dict":=by
 obtain⟨ob,h1,h2,_⟩:=x
 exact⟨ob,h1,h2.1⟩
theorem G4{d:Addr}{es:Array DictEntry}{ep:Nat}{Q:Value→Shared→Prop}(nd:(d==sysModules)=false)(m:dg s.heap d es ep)
  (q:Q (.ref s.heap.objs.size) { s with heap:=s.heap.push { cls:=.type "dict_keyiterator",data:=.fields #[.ref d,.int 0 0,.int es.size 0,.int ep 0] } }):
  wpAny (model prog w) A (pyIter (.ref d)) Q E s:=by
 have ty:=m.typeIs
 obtain⟨ob,g1,g2,g3⟩:=m
 refine wpAny_pyIter_slot ty F.slot_dict_iter (wpAny_call_entry F.slot_dict_iter ty F.entry_dict_iter ?_ (F.args_dict_iter_1 _))
 unfold Builtin.«dict.__iter__»
 refine wpAny_bind (m:=Builtin.Dict.dictSlotNone _ _) ?_
 unfold Builtin.Dict.dictSlotNone
 refine wpAny_bind (wpAny_notOrdered_dict ty ?_)
 show wpAny _ _ (pure (Value.ref d)) _ _ s
 refine wpAny_pure ?_
 show wpAny _ _ (Builtin.Dict.showsAll d >>= _) _ _ s
 unfold Builtin.Dict.showsAll
 rw[if_neg (by rw[nd];exact Bool.false_ne_true)]
 refine wpAny_bind (wpAny_pure (wpAny_bind (wpAny_dictEntries g1 g3 (wpAny_bind (wpAny_dictEpoch g1 g3 ?_)))))
 refine wpAny_bind (wpAny_newObj_type (wpAny_pure ⟨_,rfl,"dict_keyiterator",_,⟨_,Heap.get?_push_size _ rfl,rfl⟩,F.slot_dict_keyiterator_next.lookup,?_⟩))
 simpa[rawInt]using q
theorem Tb{it d:Addr}{i ep:Nat}{es:Array DictEntry}{e:DictEntry}{Q:Value→Shared→Prop}(I:s.heap.IsKeyIter it d i es.size ep)(m:dg s.heap d es ep)(x:es[i]? =some e)
  (q:∀h',h'.IsKeyIter it d (i+1) es.size ep→Heap.SameBut it s.heap h'→Q e.key { s with heap:=h' }):wpAny (model prog w) A (Builtin.«dict_keyiterator.__next__» ⟨[.ref it],[]⟩) (fun fin s'=>∃v,fin= .done (.ret v)∧Q v s') E s:=by
 have ty:=I.typeIs
 obtain⟨o1,a1,a2,a3⟩:=id I
 obtain⟨o2,b1,b2,b3⟩:=m
 refine wpAny_bind (wpAny_pure (wpAny_bind (wpAny_bind ?_)))
 first|refine wpAny_bind (wpAny_typeNameOfWhole_keyiter ty (wpAny_pure ?_))|refine wpAny_bind (wpAny_typeNameOf_keyiter ty (wpAny_pure ?_))
 refine wpAny_bind (wpAny_fieldsOf a1 a3 ?_)
 have own:Builtin.Dict_items.ownsTuple "dict_keyiterator" =false:=by decide
 simp only[own,Bool.false_eq_true,if_false]
 show wpAny _ _ (if (Value.ref d==Value.none)=true then _ else _) _ _ s
 rw[if_neg (show ¬((Value.ref d==Value.none)=true)from Bool.false_ne_true)]
 refine wpAny_bind (wpAny_pure (wpAny_bind (wpAny_dictEntries b1 b3 ?_)))
 rw[if_neg (by simp)]
 refine wpAny_bind (wpAny_pure (wpAny_bind (wpAny_dictEpoch b1 b3 ?_)))
 rw[if_neg (by simp)]
 refine wpAny_pure ?_
 simp only[show ¬((i:Int)<0)from by omega,if_false,Int.toNat_natCast,x]
 refine wpAny_bind ?_
 first|refine wpAny_bind (wpAny_typeNameOfWhole_keyiter ty (wpAny_pure ?_))|refine wpAny_bind (wpAny_typeNameOf_keyiter ty (wpAny_pure ?_))
 refine wpAny_bind (wpAny_isOneOf_keyiter ty ?_)
 show wpAny _ _ (setField (.ref it) 1 (rawInt ((i:Int)+1)) >>= _) _ _ s
 refine wpAny_bind (wpAny_setField a1 a3 (by simp) ?_)
 have I':(s.heap.update it (Obj.mapFields (·.setIfInBounds 1 (rawInt ((i:Int)+1))))).IsKeyIter it d (i+1) es.size ep:=
  ⟨_,Heap.get?_update_self _ a1 (Obj.isFreed_of_fields (Obj.data_mapFields a3 _)),(Obj.cls_mapFields ..).trans a2,by rw[Obj.data_mapFields a3];simp[rawInt]⟩
 refine wpAny_bind (wpAny_holding (wpAny_bind (wpAny_isOneOf_keyiter (s:={ s with heap:=s.heap.update it (Obj.mapFields (·.setIfInBounds 1 (rawInt ((i:Int)+1)))) }) I'.typeIs ?_)))
 show wpAny _ _ (pure e.key) _ _ _
 exact wpAny_pure (wpAny_pure ⟨_,rfl,q _ I' (Heap.SameBut.update ..)⟩)
theorem Tc{it d:Addr}{i ep:Nat}{es:Array DictEntry}{Q:Fin→Shared→Prop}(hh:A.handled=none)(I:s.heap.IsKeyIter it d i es.size ep)(m:dg s.heap d es ep)(x:es.size≤i)
  (q:∀h' e,Heap.ExtBut it s.heap h'→(∃o,h'.get? e=some o∧o.cls= .type "StopIteration")→E (.ref e) { s with heap:=h' }):wpAny (model prog w) A (Builtin.«dict_keyiterator.__next__» ⟨[.ref it],[]⟩) Q E s:=by
 have ty:=I.typeIs
 obtain⟨o1,a1,a2,a3⟩:=id I
 obtain⟨o2,b1,b2,b3⟩:=m
 refine wpAny_bind (wpAny_pure (wpAny_bind (wpAny_bind ?_)))
 first|refine wpAny_bind (wpAny_typeNameOfWhole_keyiter ty (wpAny_pure ?_))|refine wpAny_bind (wpAny_typeNameOf_keyiter ty (wpAny_pure ?_))
 refine wpAny_bind (wpAny_fieldsOf a1 a3 ?_)
 have own:Builtin.Dict_items.ownsTuple "dict_keyiterator" =false:=by decide
 simp only[own,Bool.false_eq_true,if_false]
 show wpAny _ _ (if (Value.ref d==Value.none)=true then _ else _) _ _ s
 rw[if_neg (show ¬((Value.ref d==Value.none)=true)from Bool.false_ne_true)]
 refine wpAny_bind (wpAny_pure (wpAny_bind (wpAny_dictEntries b1 b3 ?_)))
 rw[if_neg (by simp)]
 refine wpAny_bind (wpAny_pure (wpAny_bind (wpAny_dictEpoch b1 b3 ?_)))
 rw[if_neg (by simp)]
 refine wpAny_pure ?_
 simp only[show ¬((i:Int)<0)from by omega,if_false,Int.toNat_natCast,Array.getElem?_eq_none x]
 refine wpAny_bind ?_
 first|refine wpAny_bind (wpAny_typeNameOfWhole_keyiter ty (wpAny_pure ?_))|refine wpAny_bind (wpAny_typeNameOf_keyiter ty (wpAny_pure ?_))
 show wpAny _ _ (setField (.ref it) 0 .none >>= _) _ _ s
 refine wpAny_bind (wpAny_setField a1 a3 (by simp) ?_)
 show wpAny _ _ (newExc (.type "StopIteration") [] >>= _) _ _ _
 refine wpAny_bind ?_
 simp only[newExc,newTuple]
 refine wpAny_bind (wpAny_newObj_type (wpAny_bind (m:=firstArgMember _ _) (wpAny_of_eq (a:=Value.none) (by first|rfl|(simp only[firstArgMember];rfl)) (wpAny_newObj_type ?_ (by size_fits)))) (by size_fits))
 simp only[raiseNew]
 refine wpAny_bind (wpAny_handled ?_)
 rw[hh]
 exact(wpAny_bind (wpAny_pure (wpAny_throw (q _ _ (((Heap.SameBut.update ..).extBut.push _).push _) ⟨_,Heap.get?_push_size _ rfl,rfl⟩))))
theorem PL{it d:Addr}{i ep:Nat}{es:Array DictEntry}{e:DictEntry}{Q:Option Value→Shared→Prop}(I:s.heap.IsKeyIter it d i es.size ep)(m:dg s.heap d es ep)(x:es[i]? =some e)
  (q:∀h',h'.IsKeyIter it d (i+1) es.size ep→Heap.SameBut it s.heap h'→Q (some e.key) { s with heap:=h' }):wpAny (model prog w) A (pyNext (.ref it)) Q E s:=by
 have ty:=I.typeIs
 unfold pyNext
 exact wpAny_bind (wpAny_attempt (wpAny_callSpecial?_slot (name:=Str.ofString "__next__") ty F.slot_dict_keyiterator_next (wpAny_call_entry F.slot_dict_keyiterator_next ty F.entry_dict_keyiterator_next (Tb I m x fun h' I' sb=>wpAny_pure (q h' I' sb)) (F.args_dict_keyiterator_next_1 _))))
theorem PM{it d:Addr}{i ep:Nat}{es:Array DictEntry}{Q:Option Value→Shared→Prop}(hh:A.handled=none)(I:s.heap.IsKeyIter it d i es.size ep)(m:dg s.heap d es ep)(x:es.size≤i)
  (q:∀h',Heap.ExtBut it s.heap h'→Q none { s with heap:=h' }):wpAny (model prog w) A (pyNext (.ref it)) Q E s:=by
 have ty:=I.typeIs
 unfold pyNext
 refine wpAny_bind (wpAny_attempt (wpAny_callSpecial?_slot (name:=Str.ofString "__next__") ty F.slot_dict_keyiterator_next (wpAny_call_entry F.slot_dict_keyiterator_next ty F.entry_dict_keyiterator_next (Tc (show A.in1.handled=none from hh) I m x fun h' e eb he=>?_) (F.args_dict_keyiterator_next_1 _))))
 obtain⟨o,ho,hc⟩:=he
 exact wpAny_bind (wpAny_isInstance (T:="StopIteration") (b:=true) ⟨o,ho,hc⟩ isSubtype_stop (wpAny_pure (q _ eb)))
theorem Td{it d:Addr}{i ep:Nat}{es:Array DictEntry}{e:DictEntry}{Q:Value→Shared→Prop}(I:s.heap.IsKeyIter it d i es.size ep)(m:dg s.heap d es ep)(x:es[i]? =some e)
  (q:∀h',h'.IsKeyIter it d (i+1) es.size ep→Heap.SameBut it s.heap h'→Q e.key { s with heap:=h' }):wpAny (model prog w) A (Builtin.SmallTypes.nextOf (.ref it)) Q E s:=by
 have ty:=I.typeIs
 unfold Builtin.SmallTypes.nextOf
 exact wpAny_bind (wpAny_callSpecial?_slot (name:=Str.ofString "__next__") ty F.slot_dict_keyiterator_next (wpAny_call_entry F.slot_dict_keyiterator_next ty F.entry_dict_keyiterator_next (Tb I m x fun h' I' sb=>wpAny_pure (q h' I' sb)) (F.args_dict_keyiterator_next_1 _)))
theorem deE{it d:Addr}{i ep:Nat}{es:Array DictEntry}{Q:Value→Shared→Prop}(hh:A.handled=none)(I:s.heap.IsKeyIter it d i es.size ep)(m:dg s.heap d es ep)(x:es.size≤i)
  (q:∀h' e,Heap.ExtBut it s.heap h'→(∃o,h'.get? e=some o∧o.cls= .type "StopIteration")→E (.ref e) { s with heap:=h' }):wpAny (model prog w) A (Builtin.SmallTypes.nextOf (.ref it)) Q E s:=by
 have ty:=I.typeIs
 unfold Builtin.SmallTypes.nextOf
 exact wpAny_bind (wpAny_callSpecial?_slot (name:=Str.ofString "__next__") ty F.slot_dict_keyiterator_next (wpAny_call_entry F.slot_dict_keyiterator_next ty F.entry_dict_keyiterator_next (Tc (show A.in1.handled=none from hh) I m x q) (F.args_dict_keyiterator_next_1 _)))
theorem KN(hh:A.handled=none)(I d:Addr)(fH:d≠I)(es:Array DictEntry)(ep:Nat):
  Walks prog w A I [I,d] [I] es.size (fun i v=>∃e,es[i]? =some e∧v=e.key) (fun i h=>h.IsKeyIter I d i es.size ep∧dg h d es ep) where
 sub:=fun b hb=>by simp at hb;simp[hb]
 frame:=fun _ _ _ st hk=>⟨st.1.at fun o e=>hk I (by simp) o e,st.2.at fun o e=>hk d (by simp) o e⟩
 item:=fun i s Q E hi st hQ=>by
  have x:es[i]? =some es[i]:=Array.getElem?_eq_getElem hi
  refine PL st.1 st.2 x fun h' I' sb=>?_
  exact hQ _ h' s.toks ⟨_,x,rfl⟩ ⟨I',st.2.at fun o e=>(sb.2 d fH).trans e⟩ fun b o hb e=>sb.extBut b o (fun h=>hb (by simp[h])) e
 done:=fun s Q E st hQ=>PM hh st.1 st.2 (Nat.le_refl _) fun h' PN=>hQ h' s.toks fun b o hb e=>PN b o (fun h=>hb (by simp[h])) e
 self:=fun _ _ _ _ st hQ=>wpAny_pyIter_keyiter st.1 hQ
theorem Oo{d:Addr}{es:Array DictEntry}{ep:Nat}(nd:(d==sysModules)=false):PySem.W.KdlSrc prog w "dict" d d es.size (fun i v=>∃e,es[i]? =some e∧v=e.key) (fun h=>dg h d es ep) where
 type:=fun _ m=>m.typeIs
 there:=fun _ m=>⟨m.lt,m.lt⟩
 keep:=fun _ _ m hk=>m.at fun o e=>hk d (.inl rfl) o e
 notList:=by decide
 notTuple:=by decide
 hint:=fun _ _ _ _ m hq=>PySem.W.kdl_hint_dict m.typeIs hq
 iter:=fun _ _ hh m=>⟨_,_,(fun _ _ hq=>G4 nd m hq),KN hh _ d (Nat.ne_of_lt m.lt) es ep,⟨⟨_,Heap.get?_push_size _ rfl,rfl,rfl⟩,m.at fun o e=>Heap.get?_push_of_some _ e⟩⟩
theorem G5(d:Addr)(nd:(d==sysModules)=false):MeetsIn prog w (Builtin.«dict.values» ⟨[.ref d],[]⟩) (fun _ R s=>(∃es ep,dg s.heap d es ep)∧R (.ok (.ret (.ref s.heap.objs.size))) { s with heap:=s.heap.push { cls:=.type "dict_values",data:=.fields #[.ref d] } }):=
 .of_wp <| by
  rintro A R s ⟨⟨es,ep,m⟩,h⟩
  refine wpAny_bind (m:=Builtin.Dict.noArgs _ _) ?_
  unfold Builtin.Dict.noArgs
  refine wpAny_bind (wpAny_notOrdered_dict m.typeIs ?_)
  show wpAny _ _ (pure d) _ _ s
  refine wpAny_pure ?_
  show wpAny _ _ (Builtin.Dict.showsAll d >>= _) _ _ s
  unfold Builtin.Dict.showsAll
  rw[if_neg (by rw[nd];exact Bool.false_ne_true)]
  exact wpAny_bind (wpAny_pure (wpAny_bind (wpAny_newObj_type (wpAny_pure ⟨_,rfl,h⟩))))
theorem PQ{v d:Addr}{es:Array DictEntry}{ep:Nat}{Q:Value→Shared→Prop}(V:s.heap.IsValuesView v d)(m:dg s.heap d es ep)
  (q:Q (.ref s.heap.objs.size) { s with heap:=s.heap.push { cls:=.type "dict_valueiterator",data:=.fields #[.ref d,.int 0 0,.int es.size 0,.int ep 0] } }):wpAny (model prog w) A (pyIter (.ref v)) Q E s:=by
 have ty:=V.typeIs
 obtain⟨o1,a1,a2,a3⟩:=V
 obtain⟨o2,b1,b2,b3⟩:=m
 refine wpAny_pyIter_slot ty F.slot_dict_values_iter (wpAny_call_entry F.slot_dict_values_iter ty F.entry_dict_values_iter ?_ (F.args_dict_values_iter_1 _))
 unfold Builtin.«dict_values.__iter__»
 refine wpAny_bind (wpAny_pure (wpAny_bind (m:=Builtin.Dict_items.dictOf _) ?_))
 unfold Builtin.Dict_items.dictOf
 refine wpAny_bind (wpAny_field a1 a3 (x:=.ref d) rfl (wpAny_pure (wpAny_bind (m:=Builtin.Dict_items.newIterator _ _) ?_)))
 unfold Builtin.Dict_items.newIterator
 refine wpAny_bind (wpAny_dictEntries b1 b3 (wpAny_bind (wpAny_dictEpoch b1 b3 ?_)))
 have own:Builtin.Dict_items.ownsTuple "dict_valueiterator" =false:=by decide
 simp only[own,Bool.false_eq_true,if_false]
 refine wpAny_newObj_type (wpAny_pure ⟨_,rfl,"dict_valueiterator",_,⟨_,Heap.get?_push_size _ rfl,rfl⟩,F.slot_dict_valueiterator_next.lookup,?_⟩)
 simpa[rawInt]using q
theorem PR{it d:Addr}{i ep:Nat}{es:Array DictEntry}{e:DictEntry}{Q:Option Value→Shared→Prop}(I:s.heap.IsValIter it d i es.size ep)(m:dg s.heap d es ep)(x:es[i]? =some e)
  (q:∀h',h'.IsValIter it d (i+1) es.size ep→Heap.SameBut it s.heap h'→Q (some e.val) { s with heap:=h' }):wpAny (model prog w) A (pyNext (.ref it)) Q E s:=by
 have ty:=I.typeIs
 obtain⟨o1,a1,a2,a3⟩:=id I
 obtain⟨o2,b1,b2,b3⟩:=m
 unfold pyNext
 refine wpAny_bind (wpAny_attempt (wpAny_callSpecial?_slot (name:=Str.ofString "__next__") ty F.slot_dict_valueiterator_next (wpAny_call_entry F.slot_dict_valueiterator_next ty F.entry_dict_valueiterator_next ?_ (F.args_dict_valueiterator_next_1 _))))
 refine wpAny_bind (wpAny_pure (wpAny_bind (wpAny_bind ?_)))
 first|refine wpAny_bind (wpAny_typeNameOfWhole_valiter ty (wpAny_pure ?_))|refine wpAny_bind (wpAny_typeNameOf_valiter ty (wpAny_pure ?_))
 refine wpAny_bind (wpAny_fieldsOf a1 a3 ?_)
 have own:Builtin.Dict_items.ownsTuple "dict_valueiterator" =false:=by decide
 simp only[own,Bool.false_eq_true,if_false]
 show wpAny _ _ (if (Value.ref d==Value.none)=true then _ else _) _ _ s
 rw[if_neg (show ¬((Value.ref d==Value.none)=true)from Bool.false_ne_true)]
 refine wpAny_bind (wpAny_pure (wpAny_bind (wpAny_dictEntries b1 b3 ?_)))
 rw[if_neg (by simp)]
 refine wpAny_bind (wpAny_pure (wpAny_bind (wpAny_dictEpoch b1 b3 ?_)))
 rw[if_neg (by simp)]
 refine wpAny_pure ?_
 simp only[show ¬((i:Int)<0)from by omega,if_false,Int.toNat_natCast,x]
 refine wpAny_bind ?_
 first|refine wpAny_bind (wpAny_typeNameOfWhole_valiter ty (wpAny_pure ?_))|refine wpAny_bind (wpAny_typeNameOf_valiter ty (wpAny_pure ?_))
 refine wpAny_bind (wpAny_isOneOf_valiter ty ?_)
 show wpAny _ _ (setField (.ref it) 1 (rawInt ((i:Int)+1)) >>= _) _ _ s
 refine wpAny_bind (wpAny_setField a1 a3 (by simp) ?_)
 have I':(s.heap.update it (Obj.mapFields (·.setIfInBounds 1 (rawInt ((i:Int)+1))))).IsValIter it d (i+1) es.size ep:=
  ⟨_,Heap.get?_update_self _ a1 (Obj.isFreed_of_fields (Obj.data_mapFields a3 _)),(Obj.cls_mapFields ..).trans a2,by rw[Obj.data_mapFields a3];simp[rawInt]⟩
 refine wpAny_bind (wpAny_holding (wpAny_bind (wpAny_isOneOf_valiter (s:={ s with heap:=s.heap.update it (Obj.mapFields (·.setIfInBounds 1 (rawInt ((i:Int)+1)))) }) I'.typeIs ?_)))
 refine wpAny_bind (wpAny_isOneOf_valiter (s:={ s with heap:=s.heap.update it (Obj.mapFields (·.setIfInBounds 1 (rawInt ((i:Int)+1)))) }) I'.typeIs ?_)
 show wpAny _ _ (pure e.val) _ _ _
 exact wpAny_pure (wpAny_pure ⟨_,rfl,wpAny_pure (q _ I' (Heap.SameBut.update ..))⟩)
theorem PU{it d:Addr}{i ep:Nat}{es:Array DictEntry}{Q:Option Value→Shared→Prop}(hh:A.handled=none)(I:s.heap.IsValIter it d i es.size ep)(m:dg s.heap d es ep)(x:es.size≤i)
  (q:∀h',Heap.ExtBut it s.heap h'→Q none { s with heap:=h' }):wpAny (model prog w) A (pyNext (.ref it)) Q E s:=by
 have ty:=I.typeIs
 obtain⟨o1,a1,a2,a3⟩:=id I
 obtain⟨o2,b1,b2,b3⟩:=m
 unfold pyNext
 refine wpAny_bind (wpAny_attempt (wpAny_callSpecial?_slot (name:=Str.ofString "__next__") ty F.slot_dict_valueiterator_next (wpAny_call_entry F.slot_dict_valueiterator_next ty F.entry_dict_valueiterator_next ?_ (F.args_dict_valueiterator_next_1 _))))
 refine wpAny_bind (wpAny_pure (wpAny_bind (wpAny_bind ?_)))
 first|refine wpAny_bind (wpAny_typeNameOfWhole_valiter ty (wpAny_pure ?_))|refine wpAny_bind (wpAny_typeNameOf_valiter ty (wpAny_pure ?_))
 refine wpAny_bind (wpAny_fieldsOf a1 a3 ?_)
 have own:Builtin.Dict_items.ownsTuple "dict_valueiterator" =false:=by decide
 simp only[own,Bool.false_eq_true,if_false]
 show wpAny _ _ (if (Value.ref d==Value.none)=true then _ else _) _ _ s
 rw[if_neg (show ¬((Value.ref d==Value.none)=true)from Bool.false_ne_true)]
 refine wpAny_bind (wpAny_pure (wpAny_bind (wpAny_dictEntries b1 b3 ?_)))
 rw[if_neg (by simp)]
 refine wpAny_bind (wpAny_pure (wpAny_bind (wpAny_dictEpoch b1 b3 ?_)))
 rw[if_neg (by simp)]
 refine wpAny_pure ?_
 simp only[show ¬((i:Int)<0)from by omega,if_false,Int.toNat_natCast,Array.getElem?_eq_none x]
 refine wpAny_bind ?_
 first|refine wpAny_bind (wpAny_typeNameOfWhole_valiter ty (wpAny_pure ?_))|refine wpAny_bind (wpAny_typeNameOf_valiter ty (wpAny_pure ?_))
 show wpAny _ _ (setField (.ref it) 0 .none >>= _) _ _ s
 refine wpAny_bind (wpAny_setField a1 a3 (by simp) ?_)
 show wpAny _ _ (newExc (.type "StopIteration") [] >>= _) _ _ _
 refine wpAny_bind ?_
 simp only[newExc,newTuple]
 refine wpAny_bind (wpAny_newObj_type (wpAny_bind (m:=firstArgMember _ _) (wpAny_of_eq (a:=Value.none) (by first|rfl|(simp only[firstArgMember];rfl)) (wpAny_newObj_type ?_ (by size_fits)))) (by size_fits))
 simp only[raiseNew]
 refine wpAny_bind (wpAny_handled ?_)
 rw[show A.in1.handled=none from hh]
 refine(wpAny_bind (wpAny_pure (wpAny_throw ?_)))
 refine(wpAny_bind (wpAny_isInstance (T:="StopIteration") (b:=true) ⟨_,Heap.get?_push_size _ rfl,rfl⟩ isSubtype_stop ?_))
 exact wpAny_pure (q _ (((Heap.SameBut.update ..).extBut.push _).push _))
theorem KO(hh:A.handled=none)(I d:Addr)(fH:d≠I)(es:Array DictEntry)(ep:Nat):
  Walks prog w A I [I,d] [I] es.size (fun i v=>∃e,es[i]? =some e∧v=e.val) (fun i h=>h.IsValIter I d i es.size ep∧dg h d es ep) where
 sub:=fun b hb=>by simp at hb;simp[hb]
 frame:=fun _ _ _ st hk=>⟨st.1.at fun o e=>hk I (by simp) o e,st.2.at fun o e=>hk d (by simp) o e⟩
 item:=fun i s Q E hi st hQ=>by
  have x:es[i]? =some es[i]:=Array.getElem?_eq_getElem hi
  refine PR st.1 st.2 x fun h' I' sb=>?_
  exact hQ _ h' s.toks ⟨_,x,rfl⟩ ⟨I',st.2.at fun o e=>(sb.2 d fH).trans e⟩ fun b o hb e=>sb.extBut b o (fun h=>hb (by simp[h])) e
 done:=fun s Q E st hQ=>PU hh st.1 st.2 (Nat.le_refl _) fun h' PN=>hQ h' s.toks fun b o hb e=>PN b o (fun h=>hb (by simp[h])) e
 self:=fun _ _ _ _ st hQ=>wpAny_pyIter_valiter st.1 hQ
theorem Te{v d:Addr}{es:Array DictEntry}{ep:Nat}:PySem.W.KdlSrc prog w "dict_values" v d es.size (fun i v=>∃e,es[i]? =some e∧v=e.val) (fun h=>h.IsValuesView v d∧dg h d es ep) where
 type:=fun _ m=>m.1.typeIs
 there:=fun _ m=>⟨by obtain⟨o,ho,_⟩:=m.1;exact Heap.lt_size ho,m.2.lt⟩
 keep:=fun _ _ m hk=>⟨by obtain⟨o,ho,x⟩:=m.1;exact⟨o,hk v (.inl rfl) o ho,x⟩,m.2.at fun o e=>hk d (.inr rfl) o e⟩
 notList:=by decide
 notTuple:=by decide
 hint:=fun _ _ _ _ m hq=>PySem.W.kdl_hint_values m.1.typeIs hq
 iter:=fun _ _ hh m=>⟨_,_,(fun _ _ hq=>PQ m.1 m.2 hq),KO hh _ d (Nat.ne_of_lt m.2.lt) es ep,⟨⟨_,Heap.get?_push_size _ rfl,rfl,rfl⟩,m.2.at fun o e=>Heap.get?_push_of_some _ e⟩⟩
end
end PySem
namespace L2
open PySem PySem.Spec PyProof.Rows
abbrev Key:=Sum Int Str
def sV:Key→Value→Bool
 |.inl k,v=>Value.isInt k v
 |.inr x,v=>Value.isStrOf x v
def Tf(w:World):Key→Int
 |.inl k=>hashInt k
 |.inr x=>hashStr w x
theorem dN:∀{k:Key}{v:Value},sV k v=true→(∃i t,k=Sum.inl i∧v=Value.int i t)∨(∃x t,k=Sum.inr x∧v=Value.str x t)
 |.inl i,v,h=>by
  obtain⟨t,e⟩:=Value.isInt_shape (k:=i) (v:=v) h
  exact .inl ⟨i,t,rfl,e⟩
 |.inr x,v,h=>by
  obtain⟨t,e⟩:=Value.isStrOf_shape (x:=x) (v:=v) h
  exact .inr ⟨x,t,rfl,e⟩
theorem Cs(i:Int)(t:Tok):sV (.inl i) (.int i t)=true:=by simp[sV,Value.isInt]
theorem Ct(x:Str)(t:Tok):sV (.inr x) (.str x t)=true:=by simp[sV,Value.isStrOf]
theorem KP(a b:Int):decide ((Sum.inl a:Key)=Sum.inl b)=(a==b):=by
 by_cases e:a=b
 ·subst e;simp
 ·have h:¬(Sum.inl a:Key)=Sum.inl b:=fun q=>e (Sum.inl.inj q)
  rw[decide_eq_false h]
  exact(beq_eq_false_iff_ne.mpr e).symm
theorem KQ(a b:Str):decide ((Sum.inr a:Key)=Sum.inr b)=decide (a=b):=by
 by_cases e:a=b
 ·subst e;simp
 ·have h:¬(Sum.inr a:Key)=Sum.inr b:=fun q=>e (Sum.inr.inj q)
  rw[decide_eq_false h,decide_eq_false e]
theorem KR(a:Int)(b:Str):decide ((Sum.inl a:Key)=Sum.inr b)=false:=decide_eq_false (fun q=>nomatch q)
theorem KS(a:Str)(b:Int):decide ((Sum.inr a:Key)=Sum.inl b)=false:=decide_eq_false (fun q=>nomatch q)
def cB(prog:Program)(w:World):PySem.KeyKind prog w Key where
 is:=sV
 hash:=Tf w
 inj:=fun v a b ha hb=>by
  rcases dN ha with⟨i,t,rfl,rfl⟩|⟨x,t,rfl,rfl⟩
  ·rcases dN hb with⟨j,u,rfl,e⟩|⟨y,u,rfl,e⟩
   ·injection e with e1 _;rw[e1]
   ·exact nomatch e
  ·rcases dN hb with⟨j,u,rfl,e⟩|⟨y,u,rfl,e⟩
   ·exact nomatch e
   ·injection e with e1 _;rw[e1]
 byValue:=fun k v h=>by
  rcases dN h with⟨i,t,rfl,rfl⟩|⟨x,t,rfl,rfl⟩<;>rfl
 pyHash:=fun hv h=>by
  rcases dN hv with⟨i,t,rfl,rfl⟩|⟨x,t,rfl,rfl⟩
  ·exact wpAny_pyHash_int h
  ·exact wpAny_pyHash_str h
 eqBool:=fun hu hv h=>by
  rcases dN hu with⟨i,t,rfl,rfl⟩|⟨x,t,rfl,rfl⟩
  ·rcases dN hv with⟨j,u,rfl,rfl⟩|⟨y,u,rfl,rfl⟩
   ·rw[KP]at h;exact wpAny_eqBool_int h
   ·rw[KR]at h;exact SeqAt.EqAt.int_str i t y u _ _ _ _ h
  ·rcases dN hv with⟨j,u,rfl,rfl⟩|⟨y,u,rfl,rfl⟩
   ·rw[KS]at h;exact SeqAt.EqAt.str_int x t j u _ _ _ _ h
   ·rw[KQ]at h;exact wpAny_eqBool_str h
 «strs»:=fun k x t v h=>by
  rcases dN h with⟨i,u,rfl,e⟩|⟨y,u,rfl,e⟩
  ·exact nomatch e
  ·injection e with e1 _
   subst e1
   cases v<;>rfl
theorem yO(prog:Program)(w:World)(i:Int)(t:Tok):(cB prog w).is (.inl i) (.int i t)=true:=Cs i t
theorem yP(prog:Program)(w:World)(x:Str)(t:Tok):(cB prog w).is (.inr x) (.str x t)=true:=Ct x t
end L2
namespace L2
open PySem PySem.Spec PyProof.Rows
inductive V where
 |bF|bl(b:Bool)|int(i:Int)|str(x:Str)|vP(b:Array UInt8)|Fh(b:UInt64)|ref(a:Addr)|ty(n:String)
 deriving DecidableEq
def RelV:V→Value→Prop
 |.bF,u=>u=Value.none
 |.bl b,u=>u=Value.bool b
 |.int i,u=>∃t,u=Value.int i t
 |.str x,u=>∃t,u=Value.str x t
 |.vP b,u=>∃t,u=Value.bytes b t
 |.Fh b,u=>∃t,u=Value.float b t
 |.ref a,u=>u=Value.ref a
 |.ty n,u=>u=Value.type n
abbrev Vals:List V→List Value→Prop:=Paired RelV
theorem Vals.length{xs:List V}{us:List Value}(r:Vals xs us):xs.length=us.length:=Paired.length r
theorem Vals.get:∀{xs:List V}{us:List Value}{i:Nat}{x:V},Vals xs us→xs[i]? =some x→∃u,us[i]? =some u∧RelV x u
 |_,_,_,_,.nil,e=>by simp at e
 |_,_,0,_,.cons r _,e=>by simp at e;subst e;exact⟨_,rfl,r⟩
 |_,_,i+1,x,.cons _ t,e=>by
  obtain⟨u,h1,h2⟩:=Vals.get (i:=i) (x:=x) t (by simpa using e)
  exact⟨u,by simpa using h1,h2⟩
theorem Vals.set{x:V}{u:Value}(r:RelV x u):∀{xs:List V}{us:List Value} (i:Nat),Vals xs us→Vals (xs.set i x) (us.set i u)
 |_,_,_,.nil=>.nil
 |_,_,0,.cons _ t=>.cons r t
 |_,_,i+1,.cons q t=>.cons q (Vals.set r i t)
theorem Vals.append:∀{xs ys:List V}{us ws:List Value},Vals xs us→Vals ys ws→Vals (xs++ys) (us++ws)
 |_,_,_,_,.nil,s=>s
 |_,_,_,_,.cons r t,s=>.cons r (Vals.append t s)
theorem Vals.take:∀{xs:List V}{us:List Value} (n:Nat),Vals xs us→Vals (xs.take n) (us.take n)
 |_,_,0,_=>.nil
 |_,_,_+1,.nil=>.nil
 |_,_,n+1,.cons r t=>.cons r (Vals.take n t)
theorem Vals.drop:∀{xs:List V}{us:List Value} (n:Nat),Vals xs us→Vals (xs.drop n) (us.drop n)
 |_,_,0,r=>r
 |_,_,_+1,.nil=>.nil
 |_,_,n+1,.cons _ t=>Vals.drop n t
def qc:Option V→Option Value→Prop
 |some v,some u=>RelV v u
 |none,none=>True
 |_,_=>False
def KV{κ:Type}:List (κ×V)→List (κ×Value)→Prop:=Paired fun(p:κ×V) (q:κ×Value)=>p.1=q.1∧RelV p.2 q.2
def kV:Key→V
 |.inl i=>.int i
 |.inr x=>.str x
inductive HO where
 |lst(xs:List V)
 |tup(xs:List V)
 |dK(aC:List (Key×V))|dT(aC:List (List Key×V))|dU(aC:List (List (List Key)×V))
 |set(S:Int→Bool)(n:Nat)
 |ins(C dx:Addr)(fs:List (Str×V))
 |own(x:Addr)
 |xd(fs:List (Str×V))
 |met(f x:Addr)
 |gY(lo hi:Int)
 |fX(o:Obj)(u:HO)
 |Cu(ps:Array Value)
 |ext(φ:Heap→Prop)
abbrev Hp:=Addr→Option HO
def upd(H:Hp)(a:Addr)(o:HO):Hp:=fun b=>if b=a then some o else H b
theorem dk{H:Hp}{a:Addr}{o:HO}:upd H a o a=some o:=by unfold upd;rw[if_pos rfl]
theorem bg{H:Hp}{a b:Addr}{o:HO}(h:b≠a):upd H a o b=H b:=by unfold upd;rw[if_neg h]
theorem G6{H:Hp}{a:Addr}{o u:HO}:upd (upd H a o) a u=upd H a u:=by
 funext b;unfold upd;split<;>rfl
theorem vQ{H:Hp}{a b:Addr}{o u:HO}(h:H a=some o)(h':H b=some u)(d:o≠u):a≠b:=by
 intro e;subst e;rw[h]at h';exact d (Option.some.inj h')
theorem dw{H:Hp}{a b:Addr}{o:HO}(h:H a=some o)(h':H b=none):a≠b:=by
 intro e;subst e;rw[h]at h';cases h'
def iM(H:Hp)(bN:List (List Key))(b:Addr):Prop:=∃as:List Addr,H b=some (.tup (as.map V.ref))∧Paired (fun(ks:List Key) (a:Addr)=>H a=some (.tup (ks.map kV))) bN as
section
variable(P:Program)(w:World)
def bV(H:Hp)(h:Heap)(a:Addr):HO→Prop
 |.lst xs=>xs.length≤sizeLine∧∃(its:List Value) (n:Nat),Vals xs its∧h.get? a=some { cls:=.type "list",data:=.seq its.toArray n }
 |.tup xs=>xs.length≤sizeLine∧∃its:List Value,Vals xs its∧IsTup h a its.toArray
 |.dK aC=>aC.length≤sizeLine∧(a==sysModules)=false∧∃vs,KV aC vs∧h.DictOf (cB P w) a vs
 |.dT aC=>aC.length≤sizeLine∧(a==sysModules)=false∧∃xs:List (List Key×Addr×Value),
   Paired (fun(p:List Key×V) (q:List Key×Addr×Value)=>p.1=q.1∧H q.2.1=some (.tup (p.1.map kV))∧RelV p.2 q.2.2) aC xs∧
   ∃o es ep,h.get? a=some o∧o.ExactDict∧o.data= .dict es ep∧es.toList=xs.map (entryOfKey (tupleKind (cB P w)))∧(xs.map (·.1)).Nodup
 |.dU aC=>aC.length≤sizeLine∧(a==sysModules)=false∧∃xs:List (List (List Key)×Addr×Value),
   Paired (fun(p:List (List Key)×V) (q:List (List Key)×Addr×Value)=>p.1=q.1∧iM H p.1 q.2.1∧RelV p.2 q.2.2) aC xs∧
   ∃o es ep,h.get? a=some o∧o.ExactDict∧o.data= .dict es ep∧es.toList=xs.map (entryOfKey (mF (cB P w)))∧(xs.map (·.1)).Nodup
 |.set S n=>h.SetOf (intKind P w) a S n
 |.ins C dx fs=>H dx=some (.own a)∧fs.length≤1000∧dx≠a∧h.get? a=some (PySem.W.instObj C dx)∧
   ∃mA,h.Ns1 dx mA∧(∀f,qc (fs.lookup f) (mA f))∧PySem.Within mA (fs.map (·.1))
 |.own _=>∃o,h.get? a=some o
 |.xd fs=>∃mA,h.Ns1 a mA∧∀f,qc (fs.lookup f) (mA f)
 |.gY lo hi=>∃t u v,h.get? a=some { cls:=.type "range",data:=.fields #[.int lo t,.int hi u,.int 1 v] }
 |.fX o u=>h.get? a=some o∧bV H h a u
 |.Cu ps=>h.get? a=some { cls:=.none,data:=.fields ps }
 |.met f x=>h.get? a=some (PySem.W.methodObj (.ref f) (.ref x))
 |.ext φ=>φ h∧(∃o,h.get? a=some o)∧∀h1 h2:Heap,φ h1→(∀o,h1.get? a=some o→h2.get? a=some o)→φ h2
def gH(H:Hp)(h:Heap):Prop:=∀a o,H a=some o→bV P w H h a o
end
section
variable{P:Program}{w:World}{H H':Hp}{h h':Heap}{a:Addr}{o:HO}
theorem bV.lt(x:bV P w H h a o):a<h.objs.size:=by
 cases o with
 |lst xs=>obtain⟨_,_,_,_,e⟩:=x;exact Heap.lt_size e
 |tup xs=>obtain⟨_,_,_,p⟩:=x;exact p.lt
 |dK aC=>obtain⟨_,_,_,_,o,_,_,e,_⟩:=x;exact Heap.lt_size e
 |dT aC=>obtain⟨_,_,_,_,o,_,_,e,_⟩:=x;exact Heap.lt_size e
 |dU aC=>obtain⟨_,_,_,_,o,_,_,e,_⟩:=x;exact Heap.lt_size e
 |set S n=>obtain⟨o,_,_,_,e,_⟩:=x;exact Heap.lt_size e
 |ins C dx fs=>obtain⟨_,_,_,e,_⟩:=x;exact Heap.lt_size e
 |own y=>obtain⟨_,e⟩:=x;exact Heap.lt_size e
 |xd fs=>obtain⟨_,⟨_,_,_,e,_⟩,_⟩:=x;exact Heap.lt_size e
 |gY lo hi=>obtain⟨_,_,_,e⟩:=x;exact Heap.lt_size e
 |fX ob u=>obtain⟨e,_⟩:=x;exact Heap.lt_size e
 |Cu ps=>exact Heap.lt_size (show h.get? a=some _ from x)
 |met f y=>exact Heap.lt_size (show h.get? a=some _ from x)
 |ext φ=>obtain⟨_,⟨_,e⟩,_⟩:=x;exact Heap.lt_size e
theorem Paired.ur{α β:Type}{F G:α→β→Prop}:∀{uu:List α}{uv:List β},Paired F uu uv→(∀a b,F a b→G a b)→Paired G uu uv
 |_,_,.nil,_=>.nil
 |_,_,.cons r t,f=>.cons (f _ _ r) (Paired.ur t f)
theorem iM.more{H H':Hp}{bN:List (List Key)}{b:Addr}(x:iM H bN b)(ht:∀b xs,H b=some (.tup xs)→H' b=some (.tup xs)):iM H' bN b:=by
 obtain⟨as,h1,h2⟩:=x
 exact⟨as,ht _ _ h1,Paired.ur h2 fun _ _ z=>ht _ _ z⟩
theorem bV.vR(x:bV P w H h a o)(k:∀b u,(b=a∨H b=some (.own a))→h.get? b=some u→h'.get? b=some u)
  (ho:∀b,H b=some (.own a)→H' b=some (.own a))(ht:∀b xs,H b=some (.tup xs)→H' b=some (.tup xs)):bV P w H' h' a o:=by
 induction o with
 |lst xs=>obtain⟨z,its,n,r,e⟩:=x;exact⟨z,its,n,r,k _ _ (.inl rfl) e⟩
 |tup xs=>obtain⟨z,its,r,ob,e,c⟩:=x;exact⟨z,its,r,ob,k _ _ (.inl rfl) e,c⟩
 |dK aC=>obtain⟨z,y,vs,r,ob,es,ep,e,c⟩:=x;exact⟨z,y,vs,r,ob,es,ep,k _ _ (.inl rfl) e,c⟩
 |dT aC=>
  obtain⟨z,y,xs,r,ob,es,ep,e,c⟩:=x
  exact⟨z,y,xs,Paired.ur r fun p q z=>⟨z.1,ht _ _ z.2.1,z.2.2⟩,ob,es,ep,k _ _ (.inl rfl) e,c⟩
 |dU aC=>
  obtain⟨z,y,xs,r,ob,es,ep,e,c⟩:=x
  exact⟨z,y,xs,Paired.ur r fun p q z=>⟨z.1,z.2.1.more ht,z.2.2⟩,ob,es,ep,k _ _ (.inl rfl) e,c⟩
 |set S n=>obtain⟨ob,es,ep,t,e,c⟩:=x;exact⟨ob,es,ep,t,k _ _ (.inl rfl) e,c⟩
 |ins C dx fs=>
  obtain⟨d,z,ne,e,mA,⟨od,es,ep,e2,c⟩,r⟩:=x
  exact⟨ho _ d,z,ne,k _ _ (.inl rfl) e,mA,⟨od,es,ep,k _ _ (.inr d) e2,c⟩,r⟩
 |own y=>obtain⟨ob,e⟩:=x;exact⟨ob,k _ _ (.inl rfl) e⟩
 |xd fs=>obtain⟨mA,⟨od,es,ep,e,c⟩,r⟩:=x;exact⟨mA,⟨od,es,ep,k _ _ (.inl rfl) e,c⟩,r⟩
 |gY lo hi=>obtain⟨t,u,v,e⟩:=x;exact⟨t,u,v,k _ _ (.inl rfl) e⟩
 |fX ob u ih=>obtain⟨e,q⟩:=x;exact⟨k _ _ (.inl rfl) e,ih q⟩
 |Cu ps=>
  have e:h.get? a=some { cls:=.none,data:=.fields ps }:=x
  show h'.get? a=some { cls:=.none,data:=.fields ps }
  exact k a _ (.inl rfl) e
 |met f y=>
  have e:h.get? a=some (PySem.W.methodObj (.ref f) (.ref y)):=x
  show h'.get? a=some (PySem.W.methodObj (.ref f) (.ref y))
  exact k a _ (.inl rfl) e
 |ext φ=>obtain⟨p,⟨o,e⟩,st⟩:=x;exact⟨st _ _ p fun o q=>k _ _ (.inl rfl) q,⟨o,k _ _ (.inl rfl) e⟩,st⟩
theorem gH.lt(x:gH P w H h)(e:H a=some o):a<h.objs.size:=(x a o e).lt
theorem gH.fresh(x:gH P w H h)(e:h.objs.size≤a):H a=none:=by
 cases q:H a with
 |none=>rfl
 |some u=>exact absurd (Nat.lt_of_lt_of_le (x.lt q) e) (Nat.lt_irrefl _)
theorem gH.kept(x:gH P w H h)(k:∀b u,h.get? b=some u→h'.get? b=some u):gH P w H h':=fun a o e=>
 (x a o e).vR (fun b u _ q=>k b u q) (fun _ q=>q) fun _ _ q=>q
theorem gH.laid(x:gH P w H h)(k:∀b u,h.get? b=some u→h'.get? b=some u)(hp:h.objs.size≤a)(new:bV P w (upd H a o) h' a o):gH P w (upd H a o) h':=fun b u e=>by
 have hn:=x.fresh hp
 by_cases hb:b=a
 ·subst hb;rw[dk]at e;cases e;exact new
 ·rw[bg hb]at e
  exact(x b u e).vR (fun c v _ q=>k c v q) (fun c q=>by rw[bg (dw q hn)];exact q) fun c xs q=>by rw[bg (dw q hn)];exact q
end
def Rd(H:Hp)(a:Addr)(u:HO):Prop:=H a=some u∨∃o,H a=some (.fX o u)
theorem Rd.ok{P:Program}{w:World}{H:Hp}{h:Heap}{a:Addr}{u:HO}(r:Rd H a u)(x:gH P w H h):bV P w H h a u:=by
 rcases r with r|⟨o,r⟩
 ·exact x a u r
 ·obtain⟨_,q⟩:=x a _ r
  exact q
def G7:Option HO→Prop
 |some (.lst _)=>True
 |some (.dK _)=>True
 |some (.dT _)=>True
 |some (.dU _)=>True
 |some (.set _ _)=>True
 |some (.ins _ _ _)=>True
 |some (.ext _)=>True
 |_=>False
section
variable{P:Program}{w:World}{H:Hp}{h h':Heap}{x e:Addr}{o':HO}
theorem gH.write(ok:gH P w H h)(mu:G7 (H x))(he:e=x∨H e=some (.own x))(k:∀b u,b≠e→h.get? b=some u→h'.get? b=some u)(Fi:∃u,h'.get? e=some u)
  (new:bV P w (upd H x o') h' x o'):gH P w (upd H x o') h':=fun b u q=>by
 have Oq:∀c y,H c=some (.own y)→c≠x:=fun c y r z=>by subst z;rw[r]at mu;exact mu
 have Tg:∀c xs,H c=some (.tup xs)→c≠x:=fun c xs r z=>by subst z;rw[r]at mu;exact mu
 by_cases hb:b=x
 ·subst hb;rw[dk]at q;cases q;exact new
 ·rw[bg hb]at q
  by_cases Cv:b=e
  ·have q':H b=some (.own x):=by
    rcases he with z|z
    ·exact absurd (Cv.trans z) hb
    ·rw[Cv];exact z
   rw[q]at q';cases q'
   obtain⟨v,hv⟩:=Fi
   exact⟨v,by rw[Cv];exact hv⟩
  ·refine(ok b u q).vR (fun c v hc r=>k c v ?_ r) (fun c r=>by rw[bg (Oq c b r)];exact r) fun c xs r=>by rw[bg (Tg c xs r)];exact r
   rcases hc with rfl|hc
   ·exact Cv
   ·rintro rfl
    rcases he with z|z
    ·exact Oq c b hc z
    ·rw[hc]at z;cases z;exact hb rfl
end
structure Un(fs ex:List Addr)(H H':Hp)(h h':Heap):Prop where
 keep:∀b o,h.get? b=some o→H b=none→b∉fs→b∉ex→h'.get? b=some o
 slot:∀b o,h.get? b=some o→H b=none→b∈fs→b∉ex→∃sl,h'.get? b=some { o with slots:=sl }
 free:∀b o,h.get? b=some o→H b=none→b∉ex→H' b=none
 there:∀b o,h.get? b=some o→b∉ex→∃o',h'.get? b=some o'
 nN:∀b xs,H b=some (.tup xs)→H' b=some (.tup xs)
 nF:∀b o u,H b=some (.fX o u)→H' b=some (.fX o u)
 nO:∀b ps,H b=some (.Cu ps)→∃more,H' b=some (.Cu (ps++more))
section
variable{fs fs' ex ex':List Addr}{H H1 H2:Hp}{h h1 h2 h':Heap}{a x e:Addr}{o:HO}
theorem Un.any(u:Un fs ex H H1 h h1){b:Addr}{ob:Obj}(q:h.get? b=some ob)(n:H b=none)(hx:b∉ex):∃sl,h1.get? b=some { ob with slots:=sl }:=by
 by_cases hb:b∈fs
 ·exact u.slot b ob q n hb hx
 ·exact⟨ob.slots,u.keep b ob q n hb hx⟩
theorem Un.trans(a:Un fs ex H H1 h h1)(b:Un fs ex H1 H2 h1 h2):Un fs ex H H2 h h2 where
 keep:=fun c ob q n hc hx=>b.keep c ob (a.keep c ob q n hc hx) (a.free c ob q n hx) hc hx
 slot:=fun c ob q n hc hx=>by
  obtain⟨sl,e1⟩:=a.slot c ob q n hc hx
  obtain⟨PX,e2⟩:=b.slot c _ e1 (a.free c ob q n hx) hc hx
  exact⟨PX,e2⟩
 free:=fun c ob q n hx=>by
  obtain⟨o',e1⟩:=a.there c ob q hx
  exact b.free c o' e1 (a.free c ob q n hx) hx
 there:=fun c ob q hx=>by
  obtain⟨o',e1⟩:=a.there c ob q hx
  exact b.there c o' e1 hx
 nN:=fun c xs q=>b.nN c xs (a.nN c xs q)
 nF:=fun c ob xs q=>b.nF c ob xs (a.nF c ob xs q)
 nO:=fun c ps q=>by
  obtain⟨m1,e1⟩:=a.nO c ps q
  obtain⟨m2,e2⟩:=b.nO c _ e1
  exact⟨m1++m2,by rw[e2,Array.append_assoc]⟩
theorem Un.kept(k:∀b u,h.get? b=some u→h'.get? b=some u):Un fs ex H H h h':=
 ⟨fun b ob q _ _ _=>k b ob q,fun b ob q _ _ _=>⟨ob.slots,k b ob q⟩,fun _ _ _ n _=>n,fun b ob q _=>⟨ob,k b ob q⟩,fun _ _ q=>q,fun _ _ _ q=>q,fun _ ps q=>⟨#[],by rw[q];simp⟩⟩
theorem Un.refl:Un fs ex H H h h:=Un.kept fun _ _ q=>q
theorem Un.laid(k:∀b u,h.get? b=some u→h'.get? b=some u)(hp:h.objs.size≤a)(hn:H a=none):Un fs ex H (upd H a o) h h' where
 keep:=fun b u q _ _ _=>k b u q
 slot:=fun b u q _ _ _=>⟨u.slots,k b u q⟩
 free:=fun b u q n _=>by rw[bg (Nat.ne_of_lt (Nat.lt_of_lt_of_le (Heap.lt_size q) hp))];exact n
 there:=fun b u q _=>⟨u,k b u q⟩
 nN:=fun b xs q=>by rw[bg (dw q hn)];exact q
 nF:=fun b u xs q=>by rw[bg (dw q hn)];exact q
 nO:=fun b ps q=>⟨#[],by rw[bg (dw q hn),q];simp⟩
theorem Un.write(mu:G7 (H x))(he:e=x∨H e=some (.own x))(k:∀b u,b≠e→h.get? b=some u→h'.get? b=some u)(Fi:∃u,h'.get? e=some u):Un fs ex H (upd H x o) h h':=by
 have hx:∀b,H b=none→b≠x:=fun b n z=>by subst z;rw[n]at mu;exact mu
 have hb:∀b,H b=none→b≠e:=fun b n z=>by
  subst z
  rcases he with r|r
  ·exact hx b n r
  ·rw[n]at r;cases r
 have hm:∀b u,H b=some u→¬G7 (some u)→b≠x:=fun b u q nm z=>by subst z;rw[q]at mu;exact nm mu
 refine⟨fun b u q n _ _=>k b u (hb b n) q,fun b u q n _ _=>⟨u.slots,k b u (hb b n) q⟩,fun b u q n _=>by rw[bg (hx b n)];exact n,fun b u q _=>?_,
  fun b xs q=>by rw[bg (hm b _ q fun z=>z)];exact q,fun b u xs q=>by rw[bg (hm b _ q fun z=>z)];exact q,fun b ps q=>⟨#[],by rw[bg (hm b _ q fun z=>z),q];simp⟩⟩
 by_cases Cv:b=e
 ·subst Cv;exact Fi
 ·exact⟨u,k b u Cv q⟩
end
def KW(h:Heap)(H:Hp):List Addr:=(List.range h.objs.size).filter fun a=>(H a).isSome
def qZ(h:Heap)(H:Hp):Heap:=PySem.W.hideAll h (KW h H)
theorem Cw(h:Heap)(H:Hp):(qZ h H).objs.size=h.objs.size:=PySem.W.hideAll_size _ _
theorem Fj{h:Heap}{H:Hp}{b:Addr}{o:Obj}(e:h.get? b=some o)(n:H b=none):(qZ h H).get? b=some o:=
 PySem.W.hideAll_get _ e fun hm=>by
  have q:(H b).isSome=true:=(List.mem_filter.mp hm).2
  rw[n]at q;simp at q
theorem G8{h:Heap}{H:Hp}{b:Addr}{o:Obj}(e:(qZ h H).get? b=some o):h.get? b=some o∧H b=none:=by
 have e':h.get? b=some o:=PySem.W.of_hideAll (KW h H) e
 refine⟨e',?_⟩
 cases q:H b with
 |none=>rfl
 |some x=>
  have hm:b∈KW h H:=List.mem_filter.mpr ⟨List.mem_range.mpr (Heap.lt_size e'),by simp[q]⟩
  have z:(qZ h H).get? b=none:=PySem.W.hideAll_none (KW h H) hm
  rw[z]at e;cases e
def G9(g h:Heap)(L:Addr):List (Addr×Obj):=(List.range h.objs.size).filterMap fun a=>if a=L∨(g.get? a).isSome=true then none else(h.get? a).map fun o=>(a,o)
def rest(g h:Heap)(L d:Addr):List (Addr×Obj):=(G9 g h L).filter fun p=>decide (p.1≠d)
end L2
namespace L2
open PySem PySem.Spec PyProof.Rows
structure Mod(K:PySem.W.Frag)(mg:Str→Option Value)(base:Heap):Prop where
 Au:K.In base
 glob:base.Ns mainGlobals mg
 blt:∃mb,base.Ns builtinsNs mb∧∀x:Str,x≠"__name__"→mb x=bootBuiltins x
 nolimit:base.NoLimit
structure Cx where
 prog:Program
 w:World
 K:PySem.W.Frag
 mg:Str→Option Value
 base:Heap
 A:Around
 N:List Str
 bJ:Shared
 di:Hp
 env:Env
 outer:List Env
 stack:List Env
 ex:List Addr
 fn:Str→Bool
 calm:Bool
 pn:List (Addr×Obj)
 xe:Value→Shared→Prop
def vS(l:List Env):List Addr:=l.filterMap (·.frame)
abbrev Cx.fs(X:Cx):List Addr:=vS X.outer
def Cy(sc:Scope)(x:Str):Prop:=sc.names.lookup x=some .local∨sc.names.lookup x=some .cell∨sc.names.lookup x=some .free
def Loc(sc:Scope)(x:Str):Prop:=sc.names.lookup x=some .local∨sc.names.lookup x=some .cell
def Look(env:Env)(h:Heap)(m:Str→Option Value)(x:Str)(u:Value):Prop:=
 (env.kindOf x=some .local∧m x=some u)∨((env.kindOf x=some .cell∨env.kindOf x=some .free)∧∃c,env.cells.lookup x=some c∧h.IsCell c (some u))
structure Cx.Ok(X:Cx):Prop where
 mod:Mod X.K X.mg X.base
 kind:X.env.scope.kind= .function
 glob:X.env.globals=mainGlobals
 blt:X.env.builtins=builtinsNs
 above:X.bJ.heap.objs.size≤X.env.locals
 inj:∀x y c,X.env.cells.lookup x=some c→X.env.cells.lookup y=some c→x=y
 has:∀x,(X.env.kindOf x=some .cell∨X.env.kindOf x=some .free)→∃c,X.env.cells.lookup x=some c
 G_:∀x c,X.fn x=true→X.env.cells.lookup x=some c→X.bJ.heap.objs.size≤c
 hd:X.calm=true→X.A.handled=none
 frames:X.A.frames=some X.stack
 KY:X.stack=X.outer∨(X.stack=X.env::X.outer∧X.env.frame=some X.env.locals)
 KZ:∀b∈X.ex,b≠X.env.locals∧∀x c,X.env.cells.lookup x=some c→c≠b
 bs:∀b o,X.base.get? b=some o→X.bJ.heap.get? b=some o∧X.di b=none
 Av:X.base.objs.size≤X.bJ.heap.objs.size
 Aw:∀b o,X.base.get? b=some o→b∉X.ex
 Ax:∀b∈X.ex,b∉X.fs
 nP:X.bJ.heap.FunFrames X.base X.outer
 Fm:∀b∈X.fs,X.di b=none
structure Inv(X:Cx)(pins:List (Addr×Obj))(σ:List (Option V))(H:Hp)(s:Shared):Prop where
 ok:X.Ok
 os:s.os=X.bJ.os
 bare:AllBare s.gens
 base:Un X.fs X.ex X.di H X.bJ.heap s.heap
 loc:∃m,s.heap.Ns X.env.locals m∧∀(i:Nat) (x:Str) (v:V),X.N[i]? =some x→σ[i]? =some (some v)→Cy X.env.scope x→∃u,RelV v u∧Look X.env s.heap m x u
 cell:∀x c,X.env.cells.lookup x=some c→∃v,s.heap.IsCell c v
 free:H X.env.locals=none
 lq:∀x c,X.env.cells.lookup x=some c→H c=none
 pin:∀p∈X.pn++pins,s.heap.get? p.1=some p.2∧H p.1=none∧p.1≠X.env.locals∧p.1∉X.fs∧∀v,p.2.data≠.cell v
 bh:gH X.prog X.w H s.heap
 len:σ.length=X.N.length
section
variable{X:Cx}{pins:List (Addr×Obj)}{σ:List (Option V)}{H H':Hp}{s:Shared}{h':Heap}
theorem Cx.Ok.Th(ok:X.Ok){b:Addr}{o:Obj}(e:X.base.get? b=some o):b∉X.fs:=fun hb=>by
 have:=(ok.nP.mem hb).1
 rw[e]at this;cases this
theorem Inv.bs(I:Inv X pins σ H s):∀b o,X.base.get? b=some o→s.heap.get? b=some o∧H b=none:=fun b o e=>
 ⟨I.base.keep b o (I.ok.bs b o e).1 (I.ok.bs b o e).2 (I.ok.Th e) (I.ok.Aw b o e),I.base.free b o (I.ok.bs b o e).1 (I.ok.bs b o e).2 (I.ok.Aw b o e)⟩
theorem Inv.bk(I:Inv X pins σ H s):∀b o,X.base.get? b=some o→s.heap.get? b=some o:=fun b o e=>(I.bs b o e).1
theorem Inv.mod(I:Inv X pins σ H s):Mod X.K X.mg X.base:=I.ok.mod
theorem Inv.nL(I:Inv X pins σ H s):X.K.In s.heap:=I.ok.mod.Au.keeps I.bk
theorem Inv.lt(I:Inv X pins σ H s):X.env.locals<s.heap.objs.size:=let ⟨_,hn,_⟩:=I.loc;hn.lt
theorem Inv.sz(I:Inv X pins σ H s):X.bJ.heap.objs.size≤s.heap.objs.size:=Nat.le_trans I.ok.above (Nat.le_of_lt I.lt)
theorem Inv.Ot(I:Inv X pins σ H s){a:Addr}(h:s.heap.objs.size≤a):a∉X.fs:=fun hb=>by
 obtain⟨_,o,ho,_⟩:=I.ok.nP.mem hb
 exact absurd (Nat.lt_of_lt_of_le (Heap.lt_size ho) (Nat.le_trans I.sz h)) (Nat.lt_irrefl _)
theorem Inv.Cz(I:Inv X pins σ H s):∀x c,X.env.cells.lookup x=some c→c≠X.env.locals:=fun x c e z=>by
 obtain⟨v,o,ho,hd⟩:=I.cell x c e
 obtain⟨m,⟨o',es,ep,xD,Ha,_⟩,_⟩:=I.loc
 rw[z,xD]at ho;cases ho;rw[Ha]at hd;cases hd
theorem Inv.nP(I:Inv X pins σ H s):s.heap.FunFrames X.base X.outer:=by
 have all:∀(l:List Env),(∀b∈vS l,b∈X.fs)→X.bJ.heap.FunFrames X.base l→s.heap.FunFrames X.base l:=by
  intro l
  induction l with
  |nil=>intro _ _;trivial
  |cons env r ih=>
   intro hs hl
   obtain⟨hk,⟨L,o,hf,hn,ho,hd⟩,hr⟩:=hl
   have hL:L∈X.fs:=hs L (by unfold vS;rw[List.filterMap_cons,hf];exact List.mem_cons_self)
   obtain⟨sl,e⟩:=I.base.slot L o ho (I.ok.Fm L hL) hL fun z=>I.ok.Ax L z hL
   exact⟨hk,⟨L,_,hf,hn,e,hd⟩,ih (fun b hb=>hs b (by unfold vS;rw[List.filterMap_cons,hf];exact List.mem_cons_of_mem _ hb)) hr⟩
 exact all X.outer (fun _ hb=>hb) I.ok.nP
theorem Inv.stack(I:Inv X pins σ H s):s.heap.FunFrames X.base X.stack:=by
 rcases I.ok.KY with e|⟨e,hf⟩
 ·rw[e];exact I.nP
 ·rw[e]
  obtain⟨m,hn,_⟩:=I.loc
  refine .cons (by rw[I.ok.kind];decide) hf hn ?_ I.nP
  exact Heap.get?_none_of_le (Nat.le_trans I.ok.Av I.ok.above)
theorem Inv.yQ(I:Inv X pins σ H s):∀b∈vS X.stack,b∈X.env.locals::X.fs:=fun b hb=>by
 rcases I.ok.KY with e|⟨e,hf⟩
 ·rw[e]at hb;exact List.mem_cons_of_mem _ hb
 ·rw[e]at hb
  unfold vS at hb
  rw[List.filterMap_cons,hf]at hb
  exact hb
theorem Inv.Ay(I:Inv X pins σ H s):∀b∈vS X.stack,H b=none:=fun b hb=>by
 rcases List.mem_cons.mp (I.yQ b hb)with e|hb
 ·rw[e];exact I.free
 ·obtain⟨_,o,ho,_⟩:=I.ok.nP.mem hb
  exact I.base.free b o ho (I.ok.Fm b hb) fun z=>I.ok.Ax b z hb
theorem Inv.step{g':Array GenState}{t':Nat}{d':Drawn}{ch:List Addr}(I:Inv X pins σ H s)
  (iQ:∀b∈ch,(b∈X.ex∨X.bJ.heap.objs.size≤b)∧b≠X.env.locals∧(∀x c,X.env.cells.lookup x=some c→c≠b)∧∀p∈X.pn++pins,p.1≠b)
  (keep:∀b o,b≠X.env.locals→b∉X.fs→b∉ch→s.heap.get? b=some o→H b=none→h'.get? b=some o)
  (slot:∀b o,b≠X.env.locals→b∈X.fs→b∉ch→s.heap.get? b=some o→H b=none→∃sl,h'.get? b=some { o with slots:=sl })(free:∀b o,b∉ch→s.heap.get? b=some o→H b=none→H' b=none)
  (there:∀b o,b∉ch→s.heap.get? b=some o→∃o',h'.get? b=some o')
  (nN:∀b xs,H b=some (.tup xs)→H' b=some (.tup xs))(nF:∀b o u,H b=some (.fX o u)→H' b=some (.fX o u))(nO:∀b ps,H b=some (.Cu ps)→∃more,H' b=some (.Cu (ps++more)))
  (ns:∀m,s.heap.Ns X.env.locals m→h'.Ns X.env.locals m)(bh:gH X.prog X.w H' h')(hg:AllBare g'):
  Inv X pins σ H' { s with heap:=h',gens:=g',drawn:=d',toks:=t' }:=by
 have Ti:∀b o,X.bJ.heap.get? b=some o→b≠X.env.locals:=fun b o e=>Nat.ne_of_lt (Nat.lt_of_lt_of_le (Heap.lt_size e) I.ok.above)
 have K4:∀b o,X.bJ.heap.get? b=some o→b∉X.ex→b∉ch:=fun b o e hx hb=>by
  rcases(iQ b hb).1 with z|z
  ·exact hx z
  ·exact absurd (Nat.lt_of_lt_of_le (Heap.lt_size e) z) (Nat.lt_irrefl _)
 have cellK:∀x c,X.env.cells.lookup x=some c→∀v,s.heap.IsCell c v→h'.IsCell c v:=by
  rintro x c e v ⟨o,ho,hd⟩
  have Hb:c∉ch:=fun z=>(iQ c z).2.2.1 x c e rfl
  by_cases hc:c∈X.fs
  ·obtain⟨sl,q⟩:=slot c o (I.Cz x c e) hc Hb ho (I.lq x c e)
   exact⟨_,q,hd⟩
  ·exact⟨o,keep c o (I.Cz x c e) hc Hb ho (I.lq x c e),hd⟩
 refine⟨I.ok,I.os,hg,⟨fun b o e n hb hx=>?_,fun b o e n hb hx=>?_,fun b o e n hx=>?_,fun b o e hx=>?_,fun b xs e=>nN b xs (I.base.nN b xs e),fun b o xs e=>nF b o xs (I.base.nF b o xs e),fun b ps e=>?_⟩,?_,fun x c e=>?_,?_,fun x c e=>?_,fun p hp=>?_,bh,I.len⟩
 ·exact keep b o (Ti b o e) hb (K4 b o e hx) (I.base.keep b o e n hb hx) (I.base.free b o e n hx)
 ·obtain⟨sl,e1⟩:=I.base.slot b o e n hb hx
  obtain⟨PX,e2⟩:=slot b _ (Ti b o e) hb (K4 b o e hx) e1 (I.base.free b o e n hx)
  exact⟨PX,e2⟩
 ·obtain⟨o',e1⟩:=I.base.there b o e hx
  exact free b o' (K4 b o e hx) e1 (I.base.free b o e n hx)
 ·obtain⟨o',e1⟩:=I.base.there b o e hx
  exact there b o' (K4 b o e hx) e1
 ·obtain⟨m1,e1⟩:=I.base.nO b ps e
  obtain⟨m2,e2⟩:=nO b _ e1
  exact⟨m1++m2,by rw[e2,Array.append_assoc]⟩
 ·obtain⟨m,hn,hl⟩:=I.loc
  refine⟨m,ns m hn,fun i x v e1 e2 e3=>?_⟩
  obtain⟨u,r,l⟩:=hl i x v e1 e2 e3
  refine⟨u,r,?_⟩
  rcases l with l|⟨k,c,e,z⟩
  ·exact .inl l
  ·exact .inr ⟨k,c,e,cellK x c e _ z⟩
 ·obtain⟨v,z⟩:=I.cell x c e
  exact⟨v,cellK x c e v z⟩
 ·obtain⟨m,⟨o,_,_,ho,_⟩,_⟩:=I.loc
  exact free _ o (fun z=>(iQ _ z).2.1 rfl) ho I.free
 ·obtain⟨v,o,ho,hd⟩:=I.cell x c e
  exact free c o (fun z=>(iQ c z).2.2.1 x c e rfl) ho (I.lq x c e)
 ·obtain⟨e,n,ne,nf,d⟩:=I.pin p hp
  have Hb:p.1∉ch:=fun z=>(iQ p.1 z).2.2.2 p hp rfl
  exact⟨keep p.1 p.2 ne nf Hb e n,free p.1 p.2 Hb e n,ne,nf,d⟩
theorem Inv.un{t':Nat}(I:Inv X pins σ H s)(u:Un X.fs [] H H' s.heap h')(bh:gH X.prog X.w H' h'):Inv X pins σ H' { s with heap:=h',toks:=t' }:=by
 obtain⟨m,⟨o,es,ep,ho,r⟩,_⟩:=id I.loc
 obtain⟨sl,hL⟩:=u.any ho I.free (by simp)
 exact I.step (g':=s.gens) (d':=s.drawn) (ch:=[]) (fun _ z=>nomatch z) (fun b o _ hb _ e n=>u.keep b o e n hb (by simp)) (fun b o _ hb _ e n=>u.slot b o e n hb (by simp)) (fun b o _ e n=>u.free b o e n (by simp)) (fun b o _ e=>u.there b o e (by simp)) u.nN u.nF u.nO (fun m' hm=>by
  obtain⟨o',K5,K6,xD,r'⟩:=hm
  rw[ho]at xD;cases xD
  exact⟨_,K5,K6,hL,r'⟩) bh I.bare
theorem Inv.call{g':Array GenState}{t':Nat}{d':Drawn}{ch:List Addr}(I:Inv X pins σ H s)(u:Un (vS X.stack) ch H H' s.heap h')(bh:gH X.prog X.w H' h')(hg:AllBare g')
  (iQ:∀b∈ch,(b∈X.ex∨X.bJ.heap.objs.size≤b)∧b≠X.env.locals∧(∀x c,X.env.cells.lookup x=some c→c≠b)∧∀p∈X.pn++pins,p.1≠b):
  Inv X pins σ H' { s with heap:=h',gens:=g',drawn:=d',toks:=t' }:=by
 obtain⟨m,⟨o,es,ep,ho,r⟩,_⟩:=id I.loc
 obtain⟨sl,hL⟩:=u.any ho I.free fun z=>(iQ _ z).2.1 rfl
 exact I.step (ch:=ch) iQ (fun b o hL hb hc e n=>u.keep b o e n (fun z=>(List.mem_cons.mp (I.yQ b z)).elim hL hb) hc) (fun b o _ _ hc e n=>u.any e n hc) (fun b o hc e n=>u.free b o e n hc) (fun b o hc e=>u.there b o e hc) u.nN u.nF u.nO (fun m' hm=>by
  obtain⟨o',K5,K6,xD,r'⟩:=hm
  rw[ho]at xD;cases xD
  exact⟨_,K5,K6,hL,r'⟩) bh hg
theorem Inv.turned{t':Nat}{it:Addr}(I:Inv X pins σ H s)(k:∀b o,b≠it→s.heap.get? b=some o→h'.get? b=some o)(hn:H it=none)(hL:it≠X.env.locals)
  (h1:it∈X.ex∨X.bJ.heap.objs.size≤it)(h2:∀x c,X.env.cells.lookup x=some c→c≠it)(h3:∀p∈X.pn++pins,p.1≠it):Inv X pins σ H { s with heap:=h',toks:=t' }:=by
 have Tj:∀b u,H b=some u→b≠it:=fun b u e z=>by rw[z,hn]at e;cases e
 refine I.step (g':=s.gens) (d':=s.drawn) (ch:=[it]) (fun b hb=>?_) (fun b o _ _ hc e _=>k b o (fun z=>hc (by simp[z])) e) (fun b o _ _ hc e _=>⟨o.slots,k b o (fun z=>hc (by simp[z])) e⟩) (fun _ _ _ _ n=>n)
  (fun b o hc e=>⟨o,k b o (fun z=>hc (by simp[z])) e⟩) (fun _ _ e=>e) (fun _ _ _ e=>e) (fun b ps e=>⟨#[],by rw[e];simp⟩) (fun m hm=>?_) (fun b u e=>?_) I.bare
 ·have e:b=it:=by simpa using hb
  subst e
  exact⟨h1,hL,h2,h3⟩
 ·obtain⟨o,es,ep,ho,r⟩:=hm
  exact⟨o,es,ep,k _ o (Ne.symm hL) ho,r⟩
 ·refine(I.bh b u e).vR (fun c v hc q=>k c v ?_ q) (fun _ q=>q) fun _ _ q=>q
  rcases hc with z|z
  ·rw[z];exact Tj b u e
  ·exact Tj c _ z
theorem Inv.tok(I:Inv X pins σ H s)(t:Nat):Inv X pins σ H { s with toks:=t }:=I.un (h':=s.heap) (t':=t) Un.refl I.bh
theorem Inv.kept{t':Nat}(I:Inv X pins σ H s)(k:∀b u,s.heap.get? b=some u→h'.get? b=some u):Inv X pins σ H { s with heap:=h',toks:=t' }:=I.un (Un.kept k) (I.bh.kept k)
theorem Inv.laid{a:Addr}{o:HO}{t':Nat}(I:Inv X pins σ H s)(k:∀b u,s.heap.get? b=some u→h'.get? b=some u)(hp:s.heap.objs.size≤a)(new:bV X.prog X.w (upd H a o) h' a o):
  Inv X pins σ (upd H a o) { s with heap:=h',toks:=t' }:=I.un (Un.laid k hp (I.bh.fresh hp)) (I.bh.laid k hp new)
theorem Inv.write{x e:Addr}{o:HO}{t':Nat}(I:Inv X pins σ H s)(mu:G7 (H x))(he:e=x∨H e=some (.own x))(k:∀b u,b≠e→s.heap.get? b=some u→h'.get? b=some u)(Fi:∃u,h'.get? e=some u)
  (new:bV X.prog X.w (upd H x o) h' x o):Inv X pins σ (upd H x o) { s with heap:=h',toks:=t' }:=I.un (Un.write mu he k Fi) (I.bh.write mu he k Fi new)
theorem Inv.vT{Hc:List (Addr×Obj)}(I:Inv X pins σ H s)(h:∀p∈Hc,s.heap.get? p.1=some p.2∧H p.1=none∧p.1≠X.env.locals∧p.1∉X.fs∧∀v,p.2.data≠.cell v):Inv X Hc σ H s:=
 ⟨I.ok,I.os,I.bare,I.base,I.loc,I.cell,I.free,I.lq,fun p hp=>(List.mem_append.mp hp).elim (fun z=>I.pin p (List.mem_append_left _ z)) (h p),I.bh,I.len⟩
theorem xY{N:List Str}(hN:N.Nodup){i j:Nat}{x:Str}(a:N[i]? =some x)(b:N[j]? =some x):i=j:=by
 obtain⟨h1,e1⟩:=List.getElem?_eq_some_iff.mp a
 obtain⟨h2,e2⟩:=List.getElem?_eq_some_iff.mp b
 exact(List.getElem_inj hN).mp (e1.trans e2.symm)
theorem CA{M:Model}{A:Around}{E:Value→Shared→Prop}{i:Nat}{x:Str}{v:V}{u:Value}{Q:Unit→Shared→Prop}(I:Inv X pins σ H s)(hN:X.N.Nodup)(hi:X.N[i]? =some x)(hx:Loc X.env.scope x)(r:RelV v u)
  (h:∀s',Inv X pins (σ.set i (some v)) H s'→(∃a,Heap.SameBut a s.heap s'.heap∧(a=X.env.locals∨X.env.cells.lookup x=some a))→Q () s')(hf:X.fn x=true∨X.env.scope.names.lookup x=some .local:=by first|exact .inl rfl|exact .inr rfl|assumption):wpAny M A (storeName X.env x u) Q E s:=by
 obtain⟨m,hn,hl⟩:=id I.loc
 have Tn:(X.env.scope.kind==.class||(X.env.scope.kind==.module&&X.env.locals != X.env.globals))=false:=by rw[I.ok.kind];rfl
 have Ou:i<σ.length:=by rw[I.len];exact(List.getElem?_eq_some_iff.mp hi).1
 have Cz:=I.Cz
 have tracked:∀{a:Addr}{h':Heap},(∃o,s.heap.get? a=some o∧H a=none)→Heap.SameBut a s.heap h'→gH X.prog X.w H h':=fun {a h'} ha hs b ob e=>by
  obtain⟨_,_,sW⟩:=ha
  refine(I.bh b ob e).vR (fun c w' hc q=>(hs.2 c ?_).trans q) (fun _ q=>q) fun _ _ q=>q
  rintro rfl
  rcases hc with rfl|hc
  ·rw[sW]at e;cases e
  ·rw[sW]at hc;cases hc
 rcases hx with hk|hk
 ·refine wpAny_storeName_local hk hn (fun h' hn' hs=>?_) Tn
  obtain⟨oL,_,_,hoL,_⟩:=id hn
  refine h _ ⟨I.ok,I.os,I.bare,⟨fun b o e n hb hx=>?_,fun b o e n hb hx=>?_,I.base.free,fun b o e hx=>?_,I.base.nN,I.base.nF,I.base.nO⟩,⟨_,hn',fun j y v' e1 e2 e3=>?_⟩,fun y c e=>?_,I.free,I.lq,fun p hp=>?_,tracked ⟨oL,hoL,I.free⟩ hs,by simpa using I.len⟩ ⟨_,hs,.inl rfl⟩
  ·exact(hs.2 b (Nat.ne_of_lt (Nat.lt_of_lt_of_le (Heap.lt_size e) I.ok.above))).trans (I.base.keep b o e n hb hx)
  ·obtain⟨sl,e1⟩:=I.base.slot b o e n hb hx
   exact⟨sl,(hs.2 b (Nat.ne_of_lt (Nat.lt_of_lt_of_le (Heap.lt_size e) I.ok.above))).trans e1⟩
  ·obtain⟨o',e1⟩:=I.base.there b o e hx
   exact⟨o',(hs.2 b (Nat.ne_of_lt (Nat.lt_of_lt_of_le (Heap.lt_size e) I.ok.above))).trans e1⟩
  ·by_cases hj:j=i
   ·subst hj
    rw[hi]at e1;cases e1
    rw[List.getElem?_set_self Ou]at e2
    cases e2
    exact⟨u,r,.inl ⟨hk,by simp⟩⟩
   ·rw[List.getElem?_set_ne (Ne.symm hj)]at e2
    obtain⟨u',r',q⟩:=hl j y v' e1 e2 e3
    refine⟨u',r',?_⟩
    rcases q with⟨k,e⟩|⟨k,c,e,z⟩
    ·refine .inl ⟨k,?_⟩
     have:y≠x:=fun e=>hj (xY hN e1 (e ▸ hi))
     simp[this,e]
    ·exact .inr ⟨k,c,e,z.sameBut hs (Cz y c e)⟩
  ·obtain⟨w',z⟩:=I.cell y c e
   exact⟨w',z.sameBut hs (Cz y c e)⟩
  ·obtain⟨e,n,ne,nf,d⟩:=I.pin p hp
   exact⟨(hs.2 p.1 ne).trans e,n,ne,nf,d⟩
 ·have PY:X.fn x=true:=by
   rcases hf with z|z
   ·exact z
   ·rw[z]at hk;cases hk
  obtain⟨c,hc⟩:=I.ok.has x (.inl hk)
  obtain⟨w',z⟩:=I.cell x c hc
  refine wpAny_storeName_cell I.ok.kind hk hc z (fun h' bu hs=>?_)
  obtain⟨oc,K7,To⟩:=id z
  refine h { s with heap:=h' } ⟨I.ok,I.os,I.bare,⟨fun b o e n hb hx=>?_,fun b o e n hb hx=>?_,I.base.free,fun b o e hx=>?_,I.base.nN,I.base.nF,I.base.nO⟩,⟨m,hn.sameBut hs (Ne.symm (Cz x c hc)),fun j y v' e1 e2 e3=>?_⟩,fun y c' e=>?_,I.free,I.lq,fun p hp=>?_,tracked ⟨oc,K7,I.lq x c hc⟩ hs,by simpa using I.len⟩ ⟨c,hs,.inr hc⟩
  ·exact(hs.2 b (Nat.ne_of_lt (Nat.lt_of_lt_of_le (Heap.lt_size e) (I.ok.G_ x c PY hc)))).trans (I.base.keep b o e n hb hx)
  ·obtain⟨sl,e1⟩:=I.base.slot b o e n hb hx
   exact⟨sl,(hs.2 b (Nat.ne_of_lt (Nat.lt_of_lt_of_le (Heap.lt_size e) (I.ok.G_ x c PY hc)))).trans e1⟩
  ·obtain⟨o',e1⟩:=I.base.there b o e hx
   exact⟨o',(hs.2 b (Nat.ne_of_lt (Nat.lt_of_lt_of_le (Heap.lt_size e) (I.ok.G_ x c PY hc)))).trans e1⟩
  ·by_cases hj:j=i
   ·subst hj
    rw[hi]at e1;cases e1
    rw[List.getElem?_set_self Ou]at e2
    cases e2
    exact⟨u,r,.inr ⟨.inl hk,c,hc,bu⟩⟩
   ·rw[List.getElem?_set_ne (Ne.symm hj)]at e2
    obtain⟨u',r',q⟩:=hl j y v' e1 e2 e3
    refine⟨u',r',?_⟩
    rcases q with q|⟨k,c',e,z'⟩
    ·exact .inl q
    ·refine .inr ⟨k,c',e,z'.sameBut hs ?_⟩
     rintro rfl
     exact hj (xY hN e1 (I.ok.inj _ _ _ e hc ▸ hi))
  ·by_cases Tp:c'=c
   ·subst Tp;exact⟨_,bu⟩
   ·obtain⟨w2,z2⟩:=I.cell y c' e
    exact⟨w2,z2.sameBut hs Tp⟩
  ·obtain⟨e,n,ne,nf,d⟩:=I.pin p hp
   refine⟨(hs.2 p.1 ?_).trans e,n,ne,nf,d⟩
   intro q
   rw[q,K7]at e
   have q':oc=p.2:=Option.some.inj e
   exact d w' (by rw[←q'];exact To)
theorem pA{M:Model}{A:Around}{E:Value→Shared→Prop}{i:Nat}{x:Str}{v:V}{u:Value}{Q:Unit→Shared→Prop}(I:Inv X pins σ H s)(hN:X.N.Nodup)(hi:X.N[i]? =some x)(hx:Loc X.env.scope x)(r:RelV v u)
  (h:∀s',Inv X pins (σ.set i (some v)) H s'→Q () s')(hf:X.fn x=true∨X.env.scope.names.lookup x=some .local:=by first|exact .inl rfl|exact .inr rfl|assumption):wpAny M A (storeName X.env x u) Q E s:=
 CA I hN hi hx r (fun s' I' _=>h s' I') hf
theorem Inv.PZ{s':Shared}{ch:List Addr}(I:Inv X pins σ H s)(ho:s'.os=s.os)(u:Un (vS X.stack) ch H H' s.heap s'.heap)(bh:gH X.prog X.w H' s'.heap)(hg:AllBare s'.gens)
  (iQ:∀b∈ch,(b∈X.ex∨X.bJ.heap.objs.size≤b)∧b≠X.env.locals∧(∀x c,X.env.cells.lookup x=some c→c≠b)∧∀p∈X.pn++pins,p.1≠b):Inv X pins σ H' s':=by
 obtain⟨h',g',d',t',o'⟩:=s'
 have e:o'=s.os:=ho
 subst e
 exact I.call (g':=g') (t':=t') (d':=d') u bh hg iQ
end
abbrev XK:=Value→Option Addr→Hp→Prop
abbrev St:=List (Option V)
abbrev VK:=V→Hp→Prop
abbrev TE:=St→Hp→VK→Prop
abbrev TT:=St→Hp→(Bool→Hp→Prop)→Prop
abbrev TA:=St→Hp→(List V→Hp→Prop)→Prop
structure Ends where
 nx:St→Hp→Prop
 rt:VK
 bk:St→Hp→Prop:=fun _ _=>False
 ct:St→Hp→Prop:=fun _ _=>False
abbrev TS:=Ends→St→Hp→Prop
def EP(X:Cx)(pins:List (Addr×Obj))(σ:St)(Q:VK)(u:Value)(s':Shared):Prop:=∃v H',Inv X pins σ H' s'∧RelV v u∧Q v H'
def TP(X:Cx)(pins:List (Addr×Obj))(σ:St)(Q:Bool→Hp→Prop)(b:Bool)(s':Shared):Prop:=∃H',Inv X pins σ H' s'∧Q b H'
def AP(X:Cx)(pins:List (Addr×Obj))(σ:St)(Q:List V→Hp→Prop)(us:List Value)(s':Shared):Prop:=∃vs H',Inv X pins σ H' s'∧Vals vs us∧Q vs H'
def SP(X:Cx)(pins:List (Addr×Obj))(D:Ends)(f:Flow)(s':Shared):Prop:=
 match f with
 |.next=>∃σ' H',Inv X pins σ' H' s'∧D.nx σ' H'
 |.brk=>∃σ' H',Inv X pins σ' H' s'∧D.bk σ' H'
 |.cont=>∃σ' H',Inv X pins σ' H' s'∧D.ct σ' H'
 |.ret u=>∃v σ' H',Inv X pins σ' H' s'∧RelV v u∧D.rt v H'
namespace Zu
set_option allowUnsafeReducibility true in
@[scoped irreducible] def _root_.L2.PE(X:Cx)(e:Expr)(t:TE):Prop:=
 ∀(pins:List (Addr×Obj)) (s:Shared) (σ:St) (H:Hp) (Q:VK),Inv X pins σ H s→t σ H Q→wpAny (model X.prog X.w) X.A (eval e X.env) (EP X pins σ Q) X.xe s
end Zu
namespace Zu
set_option allowUnsafeReducibility true in
@[scoped irreducible] def _root_.L2.PT(X:Cx)(e:Expr)(t:TT):Prop:=
 ∀(pins:List (Addr×Obj)) (s:Shared) (σ:St) (H:Hp) (Q:Bool→Hp→Prop),Inv X pins σ H s→t σ H Q→wpAny (model X.prog X.w) X.A (isTrue e X.env (eval e X.env)) (TP X pins σ Q) X.xe s
end Zu
namespace Zu
set_option allowUnsafeReducibility true in
@[scoped irreducible] def _root_.L2.PW(X:Cx)(e:Expr)(t:TT):Prop:=
 ∀(whole:Sem Value) (pins:List (Addr×Obj)) (s:Shared) (σ:St) (H:Hp) (Q:Bool→Hp→Prop),Inv X pins σ H s→t σ H Q→wpAny (model X.prog X.w) X.A (isTrue e X.env whole) (TP X pins σ Q) X.xe s
end Zu
theorem PW.pt{X:Cx}{e:Expr}{t:TT}(h:PW X e t):PT X e t:=h _
namespace Zu
set_option allowUnsafeReducibility true in
@[scoped irreducible] def _root_.L2.PA(X:Cx)(es:List Expr)(t:TA):Prop:=
 ∀(pos:Pos) (pins:List (Addr×Obj)) (s:Shared) (σ:St) (H:Hp) (Q:List V→Hp→Prop),Inv X pins σ H s→t σ H Q→wpAny (model X.prog X.w) X.A (spliced (backTo pos (starEach es X.env))) (AP X pins σ Q) X.xe s
end Zu
namespace Zu
set_option allowUnsafeReducibility true in
@[scoped irreducible] def _root_.L2.PS(X:Cx)(st:Stmt)(t:TS):Prop:=
 ∀(pins:List (Addr×Obj)) (s:Shared) (σ:St) (H:Hp) (D:Ends),Inv X pins σ H s→t D σ H→wpAny (model X.prog X.w) X.A (exec st X.env) (SP X pins D) X.xe s
end Zu
namespace Zu
set_option allowUnsafeReducibility true in
@[scoped irreducible] def _root_.L2.nM(X:Cx)(st:List Stmt)(t:TS):Prop:=
 ∀(pins:List (Addr×Obj)) (s:Shared) (σ:St) (H:Hp) (D:Ends),Inv X pins σ H s→t D σ H→wpAny (model X.prog X.w) X.A (execs st X.env) (SP X pins D) X.xe s
end Zu
theorem bZ{α:Type}{t:Sem α}{Q Q':α→Shared→Prop}{M:Model}{A:Around}{E:Value→Shared→Prop}{s:Shared}(h:wpAny M A t Q E s)(hQ:∀a s,Q a s→Q' a s):wpAny M A t Q' E s:=wpAny_mono h hQ fun _ _ x=>x
end L2
namespace L2
open PySem PySem.Spec PyProof.Rows
section
variable{X:Cx}
theorem bin{a b:Expr}{ta tb:TE}(ha:PE X a ta)(hb:PE X b tb){pins:List (Addr×Obj)}{s:Shared}{σ:St}{H:Hp}{R:V→V→Hp→Prop}(I:Inv X pins σ H s)(h:ta σ H fun x H1=>tb σ H1 fun y H2=>R x y H2)
  {α:Type}{Q:α→Shared→Prop}{f:Value→Value→Sem α}
  (hf:∀v u s2 x y H2,Inv X pins σ H2 s2→RelV x v→RelV y u→R x y H2→wpAny (model X.prog X.w) X.A (f v u) Q X.xe s2):
  wpAny (model X.prog X.w) X.A (eval a X.env) (fun v bO=>wpAny (model X.prog X.w) X.A (eval b X.env) (fun u lS=>wpAny (model X.prog X.w) X.A (f v u) Q X.xe lS) X.xe bO) X.xe s:=by
 refine bZ (ha pins s σ H _ I h) fun v s1 ⟨x,H1,I1,r1,q1⟩=>?_
 refine bZ (hb pins s1 σ H1 _ I1 q1) fun u s2 ⟨y,H2,I2,r2,q2⟩=>?_
 exact hf v u s2 x y H2 I2 r1 r2 q2
def Hd(i:Nat):TE:=fun σ H Q=>∃v,σ[i]? =some (some v)∧Q v H
def tC(v:V):TE:=fun _ H Q=>Q v H
theorem K8{i:Nat}{x:Str}{pos:Pos}(hN:X.N[i]? =some x)(hv:Cy X.env.scope x)(hd:(x==("__debug__":Str))=false:=by decide)(sX:(x==("__classdict__":Str))=false:=by decide):PE X (.Name x pos) (Hd i):=by
 intro pins s σ H Q I h
 obtain⟨v,e,h⟩:=h
 obtain⟨m,hn,hl⟩:=I.loc
 obtain⟨u,r,l⟩:=hl i x v hN e hv
 have fin:EP X pins σ Q u s:=⟨v,H,I,r,h⟩
 rcases l with⟨hk,hm⟩|⟨hk,c,hc,yR⟩
 ·exact wpAny_Name (wpAny_loadName_local I.ok.kind hk hn hm fin) hd
 ·rcases hk with hk|hk
  ·exact wpAny_Name (wpAny_loadName_cell I.ok.kind hk hc yR fin) hd
  ·exact wpAny_Name (wpAny_loadName_free I.ok.kind hk hc yR fin sX) hd
theorem K9{i j pos}:PE X (.Constant (.int i) j pos) (tC (.int i)):=fun _ _ _ H _ I h=>wpAny_Constant_int ⟨.int i,H,I.tok _,⟨_,rfl⟩,h⟩
theorem P0{b j pos}:PE X (.Constant (.bool b) j pos) (tC (.bl b)):=fun _ _ _ H _ I h=>Constant_bool ⟨.bl b,H,I,rfl,h⟩
theorem K_{j pos}:PE X (.Constant .none j pos) (tC .bF):=fun _ _ _ H _ I h=>Constant_none ⟨.bF,H,I,rfl,h⟩
theorem La{x j pos}:PE X (.Constant (.str x) j pos) (tC (.str x)):=fun _ _ _ H _ I h=>Calls.Constant_str ⟨.str x,H,I.tok _,⟨_,rfl⟩,h⟩
def Gl(X:Cx)(x:Str):Prop:=X.env.kindOf x=some .globalImplicit
theorem Az{E:Value→Shared→Prop}{pins:List (Addr×Obj)}{s:Shared}{σ:St}{H:Hp}{x:Str}{u:Value}{pos:Pos}{Q:Value→Shared→Prop}(I:Inv X pins σ H s)(hg:Gl X x)(hm:X.mg x=some u)(h:Q u s)
  (hd:(x==("__debug__":Str))=false:=by decide):wpAny (model X.prog X.w) X.A (eval (.Name x pos) X.env) Q E s:=
 Calls.Name_function_global I.ok.kind hg (Calls.loadGlobal_global (by rw[I.ok.glob];exact I.mod.glob.keeps I.bk) hm h) hd
theorem i7{E:Value→Shared→Prop}{pins:List (Addr×Obj)}{s:Shared}{σ:St}{H:Hp}{x:Str}{u:Value}{pos:Pos}{Q:Value→Shared→Prop}(I:Inv X pins σ H s)(hg:Gl X x)(hm:X.mg x=none)(hv:bootBuiltins x=some u)(h:Q u s)
  (hn:x≠"__name__":=by decide)(hd:(x==("__debug__":Str))=false:=by decide):wpAny (model X.prog X.w) X.A (eval (.Name x pos) X.env) Q E s:=by
 obtain⟨mb,h1,h2⟩:=I.mod.blt
 exact Calls.Name_function_global I.ok.kind hg (Calls.loadGlobal_builtin (by rw[I.ok.glob];exact I.mod.glob.keeps I.bk) hm (by rw[I.ok.blt];exact h1.keeps I.bk) ((h2 x hn).trans hv) h) hd
theorem He{x:Str}{v:V}{u:Value}{pos:Pos}(hg:Gl X x)(hm:X.mg x=some u)(r:RelV v u)(hd:(x==("__debug__":Str))=false:=by decide):PE X (.Name x pos) (tC v):=
 fun _ _ _ H _ I h=>Az I hg hm ⟨v,H,I,r,h⟩ hd
theorem jh{x:Str}{v:V}{u:Value}{pos:Pos}(hg:Gl X x)(hm:X.mg x=none)(hv:bootBuiltins x=some u)(r:RelV v u)(hn:x≠"__name__":=by decide)(hd:(x==("__debug__":Str))=false:=by decide):PE X (.Name x pos) (tC v):=
 fun _ _ _ H _ I h=>i7 I hg hm hv ⟨v,H,I,r,h⟩ hn hd
variable{a b:Expr}{ta tb:TE}{pos:Pos}
def PC(X:Cx)(op:CmpOp)(a b:Expr)(t:TE):Prop:=
 ∀(pins:List (Addr×Obj)) (s:Shared) (σ:St) (H:Hp) (Q:VK),Inv X pins σ H s→t σ H Q→
  wpAny (model X.prog X.w) X.A (eval a X.env) (fun v bO=>wpAny (model X.prog X.w) X.A (eval b X.env) (fun u lS=>wpAny (model X.prog X.w) X.A (compareOp op v u) (EP X pins σ Q) X.xe lS) X.xe bO) X.xe s
theorem Fn(b:Expr){op:CmpOp}(h:op≠.In)(h2:op≠.NotIn):behindInMarks op b=false:=by
 have e1:(op==CmpOp.In)=false:=by cases op<;>first|rfl|exact absurd rfl h
 have e2:(op==CmpOp.NotIn)=false:=by cases op<;>first|rfl|exact absurd rfl h2
 cases b<;>simp[behindInMarks,e1,e2]
def tB(t:TE):TT:=fun σ H Q=>t σ H fun x H1=>∃c,x= .bl c∧Q c H1
theorem acw{op:CmpOp}{t:TE}(h:PC X op a b t)(h1:behindInMarks op b=false:=by first|exact Fn _ (by decide) (by decide)|rfl):PT X (.Compare a [op] [b] pos) (tB t):=by
 intro pins s σ H Q I hw
 refine wpAny_isTrue_Compare1 (bZ (h pins s σ H _ I hw) fun v s1 h1=>bZ h1 fun u s2 h2=>bZ h2 fun c s3 ⟨x,H1,I1,r1,q1⟩=>?_) h1
 obtain⟨d,rfl,q⟩:=q1
 cases r1
 exact wpAny_truthy_bool ⟨H1,I1,q⟩
theorem Lb{e:Expr}{t:TE}(h:PE X e t)(he:∀whole,isTrue e X.env whole=(do let v ←whole;standAt e.pos;holding [v] (truthy v)):=by intro _;rfl):PT X e (tB t):=by
 intro pins s σ H Q I hw
 refine isTrue_plain (bZ (h pins s σ H _ I hw) fun v s1 ⟨x,H1,I1,r1,q1⟩=>?_) (he _)
 obtain⟨d,rfl,q⟩:=q1
 cases r1
 exact wpAny_truthy_bool ⟨H1,I1,q⟩
variable{tA Lc:TT}{rest:List Expr}
def iN(t u:TT):TT:=fun σ H Q=>t σ H fun c H1=>if c=true then u σ H1 Q else Q false H1
def jX(t u:TT):TT:=fun σ H Q=>t σ H fun c H1=>if c=true then Q true H1 else u σ H1 Q
def eI(t:TT):TT:=fun σ H Q=>t σ H fun c H1=>Q (!c) H1
theorem Hf(ha:PT X a tA):PW X (.BoolOp .And [a] pos) tA:=by
 intro wh pins s σ H Q I h
 refine isTrue_and (bZ (ha pins s σ H Q I h) fun c s1 e=>?_)
 cases c with
 |true=>exact isTrue_and_nil e
 |false=>exact e
theorem Ld(ha:PT X a tA):PW X (.BoolOp .Or [a] pos) tA:=by
 intro wh pins s σ H Q I h
 refine isTrue_or (bZ (ha pins s σ H Q I h) fun c s1 e=>?_)
 cases c with
 |false=>exact isTrue_or_nil e
 |true=>exact e
theorem Le(ha:PT X a tA)(hb:PW X (.BoolOp .And (b::rest) pos) Lc):PW X (.BoolOp .And (a::b::rest) pos) (iN tA Lc):=by
 intro wh pins s σ H Q I h
 refine isTrue_and (bZ (ha pins s σ H _ I h) fun c s1 ⟨H1,I1,q1⟩=>?_)
 cases c with
 |true=>exact hb wh pins s1 σ H1 Q I1 q1
 |false=>exact⟨H1,I1,q1⟩
theorem P1(ha:PT X a tA)(hb:PW X (.BoolOp .Or (b::rest) pos) Lc):PW X (.BoolOp .Or (a::b::rest) pos) (jX tA Lc):=by
 intro wh pins s σ H Q I h
 refine isTrue_or (bZ (ha pins s σ H _ I h) fun c s1 ⟨H1,I1,q1⟩=>?_)
 cases c with
 |true=>exact⟨H1,I1,q1⟩
 |false=>exact hb wh pins s1 σ H1 Q I1 q1
theorem Lf(ha:PT X a tA):PT X (.UnaryOp .Not a pos) (eI tA):=by
 intro pins s σ H Q I h
 exact isTrue_not (ha pins s σ H (fun c H1=>Q (!c) H1) I h)
def P4(ta tb:TE):TE:=fun σ H Q=>ta σ H fun x H1=>∃c,x= .bl c∧if c=true then tb σ H1 Q else Q (.bl false) H1
def P5(ta:TE):TE:=fun σ H Q=>ta σ H fun x H1=>∃c,x= .bl c∧Q (.bl (!c)) H1
theorem Lg{op}{t:TE}(h:PE X a t):PE X (.BoolOp op [a] pos) t:=fun pins s σ H Q I hw=>BoolOp_one (h pins s σ H Q I hw)
theorem Lh(ha:PE X a ta)(hb:PE X (.BoolOp .And (b::rest) pos) tb):PE X (.BoolOp .And (a::b::rest) pos) (P4 ta tb):=by
 intro pins s σ H Q I h
 refine BoolOp_and (bZ (ha pins s σ H _ I h) fun v s1 ⟨x,H1,I1,r1,q1⟩=>?_)
 obtain⟨c,rfl,q1⟩:=q1
 cases r1
 refine wpAny_truthy_bool ?_
 cases c with
 |true=>exact hb pins s1 σ H1 Q I1 q1
 |false=>exact⟨.bl false,H1,I1,rfl,q1⟩
theorem Li(ha:PE X a ta):PE X (.UnaryOp .Not a pos) (P5 ta):=by
 intro pins s σ H Q I h
 refine UnaryOp_ (bZ (ha pins s σ H _ I h) fun v s1 ⟨x,H1,I1,r1,q1⟩=>?_)
 obtain⟨c,rfl,q1⟩:=q1
 cases r1
 exact not_of (wpAny_truthy_bool ⟨.bl (!c),H1,I1,rfl,q1⟩)
def tIf(t:TT)(ta tb:TE):TE:=fun σ H Q=>t σ H fun c H1=>if c=true then ta σ H1 Q else tb σ H1 Q
theorem Fo{c:Expr}(hc:PT X c tA)(ha:PE X a ta)(hb:PE X b tb):PE X (.IfExp c a b pos) (tIf tA ta tb):=by
 intro pins s σ H Q I h
 refine wpAny_IfExp (bZ (hc pins s σ H _ I h) fun d s1 ⟨H1,I1,q1⟩=>?_)
 cases d with
 |true=>exact ha pins s1 σ H1 Q I1 q1
 |false=>exact hb pins s1 σ H1 Q I1 q1
end
end L2
namespace L2
open PySem PySem.Spec PyProof.Rows
def cy(K:PySem.W.Frag)(H:Hp)(a:Addr)(xs:List V):Prop:=
 Rd H a (.lst xs)∨
  ∃(o:Obj) (its:Array Value) (n:Nat),K.lookup a=some o∧o.cls= .type "list"∧o.dict=none∧o.data= .seq its n∧its.size≤sizeLine∧Vals xs its.toList
def dj(K:PySem.W.Frag)(H:Hp)(a:Addr)(xs:List V):Prop:=
 Rd H a (.tup xs)∨
  ∃(o:Obj) (its:Array Value) (n:Nat),K.lookup a=some o∧o.cls= .type "tuple"∧o.data= .seq its n∧its.size≤sizeLine∧Vals xs its.toList
def Tq:Value→Option V
 |.none=>some .bF
 |.bool b=>some (.bl b)
 |.int i _=>some (.int i)
 |.str x _=>some (.str x)
 |.bytes b _=>some (.vP b)
 |.float b _=>some (.Fh b)
 |.ref a=>some (.ref a)
 |.type n=>some (.ty n)
 |_=>none
theorem RelV.abs{x:V}{u:Value}(r:RelV x u):Tq u=some x:=by
 cases x with
 |bF=>cases r;rfl
 |bl _=>cases r;rfl
 |int _=>obtain⟨t,rfl⟩:=r;rfl
 |str _=>obtain⟨t,rfl⟩:=r;rfl
 |vP _=>obtain⟨t,rfl⟩:=r;rfl
 |Fh _=>obtain⟨t,rfl⟩:=r;rfl
 |ref _=>cases r;rfl
 |ty _=>cases r;rfl
theorem RelV.inj{x y:V}{u:Value}(r:RelV x u)(q:RelV y u):x=y:=Option.some.inj (r.abs.symm.trans q.abs)
theorem Vals.inj:∀{xs ys:List V}{us:List Value},Vals xs us→Vals ys us→xs=ys
 |_,_,_,.nil,.nil=>rfl
 |_,_,_,.cons r t,.cons r' t'=>by rw[r.inj r',Vals.inj t t']
section
variable{X:Cx}{pins:List (Addr×Obj)}{σ:St}{H:Hp}{s:Shared}{a:Addr}{xs ys:List V}
theorem cy.of{K:PySem.W.Frag}(h:H a=some (.lst xs)):cy K H a xs:=.inl (.inl h)
theorem dj.of{K:PySem.W.Frag}(h:H a=some (.tup xs)):dj K H a xs:=.inl (.inl h)
theorem Inv.list(I:Inv X pins σ H s)(h:cy X.K H a xs):∃its:List Value,Vals xs its∧PlainL s.heap a its.toArray∧xs.length≤sizeLine:=by
 rcases h with h|⟨o,its,n,hk,hc,hd,hs,hz,r⟩
 ·obtain⟨z,its,n,r,e⟩:=h.ok I.bh
  exact⟨its,r,⟨_,n,e,rfl,rfl,rfl⟩,z⟩
 ·refine⟨its.toList,r,⟨o,n,I.nL a o hk,hc,hd,by simpa using hs⟩,?_⟩
  have e:=r.length
  simp only[Array.length_toList]at e
  omega
theorem Inv.tuple(I:Inv X pins σ H s)(h:dj X.K H a xs):∃its:List Value,Vals xs its∧IsTup s.heap a its.toArray∧xs.length≤sizeLine:=by
 rcases h with h|⟨o,its,n,hk,hc,hs,hz,r⟩
 ·obtain⟨z,its,r,p⟩:=h.ok I.bh
  exact⟨its,r,p,z⟩
 ·refine⟨its.toList,r,⟨o,I.nL a o hk,hc,n,by simpa using hs⟩,?_⟩
  have e:=r.length
  simp only[Array.length_toList]at e
  omega
theorem Inv.lT(I:Inv X pins σ H s)(h:cy X.K H a xs)(h':cy X.K H a ys):xs=ys:=by
 obtain⟨its,r,⟨o,n,e,_,_,d⟩,_⟩:=I.list h
 obtain⟨its',r',⟨o',n',e',_,_,d'⟩,_⟩:=I.list h'
 rw[e]at e';cases e'
 rw[d]at d'
 injection d' with d1 _
 have:its=its':=by simpa using congrArg Array.toList d1
 subst this
 exact r.inj r'
theorem Inv.qu(I:Inv X pins σ H s)(h:dj X.K H a xs)(h':dj X.K H a ys):xs=ys:=by
 obtain⟨its,r,⟨o,e,_,n,d⟩,_⟩:=I.tuple h
 obtain⟨its',r',⟨o',e',_,n',d'⟩,_⟩:=I.tuple h'
 rw[e]at e';cases e'
 rw[d]at d'
 injection d' with d1 _
 have:its=its':=by simpa using congrArg Array.toList d1
 subst this
 exact r.inj r'
end
abbrev Cx.qd(X:Cx)(E:Value→Shared→Prop):Cx:={ X with xe:=E }
abbrev Cx.AA(X:Cx):Cx:=X.qd fun _ _=>False
theorem Cx.Ok.qd{X:Cx}(ok:X.Ok)(E:Value→Shared→Prop):(X.qd E).Ok:=
 ⟨ok.mod,ok.kind,ok.glob,ok.blt,ok.above,ok.inj,ok.has,ok.G_,ok.hd,ok.frames,ok.KY,ok.KZ,ok.bs,ok.Av,ok.Aw,ok.Ax,ok.nP,ok.Fm⟩
theorem Cx.Ok.kE{X:Cx}{E:Value→Shared→Prop}(ok:(X.qd E).Ok):X.Ok:=
 ⟨ok.mod,ok.kind,ok.glob,ok.blt,ok.above,ok.inj,ok.has,ok.G_,ok.hd,ok.frames,ok.KY,ok.KZ,ok.bs,ok.Av,ok.Aw,ok.Ax,ok.nP,ok.Fm⟩
section
variable{X:Cx}{pins:List (Addr×Obj)}{σ:St}{H:Hp}{s:Shared}{E:Value→Shared→Prop}
theorem Inv.qd(I:Inv X pins σ H s)(E:Value→Shared→Prop):Inv (X.qd E) pins σ H s:=⟨I.ok.qd E,I.os,I.bare,I.base,I.loc,I.cell,I.free,I.lq,I.pin,I.bh,I.len⟩
theorem Inv.kE(I:Inv (X.qd E) pins σ H s):Inv X pins σ H s:=⟨I.ok.kE,I.os,I.bare,I.base,I.loc,I.cell,I.free,I.lq,I.pin,I.bh,I.len⟩
theorem SP.kE{D:Ends}{f:Flow}{s':Shared}(h:SP (X.qd E) pins D f s'):SP X pins D f s':=by
 cases f with
 |next=>obtain⟨σ',H',I,q⟩:=h;exact⟨σ',H',I.kE,q⟩
 |brk=>obtain⟨σ',H',I,q⟩:=h;exact⟨σ',H',I.kE,q⟩
 |cont=>obtain⟨σ',H',I,q⟩:=h;exact⟨σ',H',I.kE,q⟩
 |ret u=>obtain⟨v,σ',H',I,r,q⟩:=h;exact⟨v,σ',H',I.kE,r,q⟩
theorem nM.AA{st:List Stmt}{t:TS}(h:nM X.AA st t):nM X st t:=fun pins s σ H D I hw=>
 wpAny_mono (h pins s σ H D (I.qd _) hw) (fun _ _ q=>q.kE) fun _ _ z=>False.elim z
end
section
variable{X:Cx}{st:Stmt}{rest:List Stmt}{t u:TS}{e:Expr}{te:TE}{pos:Pos}
def P6:TS:=fun D σ H=>D.nx σ H
def Tr(t u:TS):TS:=fun D σ H=>t { D with nx:=u D } σ H
theorem Hg:nM X [] P6:=fun _ _ σ H _ I h=>wpAny_execs_nil ⟨σ,H,I,h⟩
theorem Fp(h1:PS X st t)(h2:nM X rest u):nM X (st::rest) (Tr t u):=by
 intro pins s σ H D I h
 refine wpAny_execs_cons (bZ (h1 pins s σ H { D with nx:=u D } I h) fun f s1 q=>?_)
 cases f with
 |next=>
  obtain⟨σ',H',I',q⟩:=q
  exact h2 pins s1 σ' H' D I' q
 |ret v=>exact q
 |brk=>exact q
 |cont=>exact q
theorem Hh(h1:PS X st t):nM X [st] t:=by
 intro pins s σ H D I h
 refine wpAny_execs_cons (bZ (h1 pins s σ H D I h) fun f s1 q=>?_)
 cases f with
 |next=>exact wpAny_execs_nil q
 |ret v=>exact q
 |brk=>exact q
 |cont=>exact q
theorem Inv.quiet{pins:List (Addr×Obj)}{σ:St}{H:Hp}{s:Shared}(I:Inv X pins σ H s):interactive X.env=false:=by simp[interactive,I.ok.kind]
def P7(te:TE):TS:=fun D σ H=>te σ H fun _ H1=>D.nx σ H1
theorem Hi(he:PE X e te)(hs:swapsWith e none pos.line X.env=pure false:=by rfl):PS X (.Expr e pos) (P7 te):=by
 intro pins s σ H D I h
 exact wpAny_Expr_any (bZ (he pins s σ H _ I h) fun v s1 ⟨x,H1,I1,r1,q1⟩=>⟨σ,H1,I1,q1⟩) I.quiet hs
def Tt(te:TE):TS:=fun D σ H=>te σ H D.rt
theorem Lj(he:PE X e te):PS X (.Return (some e) pos) (Tt te):=by
 intro pins s σ H D I h
 exact wpAny_Return_some (bZ (he pins s σ H _ I h) fun v s1 ⟨x,H1,I1,r1,q1⟩=>⟨x,σ,H1,I1,r1,q1⟩)
def Tu(c:TT)(t u:TS):TS:=fun D σ H=>c σ H fun b H1=>if b=true then t D σ H1 else u D σ H1
theorem P8{c:Expr}{a b:List Stmt}{tc:TT}(hc:PT X c tc)(ha:nM X a t)(hb:nM X b u):PS X (.If c a b pos) (Tu tc t u):=by
 intro pins s σ H D I h
 refine wpAny_If (bZ (hc pins s σ H _ I h) fun d s1 ⟨H1,I1,q1⟩=>?_)
 cases d with
 |true=>exact ha pins s1 σ H1 D I1 q1
 |false=>exact hb pins s1 σ H1 D I1 q1
end
abbrev TG:=V→St→Hp→(St→Hp→Prop)→Prop
abbrev yS:=List V→St→Hp→(St→Hp→Prop)→Prop
namespace Zu
set_option allowUnsafeReducibility true in
@[scoped irreducible] def _root_.L2.PG(X:Cx)(target:Expr)(t:TG):Prop:=
 ∀(pins:List (Addr×Obj)) (s:Shared) (σ:St) (H:Hp) (v:V) (u:Value) (Q:St→Hp→Prop),Inv X pins σ H s→RelV v u→t v σ H Q→
  wpAny (model X.prog X.w) X.A (assign target X.env u) (fun _ s'=>∃σ' H',Inv X pins σ' H' s'∧Q σ' H') X.xe s
end Zu
namespace Zu
set_option allowUnsafeReducibility true in
@[scoped irreducible] def _root_.L2.AB(X:Cx)(ts:List Expr)(t:yS):Prop:=
 ∀(pins:List (Addr×Obj)) (s:Shared) (σ:St) (H:Hp) (vs:List V) (us:List Value) (Q:St→Hp→Prop),Inv X pins σ H s→Vals vs us→t vs σ H Q→
  wpAny (model X.prog X.w) X.A (assignInOrder ((assignEach ts X.env).map (·.2)) us) (fun _ s'=>∃σ' H',Inv X pins σ' H' s'∧Q σ' H') X.xe s
end Zu
abbrev Hj:=V→V→V→Hp→(Hp→Prop)→Prop
def Ov(X:Cx)(t:Hj):Prop:=
 ∀(pins:List (Addr×Obj)) (s:Shared) (σ:St) (H:Hp) (o i v:V) (ov iv u:Value) (Q:Hp→Prop),Inv X pins σ H s→RelV o ov→RelV i iv→RelV v u→t o i v H Q→
  wpAny (model X.prog X.w) X.A (setItem ov iv u) (fun _ s'=>∃H',Inv X pins σ H' s'∧Q H') X.xe s
section
variable{X:Cx}{pos:Pos}
def av(i:Nat):TG:=fun v σ H Q=>Q (σ.set i (some v)) H
theorem AD{i:Nat}{x:Str}(hN:X.N.Nodup)(hi:X.N[i]? =some x)(hx:Loc X.env.scope x)(hf:X.fn x=true∨X.env.scope.names.lookup x=some .local:=by first|exact .inl rfl|exact .inr rfl|assumption):PG X (.Name x pos) (av i):=by
 intro pins s σ H v u Q I r h
 exact wpAny_assign_Name (pA I hN hi hx r (fun s' I'=>⟨_,H,I',h⟩) hf)
def cW:yS:=fun vs σ H Q=>vs=[]∧Q σ H
def aK(t:TG)(u:yS):yS:=fun vs σ H Q=>∃v r,vs=v::r∧t v σ H fun σ' H'=>u r σ' H' Q
theorem Hk:AB X [] cW:=by
 intro pins s σ H vs us Q I r h
 obtain⟨e,h⟩:=h
 subst e
 cases r
 exact assignInOrder_nil ⟨σ,H,I,h⟩
theorem Fq{e:Expr}{es:List Expr}{t:TG}{u:yS}(h1:PG X e t)(h2:AB X es u)
  (hs:(assignEach (e::es) X.env).map (·.2)=assign e X.env::(assignEach es X.env).map (·.2):=by rfl):AB X (e::es) (aK t u):=by
 intro pins s σ H vs us Q I r h
 obtain⟨v,vr,e1,h⟩:=h
 subst e1
 cases r with
 |cons r rr=>
  rw[hs]
  refine assignInOrder_cons (bZ (h1 pins s σ H _ _ _ I r h) fun _ s1 ⟨pW,H1,I1,q1⟩=>?_)
  exact h2 pins s1 pW H1 _ _ Q I1 rr q1
def cX(K:PySem.W.Frag)(n:Nat)(t:yS):TG:=fun v σ H Q=>∃a xs,v= .ref a∧dj K H a xs∧xs.length=n∧t xs σ H Q
theorem Ll{es:List Expr}{k:Nat}{t:yS}{n:Nat}(hc:X.calm=true)(h:AB X es t)
  (hn:(assignEach es X.env).length=n:=by rfl)(vU:(assignEach es X.env).findIdx? (·.1)=none:=by rfl):PG X (.Tuple es k pos) (cX X.K n t):=by
 intro pins s σ H v u Q I r hw
 obtain⟨a,xs,e1,hq,hl,hw⟩:=hw
 subst e1
 cases r
 obtain⟨its,rv,ht,hz⟩:=I.tuple hq
 refine assign_Tuple_tuple (I.ok.hd hc) ht (by simp[hn,←hl,rv.length]) vU fun h' hx=>?_
 have I1:Inv X pins σ H { s with heap:=h' }:=I.kept (t':=s.toks) fun b o e=>hx b o (Nat.ne_of_lt (Heap.lt_size e)) e
 exact h pins _ σ H xs _ Q I1 (by simpa using rv) hw
def fO(to ti:TE)(t:Hj):TG:=fun v σ H Q=>to σ H fun o H1=>ti σ H1 fun i H2=>t o i v H2 fun H3=>Q σ H3
theorem Lm{o i:Expr}{to ti:TE}{t:Hj}(ho:PE X o to)(hi:PE X i ti)(hs:Ov X t)
  (ha:∀v,assign (.Subscript o i pos) X.env v=(do
   let ov ←holding [v] (eval o X.env)
   let iv ←holding [v,ov] (eval i X.env)
   standAt pos
   holding [v,ov,iv] (setItem ov iv v)
   release [v,ov,iv] []):=by intro _;rfl):PG X (.Subscript o i pos) (fO to ti t):=by
 intro pins s σ H v u Q I r h
 rw[ha]
 refine wpAny_bind (wpAny_holding (bZ (ho pins s σ H _ I h) fun ov s1 ⟨x,H1,I1,r1,q1⟩=>?_))
 refine wpAny_bind (wpAny_holding (bZ (hi pins s1 σ H1 _ I1 q1) fun iv s2 ⟨y,H2,I2,r2,q2⟩=>?_))
 refine wpAny_bind (wpAny_standAt (wpAny_bind (wpAny_holding (bZ (hs pins s2 σ H2 x y v ov iv u _ I2 r1 r2 r q2) fun _ s3 ⟨H3,I3,q3⟩=>?_))))
 exact wpAny_release ⟨σ,H3,I3,q3⟩
def Hl(te:TE)(g:TG):TS:=fun D σ H=>te σ H fun x H1=>g x σ H1 D.nx
theorem Ln{tg e:Expr}{te:TE}{g:TG}(he:PE X e te)(hg:PG X tg g)(hs:swapsWithSole [tg] e pos.line X.env=pure false:=by rfl)(hw:swappedStores [tg] e X.env=pure none:=by rfl)
  (h1:(assignEach [tg] X.env).map (·.2)=[assign tg X.env]:=by rfl):PS X (.Assign [tg] e pos) (Hl te g):=by
 intro pins s σ H D I h
 refine wpAny_Assign_stores (bZ (he pins s σ H _ I h) fun v s1 ⟨x,H1,I1,r1,q1⟩=>?_) hs hw
 rw[h1]
 exact bZ (hg pins s1 σ H1 x v _ I1 r1 q1) fun _ s2 q=>q
theorem Lo{i:Nat}{x:Str}{e:Expr}{te:TE}{pos':Pos}(hN:X.N.Nodup)(hi:X.N[i]? =some x)(hx:Loc X.env.scope x)(he:PE X e te)(hs:swapsWith e (some (.Name x pos')) pos.line X.env=pure false:=by rfl)(hf:X.fn x=true∨X.env.scope.names.lookup x=some .local:=by first|exact .inl rfl|exact .inr rfl|assumption):
  PS X (.Assign [.Name x pos'] e pos) (Hl te (av i)):=by
 intro pins s σ H D I h
 refine wpAny_Assign_Name (bZ (he pins s σ H _ I h) fun v s1 ⟨y,H1,I1,r1,q1⟩=>?_) hs
 exact pA I1 hN hi hx r1 (fun s2 I2=>⟨_,H1,I2,q1⟩) hf
def Tv(i j:Nat)(ta:TA):TS:=fun D σ H=>ta σ H fun vs H1=>∃v w,vs=[v,w]∧D.nx ((σ.set i (some v)).set j (some w)) H1
theorem Lp{i j:Nat}{x y:Str}{a b:Expr}{ta:TA}{px py pt:Pos}{kt k2 CB}(hc:X.calm=true)(hN:X.N.Nodup)(hi:X.N[i]? =some x)(hj:X.N[j]? =some y)(yT:i≠j)
  (hx:X.env.scope.names.lookup x=some .local)(hy:X.env.scope.names.lookup y=some .local)(ha:PA X [a,b] ta)
  (hw:swappedStores [.Tuple [.Name x px,.Name y py] kt pt] (.Tuple [a,b] k2 CB) X.env=pure (some [x,y]))
  (hs:swapsWithSole [.Tuple [.Name x px,.Name y py] kt pt] (.Tuple [a,b] k2 CB) pos.line X.env=pure false:=by rfl):
  PS X (.Assign [.Tuple [.Name x px,.Name y py] kt pt] (.Tuple [a,b] k2 CB) pos) (Tv i j ta):=by
 intro pins s σ H D I h
 rw[exec_Assign_arm]
 refine wpAny_bind (wpAny_standAt ?_)
 rw[hs]
 refine wpAny_bind (wpAny_pure ?_)
 rw[if_neg (by decide)]
 refine wpAny_bind (Tuple_ (bZ (ha _ pins s σ H _ I h) fun us s1 ⟨vs,H1,I1,r1,q1⟩=>?_))
 obtain⟨v,w,e1,q1⟩:=q1
 subst e1
 obtain⟨u1,u2,rfl,rv,uY⟩:∃u1 u2,us=[u1,u2]∧RelV v u1∧RelV w u2:=by
  cases r1 with
  |cons p q=>
   cases q with
   |cons p' q'=>
    cases q'
    exact⟨_,_,rfl,p,p'⟩
 refine wpAny_newObj_type ?_ (by show 2≤sizeLine;decide)
 have I2:Inv X pins σ H1 { s1 with heap:=s1.heap.push { cls:=.type "tuple",data:=.seq [u1,u2].toArray } }:=I1.kept (t':=s1.toks) fun b o e=>Heap.get?_push_of_some _ e
 rw[hw]
 refine wpAny_bind (wpAny_pure ?_)
 show wpAny (model X.prog X.w) X.A (do rule "assign.swapped-stores";let items ←unpackItems (.ref s1.heap.objs.size) 2 none;assignInOrder [fun v=>bindName X.env y v,fun v=>bindName X.env x v] items.reverse;pure Flow.next) _ _ _
 refine wpAny_bind (wpAny_rule (wpAny_bind (unpackItems_tuple (items:=#[u1,u2]) (I.ok.hd hc) (IsTup.new s1.heap _) fun h' hV=>?_)))
 have I3:=I2.kept (h':=h') (t':=s1.toks) fun b o e=>hV b o (Nat.ne_of_lt (Heap.lt_size e)) e
 show wpAny _ _ (assignInOrder [fun v=>bindName X.env y v,fun v=>bindName X.env x v] [u2,u1] >>= fun _=>pure Flow.next) _ _ _
 refine wpAny_bind (assignInOrder_cons (wpAny_bindName (pA I3 hN hj (.inl hy) uY (fun s2 I4=>?_) (.inr hy))))
 refine assignInOrder_cons (wpAny_bindName (pA I4 hN hi (.inl hx) rv (fun s3 I5=>assignInOrder_nil (wpAny_pure ?_)) (.inr hx)))
 rw[List.set_comm _ _ (Ne.symm yT)]at I5
 exact⟨_,H1,I5,q1⟩
end
section
variable{X:Cx}{pos:Pos}
def Lq(c:TT)(tb:TS):TS:=fun D σ H=>∃W:Nat→St→Hp→Prop,(∃m,W m σ H)∧∀m σ H,W m σ H→
 c σ H fun b H1=>if b=true then ∃N:St→Hp→Prop,(∀σ' H',N σ' H'→∃m',m'<m∧W m' σ' H')∧tb { D with nx:=N,ct:=N,bk:=D.nx } σ H1 else D.nx σ H1
theorem Fs{c:Expr}{body:List Stmt}{tc:TT}{tb:TS}(hp:PassesOwn (model X.prog X.w) X.A X.env X.xe)(hc:PT X c tc)(hb:nM X body tb):PS X (.While c body [] pos) (Lq tc tb):=by
 intro pins s σ H D I h
 obtain⟨W,⟨m0,w0⟩,turn⟩:=h
 refine wpAny_While (codeAny_whileLoop (fun n s'=>∃σ' H',Inv X pins σ' H' s'∧W n σ' H') ?_ m0 ⟨σ,H,I,w0⟩)
 rintro n s1 ⟨pW,H1,I1,w1⟩
 refine wpAny_passesOwn hp (bZ (hc pins s1 pW H1 _ I1 (turn n pW H1 w1)) fun b s2 ⟨H2,I2,q2⟩=>?_)
 cases b with
 |true=>
  obtain⟨N,hN,q2⟩:=q2
  rw[if_pos rfl]
  refine wpAny_passesOwn hp (bZ (hb pins s2 pW H2 _ I2 q2) fun f s3 q3=>?_)
  cases f with
  |next=>
   obtain⟨sY,H3,I3,n3⟩:=q3
   obtain⟨m',hm,w3⟩:=hN sY H3 n3
   exact⟨m',hm,sY,H3,I3,w3⟩
  |cont=>
   obtain⟨sY,H3,I3,n3⟩:=q3
   obtain⟨m',hm,w3⟩:=hN sY H3 n3
   exact⟨m',hm,sY,H3,I3,w3⟩
  |brk=>exact q3
  |ret v=>exact q3
 |false=>
  rw[if_neg Bool.false_ne_true]
  exact wpAny_execs_nil ⟨pW,H2,I2,q2⟩
end
structure It where
 go:Nat→Hp→Prop
 Ft:Nat→Hp→V→Hp→Prop
 stop:Nat→Hp→Prop
def h_(X:Cx)(pins:List (Addr×Obj))(H:Hp)(b:Addr):Prop:=
 H b=none∧b≠X.env.locals∧b∉X.fs∧(b∈X.ex∨X.bJ.heap.objs.size≤b)∧(∀x c,X.env.cells.lookup x=some c→c≠b)∧∀p∈X.pn++pins,p.1≠b
theorem Inv.q_{X:Cx}{pins:List (Addr×Obj)}{σ:St}{H H':Hp}{s:Shared}{b:Addr}(I:Inv X pins σ H s)(hb:s.heap.objs.size≤b)(hn:H' b=none):h_ X pins H' b:=by
 refine⟨hn,Nat.ne_of_gt (Nat.lt_of_lt_of_le I.lt hb),I.Ot hb,.inr (Nat.le_trans I.sz hb),fun x c e z=>?_,fun p hp z=>?_⟩
 ·obtain⟨v,q⟩:=I.cell x c e
  exact absurd (Nat.lt_of_lt_of_le q.lt (by rw[z];exact hb)) (Nat.lt_irrefl _)
 ·exact absurd (Nat.lt_of_lt_of_le (Heap.lt_size (I.pin p hp).1) (by rw[z];exact hb)) (Nat.lt_irrefl _)
structure Turn(P:Program)(w:World)(K:PySem.W.Frag)(tg:Expr)(J:It)(fp:List Addr)(it:Addr)(tn:Nat→Heap→Prop):Prop where
 mem:it∈fp
 obj:∀i h,tn i h→∀b∈fp,∃o,h.get? b=some o∧∀v,o.data≠.cell v
 keep:∀i h h',tn i h→(∀b∈fp,∀o,h.get? b=some o→h'.get? b=some o)→tn i h'
 item:∀(X:Cx),X.prog=P→X.w=w→X.K=K→X.calm=true→∀(i:Nat) (pins:List (Addr×Obj)) (s:Shared) (σ:St) (H:Hp) (E:Value→Shared→Prop),Inv X pins σ H s→(∀b∈fp,h_ X pins H b)→tn i s.heap→J.go i H→
  wpAny (model P w) X.A (pyNext (.ref it)) (fun r s1=>∃u,r=some u∧
   wpAny (model P w) X.A (letOwnedTupleGo tg (.ref it) u) (fun _ s2=>∃x H',Inv X pins σ H' s2∧RelV x u∧J.Ft i H x H'∧tn (i+1) s2.heap∧∀b∈fp,H' b=none) E s1) E s
 done:∀(X:Cx),X.prog=P→X.w=w→X.K=K→X.calm=true→∀(i:Nat) (pins:List (Addr×Obj)) (s:Shared) (σ:St) (H:Hp) (E:Value→Shared→Prop),Inv X pins σ H s→(∀b∈fp,h_ X pins H b)→tn i s.heap→J.stop i H→
  wpAny (model P w) X.A (pyNext (.ref it)) (fun r s1=>r=none∧Inv X pins σ H s1) E s
 self:∀(A:Around) (i:Nat) (s:Shared) (Q:Value→Shared→Prop) (E:Value→Shared→Prop),tn i s.heap→Q (.ref it) s→wpAny (model P w) A (pyIter (.ref it)) Q E s
abbrev TI:=St→Hp→(It→Hp→Prop)→Prop
def P9(X:Cx)(pins:List (Addr×Obj))(σ:St)(tg:Expr)(R:It→Hp→Prop)(Lr:Value)(s2:Shared):Prop:=
 ∃(it:Addr) (fp:List Addr) (tn:Nat→Heap→Prop) (J:It) (H':Hp),Lr= .ref it∧Inv X pins σ H' s2∧Turn X.prog X.w X.K tg J fp it tn∧tn 0 s2.heap∧(∀b∈fp,h_ X pins H' b)∧R J H'
namespace Zu
set_option allowUnsafeReducibility true in
@[scoped irreducible] def _root_.L2.PI(X:Cx)(tg iter:Expr)(wi:TI):Prop:=
 ∀(pins:List (Addr×Obj)) (s:Shared) (σ:St) (H:Hp) (R:It→Hp→Prop),Inv X pins σ H s→wi σ H R→
  wpAny (model X.prog X.w) X.A (eval iter X.env) (fun v s1=>wpAny (model X.prog X.w) X.A (pyIter v) (P9 X pins σ tg R) X.xe s1) X.xe s
end Zu
theorem yU{M:Model}{A:Around}{E:Value→Shared→Prop}{s:Shared}{tg:Expr}{it:Addr}{u:Value}{o:Obj}{n:String}{vs:Array Value}{Q:Unit→Shared→Prop}(ho:s.heap.get? it=some o)(hc:o.cls= .type n)(hd:o.data= .fields vs)
  (hn: ["enumerate","zip","dict_itemiterator","dict_reverseitemiterator","odict_iterator","itertools.zip_longest","itertools.pairwise"].contains n=false)(hQ:Q () s):wpAny M A (letOwnedTupleGo tg (.ref it) u) Q E s:=by
 unfold letOwnedTupleGo
 cases tg<;>first
  |exact wpAny_pure hQ
  |(cases u<;>first
    |exact wpAny_pure hQ
    |(refine wpAny_bind (wpAny_load ho ?_)
      rw[hc,hd]
      show wpAny M A (if (["enumerate","zip","dict_itemiterator","dict_reverseitemiterator","odict_iterator","itertools.zip_longest","itertools.pairwise"].contains n&&vs[0]?==some (rawInt _))=true then _ else _) Q E s
      rw[if_neg (by intro h;rw[hn,Bool.false_and]at h;cases h)]
      exact wpAny_pure hQ))
def Tw(K:PySem.W.Frag)(a:Addr):It:=
 ⟨fun i H=>∃xs x,cy K H a xs∧xs[i]? =some x,fun i H x H'=>H'=H∧∀xs,cy K H a xs→xs[i]? =some x,fun i H=>∃xs,cy K H a xs∧xs.length≤i⟩
def Tx(K:PySem.W.Frag)(a:Addr):It:=
 ⟨fun i H=>∃xs x,dj K H a xs∧xs[i]? =some x,fun i H x H'=>H'=H∧∀xs,dj K H a xs→xs[i]? =some x,fun i H=>∃xs,dj K H a xs∧xs.length≤i⟩
def Ls(lo:Int)(n:Nat):It:=⟨fun i _=>i<n,fun i H x H'=>H'=H∧x= .int (lo+i),fun i _=>n≤i⟩
theorem CC{P:Program}{w:World}{K:PySem.W.Frag}{tg:Expr}(a it:Addr):Turn P w K tg (Tw K a) [it] it (fun i h=>h.IsListIter it a i) where
 mem:=by simp
 obj:=fun i h st b hb=>by
  have e:b=it:=by simpa using hb
  subst e
  obtain⟨o,e,c,d⟩:=st
  exact⟨o,e,fun v z=>by rw[d]at z;cases z⟩
 keep:=fun i h h' st k=>st.at fun o e=>k it (by simp) o e
 item:=by
  intro X hP hw hK hc i pins s σ H E I hf st hg
  subst hP hw hK
  obtain⟨xs,x,hq,hx⟩:=hg
  obtain⟨its,rv,p,hz⟩:=I.list hq
  obtain⟨u,hu,ru⟩:=rv.get hx
  obtain⟨f0,f1,f2,f3,f4,f5⟩:=hf it (by simp)
  refine wpAny_pyNext_list_item st p.isList (x:=u) (by simpa using hu) fun h' rg sb=>?_
  have I1:Inv X pins σ H { s with heap:=h' }:=I.turned (t':=s.toks) (fun b o hb e=>(sb.2 b hb).trans e) f0 f1 f3 f4 f5
  obtain⟨o,e,c,d⟩:=id rg
  exact⟨u,rfl,yU (s:={ s with heap:=h' }) e c d (by decide) ⟨x,H,I1,ru,⟨rfl,fun ys hy=>by rw[I.lT hy hq];exact hx⟩,rg,fun b hb=>(hf b hb).1⟩⟩
 done:=by
  intro X hP hw hK hc i pins s σ H E I hf st hg
  subst hP hw hK
  obtain⟨xs,hq,hx⟩:=hg
  obtain⟨its,rv,p,hz⟩:=I.list hq
  obtain⟨f0,f1,f2,f3,f4,f5⟩:=hf it (by simp)
  have hl:=rv.length
  exact wpAny_pyNext_list_end (I.ok.hd hc) st p.isList (by simp;omega) fun h' eb=>⟨rfl,I.turned (t':=s.toks) (fun b o hb e=>eb b o hb e) f0 f1 f3 f4 f5⟩
 self:=fun _ _ _ _ _ st h=>wpAny_pyIter_listiter st h
theorem AE{P:Program}{w:World}{K:PySem.W.Frag}{tg:Expr}(a it:Addr):Turn P w K tg (Tx K a) [it] it (fun i h=>h.IsTupleIter it a i) where
 mem:=by simp
 obj:=fun i h st b hb=>by
  have e:b=it:=by simpa using hb
  subst e
  obtain⟨o,e,c,d⟩:=st
  exact⟨o,e,fun v z=>by rw[d]at z;cases z⟩
 keep:=fun i h h' st k=>st.at fun o e=>k it (by simp) o e
 item:=by
  intro X hP hw hK hc i pins s σ H E I hf st hg
  subst hP hw hK
  obtain⟨xs,x,hq,hx⟩:=hg
  obtain⟨its,rv,p,hz⟩:=I.tuple hq
  obtain⟨u,hu,ru⟩:=rv.get hx
  obtain⟨f0,f1,f2,f3,f4,f5⟩:=hf it (by simp)
  refine wpAny_pyNext_tuple_item st (show s.heap.IsTuple a its.toArray from p) (x:=u) (by simpa using hu) fun h' rg sb=>?_
  have I1:Inv X pins σ H { s with heap:=h' }:=I.turned (t':=s.toks) (fun b o hb e=>(sb.2 b hb).trans e) f0 f1 f3 f4 f5
  obtain⟨o,e,c,d⟩:=id rg
  exact⟨u,rfl,yU (s:={ s with heap:=h' }) e c d (by decide) ⟨x,H,I1,ru,⟨rfl,fun ys hy=>by rw[I.qu hy hq];exact hx⟩,rg,fun b hb=>(hf b hb).1⟩⟩
 done:=by
  intro X hP hw hK hc i pins s σ H E I hf st hg
  subst hP hw hK
  obtain⟨xs,hq,hx⟩:=hg
  obtain⟨its,rv,p,hz⟩:=I.tuple hq
  obtain⟨f0,f1,f2,f3,f4,f5⟩:=hf it (by simp)
  have hl:=rv.length
  exact wpAny_pyNext_tuple_end (I.ok.hd hc) st (show s.heap.IsTuple a its.toArray from p) (by simp;omega) fun h' eb=>⟨rfl,I.turned (t':=s.toks) (fun b o hb e=>eb b o hb e) f0 f1 f3 f4 f5⟩
 self:=fun _ _ _ _ _ st h=>wpAny_pyIter_tupleiter st h
theorem AF{P:Program}{w:World}{K:PySem.W.Frag}{tg:Expr}(it:Addr)(lo:Int)(n:Nat):Turn P w K tg (Ls lo n) [it] it (fun i h=>IsRangeIter h it (lo+(i:Nat)*1) ((n:Int) - (i:Nat)) 1) where
 mem:=by simp
 obj:=fun i h st b hb=>by
  have e:b=it:=by simpa using hb
  subst e
  exact⟨_,st,fun v z=>by
   have z':Data.fields _=Data.cell v:=z
   cases z'⟩
 keep:=fun i h h' st k=>k it (by simp) _ st
 item:=by
  intro X hP hw hK hc i pins s σ H E I hf st hg
  subst hP hw hK
  obtain⟨f0,f1,f2,f3,f4,f5⟩:=hf it (by simp)
  have W:=Walks.range (prog:=X.prog) (w:=X.w) (I.ok.hd hc) it lo 1 n
  refine W.item i s _ _ hg st fun v h' tk hv rg kk=>?_
  obtain⟨t,rfl⟩:=hv
  have I1:Inv X pins σ H { s with heap:=h',toks:=tk }:=I.turned (fun b o hb e=>kk b o (by simpa using hb) e) f0 f1 f3 f4 f5
  refine⟨_,rfl,yU (s:={ s with heap:=h',toks:=tk }) (n:="range_iterator") rg rfl rfl (by decide) ⟨.int (lo+i),H,I1,⟨t,?_⟩,⟨rfl,rfl⟩,rg,fun b hb=>(hf b hb).1⟩⟩
  rw[Int.mul_one]
 done:=by
  intro X hP hw hK hc i pins s σ H E I hf st hg
  subst hP hw hK
  obtain⟨f0,f1,f2,f3,f4,f5⟩:=hf it (by simp)
  exact wpAny_pyNext_range_end (I.ok.hd hc) st (by have:n≤i:=hg;omega) fun h' eb=>⟨rfl,I.turned (t':=s.toks) (fun b o hb e=>eb b o hb e) f0 f1 f3 f4 f5⟩
 self:=fun _ _ _ _ _ st h=>wpAny_pyIter_rangeiter st h
end L2
namespace L2
open PySem PySem.Spec PyProof.Rows
section
variable{X:Cx}{tg:Expr}
def P_(K:PySem.W.Frag)(tl:TE):TI:=fun σ H R=>tl σ H fun x H1=>∃a,x= .ref a∧(∃xs,cy K H1 a xs)∧R (Tw K a) H1
def uw(K:PySem.W.Frag)(tl:TE):TI:=fun σ H R=>tl σ H fun x H1=>∃a,x= .ref a∧(∃xs,dj K H1 a xs)∧R (Tx K a) H1
theorem Hm{l:Expr}{tl:TE}(hl:PE X l tl):PI X tg l (P_ X.K tl):=by
 intro pins s σ H R I h
 refine bZ (hl pins s σ H _ I h) fun v s1 ⟨x,H1,I1,r1,q1⟩=>?_
 obtain⟨a,e,⟨xs,hq⟩,q⟩:=q1
 subst e
 cases r1
 obtain⟨its,rv,p,hz⟩:=I1.list hq
 refine wpAny_pyIter_list p.isList ?_
 refine⟨s1.heap.objs.size,[s1.heap.objs.size],_,_,H1,rfl,I1.kept (t':=s1.toks) fun b o e=>Heap.get?_push_of_some _ e,CC a _,⟨_,Heap.get?_push_size _ rfl,rfl,rfl⟩,fun b hb=>?_,q⟩
 have e:b=s1.heap.objs.size:=by simpa using hb
 subst e
 exact I1.q_ (Nat.le_refl _) (I1.bh.fresh (Nat.le_refl _))
theorem Lu{l:Expr}{tl:TE}(hl:PE X l tl):PI X tg l (uw X.K tl):=by
 intro pins s σ H R I h
 refine bZ (hl pins s σ H _ I h) fun v s1 ⟨x,H1,I1,r1,q1⟩=>?_
 obtain⟨a,e,⟨xs,hq⟩,q⟩:=q1
 subst e
 cases r1
 obtain⟨its,rv,p,hz⟩:=I1.tuple hq
 refine wpAny_pyIter_tuple (show s1.heap.IsTuple a its.toArray from p) ?_
 refine⟨s1.heap.objs.size,[s1.heap.objs.size],_,_,H1,rfl,I1.kept (t':=s1.toks) fun b o e=>Heap.get?_push_of_some _ e,AE a _,⟨_,Heap.get?_push_size _ rfl,rfl,rfl⟩,fun b hb=>?_,q⟩
 have e:b=s1.heap.objs.size:=by simpa using hb
 subst e
 exact I1.q_ (Nat.le_refl _) (I1.bh.fresh (Nat.le_refl _))
theorem Fu{pins:List (Addr×Obj)}{σ:St}{H:Hp}{s:Shared}{R:It→Hp→Prop}{E:Value→Shared→Prop}{lo hi:Int}{t u v:Tok}{tk:Nat}(I:Inv X pins σ H s)(h1: -(2 ^ 62)≤lo)(h2:lo<2 ^ 62)(h3: -(2 ^ 62)≤hi)(h4:hi<2 ^ 62)
  (q:R (Ls lo (hi - lo).toNat) H):wpAny (model X.prog X.w) X.A (pyIter (.ref s.heap.objs.size)) (P9 X pins σ tg R) E { s with heap:=s.heap.push { cls:=.type "range",data:=.fields #[.int lo t,.int hi u,.int 1 v] },toks:=tk }:=by
 refine wpAny_pyIter_range (IsRange.new ..) (small_one h1 h2 h3 h4) ?_
 have I1:Inv X pins σ H { s with heap:=s.heap.push { cls:=.type "range",data:=.fields #[.int lo t,.int hi u,.int 1 v] },toks:=tk }:=I.kept fun b o e=>Heap.get?_push_of_some _ e
 refine⟨(s.heap.push { cls:=.type "range",data:=.fields #[.int lo t,.int hi u,.int 1 v] }).objs.size,[(s.heap.push { cls:=.type "range",data:=.fields #[.int lo t,.int hi u,.int 1 v] }).objs.size],_,_,H,rfl,
  I1.kept (t':=tk) fun b o e=>Heap.get?_push_of_some _ e,AF _ lo (hi - lo).toNat,?_,fun b hb=>?_,q⟩
 ·have e1:lo+((0:Nat):Int)*1=lo:=by simp
  have e2:(((hi - lo).toNat:Nat):Int) - ((0:Nat):Int)=Builtin.Range.rangeSize lo hi 1:=by rw[rangeSize_one];split<;>omega
  show IsRangeIter _ _ (lo+((0:Nat):Int)*1) ((((hi - lo).toNat:Nat):Int) - ((0:Nat):Int)) 1
  rw[e1,e2]
  exact Heap.get?_push_size _ rfl
 ·have e:b=(s.heap.push { cls:=.type "range",data:=.fields #[.int lo t,.int hi u,.int 1 v] }).objs.size:=by simpa using hb
  subst e
  exact I1.q_ (Nat.le_refl _) (I1.bh.fresh (Nat.le_refl _))
def fY(ta:TA):TI:=fun σ H R=>ta σ H fun vs H1=>∃j:Int,vs=[.int j]∧-(2 ^ 62)≤j∧j<2 ^ 62∧R (Ls 0 j.toNat) H1
theorem CD{a:Expr}{ta:TA}{p pos:Pos}(hg:Gl X "range")(hm:X.mg "range" =none)(ha:PA X [a] ta)(hs:starEach [a] X.env=[(false,eval a X.env)]:=by rfl):PI X tg (.Call (.Name "range" p) [a] [] pos) (fY ta):=by
 intro pins s σ H R I h
 refine Call_ (i7 I hg hm boot_range (PyProof.Rows.callWith_type1 (bZ (ha pos pins s σ H _ I h) fun us s1 ⟨vs,H1,I1,r1,q1⟩=>?_) hs rfl))
 obtain⟨j,e,q1,q2,q⟩:=q1
 subst e
 cases r1 with
 |cons r rr=>
  cases rr
  obtain⟨t,rfl⟩:=r
  exact call_range_1 (Fu I1 (by omega) (by omega) q1 q2 (by simpa using q))
def TB(wi:TI)(g:TG)(tb:TS):TS:=fun D σ H=>wi σ H fun J H1=>∃W:Nat→Nat→St→Hp→Prop,(∃m,W 0 m σ H1)∧∀i m σ H,W i m σ H→
 (J.stop i H∧D.nx σ H)∨(J.go i H∧∃N:St→Hp→Prop,(∀σ' H',N σ' H'→∃m',m'<m∧W (i+1) m' σ' H')∧∀x H',J.Ft i H x H'→g x σ H' fun AG H2=>tb { D with nx:=N,ct:=N,bk:=D.nx } AG H2)
def rh(fp:List Addr)(h:Heap):List (Addr×Obj):=fp.filterMap fun b=>(h.get? b).map fun o=>(b,o)
theorem kF{fp:List Addr}{h:Heap}{b:Addr}{o:Obj}(hb:b∈fp)(e:h.get? b=some o):(b,o)∈rh fp h:=List.mem_filterMap.mpr ⟨b,hb,by rw[e];rfl⟩
theorem CF{fp:List Addr}{h:Heap}{p:Addr×Obj}(hp:p∈rh fp h):p.1∈fp∧h.get? p.1=some p.2:=by
 obtain⟨b,hb,e⟩:=List.mem_filterMap.mp hp
 cases q:h.get? b with
 |none=>rw[q]at e;cases e
 |some o=>
  rw[q]at e
  have e':(b,o)=p:=Option.some.inj e
  subst e'
  exact⟨hb,q⟩
theorem Inv.pinned{pins:List (Addr×Obj)}{σ:St}{H:Hp}{s:Shared}{fp:List Addr}(I:Inv X pins σ H s)(hf:∀b∈fp,h_ X pins H b)(ho:∀b∈fp,∃o,s.heap.get? b=some o∧∀v,o.data≠.cell v):Inv X (pins++rh fp s.heap) σ H s:=
 I.vT fun p hp=>(List.mem_append.mp hp).elim (fun z=>I.pin p (List.mem_append_right _ z)) fun z=>by
  obtain⟨hb,e⟩:=CF z
  obtain⟨f0,f1,f2,_⟩:=hf p.1 hb
  obtain⟨o,e',d⟩:=ho p.1 hb
  rw[e]at e';cases e'
  exact⟨e,f0,f1,f2,d⟩
theorem Inv.lU{pins pl:List (Addr×Obj)}{σ:St}{H:Hp}{s:Shared}(I:Inv X (pins++pl) σ H s):Inv X pins σ H s:=I.vT fun p hp=>I.pin p (List.mem_append_right _ (List.mem_append_left _ hp))
theorem Lv{iter:Expr}{body:List Stmt}{wi:TI}{g:TG}{tb:TS}{pos:Pos}(hp:PassesOwn (model X.prog X.w) X.A X.env X.xe)(hc:X.calm=true)(hi:PI X tg iter wi)(hg:PG X tg g)(hb:nM X body tb)
  (hs:∀x,foldedSetIterable iter X.env x=pure x:=by intro _;rfl):PS X (.For tg iter body [] pos) (TB wi g tb):=by
 intro pins s σ H D I h
 refine wpAny_For (bZ (hi pins s σ H _ I h) fun v s1 h1=>bZ h1 fun Lr s2 h2=>?_) hs
 obtain⟨it,fp,tn,J,H2,e,I2,T,mG,f2,W,⟨m0,w0⟩,turn⟩:=h2
 subst e
 -- agu stays true of AH Ow objects through AH loop
 have Hn:∀{H':Hp},(∀b∈fp,H' b=none)→∀b∈fp,h_ X pins H' b:=fun hn b hb=>⟨hn b hb,(f2 b hb).2⟩
 refine codeAny_forLoop_any (fun n s'=>∃i σ' H',Inv X pins σ' H' s'∧tn i s'.heap∧(∀b∈fp,H' b=none)∧W i n σ' H') ?_ m0 ⟨0,σ,H2,I2,mG,fun b hb=>(f2 b hb).1,w0⟩
 rintro n s3 ⟨i,sY,H3,I3,TC,TF,w3⟩
 rcases turn i n sY H3 w3 with⟨stop,qn⟩|⟨go,N,hN,step⟩
 ·refine wpAny_passesOwn hp (bZ (T.done X rfl rfl rfl hc i pins s3 sY H3 X.xe I3 (Hn TF) TC stop) fun r s4 ⟨hr,I4⟩=>?_)
  subst hr
  exact wpAny_execs_nil ⟨sY,H3,I4,qn⟩
 ·refine wpAny_passesOwn hp (bZ (T.item X rfl rfl rfl hc i pins s3 sY H3 X.xe I3 (Hn TF) TC go) fun r s4 ⟨u,hr,h4⟩=>?_)
  subst hr
  refine wpAny_passesOwn hp (bZ h4 fun _ s5 ⟨x,H5,I5,r5,y5,Qa,fr5⟩=>?_)
  have Qb:=I5.pinned (Hn fr5) (T.obj _ _ Qa)
  refine wpAny_passesOwn hp (bZ (hg _ s5 sY H5 x u _ Qb r5 (step x H5 y5)) fun _ s6 ⟨Qc,H6,I6,q6⟩=>?_)
  refine wpAny_passesOwn hp (bZ (hb _ s6 Qc H6 _ I6 q6) fun f s7 q7=>?_)
  have again:∀{vV:St}{H7:Hp},Inv X (pins++rh fp s5.heap) vV H7 s7→N vV H7→∃m,m<n∧∃i σ' H',Inv X pins σ' H' s7∧tn i s7.heap∧(∀b∈fp,H' b=none)∧W i m σ' H':=fun {vV H7} I7 n7=>by
   obtain⟨m',hm,w7⟩:=hN vV H7 n7
   refine⟨m',hm,i+1,vV,H7,I7.lU,T.keep _ _ _ Qa fun b hb o e=>(I7.pin (b,o) (List.mem_append_right _ (List.mem_append_right _ (kF hb e)))).1,fun b hb=>?_,w7⟩
   obtain⟨o,e,d⟩:=T.obj _ _ Qa b hb
   exact(I7.pin (b,o) (List.mem_append_right _ (List.mem_append_right _ (kF hb e)))).2.1
  cases f with
  |next=>obtain⟨vV,H7,I7,n7⟩:=q7;exact again I7 n7
  |cont=>obtain⟨vV,H7,I7,n7⟩:=q7;exact again I7 n7
  |brk=>obtain⟨vV,H7,I7,q7⟩:=q7;exact⟨vV,H7,I7.lU,q7⟩
  |ret v=>obtain⟨x7,vV,H7,I7,r7,q7⟩:=q7;exact⟨x7,vV,H7,I7.lU,r7,q7⟩
end
end L2
namespace L2
open PySem PySem.Spec PyProof.Rows
abbrev R2:=V→V→Hp→VK→Prop
def gJ(X:Cx)(f:Value→Value→Sem Value)(r:R2):Prop:=
 ∀(pins:List (Addr×Obj)) (s:Shared) (σ:St) (H:Hp) (x y:V) (v u:Value) (Q:VK),Inv X pins σ H s→RelV x v→RelV y u→r x y H Q→
  wpAny (model X.prog X.w) X.A (f v u) (EP X pins σ Q) X.xe s
def Qd(X:Cx)(f:Value→Sem Value)(r:V→Hp→VK→Prop):Prop:=
 ∀(pins:List (Addr×Obj)) (s:Shared) (σ:St) (H:Hp) (x:V) (v:Value) (Q:VK),Inv X pins σ H s→RelV x v→r x H Q→
  wpAny (model X.prog X.w) X.A (f v) (EP X pins σ Q) X.xe s
def gK(X:Cx)(f:Value)(r:List V→Hp→VK→Prop):Prop:=
 ∀(pins:List (Addr×Obj)) (s:Shared) (σ:St) (H:Hp) (xs:List V) (us:List Value) (Q:VK),Inv X pins σ H s→Vals xs us→r xs H Q→
  wpAny (model X.prog X.w) X.A (call f us) (EP X pins σ Q) X.xe s
def Ho(r:R2)(ta tb:TE):TE:=fun σ H Q=>ta σ H fun x H1=>tb σ H1 fun y H2=>r x y H2 Q
def tUn(r:V→Hp→VK→Prop)(ta:TE):TE:=fun σ H Q=>ta σ H fun x H1=>r x H1 Q
def rI(C:Int→Int→Prop)(g:Int→Int→V):R2:=fun x y H Q=>∃i j,x= .int i∧y= .int j∧C i j∧Q (g i j) H
def rn(g:Int→Int→V):R2:=fun x y H Q=>∃i j,x= .int i∧y= .int j∧Q (g i j) H
def rU(g:Int→V):V→Hp→VK→Prop:=fun x H Q=>∃i,x= .int i∧Q (g i) H
section
variable{X:Cx}{a b c:Expr}{ta tb tc:TE}{pos:Pos}
theorem Hq(ha:PE X a ta)(hb:PE X b tb){pins:List (Addr×Obj)}{s:Shared}{σ:St}{H:Hp}{R:V→V→Hp→Prop}(I:Inv X pins σ H s)
  (h:ta σ H fun x H1=>tb σ H1 fun y H2=>R x y H2){Q:Value→Shared→Prop}{f:Value→Value→Sem Value}
  (hf:∀v u s2 x y H2,Inv X pins σ H2 s2→RelV x v→RelV y u→R x y H2→wpAny (model X.prog X.w) X.A (f v u) Q X.xe s2):
  wpAny (model X.prog X.w) X.A (eval a X.env) (fun v bO=>wpAny (model X.prog X.w) X.A (eval b X.env) (fun u lS=>wpAny (model X.prog X.w) X.A (f v u) Q X.xe lS) X.xe bO) X.xe s:=by
 refine bZ (ha pins s σ H _ I h) fun v s1 ⟨x,H1,I1,r1,q1⟩=>?_
 refine bZ (hb pins s1 σ H1 _ I1 q1) fun u s2 ⟨y,H2,I2,r2,q2⟩=>?_
 exact hf v u s2 x y H2 I2 r1 r2 q2
theorem Qe{op:Operator}{r:R2}(ho:gJ X (binaryOp op) r)(ha:PE X a ta)(hb:PE X b tb):PE X (.BinOp a op b pos) (Ho r ta tb):=by
 intro pins s σ H Q I h
 exact wpAny_BinOp (Hq ha hb I h fun v u s2 x y H2 I2 rx ry q=>ho pins s2 σ H2 x y v u Q I2 rx ry q)
theorem Qf{op:UnaryOp}{r:V→Hp→VK→Prop}(ho:Qd X (unaryOp op) r)(ha:PE X a ta):PE X (.UnaryOp op a pos) (tUn r ta):=by
 intro pins s σ H Q I h
 exact UnaryOp_ (bZ (ha pins s σ H _ I h) fun v s1 ⟨x,H1,I1,r1,q1⟩=>ho pins s1 σ H1 x v Q I1 r1 q1)
theorem Lw{f:Value→Value→Sem Value}{C:Int→Int→Prop}{g:Int→Int→Int}
  (rule:∀(i j:Int) (t u:Tok) (s:Shared) (Q:Value→Shared→Prop) (E:Value→Shared→Prop),C i j→Q (.int (g i j) s.toks) { s with toks:=s.toks+1 }→wpAny (model X.prog X.w) X.A (f (.int i t) (.int j u)) Q E s):
  gJ X f (rI C fun i j=>.int (g i j)):=by
 intro pins s σ H x y v u Q I rx ry h
 obtain⟨i,j,rfl,rfl,hc,q⟩:=h
 obtain⟨t,rfl⟩:=rx
 obtain⟨t',rfl⟩:=ry
 exact rule i j t t' s _ _ hc ⟨.int (g i j),H,I.tok _,⟨_,rfl⟩,q⟩
theorem Ox{f:Value→Value→Sem Value}{g:Int→Int→Int}
  (rule:∀(i j:Int) (t u:Tok) (s:Shared) (Q:Value→Shared→Prop) (E:Value→Shared→Prop),Q (.int (g i j) s.toks) { s with toks:=s.toks+1 }→wpAny (model X.prog X.w) X.A (f (.int i t) (.int j u)) Q E s):
  gJ X f (rn fun i j=>.int (g i j)):=by
 intro pins s σ H x y v u Q I rx ry h
 obtain⟨i,j,rfl,rfl,q⟩:=h
 obtain⟨t,rfl⟩:=rx
 obtain⟨t',rfl⟩:=ry
 exact rule i j t t' s _ _ ⟨.int (g i j),H,I.tok _,⟨_,rfl⟩,q⟩
theorem Hr{f:Value→Value→Sem Value}{g:Int→Int→Bool}
  (rule:∀(i j:Int) (t u:Tok) (s:Shared) (Q:Value→Shared→Prop) (E:Value→Shared→Prop),Q (.bool (g i j)) s→wpAny (model X.prog X.w) X.A (f (.int i t) (.int j u)) Q E s):
  gJ X f (rn fun i j=>.bl (g i j)):=by
 intro pins s σ H x y v u Q I rx ry h
 obtain⟨i,j,rfl,rfl,q⟩:=h
 obtain⟨t,rfl⟩:=rx
 obtain⟨t',rfl⟩:=ry
 exact rule i j t t' s _ _ ⟨.bl (g i j),H,I,rfl,q⟩
def Oy(i j:Int):Prop:=0≤j∧j≤1000000∧i.natAbs<2 ^ 64
def Oz(i j:Int):Prop:=(-(2 ^ 64)<i∧i<2 ^ 64)∨(-(2 ^ 64)<j∧j<2 ^ 64)
theorem Oz.ok{i j:Int}(h:Oz i j):IntMulOk i j:=by
 rcases h with⟨h1,h2⟩|⟨h1,h2⟩
 ·exact .of_left (intBits_le_64 h1 h2)
 ·exact .of_right (intBits_le_64 h1 h2)
theorem Lx:gJ X (binaryOp .Add) (rn fun i j=>.int (i+j)):=Ox fun _ _ _ _ _ _ _ q=>add_int q
theorem gR:gJ X (binaryOp .Sub) (rn fun i j=>.int (i - j)):=Ox fun _ _ _ _ _ _ _ q=>sub_int q
theorem gM:gJ X (binaryOp .Mod) (rI (fun _ j=>j≠0) fun i j=>.int (i.fmod j)):=Lw fun _ _ _ _ _ _ _ hc q=>mod_int' hc q
theorem vn:gJ X (binaryOp .Pow) (rI Oy fun i j=>.int (i ^ j.toNat)):=Lw fun _ _ _ _ _ _ _ hc q=>pow_int_small hc.1 hc.2.1 hc.2.2 q
theorem unI{f:Value→Sem Value}{g:Int→Int}
  (rule:∀(i:Int) (t:Tok) (s:Shared) (Q:Value→Shared→Prop) (E:Value→Shared→Prop),Q (.int (g i) s.toks) { s with toks:=s.toks+1 }→wpAny (model X.prog X.w) X.A (f (.int i t)) Q E s):
  Qd X f (rU fun i=>.int (g i)):=by
 intro pins s σ H x v Q I rx h
 obtain⟨i,rfl,q⟩:=h
 obtain⟨t,rfl⟩:=rx
 exact rule i t s _ _ ⟨.int (g i),H,I.tok _,⟨_,rfl⟩,q⟩
theorem Ly:Qd X (unaryOp .USub) (rU fun i=>.int (-i)):=unI fun _ _ _ _ _ q=>neg_int q
end
def OA:V→V→Bool
 |.bF,.bF=>true|.bF,.int _=>true|.int _,.bF=>true|.bF,.bl _=>true|.bl _,.bF=>true|.bF,.str _=>true|.str _,.bF=>true
 |.int _,.int _=>true|.bl _,.bl _=>true|.str _,.str _=>true|.vP _,.vP _=>true
 |.int _,.str _=>true|.str _,.int _=>true|.bl _,.str _=>true|.str _,.bl _=>true
 |_,_=>false
def Lz:R2:=fun x y H Q=>OA x y=true∧Q (.bl (decide (x=y))) H
def LA:R2:=fun x y H Q=>OA x y=true∧Q (.bl (!decide (x=y))) H
theorem AI{i j:Int}:decide (V.int i=V.int j)=(i==j):=by
 rw[Bool.eq_iff_iff]
 simp
theorem vo{i j:Bool}:decide (V.bl i=V.bl j)=(i==j):=by
 rw[Bool.eq_iff_iff]
 simp
theorem AJ{i j:Str}:decide (V.str i=V.str j)=(i==j):=by
 rw[Bool.eq_iff_iff]
 simp
theorem AK{i j:Array UInt8}:decide (V.vP i=V.vP j)=(i.toList==j.toList):=by
 rw[Bool.eq_iff_iff]
 cases i
 cases j
 simp
section
variable{X:Cx}{a b c:Expr}{ta tb tc:TE}{pos:Pos}
theorem b_{pins:List (Addr×Obj)}{σ:St}{H:Hp}{s:Shared}{Q:VK}{k k':Bool}(I:Inv X pins σ H s)(q:Q (.bl k) H)(e:k=k'):EP X pins σ Q (.bool k') s:=by
 subst e
 exact⟨.bl k,H,I,rfl,q⟩
theorem Qg:gJ X (compareOp .Eq) Lz:=by
 intro pins s σ H x y v u Q I rx ry h
 obtain⟨hs,q⟩:=h
 cases x with
 |bF=>
  cases rx
  cases y with
  |bF=>cases ry;exact PySem.EqNone.eq_none_none (b_ I q (by simp))
  |bl j=>cases ry;exact PySem.EqNone.eq_none_bool (b_ I q (by simp))
  |int j=>obtain⟨t',rfl⟩:=ry;exact PySem.EqNone.eq_none_int (b_ I q (by simp))
  |str j=>obtain⟨t',rfl⟩:=ry;exact PySem.EqNone.eq_none_str (b_ I q (by simp))
  |_=>exact absurd (show false=true from hs) Bool.false_ne_true
 |bl i=>
  cases rx
  cases y with
  |bF=>cases ry;exact PySem.EqNone.eq_bool_none (b_ I q (by simp))
  |bl j=>cases ry;exact eq_bool (b_ I q vo)
  |str j=>obtain⟨t',rfl⟩:=ry;exact PySem.EqMixed.eq_bool_str (b_ I q (by simp))
  |_=>exact absurd (show false=true from hs) Bool.false_ne_true
 |int i=>
  obtain⟨t,rfl⟩:=rx
  cases y with
  |bF=>cases ry;exact PySem.EqNone.eq_int_none (b_ I q (by simp))
  |int j=>obtain⟨t',rfl⟩:=ry;exact eq_int (b_ I q AI)
  |str j=>obtain⟨t',rfl⟩:=ry;exact PySem.EqMixed.eq_int_str (b_ I q (by simp))
  |_=>exact absurd (show false=true from hs) Bool.false_ne_true
 |str i=>
  obtain⟨t,rfl⟩:=rx
  cases y with
  |bF=>cases ry;exact PySem.EqNone.eq_str_none (b_ I q (by simp))
  |bl j=>cases ry;exact PySem.EqMixed.eq_str_bool (b_ I q (by simp))
  |int j=>obtain⟨t',rfl⟩:=ry;exact PySem.EqMixed.eq_str_int (b_ I q (by simp))
  |str j=>obtain⟨t',rfl⟩:=ry;exact eq_str (b_ I q AJ)
  |_=>exact absurd (show false=true from hs) Bool.false_ne_true
 |vP i=>
  obtain⟨t,rfl⟩:=rx
  cases y with
  |vP j=>obtain⟨t',rfl⟩:=ry;exact PySem.W.eq_bytes (b_ I q AK)
  |_=>exact absurd (show false=true from hs) Bool.false_ne_true
 |_=>cases y<;>exact absurd (show false=true from hs) Bool.false_ne_true
theorem Qh:gJ X (compareOp .NotEq) LA:=by
 intro pins s σ H x y v u Q I rx ry h
 obtain⟨hs,q⟩:=h
 cases x with
 |bF=>
  cases rx
  cases y with
  |bF=>cases ry;exact PySem.EqNone.ne_none_none (b_ I q (by simp))
  |bl j=>cases ry;exact PySem.EqNone.ne_none_bool (b_ I q (by simp))
  |int j=>obtain⟨t',rfl⟩:=ry;exact PySem.EqNone.ne_none_int (b_ I q (by simp))
  |str j=>obtain⟨t',rfl⟩:=ry;exact PySem.EqNone.ne_none_str (b_ I q (by simp))
  |_=>exact absurd (show false=true from hs) Bool.false_ne_true
 |bl i=>
  cases rx
  cases y with
  |bF=>cases ry;exact PySem.EqNone.ne_bool_none (b_ I q (by simp))
  |bl j=>cases ry;exact ne_bool (b_ I q (congrArg not vo))
  |str j=>obtain⟨t',rfl⟩:=ry;exact PySem.EqMixed.ne_bool_str (b_ I q (by simp))
  |_=>exact absurd (show false=true from hs) Bool.false_ne_true
 |int i=>
  obtain⟨t,rfl⟩:=rx
  cases y with
  |bF=>cases ry;exact PySem.EqNone.ne_int_none (b_ I q (by simp))
  |int j=>obtain⟨t',rfl⟩:=ry;exact ne_int (b_ I q (congrArg not AI))
  |str j=>obtain⟨t',rfl⟩:=ry;exact PySem.EqMixed.ne_int_str (b_ I q (by simp))
  |_=>exact absurd (show false=true from hs) Bool.false_ne_true
 |str i=>
  obtain⟨t,rfl⟩:=rx
  cases y with
  |bF=>cases ry;exact PySem.EqNone.ne_str_none (b_ I q (by simp))
  |bl j=>cases ry;exact PySem.EqMixed.ne_str_bool (b_ I q (by simp))
  |int j=>obtain⟨t',rfl⟩:=ry;exact PySem.EqMixed.ne_str_int (b_ I q (by simp))
  |str j=>obtain⟨t',rfl⟩:=ry;exact ne_str (b_ I q (congrArg not AJ))
  |_=>exact absurd (show false=true from hs) Bool.false_ne_true
 |vP i=>
  obtain⟨t,rfl⟩:=rx
  cases y with
  |vP j=>obtain⟨t',rfl⟩:=ry;exact PySem.W.ne_bytes (b_ I q (congrArg not AK))
  |_=>exact absurd (show false=true from hs) Bool.false_ne_true
 |_=>cases y<;>exact absurd (show false=true from hs) Bool.false_ne_true
theorem sZ:gJ X (compareOp .Lt) (rn fun i j=>.bl (decide (i<j))):=Hr fun _ _ _ _ _ _ _ q=>lt_int q
theorem Qi:gJ X (compareOp .LtE) (rn fun i j=>.bl (decide (i≤j))):=Hr fun _ _ _ _ _ _ _ q=>le_int q
theorem mH:gJ X (compareOp .Gt) (rn fun i j=>.bl (decide (j<i))):=Hr fun _ _ _ _ _ _ _ q=>gt_int q
theorem Hs:gJ X (compareOp .IsNot) (fun x y H Q=>y= .bF∧Q (.bl (!decide (x= .bF))) H):=by
 intro pins s σ H x y v u Q I rx ry h
 obtain⟨rfl,q⟩:=h
 cases ry
 refine isnot_none_gen (b_ I q ?_)
 cases x<;>first
  |(cases rx;rfl)
  |(obtain⟨t,rfl⟩:=rx;rfl)
theorem gJ.or{f:Value→Value→Sem Value}{r r':R2}(h:gJ X f r)(h':gJ X f r'):gJ X f (fun x y H Q=>r x y H Q∨r' x y H Q):=by
 intro pins s σ H x y v u Q I rx ry q
 rcases q with q|q
 ·exact h pins s σ H x y v u Q I rx ry q
 ·exact h' pins s σ H x y v u Q I rx ry q
theorem bc(b:Expr){op:CmpOp}(h:op≠.In:=by decide)(h2:op≠.NotIn:=by decide):behindInMarks op b=false:=by
 have e1:(op==CmpOp.In)=false:=by cases op<;>first|rfl|exact absurd rfl h
 have e2:(op==CmpOp.NotIn)=false:=by cases op<;>first|rfl|exact absurd rfl h2
 cases b<;>simp[behindInMarks,e1,e2]
theorem Ht{op:CmpOp}{r:R2}(ho:gJ X (compareOp op) r)(ha:PE X a ta)(hb:PE X b tb)(hm:behindInMarks op b=false):PE X (.Compare a [op] [b] pos) (Ho r ta tb):=by
 intro pins s σ H Q I h
 exact wpAny_Compare1 (Hq ha hb I h fun v u s2 x y H2 I2 rx ry q=>ho pins s2 σ H2 x y v u Q I2 rx ry q) hm
def Qj(t:TE):TT:=fun σ H Q=>t σ H fun x H'=>∃k,x= .bl k∧Q k H'
theorem Hu{op:CmpOp}{r:R2}(ho:gJ X (compareOp op) r)(ha:PE X a ta)(hb:PE X b tb)(hm:behindInMarks op b=false):PT X (.Compare a [op] [b] pos) (Qj (Ho r ta tb)):=by
 intro pins s σ H Q I h
 refine wpAny_isTrue_Compare1 (bZ (ha pins s σ H _ I h) fun v s1 ⟨x,H1,I1,r1,q1⟩=>bZ (hb pins s1 σ H1 _ I1 q1) fun u s2 ⟨y,H2,I2,r2,q2⟩=>
  bZ (ho pins s2 σ H2 x y v u _ I2 r1 r2 q2) fun c s3 ⟨z,H3,I3,r3,k,e,q3⟩=>?_) hm
 subst e
 cases r3
 exact wpAny_truthy_bool ⟨H3,I3,q3⟩
theorem rA:(sizeLine:Nat)<2 ^ 63:=by rw[sizeLine_eq];decide
theorem vals1{x:V}{us:List Value}(r:Vals [x] us):∃u,us=[u]∧RelV x u:=by
 cases r with
 |cons r1 r2=>cases r2;exact⟨_,rfl,r1⟩
theorem vals2{x y:V}{us:List Value}(r:Vals [x,y] us):∃u w',us=[u,w']∧RelV x u∧RelV y w':=by
 cases r with
 |cons r1 r2=>
  cases r2 with
  |cons r3 r4=>cases r4;exact⟨_,_,rfl,r1,r3⟩
theorem iR:gK X (.builtin "abs") (fun xs H Q=>∃i,xs=[.int i]∧Q (.int (if i<0 then -i else i)) H):=by
 intro pins s σ H xs us Q I r h
 obtain⟨i,rfl,q⟩:=h
 obtain⟨u,rfl,t,rfl⟩:=vals1 r
 exact call_abs_int fun u tk=>⟨.int (if i<0 then -i else i),H,I.tok _,⟨_,rfl⟩,q⟩
theorem CG:gK X (.type "int") (fun xs H Q=>(∃i,xs=[.int i]∧Q (.int i) H)∨∃k,xs=[.bl k]∧Q (.int (if k then 1 else 0)) H):=by
 intro pins s σ H xs us Q I r h
 rcases h with⟨i,rfl,q⟩|⟨k,rfl,q⟩
 ·obtain⟨u,rfl,t,rfl⟩:=vals1 r
  exact call_int_int ⟨.int i,H,I,⟨_,rfl⟩,q⟩
 ·obtain⟨u,rfl,r1⟩:=vals1 r
  cases r1
  exact call_int_bool ⟨.int (if k then 1 else 0),H,I.tok _,⟨_,rfl⟩,q⟩
end
end L2
namespace L2
open PySem PySem.Spec PyProof.Rows
structure Hv(h:Heap)(x dx C:Addr)(mA:Str→Option Value):Prop where
 obj:h.get? x=some (PySem.W.instObj C dx)
 ns:h.Ns1 dx mA
 ne:dx≠x
theorem CH{h:Heap}{dx:Addr}{mA:Str→Option Value}(n:h.Ns1 dx mA):∃od,h.get? dx=some od∧∀name,PySem.W.lookIn name od=some (mA name):=by
 obtain⟨o,es,ep,ho,hd,hk,_,hm⟩:=n
 refine⟨o,ho,fun name=>?_⟩
 have e:=hm name
 unfold nsFind findBy at e
 rw[←Array.find?_toList]at e
 unfold PySem.W.lookIn
 rw[hd]
 dsimp only
 split
 ·rename_i y q
  rw[q]at e
  exact congrArg some e
 ·rename_i q
  rw[q]at e
  have a:es.toList.any (·.refKey)=false:=by
   rw[List.any_eq_false]
   intro y hy
   obtain⟨z,t,TH⟩:=hk y (Array.mem_toList_iff.mp hy)
   simp[DictEntry.refKey,TH]
  have a':¬es.toList.any (·.refKey)=true:=by rw[a];exact Bool.false_ne_true
  rw[if_neg a']
  exact congrArg some e
theorem Hv.look{h:Heap}{x dx C:Addr}{mA:Str→Option Value}(I:Hv h x dx C mA):∃od,PySem.W.InstAt h x (PySem.W.instObj C dx) C (some od)∧∀name,PySem.W.lookIn name od=some (mA name):=
 let ⟨od,ho,hl⟩:=CH I.ns
 ⟨od,⟨I.obj,rfl,rfl,ho⟩,hl⟩
section
variable{prog:Program}{w:World}{A:Around}{E:Value→Shared→Prop}{s:Shared}{K:PySem.W.Frag}{x dx C f:Addr}{mA:Str→Option Value}{name:Str}{v:Value}
end
theorem qc.some_of{v:V}{o:Option Value}(r:qc (some v) o):∃u,o=some u∧RelV v u:=by
 cases o with
 |none=>exact(show False from r).elim
 |some u=>exact⟨u,rfl,r⟩
section
variable{P:Program}{w:World}{H H':Hp}{h h':Heap}{a C dx:Addr}{fs fs':List (Str×V)}
theorem Hw(bh:gH P w H h)(e:H a=some (.ins C dx fs)):∃mA,Hv h a dx C mA∧(∀f,qc (fs.lookup f) (mA f))∧PySem.Within mA (fs.map (·.1))∧fs.length≤1000∧H dx=some (.own a):=by
 obtain⟨d,z,ne,ob,mA,n,r,q⟩:=(show bV P w H h a (.ins C dx fs)from bh a _ e)
 exact⟨mA,⟨ob,n,ne⟩,r,q,z,d⟩
end
structure Qk(K:PySem.W.Frag)(C:Addr):Prop where
 pg:PySem.W.plainGet K C Str.empty=true
 hd:PySem.W.hasDictIn K C=true
 po:PySem.W.plainOver K C=true
 sa:PySem.W.findIn K (.ref C) "__setattr__" =some (some (.builtin "object.__setattr__"))
theorem Qk.get{K:PySem.W.Frag}{C:Addr}(c:Qk K C)(f:Str):PySem.W.plainGet K C f=true:=c.pg
structure lV(K:PySem.W.Frag)(C:Addr)(f:Str)(v:V)(u:Value):Prop where
 at_:PySem.W.findIn K (.ref C) f=some (some u)
 rel:RelV v u
 get:PySem.W.specialIn K u "__get__" =some none
 cp:PySem.W.copiedNames.contains f=false
section
variable{X:Cx}{pins:List (Addr×Obj)}{σ:St}{H:Hp}{s:Shared}{a C dx:Addr}{fs:List (Str×V)}{f:Str}{v:V}{A:Around}{E:Value→Shared→Prop}
end
section
variable{X:Cx}{o e value:Expr}{f:Str}{pos pos' TJ:Pos}{ta tv:TE}
end
section
variable{X:Cx}{pins:List (Addr×Obj)}{σ:St}{H:Hp}{s:Shared}{A:Around}{E:Value→Shared→Prop}{Q:Value→Shared→Prop}{c:Value}{b:Bool}
inductive kG(K:PySem.W.Frag)(H:Hp):V→Value→Prop where
 |bF:kG K H .bF (.type "NoneType")
 |bl (x:Bool):kG K H (.bl x) (.type "bool")
 |int (i:Int):kG K H (.int i) (.type "int")
 |str (x:Str):kG K H (.str x) (.type "str")
 |Fh (x:UInt64):kG K H (.Fh x) (.type "float")
 |lst {a:Addr}{xs:List V} (e:H a=some (.lst xs)):kG K H (.ref a) (.type "list")
 |fX {a:Addr}{o:Obj}{xs:List V} (e:H a=some (.fX o (.lst xs))):kG K H (.ref a) (.type "list")
 |tup {a:Addr}{xs:List V} (e:H a=some (.tup xs)):kG K H (.ref a) (.type "tuple")
 |dK {a:Addr}{aC:List (Key×V)} (e:H a=some (.dK aC)):kG K H (.ref a) (.type "dict")
 |dT {a:Addr}{aC:List (List Key×V)} (e:H a=some (.dT aC)):kG K H (.ref a) (.type "dict")
 |ins {a C dx:Addr}{fs:List (Str×V)} (e:H a=some (.ins C dx fs)) (cl:Qk K C) (ha:PySem.W.findIn K (.ref C) "__class__" =some (some (.builtin "object.__class__")))
   (hn:PySem.W.specialIn K (.builtin "object.__class__") "__get__" =some (some (.builtin "getset_descriptor.__get__"))) (Fv:PySem.W.takesIn K (.builtin "object.__class__")=some true)
   (hm:PySem.W.mroIn K C (.type "object")=some true):kG K H (.ref a) (.ref C)
theorem CI{x:V}{u t:Value}(I:Inv X pins σ H s)(rx:RelV x u)(ty:kG X.K H x t)(e:PySem.W.kitOne X.K t c=some b)(h:∀tk,Q (.bool b) { s with toks:=tk }):
  wpAny (model X.prog X.w) A (call (.builtin "isinstance") [u,c]) Q E s:=by
 cases ty with
 |bF=>cases (show u=Value.none from rx);exact PySem.W.kia_one PySem.W.kitx_none I.nL True.intro e (fun z=>nomatch z) h
 |bl y=>cases (show u=Value.bool y from rx);exact PySem.W.kia_one PySem.W.kitx_bool I.nL True.intro e (fun z=>nomatch z) h
 |int i=>obtain⟨t,q⟩:=(show ∃t,u=Value.int i t from rx);cases q;exact PySem.W.kia_one PySem.W.kitx_int I.nL True.intro e (fun z=>nomatch z) h
 |str y=>obtain⟨t,q⟩:=(show ∃t,u=Value.str y t from rx);cases q;exact PySem.W.kia_one PySem.W.kitx_str I.nL True.intro e (fun z=>nomatch z) h
 |Fh y=>obtain⟨t,q⟩:=(show ∃t,u=Value.float y t from rx);cases q;exact PySem.W.kia_one PySem.W.kitx_float I.nL True.intro e (fun z=>nomatch z) h
 |@lst a xs ea=>
  cases (show u=Value.ref a from rx)
  obtain⟨_,_,n,_,h1⟩:=(show bV X.prog X.w H s.heap a (.lst xs)from I.bh a _ ea)
  exact PySem.W.kia_one PySem.W.kitx_list I.nL ⟨_,h1,rfl⟩ e (fun z=>nomatch z) h
 |@fX a ob xs ea=>
  cases (show u=Value.ref a from rx)
  obtain⟨_,_,_,n,_,h1⟩:=(show bV X.prog X.w H s.heap a (.fX ob (.lst xs))from I.bh a _ ea)
  exact PySem.W.kia_one PySem.W.kitx_list I.nL ⟨_,h1,rfl⟩ e (fun z=>nomatch z) h
 |@tup a xs ea=>
  cases (show u=Value.ref a from rx)
  obtain⟨_,_,_,p⟩:=(show bV X.prog X.w H s.heap a (.tup xs)from I.bh a _ ea)
  obtain⟨o,h1,h2,_⟩:=p
  exact PySem.W.kia_one PySem.W.kitx_tuple I.nL ⟨o,h1,h2⟩ e (fun z=>nomatch z) h
 |@dK a aC ea=>
  cases (show u=Value.ref a from rx)
  obtain⟨_,_,vs,_,p⟩:=(show bV X.prog X.w H s.heap a (.dK aC)from I.bh a _ ea)
  obtain⟨o,es,ep,h1,h2,_⟩:=p
  exact PySem.W.kia_one PySem.W.kitx_dict I.nL ⟨o,h1,h2.1⟩ e (fun z=>nomatch z) h
 |@dT a aC ea=>
  cases (show u=Value.ref a from rx)
  obtain⟨_,_,xs,_,o,es,ep,h1,h2,_⟩:=(show bV X.prog X.w H s.heap a (.dT aC)from I.bh a _ ea)
  exact PySem.W.kia_one PySem.W.kitx_dict I.nL ⟨o,h1,h2.1⟩ e (fun z=>nomatch z) h
 |@ins a C dx fs ea cl ha hn Fv hm=>
  cases (show u=Value.ref a from rx)
  obtain⟨mA,O,_⟩:=Hw I.bh ea
  obtain⟨od,J,_⟩:=O.look
  exact PySem.W.kia_one (PySem.W.kitx_own (cl.get _) cl.hd ha hn Fv hm) I.nL J e (fun z=>nomatch z) h
end
end L2
namespace L2
open PySem PySem.Spec PyProof.Rows
structure fP(k:Nat)(A:Around):Prop where
 hd:A.handled=none
 dp:A.depth+3*k+5<recursionLimit
 un:A.units+16*k+200<cLine
theorem fP.mono{j k:Nat}{A:Around}(r:fP k A)(h:j≤k):fP j A:=⟨r.hd,by have:=r.dp;omega,by have:=r.un;omega⟩
theorem fP.deeper{k:Nat}{A:Around}(r:fP (k+1) A)(env:Env):fP k (A.deeper env):=
 ⟨r.hd,by have:=r.dp;show A.depth+1+3*k+5<_;omega,by have:=r.un;show A.units+3+16*k+200<_;omega⟩
theorem fP.depth{k:Nat}{A:Around}(r:fP k A):A.depth<recursionLimit:=by have:=r.dp;omega
theorem fP.units{k:Nat}{A:Around}(r:fP k A):A.units+64<cLine:=by have:=r.un;omega
def TK:TA:=fun _ H Q=>Q [] H
def Ql(ta:TE)(tr:TA):TA:=fun σ H Q=>ta σ H fun x H1=>tr σ H1 fun xs H2=>Q (x::xs) H2
section
variable{X:Cx}{e:Expr}{es:List Expr}{te:TE}{t:TA}{pos:Pos}
theorem LB:PA X [] TK:=fun _ _ _ _ H Q I h=>Calls.spliced_nil ⟨[],H,I,.nil,h⟩
theorem Hx(ha:PE X e te)(hr:PA X es t)(hs:starEach (e::es) X.env=(false,eval e X.env)::starEach es X.env:=by rfl):PA X (e::es) (Ql te t):=by
 intro pos pins s σ H Q I h
 rw[hs]
 show wpAny _ _ (spliced ((false,eval e X.env)::backTo pos (starEach es X.env))) _ _ s
 refine Calls.spliced_cons (bZ (ha pins s σ H _ I h) fun u s1 ⟨x,H1,I1,r1,q1⟩=>?_)
 exact bZ (hr pos pins s1 σ H1 _ I1 q1) fun us s2 ⟨xs,H2,I2,r2,q2⟩=>⟨x::xs,H2,I2,.cons r1 r2,q2⟩
def TL(t:TA):TE:=fun σ H Q=>t σ H fun xs H1=>xs.length≤sizeLine∧∀p,H1 p=none→Q (.ref p) (upd H1 p (.tup xs))
def TM(t:TA):TE:=fun σ H Q=>t σ H fun xs H1=>xs.length≤sizeLine∧∀p,H1 p=none→Q (.ref p) (upd H1 p (.lst xs))
theorem LC{x1}(h:PA X es t):PE X (.Tuple es x1 pos) (TL t):=by
 intro pins s σ H Q I hq
 refine wpAny_Tuple_spliced (bZ (h pos pins s σ H _ I hq) fun us s1 ⟨xs,H1,I1,r,z,q⟩=>⟨by rw[←r.length];exact z,?_⟩)
 have hf:H1 s1.heap.objs.size=none:=I1.bh.fresh (Nat.le_refl _)
 refine⟨.ref s1.heap.objs.size,upd H1 s1.heap.objs.size (.tup xs),I1.laid (t':=s1.toks) (fun b u e=>Heap.get?_push_of_some _ e) (Nat.le_refl _) ?_,rfl,q _ hf⟩
 exact⟨z,us,r,⟨_,Heap.get?_push_size _ rfl,rfl,_,rfl⟩⟩
theorem LD(h:PA X es t):PE X (.List es pos) (TM t):=by
 intro pins s σ H Q I hq
 refine wpAny_List_spliced (bZ (h pos pins s σ H _ I hq) fun us s1 ⟨xs,H1,I1,r,z,q⟩=>⟨by rw[←r.length];exact z,?_⟩)
 have hf:H1 s1.heap.objs.size=none:=I1.bh.fresh (Nat.le_refl _)
 refine⟨.ref s1.heap.objs.size,upd H1 s1.heap.objs.size (.lst xs),I1.laid (t':=s1.toks) (fun b u e=>Heap.get?_push_of_some _ e) (Nat.le_refl _) ?_,rfl,q _ hf⟩
 exact⟨z,us,0,r,Heap.get?_push_size _ rfl⟩
end
abbrev Sp:=List V→Hp→VK→XK→Prop
abbrev uZ:=List Env→Hp→Shared→XK→Value→Shared→Prop
structure Ee(P:Program)(w:World)(K:PySem.W.Frag)(mg:Str→Option Value)(base:Heap)(A:Around)(outer:List Env)(s:Shared)(H:Hp):Prop where
 frames:A.frames=some outer
 mod:Mod K mg base
 bs:∀b o,base.get? b=some o→s.heap.get? b=some o∧H b=none
 Av:base.objs.size≤s.heap.objs.size
 nP:s.heap.FunFrames base outer
 Fm:∀b∈vS outer,H b=none
 bh:gH P w H s.heap
 bare:AllBare s.gens
def CE(outer:List Env)(P:Program)(w:World)(H:Hp)(s:Shared)(Q:VK)(u:Value)(s':Shared):Prop:=
 ∃v H',s'.os=s.os∧AllBare s'.gens∧Un (vS outer) [] H H' s.heap s'.heap∧gH P w H' s'.heap∧RelV v u∧Q v H'
def CR(CX:uZ)(outer:List Env)(P:Program)(w:World)(H:Hp)(s:Shared)(Q:VK)(E:XK)(r:Result)(s':Shared):Prop:=
 match r with
 |.ok (.ret u)=>CE outer P w H s Q u s'
 |.ok _=>False
 |.error e=>CX outer H s E e s'
structure bK(P:Program)(w:World)(K:PySem.W.Frag)(mg:Str→Option Value)(base:Heap)(CX:uZ)(k:Nat)(f:Addr)(fd:FuncData)(ps:List Str)(sp:Sp):Prop where
 len:∀vs H Q E,sp vs H Q E→vs.length=ps.length
 run:∀(A:Around) (outer:List Env) (s:Shared) (H:Hp) (args:Args) (us:List Value) (vs:List V) (Q:VK) (E:XK),fP k A→Ee P w K mg base A outer s H→BindsTo s fd args (ps.zip us)→Vals vs us→sp vs H Q E→
  codeAny (model P w) A (.call (.ref f) args) (CR CX outer P w H s Q E) s
theorem bK.imp{P:Program}{w:World}{K:PySem.W.Frag}{mg:Str→Option Value}{base:Heap}{CX:uZ}{k:Nat}{f:Addr}{fd:FuncData}{ps:List Str}{sp TN:Sp}(F:bK P w K mg base CX k f fd ps sp)
  (h:∀vs H Q E,TN vs H Q E→sp vs H Q E):bK P w K mg base CX k f fd ps TN:=
 ⟨fun vs H Q E q=>F.len vs H Q E (h _ _ _ _ q),fun A outer s H args us vs Q E hr he hb hv hs=>F.run A outer s H args us vs Q E hr he hb hv (h _ _ _ _ hs)⟩
section
variable{X:Cx}{pins:List (Addr×Obj)}{σ:St}{H:Hp}{s s':Shared}
theorem Inv.TR(I:Inv X pins σ H s):Ee X.prog X.w X.K X.mg X.base X.A X.stack s H:=
 ⟨I.ok.frames,I.ok.mod,I.bs,Nat.le_trans I.ok.Av I.sz,I.stack,I.Ay,I.bh,I.bare⟩
theorem Inv.after{Q:VK}{u:Value}(I:Inv X pins σ H s)(h:CE X.stack X.prog X.w H s Q u s'):EP X pins σ Q u s':=by
 obtain⟨v,H',os,bare,un,bh,r,q⟩:=h
 obtain⟨hh,g,d,t,os'⟩:=s'
 obtain rfl:os'=s.os:=os
 exact⟨v,H',I.call (h':=hh) (g':=g) (d':=d) (t':=t) (ch:=[]) un bh bare (fun b z=>absurd z (by simp)),r,q⟩
end
def CJ(sp:Sp)(rB:List V)(E:XK)(t:TA):TE:=fun σ H Q=>t σ H fun vs H1=>sp (vs++rB) H1 Q E
def Binds(K:PySem.W.Frag)(fd:FuncData)(ps:List Str)(ds:List Value):Prop:=
 ∀(s:Shared) (us:List Value),K.In s.heap→(us++ds).length=ps.length→BindsTo s fd ⟨us,[]⟩ (ps.zip (us++ds))
theorem Binds.all{K:PySem.W.Frag}{fd:FuncData}{ps:List Str}(h:∀us:List Value,us.length=ps.length→bindArgs fd ⟨us,[]⟩=pure (ps.zip us)):Binds K fd ps []:=fun s us _ hl=>by
 rw[List.append_nil]at hl ⊢
 exact .of_eq (h us hl)
def Passes(CX:uZ)(X:Cx)(E:XK):Prop:=∀(pins:List (Addr×Obj)) (σ:St) (H:Hp) (s:Shared) (e:Value) (s':Shared),Inv X pins σ H s→CX X.stack H s E e s'→X.xe e s'
section
variable{X:Cx}{CX:uZ}{k:Nat}{f C:Addr}{fd:FuncData}{ps:List Str}{sp:Sp}{rB:List V}{ds:List Value}{E:XK}{x m:Str}{p pos apos:Pos}{e o:Expr}{es:List Expr}{ta:TE}{t:TA}
theorem Ef{pins:List (Addr×Obj)}{σ:St}{H:Hp}{s:Shared}{Q:VK}{us:List Value}{vs:List V}(F:bK X.prog X.w X.K X.mg X.base CX k f fd ps sp)(hr:fP k X.A)(hb:Binds X.K fd ps ds)(hd:Vals rB ds)(hx:Passes CX X E)
  (I:Inv X pins σ H s)(r:Vals vs us)(h:sp (vs++rB) H Q E):wpAny (model X.prog X.w) X.A (call (.ref f) us) (EP X pins σ Q) X.xe s:=by
 have r2:Vals (vs++rB) (us++ds):=r.append hd
 have hl:(us++ds).length=ps.length:=by rw[←r2.length];exact F.len _ _ _ _ h
 refine wpAny_call (codeAny_mono (F.run X.A X.stack s H ⟨us,[]⟩ (us++ds) (vs++rB) Q E hr I.TR (hb s us I.nL hl) r2 h) fun r s' hq=>?_)
 cases r with
 |error e=>exact hx pins σ H s e s' I hq
 |ok fl=>
  cases fl with
  |ret u=>exact I.after hq
  |next=>exact False.elim hq
  |brk=>exact False.elim hq
  |cont=>exact False.elim hq
theorem Hy(F:bK X.prog X.w X.K X.mg X.base CX k f fd ps sp)(hr:fP k X.A)(hg:Gl X x)(hm:X.mg x=some (.ref f))(hk:PySem.W.keepIn X.K (.ref f)=true)(hb:Binds X.K fd ps ds)(hd:Vals rB ds)(hx:Passes CX X E)
  (ha:PA X (e::es) t)(s_:(x==("__debug__":Str))=false:=by decide)(he:starEach (e::es) X.env=(false,eval e X.env)::starEach es X.env:=by rfl)(fA:(backTo pos (starEach es X.env)).any (·.1)=false:=by rfl):
  PE X (.Call (.Name x p) (e::es) [] pos) (CJ sp rB E t):=by
 intro pins s σ H Q I h
 refine wpAny_Call_Name_kw (Az I hg hm ?_ s_)
 refine PySem.W.callWith_K (h₀:=X.base) I.ok.mod.Au hk (bZ (ha pos pins s σ H _ I h) fun us s1 ⟨vs,H1,I1,r,q⟩=>⟨I1.nL,?_⟩) he fA
 exact Ef F hr hb hd hx I1 r q
end
section
variable{X:Cx}{CX:uZ}{k:Nat}{f C:Addr}{fd:FuncData}{ps ks:List Str}{sp:Sp}{E:XK}{x m:Str}{p pos apos agv:Pos}{e o:Expr}{es:List Expr}{kws:List Keyword}{te ta:TE}{t tk:TA}{nm:Option Str}
variable{g:List Value→List Value→List Value}{gV:List V→List V→List V}
end
structure aQ(N P:List Str)(sc:Scope):Prop where
 kind:sc.kind= .function
 co:sc.isCoroutine=false
 gen:sc.isGenerator=false
 nd:N.Nodup
 pre:N.take P.length=P
 par:∀x∈P,sc.names.lookup x=some .local∨sc.names.lookup x=some .cell
 LF:∀y∈sc.names,y.2≠.free
theorem vW{kindOf:Str→Option NameKind}{x:Str}:∀{binds:List (Str×Value)}{m:Str→Option Value},(∀v,(x,v)∉binds)→bindL kindOf binds m x=m x
 |[],_,_=>rfl
 |(n,v)::r,m,h=>by
  unfold bindL
  rw[vW fun w hw=>h w (List.mem_cons_of_mem _ hw)]
  split
  ·have:x≠n:=by rintro rfl;exact h v List.mem_cons_self
   simp[this]
  ·rfl
theorem vX{kindOf:Str→Option NameKind}{x:Str}:∀{binds:List (Str×Value)}{m:Str→Option Value},(∀v,(x,v)∉binds)→bindC kindOf binds m x=m x
 |[],_,_=>rfl
 |(n,v)::r,m,h=>by
  unfold bindC
  rw[vX fun w hw=>h w (List.mem_cons_of_mem _ hw)]
  split
  ·rfl
  ·have:x≠n:=by rintro rfl;exact h v List.mem_cons_self
   simp[this]
theorem vY{kindOf:Str→Option NameKind}{x:Str}{v:Value}:∀{P:List Str}{vs:List Value}{i:Nat}{m:Str→Option Value},P.Nodup→P[i]? =some x→vs[i]? =some v→kindOf x=some .local→
  bindL kindOf (P.zip vs) m x=some v
 |[],_,_,_,_,h,_,_=>by simp at h
 |_::_,[],_,_,_,_,h,_=>by simp at h
 |p::P,w::vs,0,m,nd,h1,h2,hk=>by
  simp at h1 h2;subst h1;subst h2
  show bindL kindOf ((p,w)::P.zip vs) m p=_
  unfold bindL
  rw[vW fun v hv=>(List.nodup_cons.mp nd).1 (List.of_mem_zip hv).1,if_pos hk]
  simp
 |p::P,w::vs,i+1,m,nd,h1,h2,hk=>by
  show bindL kindOf ((p,w)::P.zip vs) m x=_
  unfold bindL
  exact vY (i:=i) (List.nodup_cons.mp nd).2 (by simpa using h1) (by simpa using h2) hk
theorem vZ{kindOf:Str→Option NameKind}{x:Str}{v:Value}:∀{P:List Str}{vs:List Value}{i:Nat}{m:Str→Option Value},P.Nodup→P[i]? =some x→vs[i]? =some v→kindOf x≠some .local→
  bindC kindOf (P.zip vs) m x=some v
 |[],_,_,_,_,h,_,_=>by simp at h
 |_::_,[],_,_,_,_,h,_=>by simp at h
 |p::P,w::vs,0,m,nd,h1,h2,hk=>by
  simp at h1 h2;subst h1;subst h2
  show bindC kindOf ((p,w)::P.zip vs) m p=_
  unfold bindC
  rw[vX fun v hv=>(List.nodup_cons.mp nd).1 (List.of_mem_zip hv).1,if_neg hk]
  simp
 |p::P,w::vs,i+1,m,nd,h1,h2,hk=>by
  show bindC kindOf ((p,w)::P.zip vs) m x=_
  unfold bindC
  exact vZ (i:=i) (List.nodup_cons.mp nd).2 (by simpa using h1) (by simpa using h2) hk
def start(N:List Str)(vs:List V):St:=vs.map some++List.replicate (N.length - vs.length) none
def rC(CX:uZ)(P:Program)(w:World)(K:PySem.W.Frag)(mg:Str→Option Value)(base:Heap)(N:List Str)(qual:Str)(scope:Scope)(f:Addr)(cd:Value)(A:Around)(outer:List Env)(s:Shared)(H:Hp)(E:XK):Cx where
 prog:=P
 w:=w
 K:=K
 mg:=mg
 base:=base
 A:=A.deeper (envOfC qual scope s.heap.objs.size f cd)
 N:=N
 bJ:=s
 di:=H
 env:=envOfC qual scope s.heap.objs.size f cd
 outer:=outer
 stack:=envOfC qual scope s.heap.objs.size f cd::outer
 ex:=[]
 calm:=true
 fn:=fun _=>true
 pn:=[]
 xe:=fun e s'=>wpAny (model P w) (A.deeper (envOfC qual scope s.heap.objs.size f cd)) (leaving (envOfC qual scope s.heap.objs.size f cd) e) (fun _ Qn=>CX outer H s E e Qn) (fun e' Qn=>CX outer H s E e' Qn) s'
theorem xZ{sc:Scope}{n:Nat}{x:Str}(h:sc.names.lookup x=some .cell):∃c,(cellsFrom n sc.names []).lookup x=some c:=by
 have q:=PySem.W.cellsFrom_some sc.names n [] (.inl h)
 exact Option.isSome_iff_exists.mp q
theorem CK{CX:uZ}{P:Program}{w:World}{K:PySem.W.Frag}{mg:Str→Option Value}{base:Heap}{N ps:List Str}{qual:Str}{scope:Scope}{f:Addr}{cd:Value}{A:Around}{outer:List Env}{s s1:Shared}{H:Hp}{E:XK}{us:List Value}{vs:List V}
  (S:aQ N ps scope)(hd:A.handled=none)(e0:Ee P w K mg base A outer s H)(hl:vs.length=ps.length)(r:Vals vs us)
  (x:InCallC s s.heap.objs.size (bindL (envOfC qual scope s.heap.objs.size f cd).kindOf (ps.zip us) fun _=>none) (cellsFrom (s.heap.objs.size+1) scope.names []) (bindC (envOfC qual scope s.heap.objs.size f cd).kindOf (ps.zip us) fun _=>none) s1):
  Inv (rC CX P w K mg base N qual scope f cd A outer s H E) [] (start N vs) H s1:=by
 have fA:ps.length≤N.length:=by have:=congrArg List.length S.pre;rw[List.length_take]at this;omega
 obtain⟨h1,tk,rfl,hk⟩:=x.done
 have Hz:∀b:Addr,b∉(rC CX P w K mg base N qual scope f cd A outer s H E).ex:=fun b z=>absurd (show b∈([]:List Addr)from z) (by simp)
 refine⟨⟨e0.mod,S.kind,rfl,rfl,Nat.le_refl _,fun y z c h1 h2=>?_,fun y hy=>?_,fun y c _ h=>?_,fun _=>hd,Around.frames_deeper e0.frames,.inr ⟨rfl,rfl⟩,fun b z=>absurd z (Hz b),e0.bs,e0.Av,fun b _ _=>Hz b,fun b z=>absurd z (Hz b),e0.nP,e0.Fm⟩,
  rfl,e0.bare,Un.kept hk,⟨_,x.toInCall.ns,fun i y v h1 h2 h3=>?_⟩,fun y c h=>⟨_,x.cell y c h⟩,e0.bh.fresh (Nat.le_refl _),fun y c h=>?_,fun p hp=>absurd (show p∈([]:List (Addr×Obj))from hp) (by simp),e0.bh.kept hk,?_⟩
 ·exact name_of_addr x.apart (PySem.mem_of_lookup h1) (PySem.mem_of_lookup h2)
 ·have hy:scope.names.lookup y=some .cell∨scope.names.lookup y=some .free:=hy
  rcases hy with hy|hy
  ·exact xZ hy
  ·exact absurd rfl (S.LF _ (PySem.mem_of_lookup hy))
 ·exact Nat.le_of_lt (x.above y c (PySem.mem_of_lookup h))
 ·have hi:i<vs.length:=by
   unfold start at h2
   by_cases hi:i<vs.length
   ·exact hi
   ·rw[List.getElem?_append_right (by simpa using hi)]at h2
    rw[List.getElem?_replicate]at h2
    split at h2<;>cases h2
  have ha:vs[i]? =some v:=by
   unfold start at h2
   rw[List.getElem?_append_left (by simpa using hi),List.getElem?_map]at h2
   cases e:vs[i]? with
   |none=>rw[e]at h2;cases h2
   |some a=>rw[e]at h2;cases h2;rfl
  obtain⟨u,hu,rv⟩:=r.get ha
  have hp:ps[i]? =some y:=by
   rw[←S.pre,List.getElem?_take_of_lt (by omega)];exact h1
  have TU:ps.Nodup:=by rw[←S.pre];exact S.nd.sublist (List.take_sublist _ _)
  refine⟨u,rv,?_⟩
  rcases S.par y (List.mem_of_getElem? hp)with k|k
  ·exact .inl ⟨k,vY TU hp hu k⟩
  ·obtain⟨c,e⟩:=xZ (n:=s.heap.objs.size+1) k
   refine .inr ⟨.inl k,c,e,?_⟩
   have q:=x.cell y c e
   rw[vZ TU hp hu (by show scope.names.lookup y≠_;rw[k];decide)]at q
   exact q
 ·exact e0.bh.fresh (Nat.le_of_lt (x.above y c (PySem.mem_of_lookup h)))
 ·unfold start
  show _=N.length
  rw[List.length_append,List.length_map,List.length_replicate]
  omega
theorem HA{CX:uZ}{P:Program}{w:World}{K:PySem.W.Frag}{mg:Str→Option Value}{base:Heap}{k:Nat}{f:Addr}{name qual:Str}{params:Arguments}{body:List Stmt}{scope:Scope}{dV kV doc pm bL ct oc:Value}{an od:Option Addr}
  {nQ:Array (Option Value)}{N ps:List Str}{sp:Sp}(lk:K.lookup f=some ⟨oc,od,.func (PySem.W.fnOf name qual params body scope dV kV doc pm an bL ct),nQ⟩)(sX:PySem.W.codeIn K bL qual=true)(S:aQ N ps scope)
  (len:∀vs H Q E,sp vs H Q E→vs.length=ps.length)
  (mI:∀(A:Around) (outer:List Env) (s:Shared) (H:Hp) (vs:List V) (Q:VK) (E:XK),fP k (A.deeper (envOfC qual scope s.heap.objs.size f bL))→sp vs H Q E→
   ∃t,nM (rC CX P w K mg base N qual scope f bL A outer s H E) body t∧t { nx:=fun _ H'=>Q .bF H',rt:=Q } (start N vs) H):
  bK P w K mg base CX (k+1) f (PySem.W.fnOf name qual params body scope dV kV doc pm an bL ct) ps sp:=by
 refine⟨len,fun A outer s H args us vs Q E hr e0 hb r xE=>?_⟩
 have hl:=len _ _ _ _ xE
 have KX:K.In s.heap:=e0.mod.Au.keeps fun b o e=>(e0.bs b o e).1
 have lim:s.heap.NoLimit:=e0.mod.nolimit.keeps fun b o e=>(e0.bs b o e).1
 have Qo:∀y∈ps.zip us,scope.names.lookup y.1=some .local∨(scope.names.lookup y.1=some .cell∧((cellsFrom (s.heap.objs.size+1) scope.names []).lookup y.1).isSome=true):=by
  rintro⟨n,v⟩ hy
  rcases S.par n (List.of_mem_zip hy).1 with q|q
  ·exact .inl q
  ·exact .inr ⟨q,PySem.W.cellsFrom_some _ _ _ (.inl q)⟩
 refine codeAny_call_function hr.depth (KX _ _ lk) rfl S.co S.gen rfl (PySem.W.codeRec_of KX sX) (hb _ _ _ _ ?_)
 refine wpAny_newFunctionEnv_cells S.kind Qo fun env he s1 x=>?_
 subst he
 refine⟨lim.keeps x.toInCall.keep,codeAny_func ?_⟩
 obtain⟨t,ht,hq⟩:=mI A outer s H vs Q E (hr.deeper _) xE
 have I:Inv (rC CX P w K mg base N qual scope f bL A outer s H E) [] (start N vs) H s1:=CK S hr.hd e0 hl r x
 refine wpAny_mono (ht [] s1 (start N vs) H _ I hq) (fun fl s' hs=>?_) fun e s' hs=>hs
 have fin:∀{σ':St}{H':Hp}{v:V}{u:Value},Inv (rC CX P w K mg base N qual scope f bL A outer s H E) [] σ' H' s'→RelV v u→Q v H'→CE outer P w H s Q u s':=
  fun {σ' H' v u} J rv q=>⟨v,H',J.os,J.bare,J.base,J.bh,rv,q⟩
 cases fl with
 |ret u=>
  obtain⟨v,σ',H',J,rv,q⟩:=hs
  exact fin J rv q
 |next=>
  obtain⟨σ',H',J,q⟩:=hs
  exact fin (v:=V.bF) (u:=Value.none) J rfl q
 |brk=>
  obtain⟨_,_,_,q⟩:=hs
  exact False.elim q
 |cont=>
  obtain⟨_,_,_,q⟩:=hs
  exact False.elim q
end L2
namespace L2
open PySem PySem.Spec PyProof.Rows
section
variable{X:Cx}{x:Str}{p pos:Pos}{e:Expr}{es:List Expr}{t:TA}{id T:String}{r:List V→Hp→VK→Prop}
def Qp(r:List V→Hp→VK→Prop)(t:TA):TE:=fun σ H Q=>t σ H fun vs H1=>r vs H1 Q
theorem Fw(hc:gK X (.builtin id) r)(hg:Gl X x)(hm:X.mg x=none)(hv:bootBuiltins x=some (.builtin id))(ha:PA X (e::es) t)(hn:x≠"__name__":=by decide)(s_:(x==("__debug__":Str))=false:=by decide)
  (he:starEach (e::es) X.env=(false,eval e X.env)::starEach es X.env:=by rfl)(fA:(backTo pos (starEach es X.env)).any (·.1)=false:=by rfl):PE X (.Call (.Name x p) (e::es) [] pos) (Qp r t):=by
 intro pins s σ H Q I h
 refine wpAny_Call_Name_kw (i7 I hg hm hv ?_ hn s_)
 exact PyProof.Rows.callWith_builtin1 (bZ (ha pos pins s σ H _ I h) fun us s1 ⟨vs,H1,I1,r1,q1⟩=>hc pins s1 σ H1 vs us Q I1 r1 q1) he fA
theorem CL(hc:gK X (.type T) r)(hg:Gl X x)(hm:X.mg x=none)(hv:bootBuiltins x=some (.type T))(ha:PA X (e::es) t)(hn:x≠"__name__":=by decide)(s_:(x==("__debug__":Str))=false:=by decide)
  (he:starEach (e::es) X.env=(false,eval e X.env)::starEach es X.env:=by rfl)(fA:(backTo pos (starEach es X.env)).any (·.1)=false:=by rfl):PE X (.Call (.Name x p) (e::es) [] pos) (Qp r t):=by
 intro pins s σ H Q I h
 refine wpAny_Call_Name_kw (i7 I hg hm hv ?_ hn s_)
 exact PyProof.Rows.callWith_type1 (bZ (ha pos pins s σ H _ I h) fun us s1 ⟨vs,H1,I1,r1,q1⟩=>hc pins s1 σ H1 vs us Q I1 r1 q1) he fA
end
end L2
namespace HT
open PySem PyProof.Rows
section
open PySem.SeqAt
open PySem.AutoSeq1 (wpAny_loadPart')
open PySem.MeetsSeq PySem.MeetsSeq2 PySem.MeetsSeq3
end
section
variable{prog:Program}{w:World}{A:Around}{E:Value→Shared→Prop}{s:Shared}
theorem HB{t b:Addr}{vs ws:List Value}{Q:Value→Shared→Prop}(ht:IsTup s.heap t vs.toArray)(hb:IsTup s.heap b ws.toArray)(hv:vs≠[])
  (h1:ws=[]→Q (.ref t) s)(h2:ws≠[]→Q (.ref s.heap.objs.size) { s with heap:=s.heap.push { cls:=.type "tuple",data:=.seq (vs++ws).toArray } })
  (hsz:vs.length+ws.length≤sizeLine):wpAny (model prog w) A (binaryOp .Add (.ref t) (.ref b)) Q E s:=by
 obtain⟨⟨cls,dd,data,sl⟩,ho,hc,n,hd⟩:=id ht
 obtain⟨⟨agw,TV,data2,LG⟩,Fg,LH,n2,hd2⟩:=id hb
 simp only at hc hd LH hd2
 subst hc hd LH hd2
 have e:vs.toArray++ws.toArray=(vs++ws).toArray:=by simp
 by_cases hw:ws=[]
 ·exact concat_meets ⟨_,ho,rfl⟩ ⟨_,Fg,rfl⟩ noFill_tuple_add seq_tuple_add PySem.F.slot_tuple_add PySem.F.entry_tuple_add (PySem.F.args_tuple_add_2 _ _)
   (tuple_addW1 t b vs.toArray ws.toArray n n2 dd TV sl LG (by simpa using hv) (by simp[hw])) ⟨ho,Fg,h1 hw⟩
 ·refine concat_meets ⟨_,ho,rfl⟩ ⟨_,Fg,rfl⟩ noFill_tuple_add seq_tuple_add PySem.F.slot_tuple_add PySem.F.entry_tuple_add (PySem.F.args_tuple_add_2 _ _)
   (tuple_addW2 t b vs.toArray ws.toArray n n2 dd TV sl LG (by simpa using hv) (by simpa using hw) (by rw[List.size_toArray,List.size_toArray];exact hsz)) ⟨ho,Fg,?_⟩
  rw[e]
  exact h2 hw
def cL(n d:Nat):Option Int→Nat
 |none=>d
 |some v=>if v<0 then(v+(n:Int)).toNat else min v.toNat n
theorem LI(n d:Nat)(hd:d≤n)(o:Option Int):cL n d o≤n:=by
 cases o with
 |none=>exact hd
 |some v=>
  show(if v<0 then(v+(n:Int)).toNat else min v.toNat n)≤n
  by_cases hv:v<0
  ·rw[if_pos hv];omega
  ·rw[if_neg hv];exact Nat.min_le_right _ _
theorem AL(v:Int)(n d:Nat):(if v<0 then max (v+(n:Int)) 0 else min v (n:Int))=((cL n d (some v):Nat):Int):=by
 show(if v<0 then max (v+(n:Int)) 0 else min v (n:Int))=(((if v<0 then(v+(n:Int)).toNat else min v.toNat n):Nat):Int)
 by_cases hv:v<0
 ·simp only[if_pos hv];omega
 ·simp only[if_neg hv];omega
theorem AM(lo hi:Option Int)(n:Nat):Builtin.Slice.sliceAdjust lo hi 1 (n:Int)=(((cL n 0 lo:Nat):Int),((cL n n hi:Nat):Int)):=by
 have h1:¬((1:Int)<0):=by omega
 unfold Builtin.Slice.sliceAdjust
 simp only[h1,if_false]
 refine Prod.ext ?_ ?_
 ·cases lo with
  |none=>rfl
  |some v=>exact AL v n 0
 ·cases hi with
  |none=>rfl
  |some v=>exact AL v n n
theorem AN(i j:Nat):Builtin.Slice.slicePlaces (i:Int) (j:Int) 1=j - i:=by
 unfold Builtin.Slice.slicePlaces
 have h1:(1:Int) > 0:=by omega
 simp only[h1,if_true,Int.ediv_one]
 split<;>omega
theorem uz{v:Value}{o:Option Int}{Q:Option Int→Shared→Prop}(p:IsPart v o)(h:Q o s):wpAny (model prog w) A (Builtin.Slice.slicePartIndex v) Q E s:=by
 cases p with
 |none=>exact slicePart_none h
 |int i t=>exact slicePart_int h
theorem kH{sl:Addr}{vl vu:Value}{lo hi:Option Int}{n:Nat}{Q:Int×Int×Nat→Shared→Prop}(hs:s.heap.IsSliceOf sl vl vu .none)(pl:IsPart vl lo)(pu:IsPart vu hi)
  (h:Q (((cL n 0 lo:Nat):Int),1,cL n n hi - cL n 0 lo) s):wpAny (model prog w) A (Builtin.Slice.sliceApplied (.ref sl) (pure (n:Int))) Q E s:=by
 obtain⟨os,CM,LJ,HC⟩:=id hs
 unfold Builtin.Slice.sliceApplied Builtin.Slice.sliceFields
 refine wpAny_bind (wpAny_bind (wpAny_field CM HC (x:=vl) rfl (wpAny_bind (wpAny_field CM HC (x:=vu) rfl (wpAny_bind (wpAny_field CM HC (x:=.none) rfl (wpAny_pure ?_)))))))
 refine wpAny_bind (slicePart_none ?_)
 show wpAny _ _ (if ((1:Int)==0)=true then _ else _) _ _ s
 rw[if_neg (by decide)]
 refine wpAny_bind (uz pl (wpAny_bind (uz pu (wpAny_bind (wpAny_pure ?_)))))
 show wpAny _ _ (match Builtin.Slice.sliceAdjust lo hi 1 (n:Int)with|(lo,hi)=>pure (lo,(1:Int),Builtin.Slice.slicePlaces lo hi 1)) _ _ s
 rw[AM lo hi n]
 show wpAny _ _ (pure (((cL n 0 lo:Nat):Int),(1:Int),Builtin.Slice.slicePlaces ((cL n 0 lo:Nat):Int) ((cL n n hi:Nat):Int) 1)) _ _ s
 rw[AN]
 exact wpAny_pure h
theorem Fx(xs:Array Value)(i k:Nat):((List.range k).filterMap fun(m:Nat)=>xs[((i:Int)+(m:Int)*1).toNat]?).toArray=((xs.toList.drop i).take k).toArray:=by
 have e:(fun(m:Nat)=>xs[((i:Int)+(m:Int)*1).toNat]?)=fun m=>xs[i+m]? :=by
  funext m
  have:((i:Int)+(m:Int)*1).toNat=i+m:=by omega
  rw[this]
 rw[e]
 have:=pick_run xs i k
 rw[List.filterMap_map]at this
 have e2:((fun x=>xs[x]?) ∘ fun x=>i+x)=fun m=>xs[i+m]? :=rfl
 rw[e2]at this
 rw[this]
theorem qw{t sl:Addr}{items:Array Value}{vl vu:Value}{lo hi:Option Int}{Q:Value→Shared→Prop}(ht:IsTup s.heap t items)(hs:s.heap.IsSliceOf sl vl vu .none)(pl:IsPart vl lo)(pu:IsPart vu hi)
  (hw:¬(cL items.size 0 lo=0∧cL items.size items.size hi=items.size))
  (h:Q (.ref s.heap.objs.size) { s with heap:=s.heap.push { cls:=.type "tuple",data:=.seq ((items.toList.drop (cL items.size 0 lo)).take (cL items.size items.size hi - cL items.size 0 lo)).toArray } })
  (hsz:items.size≤sizeLine):wpAny (model prog w) A (getItem (.ref t) (.ref sl)) Q E s:=by
 have yV:sizeOk (.seq ((items.toList.drop (cL items.size 0 lo)).take (cL items.size items.size hi - cL items.size 0 lo)).toArray):=by
  show((items.toList.drop (cL items.size 0 lo)).take (cL items.size items.size hi - cL items.size 0 lo)).toArray.size≤sizeLine
  rw[List.size_toArray,List.length_take,List.length_drop,Array.length_toList]
  omega
 have hj:cL items.size items.size hi≤items.size:=LI _ _ (Nat.le_refl _) hi
 obtain⟨os,CM,LJ,HC⟩:=id hs
 have Qq:s.TypeIs (.ref sl) "slice":=⟨os,CM,LJ⟩
 unfold getItem
 try with_reducible refine wpAny_holding ?_
 first|refine wpAny_bind (wpAny_pure ?_)|skip
 refine wpAny_bind (wpAny_sequenceKey ht.typeIs (by decide) ?_)
 refine wpAny_bind (wpAny_callSpecial?_slot (name:=Str.ofString "__getitem__") ht.typeIs PyProof.Rows.slot_tuple_getitem
  (wpAny_call_entry PyProof.Rows.slot_tuple_getitem ht.typeIs entry_tuple_getitem ?_ (args_tuple_getitem _ _)))
 show wpAny _ _ (Builtin.Tuple.tupleItemsOf (.ref t) >>= _) _ _ s
 refine wpAny_bind (tupleItemsOf_ ht ?_)
 refine wpAny_bind (wpAny_typeOf Qq ?_)
 rw[if_pos (by decide)]
 refine wpAny_bind (kH hs pl pu ?_)
 have Fy:¬((((cL items.size 0 lo:Nat):Int)==0&&(1:Int)==1&&(cL items.size items.size hi - cL items.size 0 lo)==items.size)=true):=by
  intro q
  rw[Bool.and_eq_true,Bool.and_eq_true]at q
  have q1:((cL items.size 0 lo:Nat):Int)=0:=eq_of_beq q.1.1
  have q2:cL items.size items.size hi - cL items.size 0 lo=items.size:=eq_of_beq q.2
  exact hw ⟨by omega,by omega⟩
 show wpAny _ _ (if (((cL items.size 0 lo:Nat):Int)==0&&(1:Int)==1&&(cL items.size items.size hi - cL items.size 0 lo)==items.size)=true then _ else _) _ _ s
 rw[if_neg Fy,Fx]
 first
  |exact wpAny_bind (m:=Builtin.Tuple.tupleExact _) (wpAny_newObj_type (wpAny_pure ⟨_,rfl,wpAny_pure h⟩) yV)
  |exact wpAny_bind (m:=Builtin.Tuple.tupleExact _) (wpAny_newObj_type (wpAny_bind (wpAny_pure (wpAny_pure ⟨_,rfl,wpAny_pure h⟩))) yV)
  |exact wpAny_bind (wpAny_bind (m:=Builtin.Tuple.tupleExact _) (wpAny_newObj_type (wpAny_pure (wpAny_pure ⟨_,rfl,wpAny_pure h⟩)) yV))
  |exact wpAny_bind (wpAny_bind (m:=Builtin.Tuple.tupleExact _) (wpAny_newObj_type (wpAny_pure ⟨_,rfl,wpAny_pure h⟩) yV))
end
end HT
namespace L2
open PySem PySem.Spec PyProof.Rows
abbrev TO:=St→Hp→(Option Int→Hp→Prop)→Prop
namespace Zu
set_option allowUnsafeReducibility true in
@[scoped irreducible] def _root_.L2.PO(X:Cx)(e:Option Expr)(t:TO):Prop:=
 ∀(pins:List (Addr×Obj)) (s:Shared) (σ:St) (H:Hp) (Q:Option Int→Hp→Prop),Inv X pins σ H s→t σ H Q→
  wpAny (model X.prog X.w) X.A (evalPart e X.env) (fun u s'=>∃o H',Inv X pins σ H' s'∧IsPart u o∧Q o H') X.xe s
end Zu
def HD:TO:=fun _ H Q=>Q none H
def Qr(t:TE):TO:=fun σ H Q=>t σ H fun x H1=>∃i,x= .int i∧Q (some i) H1
section
variable{X:Cx}{e:Expr}{te:TE}{lo hi:Option Expr}{tl th:TO}{pos p2:Pos}
theorem HE:PO X none HD:=by
 intro pins s σ H Q I h
 rw[evalPart_none]
 exact wpAny_pure ⟨none,H,I,.none,h⟩
theorem HF(h:PE X e te):PO X (some e) (Qr te):=by
 intro pins s σ H Q I hw
 rw[evalPart_some]
 refine bZ (h pins s σ H _ I hw) fun u s1 ⟨x,H1,I1,r1,q1⟩=>?_
 obtain⟨i,rfl,q⟩:=q1
 obtain⟨t,rfl⟩:=r1
 exact⟨some i,H1,I1,.int i t,q⟩
def yW(X:Cx)(r:V→Option Int→Option Int→Hp→VK→Prop):Prop:=
 ∀(pins:List (Addr×Obj)) (s:Shared) (σ:St) (H:Hp) (x:V) (v vl vu:Value) (lo hi:Option Int) (sl:Addr) (Q:VK),Inv X pins σ H s→RelV x v→s.heap.IsSliceOf sl vl vu .none→IsPart vl lo→IsPart vu hi→r x lo hi H Q→
  ∃T id,typeLookup (.type T) "__getitem__" =pure (some (.builtin id))∧s.TypeIs v T∧wpAny (model X.prog X.w) X.A (getItem v (.ref sl)) (EP X pins σ Q) X.xe s
theorem yW.or{r r':V→Option Int→Option Int→Hp→VK→Prop}(h:yW X r)(h':yW X r'):yW X (fun x lo hi H Q=>r x lo hi H Q∨r' x lo hi H Q):=by
 intro pins s σ H x v vl vu lo hi sl Q I rx hs pl pu q
 rcases q with q|q
 ·exact h pins s σ H x v vl vu lo hi sl Q I rx hs pl pu q
 ·exact h' pins s σ H x v vl vu lo hi sl Q I rx hs pl pu q
def tSl(r:V→Option Int→Option Int→Hp→VK→Prop)(te:TE)(tl th:TO):TE:=fun σ H Q=>te σ H fun x H1=>tl σ H1 fun l H2=>th σ H2 fun u H3=>r x l u H3 Q
theorem Fz{r:V→Option Int→Option Int→Hp→VK→Prop}(hr:yW X r)(he:PE X e te)(hl:PO X lo tl)(hu:PO X hi th):PE X (.Subscript e (.Slice lo hi none p2) pos) (tSl r te tl th):=by
 intro pins s σ H Q I h
 refine Subscript_ (bZ (he pins s σ H _ I h) fun v s1 ⟨x,H1,I1,r1,q1⟩=>?_)
 refine wpAny_Slice (bZ (hl pins s1 σ H1 _ I1 q1) fun vl s2 ⟨l,H2,I2,pl,q2⟩=>bZ (hu pins s2 σ H2 _ I2 q2) fun vu s3 ⟨u,H3,I3,pu,q3⟩=>?_)
 rw[evalPart_none]
 refine wpAny_pure ?_
 have I4:Inv X pins σ H3 { s3 with heap:=s3.heap.push { cls:=.type "slice",data:=.fields #[vl,vu,.none] } }:=I3.kept (t':=s3.toks) fun b ob q=>Heap.get?_push_of_some _ q
 obtain⟨T,id,hT,ht,hg⟩:=hr pins { s3 with heap:=s3.heap.push { cls:=.type "slice",data:=.fields #[vl,vu,.none] } } σ H3 x v vl vu l u s3.heap.objs.size Q I4 r1 (Heap.IsSliceOf.new ..) pl pu q3
 show wpAny (model X.prog X.w) X.A (subscriptTail e (.Slice lo hi none p2) v (.ref s3.heap.objs.size)) (EP X pins σ Q) X.xe { s3 with heap:=s3.heap.push { cls:=.type "slice",data:=.fields #[vl,vu,.none] } }
 exact tail_any (ops:=[.ref s3.heap.objs.size,v]) ht hT hg (by with_unfolding_all rfl)
def nR(xs:List V)(lo hi:Option Int):List V:=(xs.drop (HT.cL xs.length 0 lo)).take (HT.cL xs.length xs.length hi - HT.cL xs.length 0 lo)
theorem rD(xs:List V)(lo hi:Option Int):(nR xs lo hi).length≤xs.length:=by
 unfold nR
 rw[List.length_take,List.length_drop]
 omega
def OB(K:PySem.W.Frag):V→Option Int→Option Int→Hp→VK→Prop:=fun x lo hi H Q=>∃a xs,x= .ref a∧dj K H a xs∧
 ¬(HT.cL xs.length 0 lo=0∧HT.cL xs.length xs.length hi=xs.length)∧∀p,H p=none→Q (.ref p) (upd H p (.tup (nR xs lo hi)))
theorem LK:yW X (OB X.K):=by
 intro pins s σ H x v vl vu lo hi sl Q I rx hs pl pu h
 obtain⟨a,xs,rfl,hx,hw,q⟩:=h
 cases rx
 obtain⟨its,r,ht,hz⟩:=I.tuple hx
 have hlen:its.toArray.size=xs.length:=by rw[List.size_toArray];exact r.length.symm
 refine⟨"tuple",_,PyProof.Rows.slot_tuple_getitem.lookup,ht.typeIs,?_⟩
 refine HT.qw ht hs pl pu (by rw[hlen];exact hw) ?_ (by rw[hlen];exact hz)
 rw[hlen]
 refine⟨.ref s.heap.objs.size,_,I.laid (t':=s.toks) (o:=.tup (nR xs lo hi)) (fun b ob q=>Heap.get?_push_of_some _ q) (Nat.le_refl _) ?_,rfl,q _ (I.bh.fresh (Nat.le_refl _))⟩
 exact⟨Nat.le_trans (rD xs lo hi) hz,_,(r.drop (HT.cL xs.length 0 lo)).take (HT.cL xs.length xs.length hi - HT.cL xs.length 0 lo),IsTup.new _ _⟩
def CN(K:PySem.W.Frag):R2:=fun x y H Q=>∃a b xs ys,x= .ref a∧y= .ref b∧dj K H a xs∧dj K H b ys∧xs≠[]∧xs.length+ys.length≤sizeLine∧
 (ys=[]→Q (.ref a) H)∧(ys≠[]→∀p,H p=none→Q (.ref p) (upd H p (.tup (xs++ys))))
theorem Vals.v7{xs:List V}{us:List Value}(r:Vals xs us):us=[]↔xs=[]:=by
 cases r with
 |nil=>simp
 |cons _ _=>simp
theorem HG:gJ X (binaryOp .Add) (CN X.K):=by
 intro pins s σ H x y v u Q I rx ry h
 obtain⟨a,b,xs,ys,rfl,rfl,ha,hb,hx,hz,q1,q2⟩:=h
 cases rx
 cases ry
 obtain⟨its,r1,p1,_⟩:=I.tuple ha
 obtain⟨lW,r2,p2,_⟩:=I.tuple hb
 refine HT.HB p1 p2 (fun z=>hx (r1.v7.mp z)) (fun z=>⟨.ref a,H,I,rfl,q1 (r2.v7.mp z)⟩) (fun z=>?_) (by rw[←r1.length,←r2.length];exact hz)
 refine⟨.ref s.heap.objs.size,_,I.laid (t':=s.toks) (o:=.tup (xs++ys)) (fun b ob q=>Heap.get?_push_of_some _ q) (Nat.le_refl _) ?_,rfl,q2 (fun w=>z (r2.v7.mpr w)) _ (I.bh.fresh (Nat.le_refl _))⟩
 exact⟨by rw[List.length_append];exact hz,_,r1.append r2,IsTup.new _ _⟩
end
end L2
namespace L2
open PySem PySem.Spec PyProof.Rows
def CP(n:Nat)(i:Int):Option Nat:=if 0≤i then(if i<n then some i.toNat else none)else if -(n:Int)≤i then some (i+n).toNat else none
def CQ{α:Type}(xs:List α)(i:Int):Option α:=(CP xs.length i).bind fun j=>xs[j]?
theorem AO{n:Nat}{i:Int}{j:Nat}(h:CP n i=some j):seqIndex? i n=some j∧j<n∧-(n:Int)≤i∧i<n:=by
 unfold CP at h
 by_cases h0: 0≤i
 ·rw[if_pos h0]at h
  by_cases h1:i<n
  ·rw[if_pos h1]at h
   have e:i.toNat=j:=Option.some.inj h
   exact⟨by rw[seqIndex_of h0 h1,e],by omega,by omega,h1⟩
  ·rw[if_neg h1]at h;cases h
 ·rw[if_neg h0]at h
  by_cases h1: -(n:Int)≤i
  ·rw[if_pos h1]at h
   have e:(i+n).toNat=j:=Option.some.inj h
   exact⟨by rw[seqIndex_neg (by omega) h1,e],by omega,h1,by omega⟩
  ·rw[if_neg h1]at h;cases h
theorem v8{α:Type}{xs:List α}{i:Int}{v:α}(h:CQ xs i=some v):∃j,seqIndex? i xs.length=some j∧xs[j]? =some v∧j<xs.length∧-(xs.length:Int)≤i∧i<xs.length:=by
 unfold CQ at h
 cases e:CP xs.length i with
 |none=>rw[e]at h;cases h
 |some j=>
  rw[e]at h
  obtain⟨h1,h2,h3,h4⟩:=AO e
  exact⟨j,h1,h,h2,h3,h4⟩
def rE(b:Expr):Prop:=∀o i,subscripted b false o i=operate [o,i] (getItem o i)
def xF(X:Cx)(r:R2):Prop:=
 ∀(value slice:Expr) (pins:List (Addr×Obj)) (s:Shared) (σ:St) (H:Hp) (x y:V) (v u:Value) (Q:VK),Inv X pins σ H s→RelV x v→RelV y u→r x y H Q→
  subscripted slice false v u=operate [v,u] (getItem v u)→wpAny (model X.prog X.w) X.A (subscriptTail value slice v u) (EP X pins σ Q) X.xe s
def TX(X:Cx)(id:String)(r:V→List V→Hp→VK→Prop):Prop:=
 ∀(pins:List (Addr×Obj)) (s:Shared) (σ:St) (H:Hp) (x:V) (xs:List V) (v:Value) (us:List Value) (Q:VK),Inv X pins σ H s→RelV x v→Vals xs us→r x xs H Q→
  wpAny (model X.prog X.w) X.A (call (.builtin id) (v::us)) (EP X pins σ Q) X.xe s
section
variable{X:Cx}{a b:Expr}{ta tb:TE}{pos:Pos}
theorem xF.or{r r':R2}(h:xF X r)(h':xF X r'):xF X (fun x y H Q=>r x y H Q∨r' x y H Q):=by
 intro value slice pins s σ H x y v u Q I rx ry q hs
 rcases q with q|q
 ·exact h value slice pins s σ H x y v u Q I rx ry q hs
 ·exact h' value slice pins s σ H x y v u Q I rx ry q hs
theorem Qs{r:R2}(hr:xF X r)(ha:PE X a ta)(hb:PE X b tb)(hs:rE b):PE X (.Subscript a b pos) (Ho r ta tb):=by
 intro pins s σ H Q I h
 exact Subscript_ (Hq ha hb I h fun v u s2 x y H2 I2 rx ry q=>hr a b pins s2 σ H2 x y v u Q I2 rx ry q (hs _ _))
def OC(K:PySem.W.Frag):R2:=fun x y H Q=>∃p xs i v,x= .ref p∧y= .int i∧cy K H p xs∧CQ xs i=some v∧Q v H
def OD(K:PySem.W.Frag):R2:=fun x y H Q=>∃p xs i v,x= .ref p∧y= .int i∧dj K H p xs∧CQ xs i=some v∧Q v H
def OE:R2:=fun x y H Q=>∃z i c,x= .str z∧y= .int i∧z.length≤sizeLine∧CQ z.cps.toList i=some c∧Q (.str ⟨#[c]⟩) H
theorem HH:xF X (OC X.K):=by
 intro value slice pins s σ H x y v u Q I rx ry h hs
 obtain⟨p,xs,i,z,rfl,rfl,hq,he,q⟩:=h
 cases rx
 obtain⟨t,rfl⟩:=ry
 obtain⟨its,r,pl,hz⟩:=I.list hq
 obtain⟨j,h1,h2,h3,h4,h5⟩:=v8 he
 obtain⟨w,ew,uY⟩:=r.get h2
 have hl:=r.length
 have hn:=rA
 have fin:EP X pins σ Q w s:=⟨z,H,I,uY,q⟩
 by_cases h0: 0≤i
 ·have hj:i.toNat=j:=by
   rw[seqIndex_of h0 h5]at h1
   exact Option.some.inj h1
  exact item_listR pl.isList h0 (by omega) (by rw[hj];simpa using ew) fin hs
 ·have hj:(i+(its.toArray.size:Int)).toNat=j:=by
   rw[seqIndex_neg (by omega) h4]at h1
   rw[List.size_toArray,←hl]
   exact Option.some.inj h1
  exact subscriptTail_builtinR (x:=w) pl.isList.typeIs slot_list_getitem.lookup
   (wpAny_getItem_list_neg (Q:=fun r s'=>r=w∧EP X pins σ Q r s') pl.isList (by omega) (by rw[List.size_toArray]<;>omega) (by omega) (by rw[hj];simpa using ew) ⟨rfl,fin⟩) hs
theorem LL:xF X (OD X.K):=by
 intro value slice pins s σ H x y v u Q I rx ry h hs
 obtain⟨p,xs,i,z,rfl,rfl,hq,he,q⟩:=h
 cases rx
 obtain⟨t,rfl⟩:=ry
 obtain⟨its,r,pl,hz⟩:=I.tuple hq
 obtain⟨j,h1,h2,h3,h4,h5⟩:=v8 he
 obtain⟨w,ew,uY⟩:=r.get h2
 have hl:=r.length
 have hn:=rA
 have fin:EP X pins σ Q w s:=⟨z,H,I,uY,q⟩
 exact subscriptTail_builtinR (x:=w) pl.typeIs slot_tuple_getitem.lookup
  (getItem_tuple (j:=j) (Q:=fun r s'=>r=w∧EP X pins σ Q r s') pl (by omega) (by omega) (by rw[List.size_toArray,←hl];exact h1) (by simpa using ew) ⟨rfl,fin⟩) hs
theorem LM:xF X OE:=by
 intro value slice pins s σ H x y v u Q I rx ry h hs
 obtain⟨z,i,c,rfl,rfl,hz,he,q⟩:=h
 obtain⟨t,rfl⟩:=rx
 obtain⟨t',rfl⟩:=ry
 obtain⟨j,h1,h2,h3,h4,h5⟩:=v8 he
 have hl:z.cps.toList.length=z.length:=by simp[Str.length]
 rw[hl]at h1 h4 h5
 have hn:=rA
 exact tail_any (typeIs_str s z t) slot_str_getitem.lookup (getItem_str (c:=c) (by
  have e1:decide (i< -(2 ^ 63:Int))=false:=decide_eq_false (by omega)
  have e2:decide (i≥2 ^ 63)=false:=decide_eq_false (by omega)
  rw[e1,e2,Bool.or_false]) (by rw[h1];simpa using h2) ⟨.str ⟨#[c]⟩,H,I.tok _,⟨_,rfl⟩,q⟩) hs
def TY(K:PySem.W.Frag):R2:=fun x y H Q=>OC K x y H Q∨OD K x y H Q∨OE x y H Q
theorem LN:xF X (TY X.K):=HH.or (LL.or LM)
theorem AR(its:List Value)(n j:Nat)(u:Value):Obj.mapSeq (·.setIfInBounds j u) { cls:=.type "list",data:=.seq its.toArray n } = { cls:=.type "list",data:=.seq (its.set j u).toArray n }:=by
 simp[Obj.mapSeq]
theorem Inv.lst{pins:List (Addr×Obj)}{σ:St}{H:Hp}{s:Shared}{p:Addr}{xs:List V}(I:Inv X pins σ H s)(h:H p=some (.lst xs)):
  ∃(its:List Value) (n:Nat),Vals xs its∧s.heap.get? p=some { cls:=.type "list",data:=.seq its.toArray n }∧xs.length≤sizeLine:=by
 obtain⟨z,its,n,r,e⟩:=I.bh p _ h
 exact⟨its,n,r,e,z⟩
theorem Inv.LO{pins:List (Addr×Obj)}{σ:St}{H:Hp}{s:Shared}{p:Addr}{xs ys:List V}{its its':List Value}{n n':Nat}{f:Obj→Obj}(I:Inv X pins σ H s)(h:H p=some (.lst xs))
  (ho:s.heap.get? p=some { cls:=.type "list",data:=.seq its.toArray n })(hf:f { cls:=.type "list",data:=.seq its.toArray n } = { cls:=.type "list",data:=.seq its'.toArray n' })(r:Vals ys its')(hz:ys.length≤sizeLine)(t:Nat):
  Inv X pins σ (upd H p (.lst ys)) { s with heap:=s.heap.update p f,toks:=t }:=by
 have e:(s.heap.update p f).get? p=some { cls:=.type "list",data:=.seq its'.toArray n' }:=by
  rw[Heap.get?_update_self f ho (by rw[hf]<;>rfl),hf]
 refine I.write (x:=p) (e:=p) (by rw[h];trivial) (.inl rfl) (fun b u hb q=>(Heap.get?_update_other _ _ (Ne.symm hb)).trans q) ⟨_,e⟩ ?_
 exact⟨hz,its',n',r,e⟩
def Qt:V→V→V→Hp→(Hp→Prop)→Prop:=fun o i v H Q=>∃p xs k j,o= .ref p∧i= .int k∧H p=some (.lst xs)∧CP xs.length k=some j∧Q (upd H p (.lst (xs.set j v)))
theorem set_list:Ov X Qt:=by
 intro pins s σ H o i v ov iv u Q I ro ri rv h
 obtain⟨p,xs,k,j,rfl,rfl,hp,hj,q⟩:=h
 cases ro
 obtain⟨t,rfl⟩:=ri
 obtain⟨its,n,r,ho,hz⟩:=I.lst hp
 obtain⟨h1,h2,h3,h4⟩:=AO hj
 have hl:=r.length
 have hn:=rA
 have I':Inv X pins σ (upd H p (.lst (xs.set j v))) { s with heap:=s.heap.update p (Obj.mapSeq (·.setIfInBounds j u)) }:=
  I.LO hp ho (AR its n j u) (r.set rv j) (by rw[List.length_set];exact hz) s.toks
 by_cases h0: 0≤k
 ·have hk:k.toNat=j:=by
   rw[seqIndex_of h0 h4]at h1
   exact Option.some.inj h1
  exact PySem.W.ki_setAt ho h0 (by omega) (by rw[List.size_toArray,←hl];exact h4) (by rw[hk];exact⟨_,I',q⟩)
 ·have hk:(k+(its.toArray.size:Int)).toNat=j:=by
   rw[seqIndex_neg (by omega) h3]at h1
   rw[List.size_toArray,←hl]
   exact Option.some.inj h1
  exact PySem.W.ki_setBack ho (by omega) (by rw[List.size_toArray,←hl];exact h3) (by omega) (by rw[hk];exact⟨_,I',q⟩)
theorem xG(lo hi:Option Int)(n:Nat):(sliceBounds lo hi none n).1=((HT.cL n 0 lo:Nat):Int)∧(sliceBounds lo hi none n).2.1=((HT.cL n n hi:Nat):Int)∧(sliceBounds lo hi none n).2.2=1:=by
 refine⟨?_,?_,rfl⟩
 ·cases lo with
  |none=>simp[sliceBounds,HT.cL]
  |some i=>
   simp only[sliceBounds,HT.cL,Option.getD_none,show(1:Int) > 0 by decide,if_true]
   by_cases h:i<0
   ·simp only[h,if_true]<;>omega
   ·simp only[h,if_false]<;>omega
 ·cases hi with
  |none=>simp[sliceBounds,HT.cL]
  |some i=>
   simp only[sliceBounds,HT.cL,Option.getD_none,show(1:Int) > 0 by decide,if_true]
   by_cases h:i<0
   ·simp only[h,if_true]<;>omega
   ·simp only[h,if_false]<;>omega
theorem v9(its:List Value)(lo hi:Option Int):slicePick its.toArray lo hi none=((its.drop (HT.cL its.length 0 lo)).take (HT.cL its.length its.length hi - HT.cL its.length 0 lo)).toArray:=by
 obtain⟨h1,h2,h3⟩:=xG lo hi its.toArray.size
 unfold slicePick
 rw[h1,h2,h3]
 simp only[sliceRange_one,pick_run,List.size_toArray]<;>rfl
def OF(K:PySem.W.Frag):V→Option Int→Option Int→Hp→VK→Prop:=fun x lo hi H Q=>∃a xs,x= .ref a∧cy K H a xs∧∀p,H p=none→Q (.ref p) (upd H p (.lst (nR xs lo hi)))
theorem HI:yW X (OF X.K):=by
 intro pins s σ H x v vl vu lo hi sl Q I rx hs pl pu h
 obtain⟨a,xs,rfl,hx,q⟩:=h
 cases rx
 obtain⟨its,r,ht,hz⟩:=I.list hx
 have hlen:=r.length
 refine⟨"list",_,slot_list_getitem.lookup,ht.isList.typeIs,?_⟩
 refine wpAny_getItem_list_slice ht.isList hs pl pu .none (by simp) ?_ (by rw[List.size_toArray]<;>omega)
 rw[v9,←hlen]
 refine⟨.ref s.heap.objs.size,_,I.laid (t':=s.toks) (o:=.lst (nR xs lo hi)) (fun b ob q=>Heap.get?_push_of_some _ q) (Nat.le_refl _) ?_,rfl,q _ (I.bh.fresh (Nat.le_refl _))⟩
 exact⟨Nat.le_trans (rD xs lo hi) hz,_,0,(r.drop (HT.cL xs.length 0 lo)).take (HT.cL xs.length xs.length hi - HT.cL xs.length 0 lo),Heap.get?_push_size _ rfl⟩
theorem bS:gK X (.builtin "len") (fun xs H Q=>∃p ys,xs=[.ref p]∧(cy X.K H p ys∨dj X.K H p ys)∧Q (.int ys.length) H):=by
 intro pins s σ H xs us Q I r h
 obtain⟨p,ys,rfl,hq,q⟩:=h
 obtain⟨u,rfl,rx⟩:=vals1 r
 cases rx
 have hn:=rA
 rcases hq with hq|hq
 ·obtain⟨its,r',pl,hz⟩:=I.list hq
  have hlen:=r'.length
  exact Calls.call_len_list pl.isList (by simp only[List.size_toArray]<;>omega) ⟨.int ys.length,H,I.tok _,⟨s.toks+1,by rw[List.size_toArray,hlen]⟩,q⟩
 ·obtain⟨its,r',pl,hz⟩:=I.tuple hq
  have hlen:=r'.length
  exact len_tuple pl (by simp only[List.size_toArray]<;>omega) ⟨.int ys.length,H,I.tok _,⟨s.toks+1,by rw[List.size_toArray,hlen]⟩,q⟩
theorem qe:gK X (.type "list") (fun xs H Q=>∃p ys,xs=[.ref p]∧(cy X.K H p ys∨dj X.K H p ys)∧∀l,H l=none→Q (.ref l) (upd H l (.lst ys))):=by
 intro pins s σ H xs us Q I r h
 obtain⟨p,ys,rfl,hq,q⟩:=h
 obtain⟨u,rfl,rx⟩:=vals1 r
 cases rx
 have fin:∀(its:List Value),Vals ys its→ys.length≤sizeLine→∀(h':Heap) (c':Nat),(∀b o',s.heap.get? b=some o'→h'.get? b=some o')→
   h'.get? s.heap.objs.size=some { cls:=.type "list",dict:=none,data:=.seq its.toArray c',slots:=#[] }→EP X pins σ Q (.ref s.heap.objs.size) { s with heap:=h' }:=fun its r' hz h' c' kp e=>
  ⟨.ref s.heap.objs.size,_,I.laid (t':=s.toks) kp (Nat.le_refl _) (show bV X.prog X.w _ h' _ (.lst ys)from⟨hz,its,c',r',e⟩),rfl,q _ (I.bh.fresh (Nat.le_refl _))⟩
 rcases hq with hq|hq
 ·obtain⟨its,r',pl,hz⟩:=I.list hq
  have hlen:=r'.length
  obtain⟨o,ho,hc,n,hd⟩:=pl.isList
  exact call_list_seq p (.inl rfl) ho hc hd (fun h' c' kp e=>fin its r' hz h' c' kp e) (by simp only[List.size_toArray]<;>omega)
 ·obtain⟨its,r',pl,hz⟩:=I.tuple hq
  have hlen:=r'.length
  obtain⟨o,ho,hc,n,hd⟩:=pl
  exact call_list_seq p (.inr rfl) ho hc hd (fun h' c' kp e=>fin its r' hz h' c' kp e) (by simp only[List.size_toArray]<;>omega)
def LP(K:PySem.W.Frag)(T:String)(x:V)(H:Hp):Prop:=match x with
 |.str _=>T= "str"
 |.int _=>T= "int"
 |.ref p=>(T= "list"∧∃xs,cy K H p xs)∨(T= "tuple"∧∃o,K.lookup p=some o∧o.cls= .type "tuple"∧o.dict=none)∨
   (T= "dict"∧((∃aC,H p=some (.dK aC))∨∃aC,H p=some (.dT aC)))∨(T= "set"∧∃S n,H p=some (.set S n))
 |_=>False
theorem Eg{pins:List (Addr×Obj)}{σ:St}{H:Hp}{s:Shared}{T:String}{x:V}{v:Value}(I:Inv X pins σ H s)(r:RelV x v)(ty:LP X.K T x H):
  s.TypeIs v T∧∀a,v= .ref a→∃ob,s.heap.get? a=some ob∧ob.dict=none:=by
 cases x with
 |str z=>
  obtain⟨t,rfl⟩:=r
  cases (show T= "str" from ty)
  exact⟨typeIs_str s z t,fun _ e=>nomatch e⟩
 |int i=>
  obtain⟨t,rfl⟩:=r
  cases (show T= "int" from ty)
  exact⟨typeIs_int s i t,fun _ e=>nomatch e⟩
 |ref p=>
  cases r
  rcases ty with⟨rfl,xs,hq⟩|⟨rfl,o,hk,hc,hd⟩|⟨rfl,hk⟩|⟨rfl,S,n,hk⟩
  ·obtain⟨its,_,pl,_⟩:=I.list hq
   refine⟨pl.isList.typeIs,fun a e=>?_⟩
   cases e
   obtain⟨o,n,e,c,hd,_⟩:=pl
   exact⟨o,e,hd⟩
  ·refine⟨⟨o,I.nL p o hk,hc⟩,fun a e=>?_⟩
   cases e
   exact⟨o,I.nL _ o hk,hd⟩
  ·have z:∃o,s.heap.get? p=some o∧o.ExactDict:=by
    rcases hk with⟨aC,hk⟩|⟨aC,hk⟩
    ·obtain⟨_,_,_,_,o,_,_,e,ex,_⟩:=I.bh p _ hk
     exact⟨o,e,ex⟩
    ·obtain⟨_,_,_,_,o,_,_,e,ex,_⟩:=I.bh p _ hk
     exact⟨o,e,ex⟩
   obtain⟨o,e,ex⟩:=z
   refine⟨⟨o,e,ex.1⟩,fun a e2=>?_⟩
   cases e2
   exact⟨o,e,ex.2.1⟩
  ·obtain⟨o,_,_,_,e,ex,_⟩:=I.bh p _ hk
   refine⟨⟨o,e,ex.1⟩,fun a e2=>?_⟩
   cases e2
   exact⟨o,e,ex.2.1⟩
 |_=>exact False.elim ty
def TZ(K:PySem.W.Frag)(T:String)(r:V→List V→Hp→VK→Prop)(to:TE):TE:=fun σ H Q=>to σ H fun x H1=>LP K T x H1∧r x [] H1 Q
def tBM(K:PySem.W.Frag)(T:String)(r:V→List V→Hp→VK→Prop)(to:TE)(t:TA):TE:=fun σ H Q=>to σ H fun x H1=>LP K T x H1∧t σ H1 fun xs H2=>r x xs H2 Q
variable{o e:Expr}{es:List Expr}{to:TE}{t:TA}{name:Str}{apos bP:Pos}{T id:String}{r:V→List V→Hp→VK→Prop}
theorem LQ(pa:PlainAttrs T)(slot:Slot T name id)(CS:typeOf (.builtin id)=pure (.type "method_descriptor"))(hm:TX X id r)(ho:PE X o to)
  (iS:attributeBase o name X.env (eval o X.env)=eval o X.env:=by rfl)(iT:(apos.endLine==bP.line)=true:=by rfl):PE X (.Call (.Attribute o name apos) [] [] bP) (TZ X.K T r to):=by
 intro pins s σ H Q I h
 refine wpAny_Call_method0_late iS iT (bZ (ho pins s σ H _ I h) fun v s1 ⟨x,H1,I1,r1,ty,q1⟩=>?_)
 obtain⟨h1,h2⟩:=Eg I1 r1 ty
 exact⟨T,id,pa,slot,CS,h1,h2,Calls.callWith_builtin rfl (PySem.evalArgs_none (hm pins s1 σ H1 x [] v [] Q I1 r1 .nil q1))⟩
theorem Qu(pa:PlainAttrs T)(slot:Slot T name id)(CS:typeOf (.builtin id)=pure (.type "method_descriptor"))(hm:TX X id r)(ho:PE X o to)(ha:PA X (e::es) t)
  (iS:attributeBase o name X.env (eval o X.env)=eval o X.env:=by rfl)
  (rF:((backTo bP (starEach (e::es) X.env)).all (fun x=>!x.1)&&(backToKw bP (keywordEach [] X.env)).all (fun x=>x.1.isSome)
   &&decide ((e::es).length+([]:List Keyword).length+(if ([]:List Keyword).isEmpty then 0 else 1)<30))=true:=by rfl)
  (iT:(apos.endLine==bP.line)=true:=by rfl)(hs:starEach (e::es) X.env=(false,eval e X.env)::starEach es X.env:=by rfl)(yX:(backTo bP (starEach es X.env)).any (·.1)=false:=by rfl):
  PE X (.Call (.Attribute o name apos) (e::es) [] bP) (tBM X.K T r to t):=by
 intro pins s σ H Q I h
 refine wpAny_Call_method_late iS rF iT rfl (bZ (ho pins s σ H _ I h) fun v s1 ⟨x,H1,I1,r1,ty,q1⟩=>?_)
 obtain⟨h1,h2⟩:=Eg I1 r1 ty
 refine⟨T,id,pa,slot,CS,h1,h2,?_⟩
 have hA:=ha bP pins s1 σ H1 _ I1 q1
 rw[hs]at hA ⊢
 refine Calls.callWith_builtin (by show(false||(backTo bP (starEach es X.env)).any (·.1))=false;rw[yX]<;>rfl) (Calls.evalArgs_plain ?_)
 exact bZ hA fun us s2 ⟨vs,H2,I2,r2,q2⟩=>hm pins s2 σ H2 x vs v us Q I2 r1 r2 q2
end
end L2
namespace L2
open PySem PySem.Spec PyProof.Rows
def CT(X:Cx)(id:String)(r:V→List V→Hp→VK→Prop):Prop:=
 ∀(pins:List (Addr×Obj)) (s:Shared) (σ:St) (H:Hp) (x:V) (xs:List V) (v:Value) (us:List Value) (Q:VK),Inv X pins σ H s→RelV x v→Vals xs us→r x xs H Q→
  wpAny (model X.prog X.w) X.A (call (.builtin id) (v::us)) (EP X pins σ Q) X.xe s
theorem Vals.one:∀{x:V}{us:List Value},Vals [x] us→∃u,us=[u]∧RelV x u
 |_,_,.cons r .nil=>⟨_,rfl,r⟩
theorem Vals.two:∀{x y:V}{us:List Value},Vals [x,y] us→∃u v,us=[u,v]∧RelV x u∧RelV y v
 |_,_,_,.cons r (.cons q .nil)=>⟨_,_,rfl,r,q⟩
theorem Vals.zero:∀{us:List Value},Vals [] us→us=[]
 |_,.nil=>rfl
theorem Vals.dropLast{xs:List V}{us:List Value}(h:Vals xs us):Vals xs.dropLast us.dropLast:=by
 induction h with
 |nil=>exact .nil
 |cons r t ih=>
  cases t with
  |nil=>exact .nil
  |cons q t'=>exact .cons r ih
theorem Vals.eraseIdx:∀{xs:List V}{us:List Value} (i:Nat),Vals xs us→Vals (xs.eraseIdx i) (us.eraseIdx i)
 |_,_,_,.nil=>.nil
 |_,_,0,.cons _ t=>t
 |_,_,i+1,.cons r t=>.cons r (Vals.eraseIdx i t)
theorem AS{α:Type}(l:List α):l.eraseIdx (l.length - 1)=l.dropLast:=by
 induction l with
 |nil=>rfl
 |cons a r ih=>
  cases r with
  |nil=>rfl
  |cons b r=>
   have e:(a::b::r).length - 1=((b::r).length - 1)+1:=by
    have h1:(a::b::r).length=r.length+2:=rfl
    have h2:(b::r).length=r.length+1:=rfl
    omega
   rw[e,List.eraseIdx_cons_succ,ih]
   all_goals rfl
section
variable{X:Cx}{pins:List (Addr×Obj)}{σ:St}{H:Hp}{s:Shared}{l b:Addr}{xs ys zs:List V}
theorem Inv.AU{its its':List Value}{n:Nat}{f:Array Value→Array Value}{t':Nat}(I:Inv X pins σ H s)(hH:H l=some (.lst xs))
  (e:s.heap.get? l=some { cls:=.type "list",data:=.seq its.toArray n })(hf:f its.toArray=its'.toArray)(hv:Vals ys its')(hz:ys.length≤sizeLine):
  Inv X pins σ (upd H l (.lst ys)) { s with heap:=s.heap.update l (Obj.mapSeq f),toks:=t' }:=by
 have q:=PySem.IsL.update e f
 rw[hf]at q
 refine I.write (x:=l) (e:=l) (by rw[hH];exact trivial) (.inl rfl) (fun b' u hb hu=>(Heap.get?_update_other s.heap (Obj.mapSeq f) (Ne.symm hb)).trans hu) ⟨_,q⟩ ?_
 exact⟨hz,its',_,hv,q⟩
theorem Inv.OG{its:List Value}{t':Nat}(I:Inv X pins σ H s)(hv:Vals ys its)(hz:ys.length≤sizeLine):
  Inv X pins σ (upd H s.heap.objs.size (.lst ys)) { s with heap:=s.heap.push { cls:=.type "list",data:=.seq its.toArray },toks:=t' }:=
 I.laid (fun _ _ q=>Heap.get?_push_of_some _ q) (Nat.le_refl _) ⟨hz,its,0,hv,Heap.get?_push_size _ rfl⟩
theorem Inv.fresh(I:Inv X pins σ H s):H s.heap.objs.size=none:=I.bh.fresh (Nat.le_refl _)
theorem Inv.uA(I:Inv X pins σ H s)(hH:H l=some (.lst xs)):xs.length≤sizeLine∧∃(its:List Value) (n:Nat),Vals xs its∧xs.length=its.length∧s.heap.get? l=some { cls:=.type "list",data:=.seq its.toArray n }:=by
 obtain⟨z,its,n,r,e⟩:=I.bh l _ hH
 exact⟨z,its,n,r,r.length,e⟩
theorem x4{n:Nat}(h:n≤sizeLine):Builtin.List.listTooLong n=false:=by
 unfold Builtin.List.listTooLong
 exact decide_eq_false (by omega)
end
section
variable{X:Cx}
def AV:V→List V→Hp→VK→Prop:=fun x vs H Q=>∃l xs y,x= .ref l∧vs=[y]∧H l=some (.lst xs)∧xs.length<sizeLine∧Q .bF (upd H l (.lst (xs++[y])))
theorem eA:CT X "list.append" AV:=by
 intro pins s σ H x vs v us Q I rx rv h
 obtain⟨l,xs,y,rfl,rfl,hH,hz,q⟩:=h
 cases rx
 obtain⟨u,rfl,ru⟩:=rv.one
 obtain⟨z,its,n,r,hl,e⟩:=I.uA hH
 refine call_meets F.slot_list_append ⟨_,e,rfl⟩ F.entry_list_append (F.args_list_append_2 _ _) (PySem.list_append l its.toArray n u (by rw[List.size_toArray];omega)) ⟨e,?_⟩
 refine⟨.bF,_,I.AU (its':=its++[u]) hH e (by simp) (r.append (.cons ru .nil)) ?_,rfl,q⟩
 rw[List.length_append,List.length_singleton]
 omega
def AW:V→List V→Hp→VK→Prop:=fun x vs H Q=>∃l b xs zs,x= .ref l∧vs=[.ref b]∧H l=some (.lst xs)∧H b=some (.lst zs)∧xs.length+zs.length≤sizeLine∧Q .bF (upd H l (.lst (xs++zs)))
theorem v_:CT X "list.extend" AW:=by
 intro pins s σ H x vs v us Q I rx rv h
 obtain⟨l,b,xs,zs,rfl,rfl,hH,hB,hz,q⟩:=h
 cases rx
 obtain⟨u,rfl,ru⟩:=rv.one
 cases ru
 obtain⟨z,its,n,r,hl,e⟩:=I.uA hH
 obtain⟨z2,lW,n2,r2,u9,e2⟩:=I.uA hB
 have hsz:its.toArray.size+lW.toArray.size≤sizeLine:=by rw[List.size_toArray,List.size_toArray];omega
 have CU:¬(!its.toArray.isEmpty&&Builtin.List.listTooLong (its.toArray.size+lW.toArray.size))=true:=by
  rw[x4 hsz,Bool.and_false]
  exact Bool.false_ne_true
 refine call_meets F.slot_list_extend ⟨_,e,rfl⟩ F.entry_list_extend (F.args_list_extend_2 _ _)
  (AutoSeq1.list_extend_list_list_0 l its.toArray n b lW.toArray n2 CU (by rw[List.size_toArray];omega) (by omega)) ⟨e,e2,?_⟩
 refine⟨.bF,_,I.AU (its':=its++lW) hH e (by simp) (r.append r2) ?_,rfl,q⟩
 rw[List.length_append]
 omega
def T1:V→List V→Hp→VK→Prop:=fun x vs H Q=>∃l xs y,x= .ref l∧vs=[]∧H l=some (.lst xs)∧xs[xs.length - 1]? =some y∧Q y (upd H l (.lst xs.dropLast))
theorem acx:CT X "list.pop" T1:=by
 intro pins s σ H x vs v us Q I rx rv h
 obtain⟨l,xs,y,rfl,rfl,hH,hy,q⟩:=h
 cases rx
 have HJ:=rv.zero
 subst HJ
 obtain⟨z,its,n,r,hl,e⟩:=I.uA hH
 obtain⟨u,hu,ru⟩:=r.get hy
 have kA:its.toArray[its.toArray.size - 1]? =some u:=by
  show its.toArray[its.length - 1]? =some u
  rw[←Array.getElem?_toList,←hl]
  exact hu
 refine call_meets F.slot_list_pop ⟨_,e,rfl⟩ F.entry_list_pop (F.args_list_pop_1 _) (MeetsSeq.list_pop_last l its.toArray n u kA (by rw[List.size_toArray];omega)) ⟨e,?_⟩
 refine⟨y,_,I.AU (its':=its.dropLast) hH e ?_ r.dropLast ?_,ru,q⟩
 ·show its.toArray.eraseIdxIfInBounds (its.toArray.size - 1)=its.dropLast.toArray
  rw[List.size_toArray,List.eraseIdxIfInBounds_toArray,AS]
 ·rw[List.length_dropLast]
  omega
def Eh:V→List V→Hp→VK→Prop:=fun x vs H Q=>∃l xs,x= .ref l∧vs=[]∧H l=some (.lst xs)∧Q .bF (upd H l (.lst []))
theorem FA:CT X "list.clear" Eh:=by
 intro pins s σ H x vs v us Q I rx rv h
 obtain⟨l,xs,rfl,rfl,hH,q⟩:=h
 cases rx
 have HJ:=rv.zero
 subst HJ
 obtain⟨z,its,n,r,hl,e⟩:=I.uA hH
 refine call_meets F.slot_list_clear ⟨_,e,rfl⟩ F.entry_list_clear (F.args_list_clear_1 _) (AutoSeq1.list_clear_list_0 l its.toArray n (by rw[List.size_toArray];omega)) ⟨e,?_⟩
 exact⟨.bF,_,I.AU (its':=[]) (ys:=[]) hH e rfl .nil (Nat.zero_le _),rfl,q⟩
def HK:R2:=fun x y H Q=>∃l b xs zs,x= .ref l∧y= .ref b∧H l=some (.lst xs)∧H b=some (.lst zs)∧xs.length+zs.length≤sizeLine∧∀p,H p=none→Q (.ref p) (upd H p (.lst (xs++zs)))
theorem LR:gJ X (binaryOp .Add) HK:=by
 intro pins s σ H x y v u Q I rx ry h
 obtain⟨l,b,xs,zs,rfl,rfl,hH,hB,hz,q⟩:=h
 cases rx
 cases ry
 obtain⟨z,its,n,r,hl,e⟩:=I.uA hH
 obtain⟨z2,lW,n2,r2,u9,e2⟩:=I.uA hB
 refine PySem.P.add_list e e2 ?_ (by rw[List.size_toArray,List.size_toArray];omega)
 have ea:its.toArray++lW.toArray=(its++lW).toArray:=by simp
 rw[ea]
 exact⟨.ref _,_,I.OG (t':=s.toks) (r.append r2) (by rw[List.length_append];omega),rfl,q _ I.fresh⟩
end
section
variable{prog:Program}{w:World}{A:Around}{E:Value→Shared→Prop}{s:Shared}
end
section
variable{X:Cx}
end
end L2
namespace T2
open PySem PySem.W PySem.Calls PyProof.Rows
theorem tf{P:Params}{h:Heap}:∀(ns:List Int) (vs:List Value),WellAll P h vs (ns.map WData.int)→IntsAre vs ns:=by
 intro ns
 induction ns with
 |nil=>
  intro vs w
  rw[List.map_nil]at w
  cases w
  exact .nil
 |cons n ns ih=>
  intro vs w
  rw[List.map_cons]at w
  cases w with
  |cons a b=>
   cases a
   exact .cons _ _ (ih _ b)
theorem CV{l:OpenLaw}{n:Nat}(hn:l.most=some n){P:Params}{h:Heap}{args:List WData}{vals:List Value}
  (Ei:l.row.toRowW.claim.pre args=true)(Qv:WellAll P h vals args):
  ∃a vs ns,vals=[Value.ref a]∧args=[WData.list (ns.map WData.int)]∧h.get? a=some { cls:=.type "list",data:=.seq vs.toArray }∧IntsAre vs ns∧ns.length≤n:=by
 have hsh:WShape.hasAll [] args [.list .int]=true:=(pre_splitW Ei).1
 have hc:l.pre.holds [] { args:=args } =true:=(pre_splitW Ei).2
 obtain⟨d,r,rfl,h1,h2⟩:=hasAllW_cons hsh
 obtain rfl:=hasAllW_nil h2
 obtain⟨xs,rfl,h3⟩:=hasW_list h1
 obtain⟨ns,rfl⟩:=items_int h3
 have hlen:ns.length≤n:=by
  unfold OpenLaw.pre at hc
  have h4:(WTm.not (.lt (.lit (.int (n:Int))) (.len (.arg 0)))).holds [] { args:=[.list (ns.map .int)] } =true:=by
   have h4:=(holds_andW hc).1
   rw[hn]at h4
   exact h4
  have h5:=condW_of h4 (w_not (w_lt w_lit (w_len_list (w_arg rfl))))
  rw[List.length_map]at h5
  refine Nat.le_of_not_lt fun q=>?_
  have q':(n:Int)<((ns.length:Nat):Int):=by omega
  first
   |(rw[decide_eq_true q']at h5;exact absurd h5 (by decide))
   |(simp at h5;omega)
 cases Qv with
 |cons w1 w2=>
  cases w2
  cases w1 with
  |list ho qb=>exact⟨_,_,ns,rfl,rfl,ho,tf ns _ qb,hlen⟩
theorem CW(l:OpenLaw)(args:List WData):l.row.toRowW.claim.post args (.bool true) args=true:=
 postW_of (r:=l.row.toRowW) (X:=(true==true))
  (show WShape.has [] (.bool true) .bool=true by first|rfl|decide|simp[WShape.has,WShape.arms,WShape.armsAll])
  (show(WTm.eq .res (.lit (.bool true))).value [] { args:=args,res:=some (.bool true),after:=args } =some (.bool (true==true))from w_eq_bool (w_res rfl) w_lit) rfl
theorem yY{l:OpenLaw}{n:Nat}{q:Program}{loose:List Str}{XP:(Str→Option Value)→Heap→Prop}{YP:World→Heap→Prop}{d:DefRec}
  (hn:l.most=some n)(HL:d.params.defaults=[])
  (call:∀(w:World) (bJ bO:Shared) (mg mb:Str→Option Value) (fa:Addr) (o:Obj) (pm cd doc:Value) (a:Addr) (vs:List Value) (ns:List Int),
   Ground q loose [] XP w bJ mg mb bO.heap→YP w bO.heap→
   bO.heap.get? fa=some o→o.data= .func (docDef d.name d.params d.body d.scope pm cd doc)→bO.heap.CodeRec cd d.name→mg d.name=some (.ref fa)→
   bO.heap.get? a=some { cls:=.type "list",data:=.seq vs.toArray }→IntsAre vs ns→ns.length≤n→bO.gens= #[]→
   codeAny (model l.prog w) callerA (.call (.ref fa) ⟨[.ref a],[]⟩) (fun r s'=>r= .ok (.ret (.bool true))∧OldK bO.heap s'.heap∧s'.os=bO.os∧AllBare s'.gens) bO):
  WalkO q loose XP YP l.row.toRowW d [] (fun f vs=>PySem.call f vs):=by
 intro w bJ bO mg mb G Y fa o pm cd doc dV kV ho hd sX hD HM hg args vals as Ei agx hrd Qv hlo
 obtain rfl:dV= .none:=Dflts.none hD HL
 obtain rfl:kV= .none:=Dflts.noKw hD
 obtain⟨a,vs,ns,rfl,rfl,HN,hints,hlen⟩:=CV hn Ei Qv
 refine enter_call (codeAny_mono (call w bJ bO mg mb fa o pm cd doc a vs ns G Y ho (fd_plain hd) sX HM HN hints hlen hg) fun r s' hq=>?_)
 obtain⟨rfl,h2,h3,h4⟩:=hq
 exact⟨.inl ⟨.bool true,.bool true,[],rfl,fun _=>rfl,.bool true,CW l _,fun _=>⟨List.Pairwise.nil,fun _ hm=>(nomatch hm)⟩⟩,h2,h3,h4⟩
section
variable{prog:Program}{w:World}{A:Around}{E:Value→Shared→Prop}{s:Shared}{K:Frag}
end
end T2
namespace L2
open PySem PySem.Spec PyProof.Rows
theorem wa:∀{vs:List Value}{ns:List Int},IntsAre vs ns→Vals (ns.map V.int) vs
 |_,_,.nil=>.nil
 |_,_,.cons n t h=>.cons ⟨t,rfl⟩ (wa h)
def AX(H:Hp):Prop:=∀b,H b=none∨∃o xs,H b=some (.fX o (.lst xs))
theorem FC{P:Program}{w:World}{K:PySem.W.Frag}{mg mb:Str→Option Value}{CX:uZ}{k:Nat}{fa a:Addr}{fd:FuncData}{x:Str}{sp:Sp}{bO:Shared}{vs:List Value}{ns:List Int}
  (KX:K.In bO.heap)(yZ:bO.heap.Ns mainGlobals mg)(hb:bO.heap.Ns builtinsNs mb)(hbb:∀x:Str,x≠"__name__"→mb x=bootBuiltins x)(T4:bO.heap.NoLimit)(hg:bO.gens= #[])
  (ha:bO.heap.get? a=some { cls:=.type "list",data:=.seq vs.toArray })(hi:IntsAre vs ns)(hl:ns.length≤sizeLine)(hr:fP k callerA)
  (F:∀base:Heap,K.In base→base.Ns mainGlobals mg→bK P w K mg base CX k fa fd [x] sp)(Qw:∀(s:Shared) (u:Value),BindsTo s fd ⟨[u],[]⟩ [(x,u)])
  (xE:∀H:Hp,AX H→cy K H a (ns.map V.int)→sp [.ref a] H (fun v _=>v= .bl true) fun _ _ _=>False)
  (Qx:∀H e s',CX [] H bO (fun _ _ _=>False) e s'→False):
  codeAny (model P w) callerA (.call (.ref fa) ⟨[.ref a],[]⟩) (fun r s'=>r= .ok (.ret (.bool true))∧OldK bO.heap s'.heap∧s'.os=bO.os∧AllBare s'.gens) bO:=by
 have rv:=wa hi
 have T5:=hi.length
 -- from an abstract heap in acU nothing but AH LS may be tracked
 have core:∀H:Hp,AX H→cy K H a (ns.map V.int)→gH P w H bO.heap→(∀b,H b≠none→b=a)→(H a≠none→K.lookup a=none)→
   codeAny (model P w) callerA (.call (.ref fa) ⟨[.ref a],[]⟩) (fun r s'=>r= .ok (.ret (.bool true))∧OldK bO.heap s'.heap∧s'.os=bO.os∧AllBare s'.gens) bO:=by
  intro H hO hS bh hA hK
  have AY:∀{b:Addr}{o:Obj},bO.heap.get? b=some o→H b=none→(qZ bO.heap H).get? b=some o:=fun e n=>Fj e n
  have Hz:∀{b:Addr}{o:Obj}{es:Array DictEntry}{ep:Nat},bO.heap.get? b=some o→o.data= .dict es ep→H b=none:=fun {b o es ep} e d=>by
   cases q:H b with
   |none=>rfl
   |some u=>
    have e':b=a:=hA b (by rw[q];simp)
    subst e'
    rw[ha]at e;cases e
    have d':Data.seq vs.toArray _=Data.dict es ep:=d
    cases d'
  have LU:∀{b:Addr}{m:Str→Option Value},bO.heap.Ns b m→(qZ bO.heap H).Ns b m:=fun {b m} ⟨o,es,ep,e,d,r⟩=>⟨o,es,ep,AY e (Hz e d),d,r⟩
  have T6:K.In (qZ bO.heap H):=fun b o e=>AY (KX b o e) (by
   cases q:H b with
   |none=>rfl
   |some u=>
    have e':b=a:=hA b (by rw[q];simp)
    subst e'
    rw[hK (by rw[q];simp)]at e;cases e)
  have hM:Mod K mg (qZ bO.heap H):=⟨T6,LU yZ,⟨mb,LU hb,hbb⟩,let ⟨mc,h1,h2⟩:=T4;⟨mc,LU h1,h2⟩⟩
  have e0:Ee P w K mg (qZ bO.heap H) callerA [] bO H:=⟨rfl,hM,fun b o e=>G8 e,Nat.le_of_eq (Cw _ _),trivial,fun b hb=>absurd (show b∈([]:List Addr)from hb) (by simp),bh,.of_eq hg⟩
  refine codeAny_mono ((F _ T6 (LU yZ)).run callerA [] bO H ⟨[.ref a],[]⟩ [.ref a] [.ref a] _ _ hr e0 (Qw bO (.ref a)) (.cons rfl .nil) (xE H hO hS)) fun r s' h=>?_
  cases r with
  |error e=>exact(Qx H e s' h).elim
  |ok fl=>
   cases fl with
   |next=>exact False.elim h
   |brk=>exact False.elim h
   |cont=>exact False.elim h
   |ret u=>
    obtain⟨v,H',os,bare,un,T7,r',q⟩:=h
    have q':v= .bl true:=q
    subst q'
    obtain rfl:u=Value.bool true:=r'
    refine⟨rfl,OldK.of_keep fun b o e=>?_,os,bare⟩
    cases q:H b with
    |none=>exact un.keep b o e q (by intro z;exact absurd (show b∈([]:List Addr)from z) (by simp)) (by simp)
    |some u=>
     rcases hO b with z|⟨ob,xs,z⟩
     ·rw[q]at z;cases z
     ·have z2:=un.nF b ob _ z
      obtain⟨e1,_⟩:=bh b _ z
      obtain⟨e2,_⟩:=T7 b _ z2
      rw[e]at e1;cases e1
      exact e2
 cases hk:K.lookup a with
 |some o=>
  -- AH LS is one of AH S6 own objects
  have e:=KX a o hk
  rw[ha]at e
  cases e
  refine core (fun _=>none) (fun _=>.inl rfl) (.inr ⟨_,vs.toArray,_,hk,rfl,rfl,rfl,by rw[List.size_toArray,T5];exact hl,by simpa using rv⟩) (fun b u z=>by have z':(none:Option HO)=some u:=z;cases z') (fun b z=>absurd rfl z) fun z=>absurd rfl z
 |none=>
  refine core (fun b=>if b=a then some (.fX { cls:=.type "list",data:=.seq vs.toArray } (.lst (ns.map V.int)))else none) (fun b=>?_) (.inl (.inr ⟨{ cls:=.type "list",data:=.seq vs.toArray },if_pos rfl⟩)) (fun b u z=>?_) (fun b z=>?_) fun _=>hk
  ·by_cases hb:b=a
   ·exact .inr ⟨_,_,if_pos hb⟩
   ·exact .inl (if_neg hb)
  ·by_cases hb:b=a
   ·have z':=(if_pos hb).symm.trans z
    cases z'
    subst hb
    exact⟨ha,by rw[List.length_map];exact hl,vs,_,rv,ha⟩
   ·have z':=(if_neg hb).symm.trans z
    cases z'
  ·by_cases hb:b=a
   ·exact hb
   ·exact absurd (if_neg hb) z
end L2
namespace L2
open PySem PySem.Spec PyProof.Rows
abbrev T8{K:PySem.W.Frag}{h:Heap}(_:K.In h):PySem.W.Frag:=K
theorem HP{l:PySem.W.OpenLaw}{n k:Nat}{q:Program}{loose:List Str}{XP:(Str→Option Value)→Heap→Prop}{YP:World→Heap→Prop}{d:DefRec}{K:Params→PySem.W.Frag}{CX:World→uZ}{sp:World→Sp}{x:Str}
  (hn:l.most=some n)(T9:n≤sizeLine)(HL:d.params.defaults=[])(hr:fP k callerA)
  (hY:∀(w:World) (h:Heap),YP w h→(K w.params).In h)
  (F:∀(w:World) (mg:Str→Option Value) (fa:Addr) (h:Heap),(K w.params).In h→h.Ns mainGlobals mg→mg d.name=some (.ref fa)→
   ∃fd:FuncData,(∀(s:Shared) (u:Value),BindsTo s fd ⟨[u],[]⟩ [(x,u)])∧
    ∀base:Heap,(K w.params).In base→base.Ns mainGlobals mg→bK l.prog w (K w.params) mg base (CX w) k fa fd [x] (sp w))
  (xE:∀(w:World) (H:Hp) (a:Addr) (ns:List Int),ns.length≤n→AX H→cy (K w.params) H a (ns.map V.int)→sp w [.ref a] H (fun v _=>v= .bl true) fun _ _ _=>False)
  (Qx:∀(w:World) (H:Hp) (s:Shared) (e:Value) (s':Shared),CX w [] H s (fun _ _ _=>False) e s'→False):
  PySem.W.WalkO q loose XP YP l.row.toRowW d [] (fun f vs=>PySem.call f vs):=by
 refine T2.yY hn HL fun w bJ bO mg mb fa o pm cd doc a vs ns G Y ho hd sX HM HN hints hlen hg=>?_
 have KX:=hY w _ Y
 obtain⟨fd,hb,hF⟩:=F w mg fa _ KX G.T.g HM
 exact FC KX G.T.g G.T.b G.T.builtins G.T.nolimit hg HN hints (Nat.le_trans hlen T9) hr hF hb (fun H hO hS=>xE w H a ns hlen hO hS) fun H e s'=>Qx w H bO e s'
end L2
namespace L2
open PySem PySem.Spec PyProof.Rows
def aL(s:Stmt):Arguments:=match s with
 |.FunctionDef _ a _ _ _ _ _ _ _ _=>a
 |_=>{ posonlyargs:=[],args:=[],vararg:=none,kwonlyargs:=[],kw_defaults:=[],kwarg:=none,defaults:=[] }
def aF(s:Stmt):List Stmt:=match s with
 |.FunctionDef _ _ b _ _ _ _ _ _ _=>b
 |_=>[]
def ao(s:Stmt):Scope:=match s with
 |.FunctionDef _ _ _ _ _ _ sc _ _ _=>sc
 |_=>{ kind:=.function,names:=[],isGenerator:=false,isCoroutine:=false }
abbrev dm:uZ:=fun _ _ _ _ _ _=>False
abbrev E0:XK:=fun _ _ _=>False
theorem HQ{X:Cx}:Passes dm X E0:=fun _ _ _ _ _ _ _ h=>h.elim
structure d_(K:PySem.W.Frag)(x qual:Str)(st:Stmt)(f:Addr)(fd:FuncData):Prop where
 ex:∃(oc:Value) (od:Option Addr) (kV doc pm:Value) (an:Option Addr) (bL ct:Value) (nQ:Array (Option Value)),
  fd=PySem.W.fnOf x qual (aL st) (aF st) (ao st) .none kV doc pm an bL ct∧K.lookup f=some ⟨oc,od,.func fd,nQ⟩∧PySem.W.codeIn K bL qual=true
 kp:PySem.W.keepIn K (.ref f)=true
section
variable{P:Program}{w:World}{K:PySem.W.Frag}{mg:Str→Option Value}{base:Heap}
theorem d_.ok{x qual:Str}{st:Stmt}{f:Addr}{fd:FuncData}{N ps:List Str}{k:Nat}{sp:Sp}(F:d_ K x qual st f fd)(S:aQ N ps (ao st))(len:∀vs H Q E,sp vs H Q E→vs.length=ps.length)
  (mI:∀(bL:Value) (A:Around) (outer:List Env) (s:Shared) (H:Hp) (vs:List V) (Q:VK) (E:XK),fP k (A.deeper (envOfC qual (ao st) s.heap.objs.size f bL))→sp vs H Q E→
   ∃t,nM (rC dm P w K mg base N qual (ao st) f bL A outer s H E).AA (aF st) t∧t { nx:=fun _ H'=>Q .bF H',rt:=Q } (start N vs) H):bK P w K mg base dm (k+1) f fd ps sp:=by
 obtain⟨oc,od,kV,doc,pm,an,bL,ct,nQ,rfl,lk,sX⟩:=F.ex
 refine HA lk sX S len fun A outer s H vs Q E hr xE=>?_
 obtain⟨t,h,q⟩:=mI bL A outer s H vs Q E hr xE
 exact⟨t,h.AA,q⟩
theorem d_.binds{x qual:Str}{st:Stmt}{f:Addr}{fd:FuncData}{ps:List Str}(F:d_ K x qual st f fd)
  (h:∀(kV doc pm:Value) (an:Option Addr) (bL ct:Value) (us:List Value),us.length=ps.length→bindArgs (PySem.W.fnOf x qual (aL st) (aF st) (ao st) .none kV doc pm an bL ct) ⟨us,[]⟩=pure (ps.zip us)):Binds K fd ps []:=by
 obtain⟨oc,od,kV,doc,pm,an,bL,ct,nQ,rfl,lk,sX⟩:=F.ex
 exact .all (h kV doc pm an bL ct)
theorem bz{x qual:Str}{st:Stmt}{f:Addr}{oc:Value}{od an:Option Addr}{nQ:Array (Option Value)}{kV doc pm bL ct:Value}(l:K.lookup f=some ⟨oc,od,.func (PySem.W.fnOf x qual (aL st) (aF st) (ao st) .none kV doc pm an bL ct),nQ⟩)
  (c:PySem.W.codeIn K bL qual=true)(k:PySem.W.keepIn K (.ref f)=true):d_ K x qual st f (PySem.W.fnOf x qual (aL st) (aF st) (ao st) .none kV doc pm an bL ct):=⟨⟨oc,od,kV,doc,pm,an,bL,ct,nQ,rfl,l,c⟩,k⟩
end
section
variable{X:Cx}
theorem pv(i:Nat){x:Str}{pos:Pos}(hN:X.N[i]? =some x:=by rfl)(hv:Cy X.env.scope x:=by first|exact Or.inl rfl|exact Or.inr (Or.inl rfl)|exact Or.inr (Or.inr rfl))(hd:(x==("__debug__":Str))=false:=by decide)
  (sX:(x==("__classdict__":Str))=false:=by decide):PE X (.Name x pos) (Hd i):=K8 hN hv hd sX
end
def uB(H H':Hp):Prop:=∀b o,H b=some o→H' b=some o
theorem uB.trans{H H1 H2:Hp}(a:uB H H1)(b:uB H1 H2):uB H H2:=fun c o h=>b c o (a c o h)
theorem uB.free{H H':Hp}(e:uB H H'){l:Addr}(h:H' l=Option.none):H l=Option.none:=by
 cases q:H l with
 |none=>rfl
 |some o=>
  rw[e l o q]at h
  cases h
end L2
namespace L2
open PySem PySem.Spec PyProof.Rows
section
variable{κ:Type}[DecidableEq κ]
def en(aC:List (κ×V))(k:κ):Option V:=(aC.find? fun kv=>decide (kv.1=k)).map (·.2)
def putK(aC:List (κ×V))(k:κ)(v:V):List (κ×V):=
 if (aC.any fun kv=>decide (kv.1=k))=true then aC.map (fun kv=>if kv.1=k then(kv.1,v)else kv)else aC++[(k,v)]
def HR(aC:List (κ×V))(k:κ):List (κ×V):=aC.filter fun kv=>decide (kv.1≠k)
theorem x5{p:κ×V}{r:List (κ×V)}{k:κ}(e:p.1=k):en (p::r) k=some p.2:=by simp[en,List.find?_cons,e]
theorem x6{p:κ×V}{r:List (κ×V)}{k:κ}(e:¬p.1=k):en (p::r) k=en r k:=by simp[en,List.find?_cons,e]
theorem tj(k:κ):∀aC:List (κ×V),(aC.any fun kv=>decide (kv.1=k))=(en aC k).isSome
 |[]=>rfl
 |p::r=>by
  rw[List.any_cons]
  by_cases e:p.1=k
  ·simp only[x5 e,decide_eq_true e,Bool.true_or,Option.isSome_some]
  ·rw[x6 e,decide_eq_false e,Bool.false_or];exact tj k r
theorem jJ(aC:List (κ×V))(k:κ)(v:V):(putK aC k v).length≤aC.length+1:=by
 unfold putK
 split
 ·rw[List.length_map];omega
 ·rw[List.length_append,List.length_cons,List.length_nil];omega
theorem qc.wb{o:Option V}{u:Option Value}(r:qc o u):o.isSome=u.isSome:=by
 cases o with
 |none=>cases u with
  |none=>rfl
  |some _=>exact(show False from r).elim
 |some _=>cases u with
  |none=>exact(show False from r).elim
  |some _=>rfl
theorem KV.any{aC:List (κ×V)}{vs:List (κ×Value)}(r:KV aC vs)(k:κ):(aC.any fun kv=>decide (kv.1=k))=vs.any fun kv=>decide (kv.1=k):=by
 unfold KV at r
 induction r with
 |nil=>rfl
 |cons h t ih=>rw[List.any_cons,List.any_cons,ih,h.1]
theorem KV.lX{aC:List (κ×V)}{vs:List (κ×Value)}(r:KV aC vs)(k:κ){y:V}{u:Value}(ry:RelV y u):
  KV (aC.map fun kv=>if kv.1=k then(kv.1,y)else kv) (vs.map fun kv=>if kv.1=k then(kv.1,u)else kv):=by
 unfold KV at r ⊢
 induction r with
 |nil=>exact .nil
 |@cons p q ps qs h t ih=>
  rw[List.map_cons,List.map_cons]
  refine .cons ?_ ih
  obtain⟨h1,h2⟩:=h
  by_cases e:p.1=k
  ·rw[if_pos e,if_pos (h1.symm.trans e)];exact⟨h1,ry⟩
  ·rw[if_neg e,if_neg (fun z=>e (h1.trans z))];exact⟨h1,h2⟩
theorem KV.put{aC:List (κ×V)}{vs:List (κ×Value)}(r:KV aC vs)(k:κ){y:V}{u:Value}(ry:RelV y u):KV (putK aC k y) (stored vs k u):=by
 unfold putK stored
 rw[r.any k]
 by_cases e:(vs.any fun kv=>decide (kv.1=k))=true
 ·rw[if_pos e,if_pos e];exact r.lX k ry
 ·rw[if_neg e,if_neg e];exact Paired.snoc r ⟨rfl,ry⟩
theorem KV.drop{aC:List (κ×V)}{vs:List (κ×Value)}(r:KV aC vs)(k:κ):KV (HR aC k) (without vs k):=by
 unfold KV at r ⊢
 unfold HR without
 induction r with
 |nil=>exact .nil
 |@cons p q ps qs h t ih=>
  obtain⟨h1,h2⟩:=h
  rw[List.filter_cons,List.filter_cons]
  by_cases e:p.1=k
  ·have a:¬decide (p.1≠k)=true:=by simp[e]
   have b:¬decide (q.1≠k)=true:=by simp[h1.symm.trans e]
   rw[if_neg a,if_neg b];exact ih
  ·have e':¬q.1=k:=fun z=>e (h1.trans z)
   have a:decide (p.1≠k)=true:=by simp[e]
   have b:decide (q.1≠k)=true:=by simp[e']
   rw[if_pos a,if_pos b];exact .cons ⟨h1,h2⟩ ih
theorem KV.keys{aC:List (κ×V)}{vs:List (κ×Value)}(r:KV aC vs):aC.map (·.1)=vs.map (·.1):=by
 unfold KV at r
 induction r with
 |nil=>rfl
 |cons h t ih=>rw[List.map_cons,List.map_cons,ih,h.1]
theorem KV.length{aC:List (κ×V)}{vs:List (κ×Value)}(r:KV aC vs):aC.length=vs.length:=Paired.length r
end
theorem HS{P:Program}{w:World}{k:Key}{u:Value}(r:RelV (kV k) u):(cB P w).is k u=true:=by
 cases k with
 |inl i=>obtain⟨t,e⟩:=(show ∃t,u=Value.int i t from r);subst e;exact yO P w i t
 |inr x=>obtain⟨t,e⟩:=(show ∃t,u=Value.str x t from r);subst e;exact yP P w x t
theorem wc{P:Program}{w:World}:∀{ks:List Key}{us:List Value},Vals (ks.map kV) us→ItemsAre (cB P w) ks us
 |[],_,r=>by rw[List.map_nil]at r;cases r;exact .nil
 |k::ks,_,r=>by
  rw[List.map_cons]at r
  cases r with
  |cons h t=>exact .cons (HS h) (wc t)
abbrev KT(H:Hp):List (List Key×V)→List (List Key×Addr×Value)→Prop:=Paired fun p q=>p.1=q.1∧H q.2.1=some (.tup (p.1.map kV))∧RelV p.2 q.2.2
theorem KT.val{H:Hp}{aC:List (List Key×V)}{xs:List (List Key×Addr×Value)}(r:KT H aC xs)(k:List Key):qc (en aC k) ((atKey xs k).map (·.2)):=by
 induction r with
 |nil=>exact True.intro
 |@cons p q ps qs h t ih=>
  obtain⟨h1,_,h2⟩:=h
  by_cases e:p.1=k
  ·have e':q.1=k:=h1.symm.trans e
   have b:atKey (q::qs) k=some q.2:=by simp[atKey,List.find?_cons,e']
   rw[x5 e,b];exact h2
  ·have e':¬q.1=k:=fun z=>e (h1.trans z)
   have b:atKey (q::qs) k=atKey qs k:=by simp[atKey,List.find?_cons,e']
   rw[x6 e,b];exact ih
theorem KT.lX{H:Hp}{aC:List (List Key×V)}{xs:List (List Key×Addr×Value)}(r:KT H aC xs)(k:List Key){y:V}{u:Value}(ry:RelV y u):
  KT H (aC.map fun kv=>if kv.1=k then(kv.1,y)else kv) (xs.map (putAt k u)):=by
 induction r with
 |nil=>exact .nil
 |@cons p q ps qs h t ih=>
  rw[List.map_cons,List.map_cons]
  refine .cons ?_ ih
  obtain⟨h1,h2,h3⟩:=h
  unfold putAt
  by_cases e:p.1=k
  ·rw[if_pos e,if_pos (h1.symm.trans e)];exact⟨h1,h2,ry⟩
  ·rw[if_neg e,if_neg (fun z=>e (h1.trans z))];exact⟨h1,h2,h3⟩
theorem KT.put{H:Hp}{aC:List (List Key×V)}{xs:List (List Key×Addr×Value)}(r:KT H aC xs)(k:List Key){b:Addr}{y:V}{u:Value}(hb:H b=some (.tup (k.map kV)))(ry:RelV y u):
  KT H (putK aC k y) (storedH xs k b u):=by
 have e:(aC.any fun kv=>decide (kv.1=k))=(atKey xs k).isSome:=by
  rw[tj,(r.val k).wb,Option.isSome_map]
 unfold putK storedH
 rw[e]
 by_cases q:(atKey xs k).isSome=true
 ·rw[if_pos q,if_pos q];exact r.lX k ry
 ·rw[if_neg q,if_neg q];exact Paired.snoc r ⟨rfl,hb,ry⟩
theorem KT.keeps{H H':Hp}{aC:List (List Key×V)}{xs:List (List Key×Addr×Value)}(r:KT H aC xs)(ht:∀b ys,H b=some (.tup ys)→H' b=some (.tup ys)):KT H' aC xs:=
 Paired.ur r fun _ _ z=>⟨z.1,ht _ _ z.2.1,z.2.2⟩
section
variable{P:Program}{w:World}{H:Hp}{h:Heap}{a:Addr}
theorem CY{u:HO}(ok:gH P w H h)(e:Rd H a u):bV P w H h a u:=e.ok ok
theorem Qy{aC:List (Key×V)}(ok:gH P w H h)(e:Rd H a (.dK aC)):aC.length≤sizeLine∧(a==sysModules)=false∧∃vs,KV aC vs∧h.DictOf (cB P w) a vs:=
 show bV P w H h a (.dK aC)from CY ok e
theorem Qz{aC:List (Key×V)}(ok:gH P w H h)(e:H a=some (.dK aC)):aC.length≤sizeLine∧(a==sysModules)=false∧∃vs,KV aC vs∧h.DictOf (cB P w) a vs:=Qy ok (.inl e)
theorem y8{ks:List Key}(ok:gH P w H h)(e:H a=some (.tup (ks.map kV))):(tupleKind (cB P w)).is h ks a:=by
 obtain⟨_,its,r,o,h1,h2,n,h3⟩:=(show bV P w H h a (.tup (ks.map kV))from ok a _ e)
 exact⟨o,its.toArray,n,h1,h2,h3,by simpa using wc r⟩
theorem HU{aC:List (List Key×V)}(ok:gH P w H h)(e:Rd H a (.dT aC)):aC.length≤sizeLine∧(a==sysModules)=false∧
  ∃xs,KT H aC xs∧h.DictOfH (tupleKind (cB P w)) a xs:=by
 obtain⟨z,y,xs,r,o,es,ep,h1,h2,h3,h4,h5⟩:=(show bV P w H h a (.dT aC)from CY ok e)
 refine⟨z,y,xs,r,o,es,ep,h1,h2,h3,h4,fun x hx=>?_,h5⟩
 have all:∀{l:List (List Key×V)}{m:List (List Key×Addr×Value)},KT H l m→∀x∈m,(tupleKind (cB P w)).is h x.1 x.2.1:=by
  intro l m q
  induction q with
  |nil=>intro x hx;exact nomatch hx
  |@cons p q ps qs hq t ih=>
   intro x hx
   rcases List.mem_cons.mp hx with e|hx
   ·subst e
    exact y8 ok (by rw[←hq.1];exact hq.2.1)
   ·exact ih x hx
 exact all r x hx
theorem QB{aC:List (List Key×V)}(ok:gH P w H h)(e:H a=some (.dT aC)):aC.length≤sizeLine∧(a==sysModules)=false∧
  ∃xs,KT H aC xs∧h.DictOfH (tupleKind (cB P w)) a xs:=HU ok (.inl e)
end
def Ej(H:Hp)(a:Addr)(y:V)(r:Option V):Prop:=
 (∃aC k,Rd H a (.dK aC)∧y=kV k∧r=en aC k)∨∃aC k b,Rd H a (.dT aC)∧y= .ref b∧H b=some (.tup (k.map kV))∧r=en aC k
def wd(H:Hp)(a:Addr)(y v:V)(H':Hp):Prop:=
 (∃aC k,H a=some (.dK aC)∧y=kV k∧aC.length<sizeLine∧H'=upd H a (.dK (putK aC k v)))∨
 ∃aC k b,H a=some (.dT aC)∧y= .ref b∧H b=some (.tup (k.map kV))∧aC.length<sizeLine∧H'=upd H a (.dT (putK aC k v))
theorem Ej.k{H:Hp}{a:Addr}{aC:List (Key×V)}{k:Key}(e:H a=some (.dK aC)):Ej H a (kV k) (en aC k):=.inl ⟨aC,k,.inl e,rfl,rfl⟩
theorem Ej.t{H:Hp}{a b:Addr}{aC:List (List Key×V)}{k:List Key}(e:H a=some (.dT aC))(eb:H b=some (.tup (k.map kV))):Ej H a (.ref b) (en aC k):=.inr ⟨aC,k,b,.inl e,rfl,eb,rfl⟩
theorem wd.k{H:Hp}{a:Addr}{aC:List (Key×V)}{k:Key}{v:V}(e:H a=some (.dK aC))(hl:aC.length<sizeLine):wd H a (kV k) v (upd H a (.dK (putK aC k v))):=.inl ⟨aC,k,e,rfl,hl,rfl⟩
theorem wd.t{H:Hp}{a b:Addr}{aC:List (List Key×V)}{k:List Key}{v:V}(e:H a=some (.dT aC))(eb:H b=some (.tup (k.map kV)))(hl:aC.length<sizeLine):
  wd H a (.ref b) v (upd H a (.dT (putK aC k v))):=.inr ⟨aC,k,b,e,rfl,eb,hl,rfl⟩
section
variable{X:Cx}{pins:List (Addr×Obj)}{σ:St}{H:Hp}{s:Shared}{a:Addr}{y v:V}{u r:Value}{o:Option V}{A:Around}{E:Value→Shared→Prop}
theorem Inv.big(I:Inv X pins σ H s):sysModules<s.heap.objs.size:=by
 have h:mainGlobals<s.heap.objs.size:=(I.mod.glob.keeps I.bk).lt
 exact Nat.lt_trans (by decide) h
theorem nS{h':Heap}{t':Nat}{ob:HO}(I:Inv X pins σ H s)(mu:G7 (H a))(hs:Heap.SameBut a s.heap h')(he:∃q,h'.get? a=some q)(new:bV X.prog X.w (upd H a ob) h' a ob):
  Inv X pins σ (upd H a ob) { s with heap:=h',toks:=t' }:=
 I.write (x:=a) (e:=a) mu (.inl rfl) (fun b q hb z=>(hs.2 b hb).trans z) he new
theorem LV{P:Program}{w:World}{H':Hp}{h':Heap}{aC:List (Key×V)}{vs:List (Key×Value)}(z:aC.length≤sizeLine)(hd:(a==sysModules)=false)(rel:KV aC vs)(dd:h'.DictOf (cB P w) a vs):
  bV P w H' h' a (.dK aC):=⟨z,hd,vs,rel,dd⟩
theorem CZ{H':Hp}{Q:Unit→Shared→Prop}(hu:A.units+1<cLine)(I:Inv X pins σ H s)(g:wd H a y v H')(ry:RelV y u)(rv:RelV v r)(h:∀s',Inv X pins σ H' s'→Q () s'):
  wpAny (model X.prog X.w) A (setItem (.ref a) u r) Q E s:=by
 rcases g with⟨aC,k,e,ey,l,eH⟩|⟨aC,k,b,e,ey,eb,l,eH⟩
 ·subst ey eH
  obtain⟨z,hd,vs,rel,dd⟩:=Qz I.bh e
  have hz:vs.length≤sizeLine:=by rw[←rel.length];exact z
  have hl:(putK aC k v).length≤sizeLine:=by have:=jJ aC k v;omega
  refine wpAny_setItem_pairs (hsz:=hz) (HS ry) dd fun h' AZ hs=>h _ ?_
  have he:∃q,h'.get? a=some q:=let ⟨q,_,_,hq,_⟩:=AZ;⟨q,hq⟩
  exact nS I (by rw[e];exact True.intro) hs he (LV hl hd (rel.put k rv) AZ)
 ·subst ey eH
  cases (show u=Value.ref b from ry)
  obtain⟨z,hd,xs,rel,dd⟩:=QB I.bh e
  have hz:xs.length≤sizeLine:=by rw[←Paired.length rel];exact z
  have hl:(putK aC k v).length≤sizeLine:=by have:=jJ aC k v;omega
  refine wpAny_setItem_heap (hsz:=hz) (tupleKind_room_in1 hu) (y8 I.bh eb) dd fun h' AZ hs=>h _ ?_
  obtain⟨q,es,ep,hq,h2,h3,h4,_,h5⟩:=AZ
  refine nS I (by rw[e];exact True.intro) hs ⟨q,hq⟩ ⟨hl,hd,_,(rel.put k eb rv).keeps fun c ys ec=>?_,q,es,ep,hq,h2,h3,h4,h5⟩
  rw[bg (vQ ec e (fun z=>nomatch z))]
  exact ec
end
section
variable{X:Cx}{pins:List (Addr×Obj)}{σ:St}{H:Hp}{s:Shared}{a:Addr}{aC:List (Key×V)}{k:Key}{u:Value}{A:Around}{E:Value→Shared→Prop}
end
def HV(i:Expr):Prop:=∀ov iv,subscripted i false ov iv=operate [ov,iv] (getItem ov iv)
theorem HW{prog:Program}{w:World}{A:Around}{E:Value→Shared→Prop}{s:Shared}{env:Env}{value slice:Expr}{pos:Pos}{T id:String}{Q:Value→Shared→Prop}
  (hl:typeLookup (.type T) "__getitem__" =pure (some (.builtin id)))(hs:HV slice)
  (h:wpAny (model prog w) A (eval value env) (fun o bO=>wpAny (model prog w) A (eval slice env) (fun i lS=>lS.TypeIs o T∧wpAny (model prog w) A (getItem o i) Q E lS) E bO) E s):
  wpAny (model prog w) A (eval (.Subscript value slice pos) env) Q E s:=by
 refine Subscript_ (wpAny_mono h (fun o bO nG=>wpAny_mono nG (fun i lS A4=>?_) fun _ _ x=>x) fun _ _ x=>x)
 obtain⟨hT,A4⟩:=A4
 unfold subscriptTail
 refine wpAny_bind ?_
 rw[getitemInPython_of_ne hT.not_modules]
 refine wpAny_bind (wpAny_specialOf hT hl ?_)
 have fin:wpAny (model prog w) A (subscripted slice false o i) (fun r uC=>wpAny (model prog w) A (letTemporaryGo value o r >>= fun _=>pure r) Q E uC) E lS:=by
  rw[hs o i]
  exact wpAny_operating (wpAny_mono A4 (fun r uC Ek=>wpAny_bind (wpAny_letTemporaryGo (wpAny_pure Ek))) fun _ _ x=>x)
 first
  |exact wpAny_pure (wpAny_bind fin)
  |exact wpAny_bind (wpAny_pure (wpAny_bind fin))
  |exact wpAny_bind fin
def HX(td ty tv:TE):TS:=fun D σ H=>tv σ H fun v H1=>td σ H1 fun x H2=>ty σ H2 fun y H3=>∃a H4,x= .ref a∧wd H3 a y v H4∧D.nx σ H4
section
variable{X:Cx}{o i e value:Expr}{pos pos' TJ:Pos}{td ty tv:TE}
theorem HY(hu:X.A.units+1<cLine)(ho:PE X o td)(hi:PE X i ty)(hv:PE X value tv)(hs:swapsWith value (some (.Subscript o i pos')) pos.line X.env=pure false):
  PS X (.Assign [.Subscript o i pos'] value pos) (HX td ty tv):=by
 intro pins s σ H D I h
 refine wpAny_Assign_Subscript (bZ (hv pins s σ H _ I h) fun r s1 ⟨v,H1,I1,rv,q1⟩=>bZ (ho pins s1 σ H1 _ I1 q1) fun u s2 ⟨x,H2,I2,rx,q2⟩=>bZ (hi pins s2 σ H2 _ I2 q2) fun iv s3 ⟨y,H3,I3,ry,a,H4,ex,g,q3⟩=>?_) hs
 subst ex
 obtain rfl:u=Value.ref a:=rx
 exact CZ hu I3 g ry rv fun s4 I4=>⟨σ,H4,I4,q3⟩
end
theorem FD{P:Program}{w:World}{H:Hp}(h:Heap)(hb:sysModules<h.objs.size):bV P w H (h.push { cls:=.type "dict",data:=.dict #[] }) h.objs.size (.dT []):=
 ⟨Nat.zero_le _,beq_eq_false_iff_ne.mpr (Ne.symm (Nat.ne_of_lt hb)),[],.nil,_,#[],0,Heap.get?_push_size _ rfl,⟨rfl,rfl,rfl⟩,rfl,rfl,List.nodup_nil⟩
def LW:TE:=fun _ H Q=>∀p,H p=none→Q (.ref p) (upd H p (.dT []))
section
variable{X:Cx}{pos:Pos}
theorem FE:PE X (.Dict [] [] pos) LW:=fun pins s σ H Q I h=>
 wpAny_Dict_empty ⟨.ref s.heap.objs.size,_,I.laid (a:=s.heap.objs.size) (o:=.dT []) (t':=s.toks) (fun _ _ q=>Heap.get?_push_of_some _ q) (Nat.le_refl _) (FD s.heap I.big),rfl,h _ (I.bh.fresh (Nat.le_refl _))⟩
end
structure M1(X:Cx)(o:Expr)(m:Str)(apos:Pos)(e:Expr)(bP:Pos):Prop where
 base:attributeBase o m X.env (eval o X.env)=eval o X.env
 T_:((backTo bP (starEach [e] X.env)).all (fun x=>!x.1)&&(backToKw bP (keywordEach [] X.env)).all (fun x=>x.1.isSome)
  &&decide (([e]:List Expr).length+([]:List Keyword).length+(if ([]:List Keyword).isEmpty then 0 else 1)<30))=true
 line:(apos.endLine==bP.line)=true
 trees:backTo bP (starEach [e] X.env)=[(false,eval e X.env)]
structure M2(X:Cx)(o:Expr)(m:Str)(apos:Pos)(e f:Expr)(bP:Pos):Prop where
 base:attributeBase o m X.env (eval o X.env)=eval o X.env
 T_:((backTo bP (starEach [e,f] X.env)).all (fun x=>!x.1)&&(backToKw bP (keywordEach [] X.env)).all (fun x=>x.1.isSome)
  &&decide (([e,f]:List Expr).length+([]:List Keyword).length+(if ([]:List Keyword).isEmpty then 0 else 1)<30))=true
 line:(apos.endLine==bP.line)=true
 trees:backTo bP (starEach [e,f] X.env)=[(false,eval e X.env),(false,eval f X.env)]
section
variable{X:Cx}{pins:List (Addr×Obj)}{σ:St}{H:Hp}{s:Shared}{a:Addr}{y d:V}{u r:Value}{o:Option V}{A:Around}{E:Value→Shared→Prop}
end
section
variable{X:Cx}{o e f:Expr}{apos bP:Pos}{td ty tx:TE}
end
section
variable{X:Cx}{pins:List (Addr×Obj)}{σ:St}{H:Hp}{s:Shared}{a:Addr}{aC:List (Key×V)}{A:Around}{E:Value→Shared→Prop}
end
section
variable{X:Cx}{pins:List (Addr×Obj)}{σ:St}{H:Hp}{s:Shared}{a:Addr}{y:V}{u:Value}{A:Around}{E:Value→Shared→Prop}
end
end L2
namespace My
structure Bd(k:Nat)(x:Int):Prop where
 lt:x.natAbs<2 ^ k
theorem Bd.mono{j k:Nat}{x:Int}(h:Bd j x)(e:j≤k):Bd k x:=⟨Nat.lt_of_lt_of_le h.lt (Nat.pow_le_pow_right (by decide) e)⟩
theorem Bd.mul{j k:Nat}{x y:Int}(h:Bd j x)(g:Bd k y):Bd (j+k) (x*y):=by
 refine⟨?_⟩
 rw[Int.natAbs_mul,Nat.pow_add]
 exact Nat.mul_lt_mul_of_lt_of_lt h.lt g.lt
theorem Bd.add{j k:Nat}{x y:Int}(h:Bd j x)(g:Bd k y):Bd (max j k+1) (x+y):=by
 have h':=(h.mono (Nat.le_max_left j k)).lt
 have g':=(g.mono (Nat.le_max_right j k)).lt
 refine⟨?_⟩
 rw[Nat.pow_succ]
 omega
theorem Bd.neg{k:Nat}{x:Int}(h:Bd k x):Bd k (-x):=⟨by have:=h.lt;omega⟩
theorem Bd.sub{j k:Nat}{x y:Int}(h:Bd j x)(g:Bd k y):Bd (max j k+1) (x - y):=by
 rw[Int.sub_eq_add_neg];exact h.add g.neg
theorem Bd.of_le{k:Nat}{x y:Int}(h:Bd k y)(e:x.natAbs≤y.natAbs):Bd k x:=⟨Nat.lt_of_le_of_lt e h.lt⟩
theorem Bd.log2{k:Nat}{x:Int}(h:Bd k x)(hk: 0<k):x.natAbs.log2<k:=by
 have h:=h.lt
 by_cases z:x.natAbs=0
 ·rw[z];simpa using hk
 ·exact(Nat.log2_lt z).mpr h
theorem u_(n:Int){m:Int}(h:m≠0):(n.fmod m).natAbs<m.natAbs:=by
 rcases Int.lt_or_gt_of_ne h with hm|hm
 ·have e:n.fmod m= -((-n).fmod (-m)):=by
   rw[Int.fmod_def,Int.fmod_def,Int.neg_fdiv_neg]
   grind
  have h1: 0≤(-n).fmod (-m):=Int.fmod_nonneg_of_pos _ (by omega)
  have h2:(-n).fmod (-m)< -m:=Int.fmod_lt_of_pos _ (by omega)
  rw[e];omega
 ·have h1: 0≤n.fmod m:=Int.fmod_nonneg_of_pos _ hm
  have h2:n.fmod m<m:=Int.fmod_lt_of_pos _ hm
  omega
theorem x8(n m:Int):Int.gcd m (n.fmod m)=Int.gcd n m:=by
 rw[Int.fmod_def,Int.mul_comm,Int.gcd_sub_mul_right_right,Int.gcd_comm]
theorem gcd_zero(n:Int):((Int.gcd n 0:Nat):Int)=if n<0 then -n else n:=by
 rw[Int.gcd_zero_right];split<;>omega
def sg(n d:Int):Int:=if d<0 then -(Int.gcd n d:Int)else(Int.gcd n d:Int)
def nm(n d:Int):Int:=n.fdiv (sg n d)
def dn(n d:Int):Int:=d.fdiv (sg n d)
theorem A5{n d:Int}(h:d≠0):(0:Int)<(Int.gcd n d:Int):=by
 have:=Int.gcd_pos_of_ne_zero_right n h
 omega
theorem acV{n d:Int}(h:d≠0):sg n d≠0:=by
 have:=A5 (n:=n) h
 unfold sg;split<;>omega
theorem FG(n d:Int):sg n d ∣ n:=by
 unfold sg;split
 ·exact Int.neg_dvd.mpr (Int.gcd_dvd_left n d)
 ·exact Int.gcd_dvd_left n d
theorem FH(n d:Int):sg n d ∣ d:=by
 unfold sg;split
 ·exact Int.neg_dvd.mpr (Int.gcd_dvd_right n d)
 ·exact Int.gcd_dvd_right n d
theorem LX(n d:Int):sg n d*nm n d=n:=Int.mul_fdiv_cancel' (FG n d)
theorem LY(n d:Int):sg n d*dn n d=d:=Int.mul_fdiv_cancel' (FH n d)
theorem acW{n d:Int}:nm n d*d=n*dn n d:=by
 have e1:=LX n d
 have e2:=LY n d
 generalize sg n d=s at*
 generalize nm n d=a at*
 generalize dn n d=b at*
 subst e1 e2
 grind
theorem C0(n d:Int):(sg n d).natAbs=Int.gcd n d:=by
 unfold sg;split<;>omega
theorem acX{n d:Int}(h:d≠0):(sg n d).natAbs≤d.natAbs:=by
 rw[C0]
 exact Nat.le_of_dvd (by omega) (Int.natAbs_dvd_natAbs.mpr (Int.gcd_dvd_right n d) |> fun z=>by simpa using z)
theorem El{a b:Int}(ha:a≠0)(hb:b≠0):a*b≠0:=Int.mul_ne_zero ha hb
end My
namespace My
def det(a0 a1 a2 b0 b1 b2 c0 c1 c2:Int):Int:=(a1*b2 - a2*b1)*c0+(a2*b0 - a0*b2)*c1+(a0*b1 - a1*b0)*c2
def sgn(n:Int):Int:=if 0<n then 1 else if n<0 then -1 else 0
theorem FI(a0 a1 a2 b0 b1 b2 c0 c1 c2:Int):det b0 b1 b2 a0 a1 a2 c0 c1 c2= -det a0 a1 a2 b0 b1 b2 c0 c1 c2:=by unfold det;grind
structure Alike(x y w x' y' w':Int):Prop where
 pos: 0<w
 pos': 0<w'
 ex:x'*w=x*w'
 ey:y'*w=y*w'
def jx(x y w:Int):Int:=if w<0 then -(Int.gcd (Int.gcd x w:Int) y:Int)else(Int.gcd (Int.gcd x w:Int) y:Int)
def sx(x y w:Int):Int:=x.fdiv (jx x y w)
def sy(x y w:Int):Int:=y.fdiv (jx x y w)
def sw(x y w:Int):Int:=w.fdiv (jx x y w)
theorem vp{x y w:Int}(h:w≠0):(0:Int)<(Int.gcd (Int.gcd x w:Int) y:Int):=by
 have h1:=A5 (n:=x) h
 have h2: 0<Int.gcd (Int.gcd x w:Int) y:=Int.gcd_pos_of_ne_zero_left _ (by omega)
 omega
theorem Ua(x y w:Int):(Int.gcd (Int.gcd x w:Int) y:Int) ∣ x:=Int.dvd_trans (Int.gcd_dvd_left _ _) (Int.gcd_dvd_left _ _)
theorem OH(x y w:Int):(Int.gcd (Int.gcd x w:Int) y:Int) ∣ w:=Int.dvd_trans (Int.gcd_dvd_left _ _) (Int.gcd_dvd_right _ _)
theorem Ub(x y w:Int):(Int.gcd (Int.gcd x w:Int) y:Int) ∣ y:=Int.gcd_dvd_right _ _
theorem A8(x y w:Int):(jx x y w).natAbs=Int.gcd (Int.gcd x w:Int) y:=by unfold jx;split<;>omega
theorem rG{x y w:Int}(h:w≠0):jx x y w≠0:=by
 have:=vp (x:=x) (y:=y) h
 unfold jx;split<;>omega
theorem we{x y w z:Int}(h:(Int.gcd (Int.gcd x w:Int) y:Int) ∣ z):jx x y w ∣ z:=by
 unfold jx;split
 ·exact Int.neg_dvd.mpr h
 ·exact h
theorem vq(x y w:Int):jx x y w*sx x y w=x:=Int.mul_fdiv_cancel' (we (Ua x y w))
theorem vt(x y w:Int):jx x y w*sy x y w=y:=Int.mul_fdiv_cancel' (we (Ub x y w))
theorem pB(x y w:Int):jx x y w*sw x y w=w:=Int.mul_fdiv_cancel' (we (OH x y w))
theorem sw_pos{x y w:Int}(h:w≠0): 0<sw x y w:=by
 have e:=pB x y w
 have g:=vp (x:=x) (y:=y) h
 unfold jx at e
 split at e
 ·refine Int.not_le.mp fun hle=>?_
  have: 0≤-(Int.gcd (Int.gcd x w:Int) y:Int)*sw x y w:=Int.mul_nonneg_of_nonpos_of_nonpos (by omega) hle
  omega
 ·refine Int.not_le.mp fun hle=>?_
  have:(Int.gcd (Int.gcd x w:Int) y:Int)*sw x y w≤0:=Int.mul_nonpos_of_nonneg_of_nonpos (by omega) hle
  omega
theorem qx{s a b:Int}(h:s≠0)(e:s*a=b):a.natAbs≤b.natAbs:=by
 have e:=congrArg Int.natAbs e
 rw[Int.natAbs_mul]at e
 rw[←e]
 exact Nat.le_mul_of_pos_left _ (by omega)
theorem QC{x y w:Int}(h:w≠0):(sx x y w).natAbs≤x.natAbs:=qx (rG h) (vq x y w)
theorem QD{x y w:Int}(h:w≠0):(sy x y w).natAbs≤y.natAbs:=qx (rG h) (vt x y w)
theorem QF{x y w:Int}(h:w≠0):(sw x y w).natAbs≤w.natAbs:=qx (rG h) (pB x y w)
theorem LZ{x y w:Int}(h:w≠0):(jx x y w).natAbs≤w.natAbs:=by
 rw[A8]
 exact Nat.le_of_dvd (by omega) (Int.natAbs_dvd_natAbs.mpr (OH x y w) |> fun z=>by simpa using z)
theorem wg{x y w:Int}(h:w≠0):sx x y w*w=x*sw x y w:=by
 have e1:=vq x y w;have e2:=pB x y w
 generalize jx x y w=s at *;generalize sx x y w=a at *;generalize sw x y w=b at*
 subst e1 e2;grind
theorem wj{x y w:Int}(h:w≠0):sy x y w*w=y*sw x y w:=by
 have e1:=vt x y w;have e2:=pB x y w
 generalize jx x y w=s at *;generalize sy x y w=a at *;generalize sw x y w=b at*
 subst e1 e2;grind
theorem QH{x y w:Int}(h: 0<w):Alike x y w (sx x y w) (sy x y w) (sw x y w):=⟨h,sw_pos (by omega),wg (by omega),wj (by omega)⟩
end My
namespace My
structure A9(x y w:Int):Prop where
 pos: 0<w
 low:Int.gcd (Int.gcd x w:Int) y=1
theorem A_{x y w z:Int}(h:Int.gcd (Int.gcd x w:Int) y=1){k:Int}(h1:k ∣ x*z)(h2:k ∣ w*z)(h3:k ∣ y*z):k ∣ z:=by
 have e1:k.natAbs ∣ Int.gcd (x*z) (w*z):=Int.dvd_gcd (Int.natAbs_dvd.mpr h1) (Int.natAbs_dvd.mpr h2)
 rw[Int.gcd_mul_right]at e1
 have e2:k ∣ (Int.gcd x w:Int)*z:=by
  have:(k.natAbs:Int) ∣ ((Int.gcd x w*z.natAbs:Nat):Int):=Int.natCast_dvd_natCast.mpr e1
  have h4:k ∣ ((Int.gcd x w*z.natAbs:Nat):Int):=Int.natAbs_dvd.mp this
  rw[Int.natCast_mul]at h4
  rcases Int.natAbs_eq z with hz|hz
  ·rw[hz];exact h4
  ·rw[hz,Int.mul_neg];exact Int.dvd_neg.mpr h4
 have e3:k.natAbs ∣ Int.gcd ((Int.gcd x w:Int)*z) (y*z):=Int.dvd_gcd (Int.natAbs_dvd.mpr e2) (Int.natAbs_dvd.mpr h3)
 rw[Int.gcd_mul_right,h,Nat.one_mul]at e3
 exact Int.natAbs_dvd_natAbs.mp e3
theorem uD{x y w x' y' w':Int}(h:A9 x y w)(h':A9 x' y' w')(ex:x*w'=x'*w)(ey:y*w'=y'*w):x=x'∧y=y'∧w=w':=by
 have d1:w ∣ w':=A_ h.low (k:=w) (z:=w') (by rw[ex];exact Int.dvd_mul_left _ _) (Int.dvd_mul_right _ _) (by rw[ey];exact Int.dvd_mul_left _ _)
 have d2:w' ∣ w:=A_ h'.low (k:=w') (z:=w) (by rw[←ex];exact Int.dvd_mul_left _ _) (Int.dvd_mul_right _ _) (by rw[←ey];exact Int.dvd_mul_left _ _)
 have p:=h.pos;have p':=h'.pos
 have e:w=w':=Int.dvd_antisymm (by omega) (by omega) d1 d2
 subst e
 exact⟨Int.eq_of_mul_eq_mul_right (by omega) ex,Int.eq_of_mul_eq_mul_right (by omega) ey,rfl⟩
theorem pC{x y w:Int}(h:w≠0):A9 (sx x y w) (sy x y w) (sw x y w):=by
 refine⟨sw_pos h,?_⟩
 have e1:=vq x y w;have e2:=vt x y w;have e3:=pB x y w
 have g:=vp (x:=x) (y:=y) h
 have ga:=A8 x y w
 generalize jx x y w=s at*
 generalize sx x y w=a at*
 generalize sy x y w=b at*
 generalize sw x y w=c at*
 have q:Int.gcd (Int.gcd x w:Int) y=s.natAbs*Int.gcd (Int.gcd a c:Int) b:=by
  rw[←e1,←e2,←e3,Int.gcd_mul_left]
  have:((s.natAbs*Int.gcd a c:Nat):Int)=(s.natAbs:Int)*(Int.gcd a c:Int):=Int.natCast_mul _ _
  rw[this]
  have e4:Int.gcd ((s.natAbs:Int)*(Int.gcd a c:Int)) (s*b)=Int.gcd ((s.natAbs:Int)*(Int.gcd a c:Int)) ((s.natAbs:Int)*b):=by
   rcases Int.natAbs_eq s with hs|hs
   ·rw[←hs]
   ·have:s*b= -((s.natAbs:Int)*b):=by rw[←Int.neg_mul,←hs]
    rw[this,Int.gcd_neg]
  rw[e4,Int.gcd_mul_left]
  simp
 rw[←ga]at q
 have:s.natAbs*1=s.natAbs*Int.gcd (Int.gcd a c:Int) b:=by rw[Nat.mul_one];exact q
 exact(Nat.eq_of_mul_eq_mul_left (by omega) this).symm
theorem HZ{x y w x' y' w':Int}(h:w≠0)(h':w'≠0)(ex:x*w'=x'*w)(ey:y*w'=y'*w):sx x y w=sx x' y' w'∧sy x y w=sy x' y' w'∧sw x y w=sw x' y' w':=by
 refine uD (pC h) (pC h') ?_ ?_
 ·have a:=wg (x:=x) (y:=y) h;have b:=wg (x:=x') (y:=y') h'
  refine Int.eq_of_mul_eq_mul_left (El h h') ?_
  generalize sx x y w=p at *;generalize sw x y w=q at *;generalize sx x' y' w'=p' at *;generalize sw x' y' w'=q' at*
  grind
 ·have a:=wj (x:=x) (y:=y) h;have b:=wj (x:=x') (y:=y') h'
  refine Int.eq_of_mul_eq_mul_left (El h h') ?_
  generalize sy x y w=p at *;generalize sw x y w=q at *;generalize sy x' y' w'=p' at *;generalize sw x' y' w'=q' at*
  grind
theorem wk(x y w:Int):Int.gcd (Int.gcd x y:Int) w=Int.gcd (Int.gcd x w:Int) y:=by
 have a:∀p q r:Int,Int.gcd (Int.gcd p q:Int) r=Int.gcd p (Int.gcd q r:Int):=fun p q r=>Int.gcd_assoc p q r
 rw[a,a,Int.gcd_comm y w]
theorem Ba{x y w:Int}(h: 0<w):x / (Int.gcd (Int.gcd x y:Int) w:Int)=sx x y w∧y / (Int.gcd (Int.gcd x y:Int) w:Int)=sy x y w∧w / (Int.gcd (Int.gcd x y:Int) w:Int)=sw x y w:=by
 have g:=vp (x:=x) (y:=y) (w:=w) (by omega)
 have e:jx x y w=(Int.gcd (Int.gcd x y:Int) w:Int):=by unfold jx;rw[if_neg (by omega),wk]
 have g':(0:Int)≤(Int.gcd (Int.gcd x y:Int) w:Int):=by rw[wk];omega
 unfold sx sy sw
 rw[e]
 exact⟨(Int.fdiv_eq_ediv_of_nonneg _ g').symm,(Int.fdiv_eq_ediv_of_nonneg _ g').symm,(Int.fdiv_eq_ediv_of_nonneg _ g').symm⟩
end My
namespace My
def mJ(p0 p1 p2 q0 q1 q2:Int):Bool:=if p0*q2=q0*p2 then decide (p1*q2<q1*p2)else decide (p0*q2<q0*p2)
def wm(c0 c1 c2 a0 a1 a2 b0 b1 b2:Int):Bool:=if det a0 a1 a2 b0 b1 b2 c0 c1 c2=0 then(if mJ a0 a1 a2 b0 b1 b2=true then !mJ c0 c1 c2 a0 a1 a2&&!mJ b0 b1 b2 c0 c1 c2 else !mJ c0 c1 c2 b0 b1 b2&&!mJ a0 a1 a2 c0 c1 c2)else false
theorem jS{n:Int}(h:sgn n=0):n=0:=by
 unfold sgn at h
 split at h
 ·cases h
 ·split at h
  ·cases h
  ·omega
def m0(a0 a1 a2 b0 b1 b2 c0 c1 c2 d0 d1 d2:Int):Int:=(a2*b0 - a0*b2)*(c0*d1 - c1*d0) - (a0*b1 - a1*b0)*(c2*d0 - c0*d2)
def m1(a0 a1 a2 b0 b1 b2 c0 c1 c2 d0 d1 d2:Int):Int:=(a0*b1 - a1*b0)*(c1*d2 - c2*d1) - (a1*b2 - a2*b1)*(c0*d1 - c1*d0)
def m2(a0 a1 a2 b0 b1 b2 c0 c1 c2 d0 d1 d2:Int):Int:=(a1*b2 - a2*b1)*(c2*d0 - c0*d2) - (a2*b0 - a0*b2)*(c1*d2 - c2*d1)
section
variable(a0 a1 a2 b0 b1 b2 c0 c1 c2 d0 d1 d2:Int)
def u0:Int:=b0*(a2*c2*d2) - a0*(b2*c2*d2)
def u1:Int:=b1*(a2*c2*d2) - a1*(b2*c2*d2)
def v0:Int:=d0*(a2*b2*c2) - c0*(a2*b2*d2)
def v1:Int:=d1*(a2*b2*c2) - c1*(a2*b2*d2)
def z0:Int:=c0*(a2*b2*d2) - a0*(b2*c2*d2)
def z1:Int:=c1*(a2*b2*d2) - a1*(b2*c2*d2)
end
section
variable{a0 a1 a2 b0 b1 b2 c0 c1 c2 d0 d1 d2:Int}
theorem QJ:c2*det a0 a1 a2 b0 b1 b2 d0 d1 d2 - d2*det a0 a1 a2 b0 b1 b2 c0 c1 c2=m2 a0 a1 a2 b0 b1 b2 c0 c1 c2 d0 d1 d2:=by
 unfold det m2;grind
theorem QK:b2*det c0 c1 c2 d0 d1 d2 a0 a1 a2 - a2*det c0 c1 c2 d0 d1 d2 b0 b1 b2=m2 a0 a1 a2 b0 b1 b2 c0 c1 c2 d0 d1 d2:=by
 unfold det m2;grind
theorem H_:det c0 c1 c2 d0 d1 d2 a0 a1 a2*b0 - det c0 c1 c2 d0 d1 d2 b0 b1 b2*a0=m0 a0 a1 a2 b0 b1 b2 c0 c1 c2 d0 d1 d2:=by
 unfold det m0;grind
theorem Ia:det c0 c1 c2 d0 d1 d2 a0 a1 a2*b1 - det c0 c1 c2 d0 d1 d2 b0 b1 b2*a1=m1 a0 a1 a2 b0 b1 b2 c0 c1 c2 d0 d1 d2:=by
 unfold det m1;grind
theorem Ib:det c0 c1 c2 d0 d1 d2 a0 a1 a2*b2 - det c0 c1 c2 d0 d1 d2 b0 b1 b2*a2=m2 a0 a1 a2 b0 b1 b2 c0 c1 c2 d0 d1 d2:=by
 unfold det m2;grind
theorem L0:m0 c0 c1 c2 d0 d1 d2 a0 a1 a2 b0 b1 b2= -m0 a0 a1 a2 b0 b1 b2 c0 c1 c2 d0 d1 d2∧m1 c0 c1 c2 d0 d1 d2 a0 a1 a2 b0 b1 b2= -m1 a0 a1 a2 b0 b1 b2 c0 c1 c2 d0 d1 d2∧m2 c0 c1 c2 d0 d1 d2 a0 a1 a2 b0 b1 b2= -m2 a0 a1 a2 b0 b1 b2 c0 c1 c2 d0 d1 d2:=by
 unfold m0 m1 m2;grind
theorem FJ{x y w:Int}(h:w≠0):sx (-x) (-y) (-w)=sx x y w∧sy (-x) (-y) (-w)=sy x y w∧sw (-x) (-y) (-w)=sw x y w:=
 HZ (by omega) h (by grind) (by grind)
end
end My
namespace L2
open PySem PySem.Spec PyProof.Rows
section
variable{X:Cx}{a b:Expr}{ta tb:TE}{pos:Pos}
theorem aM:gJ X (binaryOp .Mult) (rI IntMulOk fun i j=>.int (i*j)):=Lw fun _ _ _ _ _ _ _ hc q=>mul_int q hc
def C1(_i j:Int):Prop:=j≠0∧j.natAbs.log2<9000
theorem hC:gJ X (binaryOp .FloorDiv) (rI C1 fun i j=>.int (i.fdiv j)):=Lw fun _ _ _ _ _ _ _ hc q=>floordiv_int hc.1 q (.inl (PyProof.noPylong_of_log2 hc.2))
theorem eo:gK X (.builtin "isinstance") (fun xs H Q=>∃x n t k,xs=[x,.ty n]∧kG X.K H x t∧PySem.W.kitOne X.K t (.type n)=some k∧Q (.bl k) H):=by
 intro pins s σ H xs us Q I r h
 obtain⟨x,n,t,k,rfl,ty,e,q⟩:=h
 obtain⟨u,w',rfl,rx,rc⟩:=vals2 r
 cases (show w'=Value.type n from rc)
 exact CI I rx ty e fun tk=>⟨.bl k,H,I.tok tk,rfl,q⟩
end
section
variable{X:Cx}{K:PySem.W.Frag}
end
theorem rH{H:Hp}{p q:Addr}{x z:HO}(h:H p=some x)(hq:H q=none):upd H q z p=some x:=by
 rw[bg (dw h hq)];exact h
theorem iU{H:Hp}{q:Addr}{z:HO}(hq:H q=none):uB H (upd H q z):=fun _ _ h=>rH h hq
theorem Ic{us:List Value}{v:Value}(h:(us++[v]).length=3):∃a b,us=[a,b]:=by
 match us,h with
 |[a,b],_=>exact⟨a,b,rfl⟩
 |[],h=>simp at h
 |[_],h=>simp at h
 |_::_::_::_,h=>simp at h
theorem QL{us:List Value}(h:(us++[]).length=3):∃a b c,us=[a,b,c]:=by
 match us,h with
 |[a,b,c],_=>exact⟨a,b,c,rfl⟩
 |[],h=>simp at h
 |[_],h=>simp at h
 |[_,_],h=>simp at h
 |_::_::_::_::_,h=>simp at h
structure x9(K:PySem.W.Frag)(x qual:Str)(st:Stmt)(f:Addr)(fd:FuncData):Prop where
 ex:∃(oc:Value) (od:Option Addr) (dV kV doc pm:Value) (an:Option Addr) (bL ct:Value) (nQ:Array (Option Value)),
  fd=PySem.W.fnOf x qual (aL st) (aF st) (ao st) dV kV doc pm an bL ct∧K.lookup f=some ⟨oc,od,.func fd,nQ⟩∧PySem.W.codeIn K bL qual=true
 kp:PySem.W.keepIn K (.ref f)=true
section
variable{P:Program}{w:World}{K:PySem.W.Frag}{mg:Str→Option Value}{base:Heap}
theorem x9.ok{x qual:Str}{st:Stmt}{f:Addr}{fd:FuncData}{N ps:List Str}{k:Nat}{sp:Sp}(F:x9 K x qual st f fd)(S:aQ N ps (ao st))(len:∀vs H Q E,sp vs H Q E→vs.length=ps.length)
  (mI:∀(bL:Value) (A:Around) (outer:List Env) (s:Shared) (H:Hp) (vs:List V) (Q:VK) (E:XK),fP k (A.deeper (envOfC qual (ao st) s.heap.objs.size f bL))→sp vs H Q E→
   ∃t,nM (rC dm P w K mg base N qual (ao st) f bL A outer s H E).AA (aF st) t∧t { nx:=fun _ H'=>Q .bF H',rt:=Q } (start N vs) H):bK P w K mg base dm (k+1) f fd ps sp:=by
 obtain⟨oc,od,dV,kV,doc,pm,an,bL,ct,nQ,rfl,lk,sX⟩:=F.ex
 refine HA lk sX S len fun A outer s H vs Q E hr xE=>?_
 obtain⟨t,h,q⟩:=mI bL A outer s H vs Q E hr xE
 exact⟨t,h.AA,q⟩
theorem Ie{x qual:Str}{st:Stmt}{f:Addr}{oc:Value}{od an:Option Addr}{nQ:Array (Option Value)}{dV kV doc pm bL ct:Value}(l:K.lookup f=some ⟨oc,od,.func (PySem.W.fnOf x qual (aL st) (aF st) (ao st) dV kV doc pm an bL ct),nQ⟩)
  (c:PySem.W.codeIn K bL qual=true)(k:PySem.W.keepIn K (.ref f)=true):x9 K x qual st f (PySem.W.fnOf x qual (aL st) (aF st) (ao st) dV kV doc pm an bL ct):=⟨⟨oc,od,dV,kV,doc,pm,an,bL,ct,nQ,rfl,l,c⟩,k⟩
end
end L2
namespace My
open PySem PyProof.Rows
theorem bits_le{k:Nat}{x:Int}(h:Bd k x):PySem.Builtin.Int.intBits x≤k:=by
 unfold PySem.Builtin.Int.intBits
 split
 ·exact Nat.zero_le _
 ·rename_i z
  have z':x.natAbs≠0:=by
   intro e
   apply z
   have:x=0:=by omega
   rw[this];rfl
  have:=(Nat.log2_lt z').mpr h.lt
  omega
theorem QM{x y:Int}{j k:Nat}(hx:Bd j x)(hy:Bd k y)(h:(decide (j≤100000)&&decide (k≤100000))=true):PySem.IntMulOk x y:=by
 rw[Bool.and_eq_true,decide_eq_true_eq,decide_eq_true_eq]at h
 have e:(2:Nat) ^ 20=1048576:=by decide
 exact PySem.IntMulOk.of_bits (by have:=bits_le hx;omega) (by have:=bits_le hy;omega)
theorem L4{x y:Int}(h1: -(2 ^ 64)<x)(h2:x<2 ^ 64):PySem.IntMulOk x y:=PySem.IntMulOk.of_left (PySem.intBits_le_64 h1 h2)
theorem L5{x y:Int}(h1: -(2 ^ 64)<y)(h2:y<2 ^ 64):PySem.IntMulOk x y:=PySem.IntMulOk.of_right (PySem.intBits_le_64 h1 h2)
end My
namespace L2
open PySem PySem.Spec PyProof.Rows
theorem mK:bootBuiltins "abs" =some (.builtin "abs"):=by decide +kernel
theorem fQ:bootBuiltins "len" =some (.builtin "len"):=by decide +kernel
theorem L6:bootBuiltins "max" =some (.builtin "max"):=by decide +kernel
theorem dz:bootBuiltins "isinstance" =some (.builtin "isinstance"):=by decide +kernel
theorem Em:bootBuiltins "int" =some (.type "int"):=by decide +kernel
theorem Bb:bootBuiltins "bool" =some (.type "bool"):=by decide +kernel
theorem x_:bootBuiltins "tuple" =some (.type "tuple"):=by decide +kernel
theorem gN:bootBuiltins "list" =some (.type "list"):=by decide +kernel
def SB(p:Addr)(H H':Hp):Prop:=∀b o,b≠p→H b=some o→H' b=some o
theorem SB.trans{p:Addr}{H H1 H2:Hp}(a:SB p H H1)(b:SB p H1 H2):SB p H H2:=fun c o n h=>b c o n (a c o n h)
def Pl(H:Hp)(p:Addr):Prop:=∃a b:Int,H p=some (.lst [.int a,.int b])∧0≤a∧0≤b
theorem Pl.new{H:Hp}{p:Addr}{a b:Int}(h1: 0≤a)(h2: 0≤b):Pl (upd H p (.lst [.int a,.int b])) p:=⟨a,b,dk,h1,h2⟩
theorem Uc{i j:Int}{k:Nat}(h0:j≠0)(h:My.Bd k j)(hk:(decide (0<k)&&decide (k≤9000))=true):C1 i j:=by
 rw[Bool.and_eq_true,decide_eq_true_eq,decide_eq_true_eq]at hk
 exact⟨h0,Nat.lt_of_lt_of_le (My.Bd.log2 h hk.1) hk.2⟩
end L2
namespace L2
open PySem PySem.Spec PyProof.Rows
def gS(cells:List (Str×Addr)):List (Str×NameKind)→List (Str×Addr)→List (Str×Addr)
 |[],cs=>cs
 |(n,k)::r,cs=>gS cells r (if k==.free then(match cells.lookup n with|some a=>(n,a)::cs|none=>cs)else cs)
theorem nT{env:Env}:∀(names:List (Str×NameKind)) (cs:List (Str×Addr)),(∀y∈names,y.2= .free→∃c,env.cells.lookup y.1=some c)→
  (forIn names cs (fun(x:Str×NameKind) (r:List (Str×Addr))=>(do
   if x.2==.free then
    let a ←cellOf env x.1
    pure (ForInStep.yield ((x.1,a)::r))
   else pure (ForInStep.yield r):Sem (ForInStep (List (Str×Addr))))))=(pure (gS env.cells names cs):Sem _)
 |[],cs,_=>rfl
 |(n,k)::r,cs,h=>by
  rw[List.forIn_cons]
  have hr:∀y∈r,y.2= .free→∃c,env.cells.lookup y.1=some c:=fun y hy=>h y (List.mem_cons_of_mem _ hy)
  by_cases hk:k= .free
  ·subst hk
   obtain⟨c,hc⟩:=h (n,.free) List.mem_cons_self rfl
   have bu:env.cells.lookup n=some c:=hc
   simp only[beq_self_eq_true,if_true,cellOf,bu,pure_bind,gS]
   exact nT r _ hr
  ·have hb:(k==NameKind.free)=false:=by simpa using hk
   simp only[hb,Bool.false_eq_true,if_false,pure_bind,gS]
   exact nT r _ hr
theorem nU{scope:Scope}{env:Env}(h:∀y∈scope.names,y.2= .free→∃c,env.cells.lookup y.1=some c):closureFor scope env=pure (gS env.cells scope.names []):=by
 have e:=nT (env:=env) scope.names [] h
 unfold closureFor
 simp only[bind_pure_comp]at e ⊢
 first
  |(simpa using e)
  |(rw[←e];rfl)
theorem uE{cells:List (Str×Addr)}{x:Str}{c:Addr}:∀{names:List (Str×NameKind)}{cs:List (Str×Addr)},(gS cells names cs).lookup x=some c→(∀c',cs.lookup x=some c'→cells.lookup x=some c')→cells.lookup x=some c
 |[],cs,h,hc=>hc c h
 |(n,k)::r,cs,h,hc=>by
  refine uE (names:=r) h fun c' bu=>?_
  by_cases hk:(k==NameKind.free)=true
  ·rw[if_pos hk]at bu
   cases e:cells.lookup n with
   |none=>rw[e]at bu;exact hc c' bu
   |some a=>
    rw[e]at bu
    by_cases hx:x=n
    ·subst hx
     simp only[List.lookup_cons,beq_self_eq_true]at bu
     rw[e];exact bu
    ·have hb:(x==n)=false:=beq_eq_false_iff_ne.mpr hx
     simp only[List.lookup_cons,hb]at bu
     exact hc c' bu
  ·rw[if_neg hk]at bu
   exact hc c' bu
theorem rJ{cells:List (Str×Addr)}{x:Str}:∀{names:List (Str×NameKind)}{cs:List (Str×Addr)},(∃c,cs.lookup x=some c)→∃c,(gS cells names cs).lookup x=some c
 |[],_,h=>h
 |(n,k)::r,cs,h=>by
  refine rJ (names:=r) ?_
  split
  ·split
   ·rename_i a _
    by_cases hx:x=n
    ·subst hx;exact⟨a,by simp⟩
    ·have hb:(x==n)=false:=beq_eq_false_iff_ne.mpr hx
     simpa[List.lookup_cons,hb]using h
   ·exact h
  ·exact h
theorem nV{cells:List (Str×Addr)}{x:Str}:∀{names:List (Str×NameKind)}{cs:List (Str×Addr)},(x,NameKind.free)∈names→(∃c,cells.lookup x=some c)→∃c,(gS cells names cs).lookup x=some c
 |[],_,h,_=>nomatch h
 |(n,k)::r,cs,h,hc=>by
  rcases List.mem_cons.mp h with e|h
  ·cases e
   refine rJ (names:=r) ?_
   obtain⟨c,hc⟩:=hc
   rw[if_pos (by rfl),hc]
   exact⟨c,by simp⟩
  ·exact nV (names:=r) h hc
theorem xH{prog:Program}{w:World}{A:Around}{R:Result→Shared→Prop}{s:Shared}{elt target iter:Expr}{ifs:List Expr}{scope:Scope}{pos:Pos}{it acc:Value}{env:Env}(I:Nat→Shared→Prop)
  (turn:∀n s,I n s→wpAny (model prog w) A (pyNext it) (fun r bO=>match r with
   |none=>R (.ok .next) bO
   |some v=>wpAny (model prog w) A (letOwnedTupleGo target it v) (fun _ bJ=>wpAny (model prog w) A (assign target env v) (fun _ lS=>
     wpAny (model prog w) A (forIn ifs true fun c r=>if r=true then do let ok ←isTrue c env (eval c env);pure (ForInStep.yield ok)else pure (ForInStep.yield r)) (fun ok uC=>
      if ok=true then wpAny (model prog w) A (eval elt env) (fun x En=>
       wpAny (model prog w) A (call (.builtin "list.append") [acc,x]) (fun _ OI=>∃m,m<n∧I m OI) (fun _ _=>False) En) (fun _ _=>False) uC
      else ∃m,m<n∧I m uC) (fun _ _=>False) lS) (fun _ _=>False) bJ) (fun _ _=>False) bO) (fun _ _=>False) s)
  (n:Nat)(h:I n s):
  codeAny (model prog w) A (.compLoop (.ListComp elt [⟨target,iter,ifs,0⟩] scope pos) 0 it acc env) R s:=by
 refine codeAny_loop rfl I (fun n s hI=>?_) n h
 show wpAny _ A ((compTurn (.ListComp elt [⟨target,iter,ifs,0⟩] scope pos) 0 it acc env).onRaise (fun x=>do noteFrame x env;theTreesLotGoes x)) _ _ s
 refine wpAny_noted ?_
 rw[compTurn_list]
 refine wpAny_bind (wpAny_standAt (wpAny_bind (wpAny_mono (turn n s hI) (fun r bO nG=>?_) fun _ _ h'=>h'.elim)))
 cases r with
 |none=>exact wpAny_pure nG
 |some v=>
  refine wpAny_bind (wpAny_mono nG (fun _ bJ h₀=>?_) fun _ _ h'=>h'.elim)
  refine wpAny_bind (wpAny_mono h₀ (fun _ lS A4=>wpAny_bind (wpAny_mono A4 (fun ok uC Ek=>?_) fun _ _ h'=>h'.elim)) fun _ _ h'=>h'.elim)
  cases ok with
  |false=>exact wpAny_pure ⟨rfl,Ek⟩
  |true=>
   exact wpAny_bind (wpAny_bind (wpAny_mono Ek (fun x En Ud=>wpAny_bind (wpAny_mono Ud (fun _ OI Ue=>wpAny_pure (wpAny_pure ⟨rfl,Ue⟩)) fun _ _ h'=>h'.elim)) fun _ _ h'=>h'.elim))
abbrev Cx.jy(X:Cx)(scope:Scope)(C:Addr)(N':List Str)(bJ:Shared)(di:Hp)(fp:List Addr):Cx:=
 { X with N:=N',bJ:=bJ,di:=di,env:=compEnvC scope (gS X.env.cells scope.names []) C X.env,outer:=X.stack,ex:=fp,fn:=fun _=>false,pn:=[],xe:=fun _ _=>False }
def vc(σ:St)(cap:List (Option Nat)):St:=cap.map fun o=>match o with
 |some i=>(match σ[i]? with|some v=>v|none=>none)
 |none=>none
structure qy(X:Cx)(scope:Scope)(N':List Str)(cap:List (Option Nat)):Prop where
 kind:scope.kind= .function
 C2:∀y∈scope.names,y.2≠.cell
 names:∀y∈scope.names,y.2= .local→scope.names.lookup y.1=some .local
 frees:∀y∈scope.names,y.2= .free→X.env.kindOf y.1=some .cell∨X.env.kindOf y.1=some .free
 len:cap.length=N'.length
 Ug:∀(j i:Nat) (x:Str),cap[j]? =some (some i)→N'[j]? =some x→X.N[i]? =some x∧(x,NameKind.free)∈scope.names
 vis:∀(j i:Nat) (x:Str),cap[j]? =some (some i)→N'[j]? =some x→Cy X.env.scope x
 un:∀(j i:Nat) (x:Str),cap[j]? =some (some i)→N'[j]? =some x→∀z∈scope.names,z.1=x→z.2= .free
def ic(sc scope:Scope)(NN:List Str):List Str→List (Option Nat)→Bool
 |[],[]=>true
 |_::N,none::c=>ic sc scope NN N c
 |x::N,some i::c=>decide (NN[i]? =some x)&&decide ((x,NameKind.free)∈scope.names)&&(decide (sc.names.lookup x=some .local)||decide (sc.names.lookup x=some .cell)||decide (sc.names.lookup x=some .free))&&decide (∀z∈scope.names,z.1=x→z.2= .free)&&ic sc scope NN N c
 |_,_=>false
theorem qz{sc scope:Scope}{NN:List Str}:∀{N':List Str}{cap:List (Option Nat)},ic sc scope NN N' cap=true→cap.length=N'.length
 |[],[],_=>rfl
 |_::_,none::_,h=>congrArg (·+1) (qz (by simpa only[ic]using h))
 |_::_,some _::_,h=>congrArg (·+1) (qz (by simp only[ic,Bool.and_eq_true]at h;exact h.2))
 |[],_::_,h=>by simp[ic]at h
 |_::_,[],h=>by simp[ic]at h
theorem jT{sc scope:Scope}{NN:List Str}:∀{N':List Str}{cap:List (Option Nat)},ic sc scope NN N' cap=true→∀(j i:Nat) (x:Str),cap[j]? =some (some i)→N'[j]? =some x→
  NN[i]? =some x∧(x,NameKind.free)∈scope.names∧Cy sc x∧∀z∈scope.names,z.1=x→z.2= .free
 |[],[],_,j,i,x,e,_=>by simp at e
 |_::_,none::_,h,0,i,x,e,_=>by simp at e
 |_::_,none::_,h,j+1,i,x,e,e'=>jT (by simpa only[ic]using h) j i x (by simpa using e) (by simpa using e')
 |y::_,some k::_,h,0,i,x,e,e'=>by
  simp only[List.getElem?_cons_zero,Option.some.injEq]at e e'
  subst e e'
  simp only[ic,Bool.and_eq_true,Bool.or_eq_true,decide_eq_true_eq]at h
  obtain⟨⟨⟨⟨h1,h2⟩,h3⟩,h4⟩,_⟩:=h
  refine⟨h1,h2,?_,h4⟩
  rcases h3 with(h3|h3)|h3
  ·exact .inl h3
  ·exact .inr (.inl h3)
  ·exact .inr (.inr h3)
 |_::_,some _::_,h,j+1,i,x,e,e'=>jT (by simp only[ic,Bool.and_eq_true]at h;exact h.2) j i x (by simpa using e) (by simpa using e')
 |[],_::_,h,_,_,_,_,_=>by simp[ic]at h
 |_::_,[],h,_,_,_,_,_=>by simp[ic]at h
theorem jK{X:Cx}{sc scope:Scope}{NN N':List Str}{cap:List (Option Nat)}(e:X.env.scope=sc)(eN:X.N=NN)(h1:scope.kind= .function)(h2:∀y∈scope.names,y.2≠.cell)(h3:∀y∈scope.names,y.2= .local→scope.names.lookup y.1=some .local)
  (h4:∀y∈scope.names,y.2= .free→sc.names.lookup y.1=some .cell∨sc.names.lookup y.1=some .free)(h5:ic sc scope NN N' cap=true):qy X scope N' cap:=by
 subst e eN
 exact⟨h1,h2,h3,h4,qz h5,fun j i x a b=>⟨(jT h5 j i x a b).1,(jT h5 j i x a b).2.1⟩,fun j i x a b=>(jT h5 j i x a b).2.2.1,fun j i x a b=>(jT h5 j i x a b).2.2.2⟩
def C3(wi:TI)(cap:List (Option Nat))(g:TG)(tt:TT)(te:TE):TE:=fun σ H Q=>wi σ H fun J H1=>∀l,H1 l=none→
 ∃W:Nat→Nat→St→Hp→Prop,(∃m,W 0 m (vc σ cap) (upd H1 l (.lst [])))∧∀i m τ H2,W i m τ H2→
  (J.stop i H2∧Q (.ref l) H2)∨(J.go i H2∧∃N:St→Hp→Prop,(∀lY H',N lY H'→∃m',m'<m∧W (i+1) m' lY H')∧
   ∀x H',J.Ft i H2 x H'→g x τ H' fun y9 H3=>tt y9 H3 fun b H4=>if b=true then te y9 H4 fun y H5=>∃ys,H5 l=some (.lst ys)∧ys.length<sizeLine∧N y9 (upd H5 l (.lst (ys++[y])))else N y9 H4)
def fB:TT:=fun _ H Q=>Q true H
namespace Zu
set_option allowUnsafeReducibility true in
@[scoped irreducible] def _root_.L2.uF(X:Cx)(ifs:List Expr)(t:TT):Prop:=
 ∀(pins:List (Addr×Obj)) (s:Shared) (σ:St) (H:Hp) (Q:Bool→Hp→Prop),Inv X pins σ H s→t σ H Q→
  wpAny (model X.prog X.w) X.A (forIn ifs true fun c r=>if r=true then do let ok ←isTrue c X.env (eval c X.env);pure (ForInStep.yield ok)else pure (ForInStep.yield r)) (TP X pins σ Q) X.xe s
end Zu
theorem FK{X:Cx}:uF X [] fB:=fun _ _ _ H _ I h=>wpAny_tests_nil ⟨H,I,h⟩
section
variable{X:Cx}{pos:Pos}{elt iter tg:Expr}{ifs:List Expr}{scope:Scope}{N':List Str}{cap:List (Option Nat)}{wi:TI}{g:TG}{tt:TT}{te:TE}
theorem lr{X:Cx}:∀{names:List (Str×NameKind)}{y:Str}{k:NameKind},(names.map fun(n,k)=>if (k==NameKind.free&&X.env.scope.kind==.function&&X.env.kindOf n==some .cell)then(n,NameKind.cell)else(n,k)).lookup y=some k→
  (k= .cell∨k= .free)→(∀z∈names,z.2≠.cell)→(y,NameKind.free)∈names
 |[],_,_,h,_,_=>by simp at h
 |(n,k0)::r,y,k,h,hk,hc=>by
  have hcr:∀z∈r,z.2≠.cell:=fun z hz=>hc z (List.mem_cons_of_mem _ hz)
  have h0:k0≠.cell:=hc (n,k0) List.mem_cons_self
  rw[List.map_cons]at h
  dsimp only at h
  by_cases hy:y=n
  ·subst hy
   have:k0= .free:=by
    by_cases hf:k0= .free
    ·exact hf
    ·exfalso
     have hb:(k0==NameKind.free)=false:=by simpa using hf
     simp only[hb,Bool.false_and,Bool.false_eq_true,if_false,List.lookup_cons,beq_self_eq_true]at h
     cases h
     rcases hk with e|e
     ·exact h0 e
     ·exact hf e
   subst this
   exact List.mem_cons_self
  ·have hb:(y==n)=false:=beq_eq_false_iff_ne.mpr hy
   have h':(r.map fun(n,k)=>if (k==NameKind.free&&X.env.scope.kind==.function&&X.env.kindOf n==some .cell)then(n,NameKind.cell)else(n,k)).lookup y=some k:=by
    split at h<;>simpa only[List.lookup_cons,hb]using h
   exact List.mem_cons_of_mem _ (lr (X:=X) h' hk hcr)
theorem qf{X:Cx}:∀{names:List (Str×NameKind)}{y:Str},(y,NameKind.free)∈names→(∀z∈names,z.1=y→z.2= .free)→∃k,(k=NameKind.cell∨k= .free)∧
  (names.map fun(n,k)=>if (k==NameKind.free&&X.env.scope.kind==.function&&X.env.kindOf n==some .cell)then(n,NameKind.cell)else(n,k)).lookup y=some k
 |[],_,h,_=>nomatch h
 |(n,k0)::r,y,h,hu=>by
  rw[List.map_cons]
  dsimp only
  by_cases hy:y=n
  ·subst hy
   have:k0= .free:=hu (y,k0) List.mem_cons_self rfl
   subst this
   split
   ·exact⟨.cell,.inl rfl,by simp⟩
   ·exact⟨.free,.inr rfl,by simp⟩
  ·have hb:(y==n)=false:=beq_eq_false_iff_ne.mpr hy
   have hm:(y,NameKind.free)∈r:=by
    rcases List.mem_cons.mp h with e|h
    ·cases e;exact absurd rfl hy
    ·exact h
   obtain⟨k,hk,e⟩:=qf (X:=X) hm fun z hz=>hu z (List.mem_cons_of_mem _ hz)
   refine⟨k,hk,?_⟩
   split<;>simpa only[List.lookup_cons,hb]using e
theorem Ig{pins:List (Addr×Obj)}{σ:St}{H:Hp}{s:Shared}{fp:List Addr}{h1:Heap}{m:Str→Option Value}{t':Nat}(B:qy X scope N' cap)
  (I:Inv X pins σ H s)(hf:∀b∈fp,h_ X pins H b)(ho:∀b∈fp,∃o,s.heap.get? b=some o)(keep:∀b o,s.heap.get? b=some o→h1.get? b=some o)(yZ:h1.Ns s.heap.objs.size m):
  Inv (X.jy scope s.heap.objs.size N' s H fp) [] (vc σ cap) H { s with heap:=h1,toks:=t' }:=by
 have I1:Inv X pins σ H { s with heap:=h1,toks:=t' }:=I.kept keep
 have ya:∀y c,(gS X.env.cells scope.names []).lookup y=some c→X.env.cells.lookup y=some c:=fun y c h=>uE h fun c' bu=>by simp at bu
 refine⟨⟨I.ok.mod,B.kind,I.ok.glob,I.ok.blt,Nat.le_refl _,fun y z c e1 e2=>I.ok.inj y z c (ya y c e1) (ya z c e2),fun y hy=>?_,fun y c e _=>absurd e (by simp),I.ok.hd,I.ok.frames,.inl rfl,fun b hb=>⟨?_,fun y c e=>(hf b hb).2.2.2.2.1 y c (ya y c e)⟩,fun b o e=>I.bs b o e,Nat.le_trans I.ok.Av I.sz,fun b o e hb=>?_,fun b hb hs=>?_,I.stack,I.Ay⟩,
  rfl,I.bare,Un.kept keep,⟨m,yZ,fun j y v e1 e2 e3=>?_⟩,fun y c e=>I1.cell y c (ya y c e),I.bh.fresh (Nat.le_refl _),fun y c e=>I.lq y c (ya y c e),fun p hp=>absurd hp (by simp),I1.bh,?_⟩
 ·-- has
  have kA:(y,NameKind.free)∈scope.names:=by
   rcases hy with hy|hy
   ·exact lr (X:=X) (k:=.cell) hy (.inl rfl) B.C2
   ·exact lr (X:=X) (k:=.free) hy (.inr rfl) B.C2
  exact nV kA (I.ok.has y (B.frees (y,.free) kA rfl))
 ·-- fp below AH Uh frame
  obtain⟨o,e⟩:=ho b hb
  exact Nat.ne_of_lt (Heap.lt_size e)
 ·-- base
  rcases(hf b hb).2.2.2.1 with z|z
  ·exact I.ok.Aw b o e z
  ·exact absurd (Nat.lt_of_lt_of_le (Heap.lt_size e) (Nat.le_trans I.ok.Av z)) (Nat.lt_irrefl _)
 ·-- frames
  rcases List.mem_cons.mp (I.yQ b hs)with z|z
  ·exact(hf b hb).2.1 z
  ·exact(hf b hb).2.2.1 z
 ·-- S7 values
  have hc:∃i,cap[j]? =some (some i)∧σ[i]? =some (some v):=by
   unfold vc at e2
   rw[List.getElem?_map]at e2
   cases e:cap[j]? with
   |none=>rw[e]at e2;cases e2
   |some o=>
    rw[e]at e2
    cases o with
    |none=>simp at e2
    |some i=>
     refine⟨i,rfl,?_⟩
     simp only[Option.map_some,Option.some.injEq]at e2
     cases q:σ[i]? with
     |none=>rw[q]at e2;cases e2
     |some w=>
      rw[q]at e2
      have jY:w=some v:=e2
      rw[jY]
  obtain⟨i,hi,hv⟩:=hc
  obtain⟨hN,sW⟩:=B.Ug j i y hi e1
  obtain⟨m1,_,hl⟩:=I1.loc
  obtain⟨u,r,l⟩:=hl i y v hN hv (B.vis j i y hi e1)
  refine⟨u,r,.inr ?_⟩
  obtain⟨k,hk,ek⟩:=qf (X:=X) sW (B.un j i y hi e1)
  have yR:∃c,X.env.cells.lookup y=some c∧h1.IsCell c (some u):=by
   rcases l with⟨k1,_⟩|⟨_,c,e,z⟩
   ·rcases B.frees (y,.free) sW rfl with q|q
    ·rw[show X.env.kindOf y=some NameKind.local from k1]at q;cases q
    ·rw[show X.env.kindOf y=some NameKind.local from k1]at q;cases q
   ·exact⟨c,e,z⟩
  obtain⟨c,ec,zc⟩:=yR
  obtain⟨c',Ui⟩:=nV (cs:=[]) sW ⟨c,ec⟩
  have:c'=c:=by have:=ya y c' Ui;rw[ec]at this;cases this;rfl
  subst this
  refine⟨?_,c',Ui,zc⟩
  rcases hk with rfl|rfl
  ·exact .inl ek
  ·exact .inr ek
 ·show(vc σ cap).length=N'.length
  unfold vc
  rw[List.length_map];exact B.len
theorem wo{RR:Value→Addr→Result→Shared→Prop}{pins:List (Addr×Obj)}{σ:St}{H2:Hp}{s2:Shared}{it:Addr}{fp:List Addr}{tn:Nat→Heap→Prop}{J:It}{Q:VK}(B:qy X scope N' cap)(hc:X.calm=true)
  (hg:∀C bJ di fp,PG (X.jy scope C N' bJ di fp) tg g)(ht:∀C bJ di fp,uF (X.jy scope C N' bJ di fp) ifs tt)(he:∀C bJ di fp,PE (X.jy scope C N' bJ di fp) elt te)
  (I2:Inv X pins σ H2 s2)(T:Turn X.prog X.w X.K tg J fp it tn)(mG:tn 0 s2.heap)(f2:∀b∈fp,h_ X pins H2 b)
  (wq:∀l,H2 l=none→∃W:Nat→Nat→St→Hp→Prop,(∃m,W 0 m (vc σ cap) (upd H2 l (.lst [])))∧∀i m τ H2,W i m τ H2→
   (J.stop i H2∧Q (.ref l) H2)∨(J.go i H2∧∃N:St→Hp→Prop,(∀lY H',N lY H'→∃m',m'<m∧W (i+1) m' lY H')∧
    ∀x H',J.Ft i H2 x H'→g x τ H' fun y9 H3=>tt y9 H3 fun b H4=>if b=true then te y9 H4 fun y H5=>∃ys,H5 l=some (.lst ys)∧ys.length<sizeLine∧N y9 (upd H5 l (.lst (ys++[y])))else N y9 H4))
  (fin:∀(D C:Addr) (o:Obj) (m:Str→Option Value) (H5:Hp) (s5:Shared),Inv X pins σ H5 s5→h_ X pins H5 C→s5.heap.get? C=some o→(∀v,o.data≠.cell v)→s5.heap.Ns C m→Q (.ref D) H5→RR (.ref D) C (.ok .next) s5):
  wpAny (model X.prog X.w) X.A (newList []) (fun acc uC=>wpAny (model X.prog X.w) X.A (newFunctionEnv scope X.env.globals (gS X.env.cells scope.names []) [] X.env.qual none .none (some X.env)) (fun OJ En=>
   codeAny (model X.prog X.w) X.A (.compStart (.ListComp elt [⟨tg,iter,ifs,0⟩] scope pos) 0 (.ref it) acc { OJ with scope:=relabel scope X.env }) (RR acc OJ.locals) En) X.xe uC) X.xe s2:=by
 refine wpAny_newObj_type (wpAny_newFunctionEnv B.C2 (by intro y hy;simp at hy) (fun nG y_ Eo=>?_) B.kind)
 dsimp only at y_ Eo ⊢
 have I3:Inv X pins σ (upd H2 s2.heap.objs.size (.lst [])) { s2 with heap:=s2.heap.push { cls:=.type "list",dict:=none,data:=.seq ([]:List Value).toArray } }:=I2.OG (t':=s2.toks) (its:=[]) (ys:=[]) .nil (Nat.zero_le _)
 have hD:H2 s2.heap.objs.size=none:=I2.fresh
 have Uj:∀b∈fp,b≠s2.heap.objs.size:=fun b hb=>by
  obtain⟨o,e,_⟩:=T.obj 0 _ mG b hb
  exact Nat.ne_of_lt (Heap.lt_size e)
 have f3:∀b∈fp,h_ X pins (upd H2 s2.heap.objs.size (.lst [])) b:=fun b hb=>⟨by rw[bg (Uj b hb)];exact(f2 b hb).1,(f2 b hb).2⟩
 obtain⟨W,⟨m0,w0⟩,turn⟩:=wq s2.heap.objs.size hD
 generalize Uk:({ s2 with heap:=s2.heap.push { cls:=.type "list",dict:=none,data:=.seq ([]:List Value).toArray } }:Shared)=s3 at I3
 have L7:s3.heap=s2.heap.push { cls:=.type "list",dict:=none,data:=.seq ([]:List Value).toArray }:=by rw[←Uk]
 have keep:∀b o,s3.heap.get? b=some o→nG.get? b=some o:=fun b o e=>by
  have fZ:=Heap.lt_size e
  rw[L7]at e fZ
  exact Eo.extBut b o (Nat.ne_of_lt fZ) (Heap.get?_push_of_some _ e)
 have ho3:∀b∈fp,∃o,s3.heap.get? b=some o:=fun b hb=>by
  obtain⟨o,e,_⟩:=T.obj 0 _ mG b hb
  exact⟨o,by rw[L7];exact Heap.get?_push_of_some _ e⟩
 have Ul:s3.heap.objs.size=(s2.heap.push { cls:=.type "list",dict:=none,data:=.seq ([]:List Value).toArray }).objs.size:=by rw[L7]
 rw[←Ul]at y_ ⊢
 have J0:Inv (X.jy scope s3.heap.objs.size N' s3 (upd H2 s2.heap.objs.size (.lst [])) fp) [] (vc σ cap) (upd H2 s2.heap.objs.size (.lst [])) { s3 with heap:=nG,toks:=s3.toks }:=Ig (t':=s3.toks) B I3 f3 ho3 keep y_
 have Um:tn 0 nG:=T.keep 0 s2.heap nG mG fun b hb o e=>keep b o (by rw[L7];exact Heap.get?_push_of_some _ e)
 have es:({ s2 with heap:=nG,toks:=s2.toks+([]:List (Str×Value)).length }:Shared)= { s3 with heap:=nG,toks:=s3.toks }:=by
  rw[←Uk];rfl
 have QN:∀{s5:Shared}{H5:Hp}{Uo:St},Inv (X.jy scope s3.heap.objs.size N' s3 (upd H2 s2.heap.objs.size (.lst [])) fp) [] Uo H5 s5→Inv X pins σ H5 s5:=fun {s5 H5 Uo} J5=>
  I3.PZ (ch:=fp) J5.os J5.base J5.bh J5.bare fun b hb=>⟨(f3 b hb).2.2.2.1,(f3 b hb).2.1,(f3 b hb).2.2.2.2.1,(f3 b hb).2.2.2.2.2⟩
 have QP:∀{H':Hp},(∀b∈fp,H' b=none)→∀b∈fp,h_ (X.jy scope s3.heap.objs.size N' s3 (upd H2 s2.heap.objs.size (.lst [])) fp) [] H' b:=fun {H'} hn b hb=>
  ⟨hn b hb,(J0.ok.KZ b hb).1,J0.ok.Ax b hb,.inl hb,(J0.ok.KZ b hb).2,fun p hp=>absurd hp (by simp)⟩
 have loop:codeAny (model X.prog X.w) X.A (.compLoop (.ListComp elt [⟨tg,iter,ifs,0⟩] scope pos) 0 (.ref it) (.ref s2.heap.objs.size) (compEnvC scope (gS X.env.cells scope.names []) s3.heap.objs.size X.env))
   (RR (.ref s2.heap.objs.size) s3.heap.objs.size) { s3 with heap:=nG,toks:=s3.toks }:=by
  refine xH (fun n s'=>∃i τ H',Inv (X.jy scope s3.heap.objs.size N' s3 (upd H2 s2.heap.objs.size (.lst [])) fp) [] τ H' s'∧tn i s'.heap∧(∀b∈fp,H' b=none)∧W i n τ H') ?_ m0 ⟨0,_,_,J0,Um,fun b hb=>(f3 b hb).1,w0⟩
  rintro n s4 ⟨i,τ,H4,J4,Uq,Ur,w4⟩
  rcases turn i n τ H4 w4 with⟨stop,q⟩|⟨go,N,hN,step⟩
  ·refine wpAny_mono (T.done (X.jy scope s3.heap.objs.size N' s3 (upd H2 s2.heap.objs.size (.lst [])) fp) rfl rfl rfl hc i [] s4 τ H4 (fun _ _=>False) J4 (QP Ur) Uq stop) (fun r s5 ⟨hr,J5⟩=>?_) (fun _ _ f=>f)
   subst hr
   obtain⟨m5,Us,_⟩:=J5.loc
   have I5:Inv X pins σ H4 s5:=QN J5
   obtain⟨o5,es5,ep5,ho5,hd5,_⟩:=id Us
   refine fin _ _ o5 m5 H4 s5 I5 ⟨J5.free,fun e=>?_,I3.Ot (Nat.le_refl _),.inr I3.sz,fun y c e z=>?_,fun p hp z=>?_⟩ ho5 (fun v e=>?_) Us q
   ·have:=I3.lt
    rw[←e]at this
    exact Nat.lt_irrefl _ this
   ·obtain⟨v,o,K7,_⟩:=I3.cell y c e
    have:=Heap.lt_size K7
    rw[z]at this
    exact Nat.lt_irrefl _ this
   ·have:=Heap.lt_size (I3.pin p hp).1
    rw[z]at this
    exact Nat.lt_irrefl _ this
   ·rw[hd5]at e;cases e
  ·refine wpAny_mono (T.item (X.jy scope s3.heap.objs.size N' s3 (upd H2 s2.heap.objs.size (.lst [])) fp) rfl rfl rfl hc i [] s4 τ H4 (fun _ _=>False) J4 (QP Ur) Uq go) (fun r s5 ⟨u,hr,h5⟩=>?_) (fun _ _ f=>f)
   subst hr
   refine wpAny_mono h5 (fun _ s6 ⟨xv,H6,J6,r6,y6,QQ,fr6⟩=>?_) (fun _ _ f=>f)
   have J6':=J6.pinned (QP fr6) (T.obj _ _ QQ)
   have again:∀{s7:Shared}{xI:St}{H7:Hp},Inv (X.jy scope s3.heap.objs.size N' s3 (upd H2 s2.heap.objs.size (.lst [])) fp) ([]++rh fp s6.heap) xI H7 s7→N xI H7→∃m,m<n∧∃i τ H',Inv (X.jy scope s3.heap.objs.size N' s3 (upd H2 s2.heap.objs.size (.lst [])) fp) [] τ H' s7∧tn i s7.heap∧(∀b∈fp,H' b=none)∧W i m τ H':=fun {s7 xI H7} J7 n7=>by
    obtain⟨m',hm,w7⟩:=hN xI H7 n7
    refine⟨m',hm,i+1,xI,H7,J7.lU,T.keep _ _ _ QQ fun b hb o e=>(J7.pin (b,o) (List.mem_append_right _ (List.mem_append_right _ (kF hb e)))).1,fun b hb=>?_,w7⟩
    obtain⟨o,e,d⟩:=T.obj _ _ QQ b hb
    exact(J7.pin (b,o) (List.mem_append_right _ (List.mem_append_right _ (kF hb e)))).2.1
   refine wpAny_mono (hg s3.heap.objs.size s3 (upd H2 s2.heap.objs.size (.lst [])) fp _ s6 τ H6 xv u _ J6' r6 (step xv H6 y6)) (fun _ s7 ⟨xI,H7,J7,q7⟩=>?_) (fun _ _ f=>f)
   refine wpAny_mono (ht s3.heap.objs.size s3 (upd H2 s2.heap.objs.size (.lst [])) fp _ s7 xI H7 _ J7 q7) (fun ok s8 ⟨H8,J8,q8⟩=>?_) (fun _ _ f=>f)
   cases ok with
   |false=>
    rw[if_neg (by decide)]at q8 ⊢
    exact again J8 q8
   |true=>
    rw[if_pos rfl]at q8 ⊢
    refine wpAny_mono (he s3.heap.objs.size s3 (upd H2 s2.heap.objs.size (.lst [])) fp _ s8 xI H8 _ J8 q8) (fun yv s9 ⟨y,H9,J9,r9,q9⟩=>?_) (fun _ _ f=>f)
    obtain⟨ys,hl,hz,n9⟩:=q9
    exact wpAny_mono (eA (X:=X.jy scope s3.heap.objs.size N' s3 (upd H2 s2.heap.objs.size (.lst [])) fp) _ s9 xI H9 (.ref s2.heap.objs.size) [y] (.ref s2.heap.objs.size) [yv] (fun _ H'=>N xI H') J9 rfl (.cons r9 .nil) ⟨_,ys,y,rfl,rfl,hl,hz,n9⟩) (fun _ s10 ⟨_,H10,J10,_,n10⟩=>again J10 n10) (fun _ _ f=>f)
 rw[es]
 exact codeAny_compStart_list loop (T.self _ 0 _ _ _ Um loop)
theorem Ih(B:qy X scope N' cap)(hc:X.calm=true)
  (hi:PI X tg iter wi)(hg:∀C bJ di fp,PG (X.jy scope C N' bJ di fp) tg g)(ht:∀C bJ di fp,uF (X.jy scope C N' bJ di fp) ifs tt)(he:∀C bJ di fp,PE (X.jy scope C N' bJ di fp) elt te)
  (hs:∀x,foldedSetIterable iter X.env x=pure x:=by intro _;rfl):
  PE X (.ListComp elt [⟨tg,iter,ifs,0⟩] scope pos) (C3 wi cap g tt te):=by
 intro pins s σ H Q I h
 rw[eval_ListComp]
 refine wpAny_comprehension_free (use:=none) rfl hs (nU fun y hy hf=>I.ok.has y.1 (B.frees y hy hf)) B.kind B.names ?_
 refine bZ (hi pins s σ H _ I h) fun v s1 h1=>bZ h1 fun Lr s2 h2=>?_
 obtain⟨it,fp,tn,J,H2,e,I2,T,mG,f2,wq⟩:=h2
 subst e
 refine wo (RR:=fun acc C=>compPost (model X.prog X.w) X.A X.xe none (EP X pins σ Q) acc C) B hc hg ht he I2 T mG f2 wq fun D C o m H5 s5 I5 f5 ho hd hn q=>?_
 refine⟨m,hn,fun h' Ii=>?_⟩
 exact⟨.ref D,H5,I5.turned (t':=s5.toks) (it:=C) (fun b o hb e=>Ii.extBut b o hb e) f5.1 (fun e=>f5.2.1 e) f5.2.2.2.1 f5.2.2.2.2.1 f5.2.2.2.2.2,rfl,q⟩
theorem Ij{i:Nat}{y:Str}{py Bc:Pos}(B:qy X scope N' cap)(hc:X.calm=true)
  (hi:PI X tg iter wi)(hg:∀C bJ di fp,PG (X.jy scope C N' bJ di fp) tg g)(ht:∀C bJ di fp,uF (X.jy scope C N' bJ di fp) ifs tt)(he:∀C bJ di fp,PE (X.jy scope C N' bJ di fp) elt te)
  (hN:X.N.Nodup)(QR:X.N[i]? =some y)(hy:Loc X.env.scope y)(QU:swapsWith (.ListComp elt [⟨tg,iter,ifs,0⟩] scope pos) (some (.Name y py)) Bc.line X.env=pure true)
  (hf:X.fn y=true∨X.env.scope.names.lookup y=some .local:=by first|exact .inl rfl|exact .inr rfl|assumption)
  (hs:∀x,foldedSetIterable iter X.env x=pure x:=by intro _;rfl):
  PS X (.Assign [.Name y py] (.ListComp elt [⟨tg,iter,ifs,0⟩] scope pos) Bc) (Hl (C3 wi cap g tt te) (av i)):=by
 intro pins s σ H D I h
 rw[exec_Assign_Name_used _ _ _ _ QU]
 refine wpAny_bind (wpAny_standAt (wpAny_bind ?_))
 show wpAny _ X.A (do let _ ←comprehension (.ListComp elt [⟨tg,iter,ifs,0⟩] scope pos) scope X.env _ (newList []) false (eval iter X.env) (some (assign (.Name y py) X.env))) _ _ s
 refine wpAny_bind (wpAny_mono (wpAny_comprehension_free (use:=some (assign (.Name y py) X.env)) (Q:=fun _ s'=>SP X pins D .next s') rfl hs (nU fun y hy hf=>I.ok.has y.1 (B.frees y hy hf)) B.kind B.names
  (bZ (hi pins s σ H _ I h) fun v s1 h1=>bZ h1 fun Lr s2 h2=>?_)) (fun _ s' hq=>wpAny_pure (wpAny_pure hq)) fun _ _ e=>e)
 obtain⟨it,fp,tn,J,H2,e,I2,T,mG,f2,wq⟩:=h2
 subst e
 refine wo (Q:=fun v H'=>av i v σ H' D.nx) (RR:=fun acc C=>compPost (model X.prog X.w) X.A X.xe (some (assign (.Name y py) X.env)) (fun _ s'=>SP X pins D .next s') acc C) B hc hg ht he I2 T mG f2 wq fun D' C o m H5 s5 I5 f5 ho hd hn q=>?_
 show wpAny _ X.A (assign (.Name y py) X.env (.ref D')) _ _ _
 have Qb:Inv X (pins++[(C,o)]) σ H5 s5:=I5.vT fun p hp=>by
  rcases List.mem_append.mp hp with z|z
  ·exact I5.pin p (List.mem_append_right _ z)
  ·have:p=(C,o):=by simpa using z
   subst this
   exact⟨ho,f5.1,f5.2.1,f5.2.2.1,hd⟩
 refine bZ (AD (pos:=py) hN QR hy hf (pins++[(C,o)]) s5 σ H5 (.ref D') (.ref D') _ Qb rfl q) fun _ s6 ⟨Qc,H6,I6,q6⟩=>?_
 obtain⟨e6,n6,_⟩:=I6.pin (C,o) (List.mem_append_right _ (List.mem_append_right _ List.mem_cons_self))
 have hn6:s6.heap.Ns C m:=by
  obtain⟨o',es,ep,q1,r⟩:=hn
  rw[ho]at q1;cases q1
  exact⟨o,es,ep,e6,r⟩
 refine⟨m,hn6,fun h' Ii=>⟨Qc,H6,I6.lU.turned (t':=s6.toks) (it:=C) (fun b o hb e=>Ii.extBut b o hb e) n6 f5.2.1 f5.2.2.2.1 f5.2.2.2.2.1 f5.2.2.2.2.2,q6⟩⟩
end
end L2
namespace L2
open PySem PySem.Spec PyProof.Rows
end L2
namespace L2
open PySem PySem.Spec PyProof.Rows
end L2
namespace L2
open PySem PySem.Spec PyProof.Rows
mutual
inductive kB(K:PySem.W.Frag)(H:Hp):V→PyData→Prop
 |bF:kB K H .bF .none
 |bl (b:Bool):kB K H (.bl b) (.bool b)
 |int (i:Int):kB K H (.int i) (.int i)
 |str (x:Str):kB K H (.str x) (.str x)
 |tup {p:Addr}{xs:List V}{ds:List PyData}:dj K H p xs→tm K H xs ds→kB K H (.ref p) (.tuple ds)
 |lst {p:Addr}{xs:List V}{ds:List PyData}:cy K H p xs→tm K H xs ds→kB K H (.ref p) (.list ds)
inductive tm(K:PySem.W.Frag)(H:Hp):List V→List PyData→Prop
 |nil:tm K H [] []
 |cons {x:V}{xs:List V}{d:PyData}{ds:List PyData}:kB K H x d→tm K H xs ds→tm K H (x::xs) (d::ds)
end
section
variable{X:Cx}{pins:List (Addr×Obj)}{σ:St}{H:Hp}{s:Shared}
mutual
theorem kB.reads(I:Inv X pins σ H s):∀{x:V}{d:PyData},kB X.K H x d→∀{v:Value},RelV x v→∃as,Reads s.heap v d as
 |_,_,.bF,v,r=>by cases (show v=Value.none from r);exact⟨_,.none⟩
 |_,_,.bl b,v,r=>by cases (show v=Value.bool b from r);exact⟨_,.bool b⟩
 |_,_,.int i,v,r=>by
  obtain⟨t,e⟩:=(show ∃t,v=Value.int i t from r)
  cases e
  exact⟨_,.int i t⟩
 |_,_,.str x,v,r=>by
  obtain⟨t,e⟩:=(show ∃t,v=Value.str x t from r)
  cases e
  exact⟨_,.str x t⟩
 |_,_,.tup (p:=p) h a,v,r=>by
  cases (show v=Value.ref p from r)
  obtain⟨its,hv,⟨o,ho,hc,n,hd⟩,_⟩:=I.tuple h
  obtain⟨as,ra⟩:=tm.reads I a hv
  exact⟨as,.tuple ho hc hd (by simpa using ra)⟩
 |_,_,.lst (p:=p) h a,v,r=>by
  cases (show v=Value.ref p from r)
  obtain⟨its,hv,pl,_⟩:=I.list h
  obtain⟨o,ho,hc,n,hd⟩:=pl.isList
  obtain⟨as,ra⟩:=tm.reads I a hv
  exact⟨_,.list ho hc hd (by simpa using ra)⟩
theorem tm.reads(I:Inv X pins σ H s):∀{xs:List V}{ds:List PyData},tm X.K H xs ds→∀{us:List Value},Vals xs us→∃as,ReadsAll s.heap us ds as
 |_,_,.nil,_,.nil=>⟨_,.nil⟩
 |_,_,.cons h a,_,.cons r t=>by
  obtain⟨as,ra⟩:=kB.reads I h r
  obtain⟨bs,rb⟩:=tm.reads I a t
  exact⟨_,.cons ra rb⟩
end
end
def uG(K:PySem.W.Frag)(neg:Bool):R2:=fun x y H Q=>∃d e,kB K H x d∧kB K H y e∧SeqAt.shaped d=true∧SeqAt.shaped e=true∧Q (.bl (if neg then !PyData.eqv d e else PyData.eqv d e)) H
section
variable{X:Cx}
theorem L8(hu:X.A.units+64<cLine):gJ X (compareOp .Eq) (uG X.K false):=by
 intro pins s σ H x y v u Q I rx ry h
 obtain⟨d,e,h1,h2,s1,s2,q⟩:=h
 obtain⟨as,ra⟩:=h1.reads I rx
 obtain⟨bs,rb⟩:=h2.reads I ry
 exact eq_dataH ra rb s1 s2 hu ⟨.bl (PyData.eqv d e),H,I,rfl,q⟩
theorem L9(hu:X.A.units+64<cLine):gJ X (compareOp .NotEq) (uG X.K true):=by
 intro pins s σ H x y v u Q I rx ry h
 obtain⟨d,e,h1,h2,s1,s2,q⟩:=h
 obtain⟨as,ra⟩:=h1.reads I rx
 obtain⟨bs,rb⟩:=h2.reads I ry
 exact ne_dataH ra rb s1 s2 hu ⟨.bl (!PyData.eqv d e),H,I,rfl,q⟩
end
section
variable{X:Cx}
end
end L2
namespace Qm
open PySem
noncomputable section
inductive D where
 |bF|bl(b:Bool)|int(i:Int)|str(x:Str)|tup(xs:List D)|ref(n:Nat)|ty(n:String)|adr(a:Nat)
inductive Cell where
 |lst(xs:List D)
 |ro(xs:List D)
 |vd(ps:List (Str×D))
 |FL(ps:List (Str×D))
 |tp(ps:List (List Int×D))
 |gP(ps:List (List (List Int)×D))
 |jZ(ps:List (List (List Int)×D))
def Cell.mt:Cell→Bool
 |.ro _=>false
 |.FL _=>false
 |.jZ _=>false
 |_=>true
abbrev Cells:=List Cell
abbrev Env:=List (Option D)
abbrev XE:=Env→Cells→Option (D×Cells)
abbrev XA:=Env→Cells→Option (List D×Cells)
abbrev XT:=Env→Cells→Option (Bool×Cells)
abbrev XO:=Env→Cells→Option (Option Int×Cells)
inductive Fl where
 |nx|rt(d:D)|bk|ct
abbrev XS:=Env→Cells→Option (Fl×Env×Cells)
abbrev XG:=D→Env→Cells→Option (Env×Cells)
abbrev xJ:=List D→Env→Cells→Option (Env×Cells)
abbrev FN:=List D→Cells→Option (D×Cells)
structure Itm where
 ds:List D
 ks:List (Nat×Cell)
abbrev XI:=Env→Cells→Option (Itm×Cells)
abbrev G1:=D→Cells→Option (D×Cells)
abbrev G2:=D→D→Cells→Option (D×Cells)
def cR:Nat:=Classical.choose (⟨10000000,rfl⟩:∃n:Nat,n=10000000)
theorem dR:cR=10000000:=Classical.choose_spec (⟨10000000,rfl⟩:∃n:Nat,n=10000000)
def eC(d:D):XE:=fun _ c=>some (d,c)
def eV(i:Nat):XE:=fun σ c=>(σ[i]?.join).bind fun d=>some (d,c)
def e1(g:G1)(a:XE):XE:=fun σ c=>(a σ c).bind fun p=>g p.1 p.2
def e2(g:G2)(a b:XE):XE:=fun σ c=>(a σ c).bind fun p=>(b σ p.2).bind fun q=>g p.1 q.1 q.2
def kC(d:D):Option Bool:=match d with
 |.bl b=>some b
 |_=>none
def uH(a b:XE):XE:=fun σ c=>(a σ c).bind fun p=>(kC p.1).bind fun k=>if k=true then b σ p.2 else some (.bl false,p.2)
def eOr(a b:XE):XE:=fun σ c=>(a σ c).bind fun p=>(kC p.1).bind fun k=>if k=true then some (.bl true,p.2)else b σ p.2
def uI(a:XE):XE:=fun σ c=>(a σ c).bind fun p=>(kC p.1).bind fun k=>some (.bl (!k),p.2)
def xK(t:XT)(a b:XE):XE:=fun σ c=>(t σ c).bind fun p=>if p.1=true then a σ p.2 else b σ p.2
def ag:XA:=fun _ c=>some ([],c)
def ae(a:XE)(r:XA):XA:=fun σ c=>(a σ c).bind fun p=>(r σ p.2).bind fun q=>some (p.1::q.1,q.2)
def dI(a:XA):XE:=fun σ c=>(a σ c).bind fun p=>if p.1.length≤cR then some (.tup p.1,p.2)else none
def fC(a:XA):XE:=fun σ c=>(a σ c).bind fun p=>if p.1.length≤cR then some (.ref p.2.length,p.2++[.lst p.1])else none
def aq(F:FN)(ds:List D)(a:XA):XE:=fun σ c=>(a σ c).bind fun p=>F (p.1++ds) p.2
def eB(F:FN)(a:XA):XE:=fun σ c=>(a σ c).bind fun p=>F p.1 p.2
def f_:XO:=fun _ c=>some (none,c)
def dO(a:XE):XO:=fun σ c=>(a σ c).bind fun p=>match p.1 with
 |.int i=>some (some i,p.2)
 |_=>none
def lZ(g:D→Option Int→Option Int→Cells→Option (D×Cells))(a:XE)(lo hi:XO):XE:=fun σ c=>(a σ c).bind fun p=>(lo σ p.2).bind fun l=>(hi σ l.2).bind fun h=>g p.1 l.1 h.1 h.2
def L_(g h:G2)(a b d:XE):XE:=fun σ c=>(a σ c).bind fun p=>(b σ p.2).bind fun q=>(g p.1 q.1 q.2).bind fun z=>(kC z.1).bind fun k=>
 if k=true then(d σ z.2).bind fun u=>h q.1 u.1 u.2 else some (.bl false,z.2)
def tV(a:XE):XT:=fun σ c=>(a σ c).bind fun p=>(kC p.1).bind fun k=>some (k,p.2)
def iN(a b:XT):XT:=fun σ c=>(a σ c).bind fun p=>if p.1=true then b σ p.2 else some (false,p.2)
def jX(a b:XT):XT:=fun σ c=>(a σ c).bind fun p=>if p.1=true then some (true,p.2)else b σ p.2
def eI(a:XT):XT:=fun σ c=>(a σ c).bind fun p=>some (!p.1,p.2)
def bA:XS:=fun σ c=>some (.nx,σ,c)
def ay(a b:XS):XS:=fun σ c=>(a σ c).bind fun p=>match p.1 with
 |.nx=>b p.2.1 p.2.2
 |_=>some p
def aH(i:Nat)(e:XE):XS:=fun σ c=>(e σ c).bind fun p=>some (.nx,σ.set i (some p.1),p.2)
def rK(e:XE)(g:XG):XS:=fun σ c=>(e σ c).bind fun p=>(g p.1 σ p.2).bind fun q=>some (.nx,q.1,q.2)
def qg(is:List Nat)(a:XA):XS:=fun σ c=>(a σ c).bind fun p=>if p.1.length=is.length then some (.nx,(is.zip p.1).foldl (fun σ q=>σ.set q.1 (some q.2)) σ,p.2)else none
def cM(t:XT)(a b:XS):XS:=fun σ c=>(t σ c).bind fun p=>if p.1=true then a σ p.2 else b σ p.2
def aT(e:XE):XS:=fun σ c=>(e σ c).bind fun p=>some (.rt p.1,σ,p.2)
def cC(e:XE):XS:=fun σ c=>(e σ c).bind fun p=>some (.nx,σ,p.2)
def av(i:Nat):XG:=fun d σ c=>some (σ.set i (some d),c)
def cW:xJ:=fun ds σ c=>match ds with
 |[]=>some (σ,c)
 |_=>none
def aK(g:XG)(r:xJ):xJ:=fun ds σ c=>match ds with
 |d::t=>(g d σ c).bind fun p=>r t p.1 p.2
 |[]=>none
def cX(n:Nat)(g:xJ):XG:=fun d σ c=>match d with
 |.tup xs=>if xs.length=n then g xs σ c else none
 |_=>none
def stays(ks:List (Nat×Cell))(c:Cells):Prop:=∀p∈ks,c[p.1]? =some p.2
open Classical in
def ie(ks:List (Nat×Cell))(g:XG)(body:XS):List D→XS
 |[],σ,c=>if stays ks c then some (.nx,σ,c)else none
 |d::r,σ,c=>if stays ks c then(g d σ c).bind fun p=>(body p.1 p.2).bind fun q=>(match q.1 with
   |.nx=>ie ks g body r q.2.1 q.2.2
   |.ct=>ie ks g body r q.2.1 q.2.2
   |.bk=>some (.nx,q.2.1,q.2.2)
   |.rt d=>some (.rt d,q.2.1,q.2.2))else none
def dJ(it:XI)(g:XG)(body:XS):XS:=fun σ c=>(it σ c).bind fun p=>ie p.1.ks g body p.1.ds σ p.2
def ji(t:XT)(b:XS):Nat→XS
 |0,_,_=>none
 |n+1,σ,c=>(t σ c).bind fun p=>if p.1=true then(b σ p.2).bind fun q=>(match q.1 with
   |.nx=>ji t b n q.2.1 q.2.2
   |.ct=>ji t b n q.2.1 q.2.2
   |.bk=>some (.nx,q.2.1,q.2.2)
   |.rt d=>some (.rt d,q.2.1,q.2.2))else some (.nx,σ,p.2)
open Classical in
def dP(t:XT)(b:XS):XS:=fun σ c=>if h:∃n r,ji t b n σ c=some r then ji t b (Classical.choose h) σ c else none
def qh(σ:Env)(cap:List (Option Nat)):Env:=cap.map fun o=>match o with
 |some i=>(match σ[i]? with|some v=>v|none=>none)
 |none=>none
open Classical in
def gz(L:Nat)(ks:List (Nat×Cell))(g:XG)(tt:XT)(te:XE):List D→Env→Cells→Option Cells
 |[],_,c=>if stays ks c then some c else none
 |d::r,τ,c=>if stays ks c then(g d τ c).bind fun p=>(tt p.1 p.2).bind fun b=>if b.1=true then(te p.1 b.2).bind fun y=>
   (match y.2[L]? with
    |some (.lst ys)=>if ys.length<cR then gz L ks g tt te r p.1 (y.2.set L (.lst (ys++[y.1])))else none
    |_=>none)else gz L ks g tt te r p.1 b.2 else none
def ed(it:XI)(cap:List (Option Nat))(g:XG)(tt:XT)(te:XE):XE:=fun σ c=>(it σ c).bind fun p=>
 (gz p.2.length p.1.ks g tt te p.1.ds (qh σ cap) (p.2++[.lst []])).bind fun c'=>some (.ref p.2.length,c')
def fB:XT:=fun _ c=>some (true,c)
def ef(n N:Nat)(b:XS):FN:=fun ds c=>if ds.length=n then(b (ds.map some++List.replicate (N - n) none) c).bind fun p=>(match p.1 with
 |.rt d=>some (d,p.2.2)
 |.nx=>some (.bF,p.2.2)
 |_=>none)else none
def cE(d:D)(c:Cells):Option (List D):=match d with
 |.tup xs=>some xs
 |.ref n=>(match c[n]? with
  |some (.lst xs)=>some xs
  |some (.ro xs)=>some xs
  |_=>none)
 |_=>none
def bj(d:D)(c:Cells):Option (Nat×List D):=match d with
 |.ref n=>(match c[n]? with
  |some (.lst xs)=>some (n,xs)
  |_=>none)
 |_=>none
def rL(d:D):Option Int:=match d with
 |.int i=>some i
 |_=>none
def ii(f:Int→Int→Option D):G2:=fun x y c=>(rL x).bind fun i=>(rL y).bind fun j=>(f i j).bind fun d=>some (d,c)
def MulOk(i j:Int):Prop:=(My.Bd 90000 i∧My.Bd 90000 j)∨(My.Bd 64 i∨My.Bd 64 j)
open Classical in
def aP:G2:=ii fun i j=>if MulOk i j then some (.int (i*j))else none
def fO:G2:=ii fun i j=>some (.int (i - j))
open Classical in
def gZ:G2:=ii fun i j=>if j≠0∧My.Bd 8900 j then some (.int (i.fdiv j))else none
def fR:G2:=ii fun i j=>if j≠0 then some (.int (i.fmod j))else none
def kI:G2:=ii fun i j=>if 0≤j∧j≤100∧i.natAbs<1000 then some (.int (i ^ j.toNat))else none
def zd:G2:=ii fun i j=>some (.bl (decide (i<j)))
def Ma:G2:=ii fun i j=>some (.bl (decide (i≤j)))
def pX:G2:=ii fun i j=>some (.bl (decide (j<i)))
def gGe:G2:=ii fun i j=>some (.bl (decide (j≤i)))
def bH:G2:=fun x y c=>match x,y with
 |.int i,.int j=>some (.int (i+j),c)
 |.tup xs,.tup ys=>if xs≠[]∧xs.length+ys.length≤cR then some (.tup (xs++ys),c)else none
 |x,y=>(bj x c).bind fun p=>(bj y c).bind fun q=>if p.2.length+q.2.length≤cR then some (.ref c.length,c++[.lst (p.2++q.2)])else none
def qi:G1:=fun x c=>(rL x).bind fun i=>some (.int (-i),c)
def omap{α β:Type}(f:α→Option β):List α→Option (List β)
 |[]=>some []
 |x::xs=>(f x).bind fun d=>(omap f xs).bind fun ds=>some (d::ds)
def data(c:Cells):Nat→D→Option PyData
 |0,_=>none
 |k+1,d=>match d with
  |.bF=>some .none
  |.int i=>some (.int i)
  |.str x=>if x.cps.all (·<1114112)=true then some (.str x)else none
  |.tup xs=>(omap (data c k) xs).bind fun ds=>some (.tuple ds)
  |.ref n=>(match c[n]? with
   |some (.lst xs)=>(omap (data c k) xs).bind fun ds=>some (.list ds)
   |some (.ro xs)=>(omap (data c k) xs).bind fun ds=>some (.list ds)
   |_=>none)
  |_=>none
open Classical in
def ze(x y:D)(c:Cells):Option Bool:=match x,y with
 |.bl a,.bl b=>some (a==b)
 |x,y=>(data c 6 x).bind fun d=>(data c 6 y).bind fun e=>some (decide (d=e))
def hZ:G2:=fun x y c=>(ze x y c).bind fun b=>some (.bl b,c)
def mL:G2:=fun x y c=>(ze x y c).bind fun b=>some (.bl (!b),c)
def agy:G2:=fun x y c=>match y with
 |.bF=>some (.bl (match x with|.bF=>true|_=>false),c)
 |_=>none
def tq:G2:=fun x y c=>match y with
 |.bF=>some (.bl (match x with|.bF=>false|_=>true),c)
 |_=>none
open Classical in
def inM(x y:D)(c:Cells):Option Bool:=(cE y c).bind fun xs=>(data c 5 x).bind fun d=>(omap (data c 5) xs).bind fun ds=>some (decide (d∈ds))
def zf(n:Nat)(i:Int):Option Nat:=if 0≤i then(if i<n then some i.toNat else none)else if -(n:Int)≤i then some (i+n).toNat else none
def iV{α:Type}(xs:List α)(i:Int):Option α:=(zf xs.length i).bind fun j=>xs[j]?
def aw:G2:=fun x y c=>(cE x c).bind fun xs=>(rL y).bind fun i=>(iV xs i).bind fun d=>some (d,c)
def wt(n d:Nat):Option Int→Nat
 |none=>d
 |some v=>if v<0 then(v+n).toNat else min v.toNat n
def cutD{α:Type}(xs:List α)(lo hi:Option Int):List α:=(xs.drop (wt xs.length 0 lo)).take (wt xs.length xs.length hi - wt xs.length 0 lo)
def eJ(x:D)(lo hi:Option Int)(c:Cells):Option (D×Cells):=match x with
 |.tup xs=>some (.tup (cutD xs lo hi),c)
 |x=>(cE x c).bind fun xs=>some (.ref c.length,c++[.lst (cutD xs lo hi)])
def Ik(o i:XE):XG:=fun d σ c=>(o σ c).bind fun p=>(i σ p.2).bind fun q=>(bj p.1 q.2).bind fun l=>(rL q.1).bind fun k=>(zf l.2.length k).bind fun j=>some (σ,q.2.set l.1 (.lst (l.2.set j d)))
def one(g:G1):FN:=fun ds c=>match ds with
 |[x]=>g x c
 |_=>none
def two(g:G2):FN:=fun ds c=>match ds with
 |[x,y]=>g x y c
 |_=>none
def l_:FN:=one fun x c=>(rL x).bind fun i=>some (.int (if i<0 then -i else i),c)
def cY:FN:=one fun x c=>(cE x c).bind fun xs=>some (.int xs.length,c)
def Ep:FN:=one fun x c=>match x with
 |.int i=>some (.int i,c)
 |.bl k=>some (.int (if k then 1 else 0),c)
 |_=>none
def QV:FN:=two (ii fun i j=>some (.int (if j > i then j else i)))
def QX:FN:=two (ii fun i j=>some (.int (if j<i then j else i)))
def qA:FN:=one fun x c=>(cE x c).bind fun xs=>some (.ref c.length,c++[.lst xs])
def kJ(n:String)(d:D)(c:Cells):Option Bool:=match d with
 |.int _=>if n= "int" then some true else if n= "bool" then some false else none
 |.bl _=>if n= "bool" then some true else none
 |.tup _=>if n= "tuple" then some true else none
 |.ref m=>(match c[m]? with
  |some (.lst _)=>if n= "list" then some true else none
  |_=>none)
 |_=>none
def cq:FN:=two fun x y c=>match y with
 |.ty n=>(kJ n x c).bind fun k=>some (.bl k,c)
 |_=>none
def wu:FN:=one fun x c=>(bj x c).bind fun l=>(omap kC l.2).bind fun bs=>some (.bl (bs.all id),c)
def Be:FN:=one fun x c=>(bj x c).bind fun l=>(omap kC l.2).bind fun bs=>some (.bl (bs.any id),c)
def fS(xs ys:List D):List D:=(xs.zip ys).map fun p=>.tup [p.1,p.2]
def S8:FN:=fun ds c=>match ds with
 |[.tup xs,.tup ys]=>some (.ref c.length,c++[.lst (fS xs ys)])
 |_=>none
def eM(g:D→FN)(o:XE)(a:XA):XE:=fun σ c=>(o σ c).bind fun p=>(bj p.1 p.2).bind fun _=>(a σ p.2).bind fun q=>g p.1 q.1 q.2
def bM(o:D):FN:=one fun y c=>(bj o c).bind fun l=>if l.2.length<cR then some (.bF,c.set l.1 (.lst (l.2++[y])))else none
def fD(o:D):FN:=one fun y c=>(bj o c).bind fun l=>(bj y c).bind fun z=>if l.2.length+z.2.length≤cR then some (.bF,c.set l.1 (.lst (l.2++z.2)))else none
def vw(o:D):FN:=fun ds c=>match ds with
 |[]=>(bj o c).bind fun l=>some (.bF,c.set l.1 (.lst []))
 |_=>none
def uw(a:XE):XI:=fun σ c=>(a σ c).bind fun p=>match p.1 with
 |.tup xs=>some (⟨xs,[]⟩,p.2)
 |_=>none
def eK(a:XE):XI:=fun σ c=>(a σ c).bind fun p=>match p.1 with
 |.ref n=>(p.2[n]?).bind fun z=>(cE (.ref n) p.2).bind fun xs=>some (⟨xs,[(n,z)]⟩,p.2)
 |_=>none
def Bf(a:XA):XI:=fun σ c=>(a σ c).bind fun p=>match p.1 with
 |[.tup xs,.tup ys]=>some (⟨fS xs ys,[]⟩,p.2)
 |_=>none
def gY(lo:Int)(n:Nat):List D:=(List.range n).map fun(i:Nat)=>.int (lo+i)
structure QY(j:Int):Prop where
 lo: -(2 ^ 62)≤j
 hi:j<2 ^ 62
open Classical in
def fY(a:XA):XI:=fun σ c=>(a σ c).bind fun p=>match p.1 with
 |[.int j]=>if QY j then some (⟨gY 0 j.toNat,[]⟩,p.2)else none
 |_=>none
theorem mM{t:XT}{b:XS}:∀{n k:Nat}{σ:Env}{c:Cells}{r},ji t b n σ c=some r→ji t b (n+k) σ c=some r
 |0,_,_,_,_,h=>by simp[ji]at h
 |n+1,k,σ,c,r,h=>by
  rw[show n+1+k=(n+k)+1 by omega]
  simp only[ji]at h ⊢
  cases ht:t σ c with
  |none=>rw[ht]at h;simp at h
  |some p=>
   rw[ht]at h
   simp only[Option.bind_some]at h ⊢
   split
   ·rename_i hp
    rw[if_pos hp]at h
    cases hb:b σ p.2 with
    |none=>rw[hb]at h;simp at h
    |some q=>
     rw[hb]at h
     simp only[Option.bind_some]at h ⊢
     obtain⟨f,σ',c'⟩:=q
     cases f with
     |nx=>exact mM h
     |ct=>exact mM h
     |bk=>exact h
     |rt d=>exact h
   ·rename_i hp
    rw[if_neg hp]at h
    exact h
theorem wx{t:XT}{b:XS}{n:Nat}{σ:Env}{c:Cells}{r}(h:ji t b n σ c=some r):dP t b σ c=some r:=by
 have hx:∃n r,ji t b n σ c=some r:=⟨n,r,h⟩
 unfold dP
 rw[dif_pos hx]
 obtain⟨r',h'⟩:=Classical.choose_spec hx
 have h1:=mM (k:=n) h'
 have h2:=mM (k:=Classical.choose hx) h
 rw[Nat.add_comm]at h2
 rw[h']
 exact h1.symm.trans h2
theorem wy{t:XT}{b:XS}{σ:Env}{c:Cells}{r}(h:dP t b σ c=some r):∃n,ji t b n σ c=some r:=by
 unfold dP at h
 split at h
 ·exact⟨_,h⟩
 ·cases h
theorem ig{t:XT}{b:XS}{σ:Env}{c c':Cells}(h:t σ c=some (false,c')):dP t b σ c=some (.nx,σ,c'):=
 wx (n:=1) (by simp[ji,h])
theorem mN{t:XT}{b:XS}{σ σ':Env}{c c' c2:Cells}{r}(h:t σ c=some (true,c'))(hb:b σ c'=some (.nx,σ',c2))(hr:dP t b σ' c2=some r):dP t b σ c=some r:=by
 obtain⟨n,hn⟩:=wy hr
 exact wx (n:=n+1) (by simp[ji,h,hb,hn])
end
end Qm
namespace L2
open PySem PySem.Spec PyProof.Rows
theorem aG{α β:Type}{x:Option α}{f:α→Option β}{z:β}(h:x.bind f=some z):∃a,x=some a∧f a=some z:=by
 cases x with
 |none=>cases h
 |some a=>exact⟨a,rfl,h⟩
theorem md{n:Nat}(h:n≤Qm.cR):n≤sizeLine:=Nat.le_trans h (by rw[Qm.dR,sizeLine_eq];decide)
theorem rM{n:Nat}(h:n<Qm.cR):n<sizeLine:=Nat.lt_of_lt_of_le h (by rw[Qm.dR,sizeLine_eq];decide)
mutual
inductive RD(K:PySem.W.Frag)(ρ:Nat→Addr)(N:Nat)(H:Hp):Qm.D→V→Prop
 |bF:RD K ρ N H .bF .bF
 |bl (b:Bool):RD K ρ N H (.bl b) (.bl b)
 |int (i:Int):RD K ρ N H (.int i) (.int i)
 |str (x:Str):RD K ρ N H (.str x) (.str x)
 |ty (n:String):RD K ρ N H (.ty n) (.ty n)
 |tup {p:Addr}{xs:List V}{ds:List Qm.D}:H p=some (.tup xs)→RA K ρ N H ds xs→RD K ρ N H (.tup ds) (.ref p)
 |ref {n:Nat}:n<N→RD K ρ N H (.ref n) (.ref (ρ n))
 |adr (a:Nat):RD K ρ N H (.adr a) (.ref a)
inductive RA(K:PySem.W.Frag)(ρ:Nat→Addr)(N:Nat)(H:Hp):List Qm.D→List V→Prop
 |nil:RA K ρ N H [] []
 |cons {d:Qm.D}{ds:List Qm.D}{x:V}{xs:List V}:RD K ρ N H d x→RA K ρ N H ds xs→RA K ρ N H (d::ds) (x::xs)
end
structure Up(K:PySem.W.Frag)(ρ:Nat→Addr)(N:Nat)(H:Hp)(a_:Nat→Addr)(N':Nat)(H':Hp):Prop where
 agree:∀n,n<N→a_ n=ρ n
 len:N≤N'
 ts:∀p xs,H p=some (.tup xs)→H' p=some (.tup xs)
 fz:∀p o x,H p=some (.fX o x)→H' p=some (.fX o x)
section
variable{K:PySem.W.Frag}{ρ a_ Bg:Nat→Addr}{N N' Ut:Nat}{H H' Il:Hp}
theorem Up.refl:Up K ρ N H ρ N H:=⟨fun _ _=>rfl,Nat.le_refl _,fun _ _ h=>h,fun _ _ _ h=>h⟩
theorem Up.trans(a:Up K ρ N H a_ N' H')(b:Up K a_ N' H' Bg Ut Il):Up K ρ N H Bg Ut Il:=
 ⟨fun n h=>(b.agree n (Nat.lt_of_lt_of_le h a.len)).trans (a.agree n h),Nat.le_trans a.len b.len,fun p xs h=>b.ts p xs (a.ts p xs h),fun p o x h=>b.fz p o x (a.fz p o x h)⟩
mutual
theorem RD.up(u:Up K ρ N H a_ N' H'):∀{d:Qm.D}{v:V},RD K ρ N H d v→RD K a_ N' H' d v
 |_,_,.bF=>.bF
 |_,_,.bl b=>.bl b
 |_,_,.int i=>.int i
 |_,_,.str x=>.str x
 |_,_,.ty n=>.ty n
 |_,_,.adr a=>.adr a
 |_,_,.tup h a=>.tup (u.ts _ _ h) (RA.up u a)
 |_,_,.ref (n:=n) h=>by rw[←u.agree n h];exact .ref (Nat.lt_of_lt_of_le h u.len)
theorem RA.up(u:Up K ρ N H a_ N' H'):∀{ds:List Qm.D}{vs:List V},RA K ρ N H ds vs→RA K a_ N' H' ds vs
 |_,_,.nil=>.nil
 |_,_,.cons h a=>.cons (RD.up u h) (RA.up u a)
end
theorem RA.length:∀{ds:List Qm.D}{vs:List V},RA K ρ N H ds vs→ds.length=vs.length
 |_,_,.nil=>rfl
 |_,_,.cons _ a=>congrArg (·+1) (RA.length a)
theorem RA.append:∀{ds es:List Qm.D}{vs us:List V},RA K ρ N H ds vs→RA K ρ N H es us→RA K ρ N H (ds++es) (vs++us)
 |_,_,_,_,.nil,b=>b
 |_,_,_,_,.cons h a,b=>.cons h (RA.append a b)
theorem RA.get:∀{ds:List Qm.D}{vs:List V}{i:Nat}{d:Qm.D},RA K ρ N H ds vs→ds[i]? =some d→∃v,vs[i]? =some v∧RD K ρ N H d v
 |_,_,_,_,.nil,e=>by simp at e
 |_,_,0,_,.cons h _,e=>by simp at e;subst e;exact⟨_,rfl,h⟩
 |_,_,i+1,d,.cons _ a,e=>by
  obtain⟨v,h1,h2⟩:=RA.get (i:=i) (d:=d) a (by simpa using e)
  exact⟨v,by simpa using h1,h2⟩
theorem RA.take:∀{ds:List Qm.D}{vs:List V} (n:Nat),RA K ρ N H ds vs→RA K ρ N H (ds.take n) (vs.take n)
 |_,_,0,_=>.nil
 |_,_,_+1,.nil=>.nil
 |_,_,n+1,.cons h a=>.cons h (RA.take n a)
theorem RA.drop:∀{ds:List Qm.D}{vs:List V} (n:Nat),RA K ρ N H ds vs→RA K ρ N H (ds.drop n) (vs.drop n)
 |_,_,0,a=>a
 |_,_,_+1,.nil=>.nil
 |_,_,n+1,.cons _ a=>RA.drop n a
theorem RA.set{d:Qm.D}{v:V}(r:RD K ρ N H d v):∀{ds:List Qm.D}{vs:List V} (n:Nat),RA K ρ N H ds vs→RA K ρ N H (ds.set n d) (vs.set n v)
 |_,_,_,.nil=>.nil
 |_,_,0,.cons _ a=>.cons r a
 |_,_,n+1,.cons h a=>.cons h (RA.set r n a)
theorem RA.one{d:Qm.D}{v:V}(h:RD K ρ N H d v):RA K ρ N H [d] [v]:=.cons h .nil
theorem RA.jF{d:Qm.D}{vs:List V}(h:RA K ρ N H [d] vs):∃v,vs=[v]∧RD K ρ N H d v:=by
 cases h with
 |cons r t=>cases t;exact⟨_,rfl,r⟩
theorem RA.uJ{d e:Qm.D}{vs:List V}(h:RA K ρ N H [d,e] vs):∃v u,vs=[v,u]∧RD K ρ N H d v∧RD K ρ N H e u:=by
 cases h with
 |cons r t=>obtain⟨u,rfl,q⟩:=RA.jF t;exact⟨_,_,rfl,r,q⟩
theorem RA.OK{vs:List V}(h:RA K ρ N H [] vs):vs=[]:=by cases h;rfl
theorem RD.eR{i:Int}{v:V}(h:RD K ρ N H (.int i) v):v= .int i:=by cases h;rfl
theorem RD.pY{b:Bool}{v:V}(h:RD K ρ N H (.bl b) v):v= .bl b:=by cases h;rfl
theorem RD.OL{v:V}(h:RD K ρ N H .bF v):v= .bF:=by cases h;rfl
theorem RD.jG{ds:List Qm.D}{v:V}(h:RD K ρ N H (.tup ds) v):∃p xs,v= .ref p∧H p=some (.tup xs)∧RA K ρ N H ds xs:=by cases h with|tup a b=>exact⟨_,_,rfl,a,b⟩
theorem RD.kK{n:Nat}{v:V}(h:RD K ρ N H (.ref n) v):v= .ref (ρ n)∧n<N:=by cases h with|ref h=>exact⟨rfl,h⟩
end
def yb(K:PySem.W.Frag)(H:Hp)(a:Addr)(xs:List V):Prop:=(∃o,H a=some (.fX o (.lst xs)))∨cy K (fun _=>none) a xs
theorem yb.seq{K:PySem.W.Frag}{H:Hp}{a:Addr}{xs:List V}(h:yb K H a xs):cy K H a xs:=by
 rcases h with⟨o,h⟩|h
 ·exact .inl (.inr ⟨o,h⟩)
 ·rcases h with(h|⟨o,h⟩)|h
  ·cases h
  ·cases h
  ·exact .inr h
theorem yb.of{K:PySem.W.Frag}{H:Hp}{a:Addr}{xs:List V}(hO:AX H)(h:cy K H a xs):yb K H a xs:=by
 rcases h with(h|⟨o,h⟩)|h
 ·rcases hO a with z|⟨o,ys,z⟩
  ·rw[z]at h;cases h
  ·rw[z]at h;cases h
 ·exact .inl ⟨o,h⟩
 ·exact .inr (.inr h)
inductive RK(K:PySem.W.Frag)(ρ:Nat→Addr)(N:Nat)(H:Hp):List (Str×Qm.D)→List (Key×V)→Prop
 |nil:RK K ρ N H [] []
 |cons {k:Str}{d:Qm.D}{ds:List (Str×Qm.D)}{x:V}{xs:List (Key×V)}:RD K ρ N H d x→RK K ρ N H ds xs→RK K ρ N H ((k,d)::ds) ((.inr k,x)::xs)
theorem RK.up{K:PySem.W.Frag}{ρ a_:Nat→Addr}{N N':Nat}{H H':Hp}(u:Up K ρ N H a_ N' H'):∀{ds:List (Str×Qm.D)}{vs:List (Key×V)},RK K ρ N H ds vs→RK K a_ N' H' ds vs
 |_,_,.nil=>.nil
 |_,_,.cons h a=>.cons (h.up u) (RK.up u a)
inductive fI(K:PySem.W.Frag)(ρ:Nat→Addr)(N:Nat)(H:Hp):List (List Int×Qm.D)→List (List Key×V)→Prop
 |nil:fI K ρ N H [] []
 |cons {k:List Int}{d:Qm.D}{ds:List (List Int×Qm.D)}{x:V}{xs:List (List Key×V)}:RD K ρ N H d x→fI K ρ N H ds xs→fI K ρ N H ((k,d)::ds) ((k.map Sum.inl,x)::xs)
inductive dY(K:PySem.W.Frag)(ρ:Nat→Addr)(N:Nat)(H:Hp):List (List (List Int)×Qm.D)→List (List (List Key)×V)→Prop
 |nil:dY K ρ N H [] []
 |cons {k:List (List Int)}{d:Qm.D}{ds:List (List (List Int)×Qm.D)}{x:V}{xs:List (List (List Key)×V)}:RD K ρ N H d x→dY K ρ N H ds xs→dY K ρ N H ((k,d)::ds) ((k.map (List.map Sum.inl),x)::xs)
theorem fI.up{K:PySem.W.Frag}{ρ a_:Nat→Addr}{N N':Nat}{H H':Hp}(u:Up K ρ N H a_ N' H'):∀{ds:List (List Int×Qm.D)}{vs:List (List Key×V)},fI K ρ N H ds vs→fI K a_ N' H' ds vs
 |_,_,.nil=>.nil
 |_,_,.cons h a=>.cons (h.up u) (fI.up u a)
theorem dY.up{K:PySem.W.Frag}{ρ a_:Nat→Addr}{N N':Nat}{H H':Hp}(u:Up K ρ N H a_ N' H'):∀{ds:List (List (List Int)×Qm.D)}{vs:List (List (List Key)×V)},dY K ρ N H ds vs→dY K a_ N' H' ds vs
 |_,_,.nil=>.nil
 |_,_,.cons h a=>.cons (h.up u) (dY.up u a)
def CO(K:PySem.W.Frag)(ρ:Nat→Addr)(N:Nat)(H:Hp)(a:Addr):Qm.Cell→Prop
 |.lst ds=>∃vs,H a=some (.lst vs)∧RA K ρ N H ds vs
 |.ro ds=>∃vs,yb K H a vs∧RA K ρ N H ds vs
 |.vd ds=>∃vs,H a=some (.dK vs)∧RK K ρ N H ds vs
 |.FL ds=>∃o vs,H a=some (.fX o (.dK vs))∧RK K ρ N H ds vs
 |.tp ds=>∃vs,H a=some (.dT vs)∧fI K ρ N H ds vs
 |.gP ds=>∃vs,H a=some (.dU vs)∧dY K ρ N H ds vs
 |.jZ ds=>∃o vs,H a=some (.fX o (.dU vs))∧dY K ρ N H ds vs
structure RS(K:PySem.W.Frag)(ρ:Nat→Addr)(c:Qm.Cells)(H:Hp):Prop where
 inj:∀(i j:Nat) (z y:Qm.Cell),c[i]? =some z→c[j]? =some y→z.mt=true→y.mt=true→ρ i=ρ j→i=j
 ok:∀(n:Nat) (z:Qm.Cell),c[n]? =some z→CO K ρ c.length H (ρ n) z
structure RE(K:PySem.W.Frag)(ρ:Nat→Addr)(N:Nat)(H:Hp)(env:Qm.Env)(σ:St):Prop where
 len:env.length=σ.length
 at_:∀(i:Nat) (d:Qm.D),env[i]? =some (some d)→∃v:V,σ[i]? =some (some v)∧RD K ρ N H d v
structure Nx(K:PySem.W.Frag)(ρ:Nat→Addr)(c:Qm.Cells)(H:Hp)(a_:Nat→Addr)(c':Qm.Cells)(H':Hp):Prop where
 up:Up K ρ c.length H a_ c'.length H'
 rs:RS K a_ c' H'
section
variable{K:PySem.W.Frag}{ρ a_ Bg:Nat→Addr}{N N':Nat}{c c' Uu:Qm.Cells}{H H' Il:Hp}{env:Qm.Env}{σ:St}
theorem RE.up(h:RE K ρ N H env σ)(u:Up K ρ N H a_ N' H'):RE K a_ N' H' env σ:=⟨h.len,fun i d e=>let ⟨v,h1,h2⟩:=h.at_ i d e;⟨v,h1,h2.up u⟩⟩
theorem Nx.refl(r:RS K ρ c H):Nx K ρ c H ρ c H:=⟨Up.refl,r⟩
theorem Nx.trans(a:Nx K ρ c H a_ c' H')(b:Nx K a_ c' H' Bg Uu Il):Nx K ρ c H Bg Uu Il:=⟨a.up.trans b.up,b.rs⟩
theorem CO.up{a:Addr}{z:Qm.Cell}(h:CO K ρ N H a z)(u:Up K ρ N H a_ N' H')(hs:∀o,H a=some o→H' a=some o):CO K a_ N' H' a z:=by
 cases z with
 |lst ds=>obtain⟨vs,h1,h2⟩:=h;exact⟨vs,hs _ h1,h2.up u⟩
 |ro ds=>
  obtain⟨vs,h1,h2⟩:=h
  refine⟨vs,?_,h2.up u⟩
  rcases h1 with⟨o,h1⟩|h1
  ·exact .inl ⟨o,hs _ h1⟩
  ·exact .inr h1
 |vd ds=>obtain⟨vs,h1,h2⟩:=h;exact⟨vs,hs _ h1,h2.up u⟩
 |FL ds=>obtain⟨o,vs,h1,h2⟩:=h;exact⟨o,vs,hs _ h1,h2.up u⟩
 |tp ds=>obtain⟨vs,h1,h2⟩:=h;exact⟨vs,hs _ h1,h2.up u⟩
 |gP ds=>obtain⟨vs,h1,h2⟩:=h;exact⟨vs,hs _ h1,h2.up u⟩
 |jZ ds=>obtain⟨o,vs,h1,h2⟩:=h;exact⟨o,vs,hs _ h1,h2.up u⟩
theorem CO.obj{a:Addr}{z:Qm.Cell}(h:CO K ρ N H a z)(m:z.mt=true):∃o,H a=some o∧(∀xs,o≠.tup xs)∧∀q x,o≠.fX q x:=by
 cases z with
 |lst ds=>obtain⟨vs,h1,_⟩:=h;exact⟨_,h1,(fun _ z=>by cases z),(fun _ _ z=>by cases z)⟩
 |ro ds=>cases m
 |FL ds=>cases m
 |vd ds=>obtain⟨vs,h1,_⟩:=h;exact⟨_,h1,(fun _ z=>by cases z),(fun _ _ z=>by cases z)⟩
 |tp ds=>obtain⟨vs,h1,_⟩:=h;exact⟨_,h1,(fun _ z=>by cases z),(fun _ _ z=>by cases z)⟩
 |gP ds=>obtain⟨vs,h1,_⟩:=h;exact⟨_,h1,(fun _ z=>by cases z),(fun _ _ z=>by cases z)⟩
 |jZ ds=>cases m
theorem RE.set{d:Qm.D}{v:V}{i:Nat}(h:RE K ρ N H env σ)(r:RD K ρ N H d v):RE K ρ N H (env.set i (some d)) (σ.set i (some v)):=by
 refine⟨by rw[List.length_set,List.length_set];exact h.len,fun j e he=>?_⟩
 rw[List.getElem?_set]at he ⊢
 have hl:=h.len
 by_cases yT:i=j
 ·rw[if_pos yT]at he ⊢
  subst yT
  split at he
  ·rename_i fZ
   rw[if_pos (by omega)]
   cases he
   exact⟨v,rfl,r⟩
  ·cases he
 ·rw[if_neg yT]at he ⊢
  exact h.at_ j e he
theorem Nx.same(r:RS K ρ c H)(e:uB H H'):Nx K ρ c H ρ c H':=by
 have u:Up K ρ c.length H ρ c.length H':=⟨fun _ _=>rfl,Nat.le_refl _,fun p xs h=>e _ _ h,fun p o x h=>e _ _ h⟩
 exact⟨u,r.inj,fun n z hz=>(r.ok n z hz).up u (fun o h=>e _ _ h)⟩
theorem Nx.vx(r:RS K ρ c H){l:Addr}(hl:H l=none){z:Qm.Cell}{o:HO}(hz:∀a_ N' H',Up K ρ c.length H a_ N' H'→H' l=some o→CO K a_ N' H' l z):Nx K ρ c H (fun n=>if n=c.length then l else ρ n) (c++[z]) (upd H l o)∧RD K (fun n=>if n=c.length then l else ρ n) (c++[z]).length (upd H l o) (.ref c.length) (.ref l):=by
 have hlen:(c++[z]).length=c.length+1:=by simp
 have u:Up K ρ c.length H (fun n=>if n=c.length then l else ρ n) (c++[z]).length (upd H l o):=by
  refine⟨fun n h=>if_neg (by omega),by omega,fun p xs h=>rH h hl,fun p o x h=>rH h hl⟩
 refine⟨⟨u,fun i j x y h1 h2 m1 m2 e=>?_,fun n z' ve=>?_⟩,?_⟩
 ·have lt1:i<c.length+1:=by rw[←hlen];exact(List.getElem?_eq_some_iff.mp h1).1
  have lt2:j<c.length+1:=by rw[←hlen];exact(List.getElem?_eq_some_iff.mp h2).1
  have fresh:∀k y,k<c.length→(c++[z])[k]? =some y→y.mt=true→ρ k≠l:=fun k y hk hz m e'=>by
   rw[List.getElem?_append_left hk]at hz
   obtain⟨o',h',_⟩:=(r.ok k _ hz).obj m
   rw[e',hl]at h';cases h'
  by_cases hi:i=c.length<;>by_cases hj:j=c.length
  ·omega
  ·exfalso
   simp only[hi,if_true,if_neg hj]at e
   exact fresh j y (by omega) h2 m2 e.symm
  ·exfalso
   simp only[hj,if_true,if_neg hi]at e
   exact fresh i x (by omega) h1 m1 e
  ·simp only[if_neg hi,if_neg hj]at e
   rw[List.getElem?_append_left (by omega)]at h1 h2
   exact r.inj i j x y h1 h2 m1 m2 e
 ·have lt:n<c.length+1:=by rw[←hlen];exact(List.getElem?_eq_some_iff.mp ve).1
  by_cases hn:n=c.length
  ·subst hn
   have:z'=z:=by simpa using ve.symm
   subst this
   simp only[if_true]
   exact hz _ _ _ u dk
  ·simp only[if_neg hn]
   rw[List.getElem?_append_left (by omega)]at ve
   exact(r.ok n z' ve).up u (fun o h=>rH h hl)
 ·have:=RD.ref (K:=K) (ρ:=fun n=>if n=c.length then l else ρ n) (N:=(c++[z]).length) (H:=upd H l o) (n:=c.length) (by omega)
  simpa using this
theorem Nx.alloc(r:RS K ρ c H){l:Addr}(hl:H l=none){ds:List Qm.D}{vs:List V}(a:RA K ρ c.length H ds vs):Nx K ρ c H (fun n=>if n=c.length then l else ρ n) (c++[.lst ds]) (upd H l (.lst vs))∧RD K (fun n=>if n=c.length then l else ρ n) (c++[Qm.Cell.lst ds]).length (upd H l (.lst vs)) (.ref c.length) (.ref l):=
 Nx.vx r hl fun _ _ _ u h=>⟨vs,h,a.up u⟩
theorem Nx.Er(r:RS K ρ c H){n:Nat}{y z:Qm.Cell}(hn:c[n]? =some y)(my:y.mt=true){o:HO}(hz:∀N' H',Up K ρ c.length H ρ N' H'→H' (ρ n)=some o→CO K ρ N' H' (ρ n) z):Nx K ρ c H ρ (c.set n z) (upd H (ρ n) o):=by
 obtain⟨w,hw,hk⟩:=(r.ok n _ hn).obj my
 have fZ:n<c.length:=(List.getElem?_eq_some_iff.mp hn).1
 have Im:∀{p:Addr}{q:HO},H p=some q→((∃ys,q= .tup ys)∨∃o x,q= .fX o x)→p≠ρ n:=fun {p q} h h1 e=>by
  rw[e,hw]at h;cases h
  rcases h1 with⟨_,rfl⟩|⟨_,_,rfl⟩
  ·exact hk.1 _ rfl
  ·exact hk.2 _ _ rfl
 have u:Up K ρ c.length H ρ (c.set n z).length (upd H (ρ n) o):=by
  refine⟨fun _ _=>rfl,by rw[List.length_set];exact Nat.le_refl _,fun p ys h=>?_,fun p q x h=>?_⟩
  ·rw[bg (Im h (.inl ⟨_,rfl⟩))];exact h
  ·rw[bg (Im h (.inr ⟨_,_,rfl⟩))];exact h
 have look:∀{j:Nat}{x:Qm.Cell},j≠n→(c.set n z)[j]? =some x→c[j]? =some x:=fun {j x} hj hx=>by
  rw[List.getElem?_set,if_neg (fun e=>hj e.symm)]at hx;exact hx
 have back:∀{j:Nat}{x:Qm.Cell},(c.set n z)[j]? =some x→x.mt=true→∃x',c[j]? =some x'∧x'.mt=true:=fun {j x} hx m=>by
  by_cases hj:j=n
  ·subst hj;exact⟨y,hn,my⟩
  ·exact⟨x,look hj hx,m⟩
 refine⟨u,fun i j p q h1 h2 m1 m2 e=>?_,fun j x hx=>?_⟩
 ·obtain⟨_,g1,w1⟩:=back h1 m1
  obtain⟨_,g2,w2⟩:=back h2 m2
  exact r.inj i j _ _ g1 g2 w1 w2 e
 ·by_cases hj:j=n
  ·subst hj
   have:x=z:=by
    rw[List.getElem?_set,if_pos rfl,if_pos fZ]at hx;cases hx;rfl
   subst this
   exact hz _ _ u dk
  ·have hV:=look hj hx
   by_cases hm:x.mt=true
   ·have hp:ρ j≠ρ n:=fun e=>hj (r.inj j n _ _ hV hn hm my e)
    exact(r.ok j _ hV).up u (fun ys h=>by rw[bg hp];exact h)
   ·cases x with
    |lst zs=>exact absurd rfl hm
    |vd zs=>exact absurd rfl hm
    |tp zs=>exact absurd rfl hm
    |gP zs=>exact absurd rfl hm
    |FL zs=>
     obtain⟨o',zg,h1,h2⟩:=r.ok j _ hV
     exact⟨o',zg,by rw[bg (Im h1 (.inr ⟨_,_,rfl⟩))];exact h1,h2.up u⟩
    |jZ zs=>
     obtain⟨o',zg,h1,h2⟩:=r.ok j _ hV
     exact⟨o',zg,by rw[bg (Im h1 (.inr ⟨_,_,rfl⟩))];exact h1,h2.up u⟩
    |ro zs=>
     obtain⟨zg,h1,h2⟩:=r.ok j _ hV
     refine⟨zg,?_,h2.up u⟩
     rcases h1 with⟨o,h1⟩|h1
     ·exact .inl ⟨o,by rw[bg (Im h1 (.inr ⟨_,_,rfl⟩))];exact h1⟩
     ·exact .inr h1
theorem Nx.put(r:RS K ρ c H){n:Nat}{xs:List Qm.D}(hn:c[n]? =some (.lst xs)){ds:List Qm.D}{vs:List V}(a:RA K ρ c.length H ds vs):Nx K ρ c H ρ (c.set n (.lst ds)) (upd H (ρ n) (.lst vs)):=
 Nx.Er r hn rfl fun _ _ u h=>⟨vs,h,a.up u⟩
theorem RS.lst(r:RS K ρ c H){n:Nat}{ds:List Qm.D}(h:c[n]? =some (.lst ds)):∃vs,H (ρ n)=some (.lst vs)∧RA K ρ c.length H ds vs:=r.ok n _ h
theorem RS.seq(r:RS K ρ c H){d:Qm.D}{ds:List Qm.D}{v:V}(h:RD K ρ c.length H d v)(e:Qm.cE d c=some ds):∃p vs,v= .ref p∧(cy K H p vs∨H p=some (.tup vs))∧RA K ρ c.length H ds vs:=by
 unfold Qm.cE at e
 split at e
 ·cases e
  obtain⟨p,xs,rfl,h1,h2⟩:=h.jG
  exact⟨p,xs,rfl,.inr h1,h2⟩
 ·rename_i n
  obtain⟨rfl,hn⟩:=h.kK
  split at e
  ·rename_i xs hx
   cases e
   obtain⟨vs,h1,h2⟩:=r.lst hx
   exact⟨_,vs,rfl,.inl (cy.of h1),h2⟩
  ·rename_i xs hx
   cases e
   obtain⟨vs,h1,h2⟩:=r.ok n _ hx
   exact⟨_,vs,rfl,.inl h1.seq,h2⟩
  ·cases e
 ·cases e
theorem zh{d:Qm.D}{c:Qm.Cells}{ds:List Qm.D}(e:Qm.cE d c=some ds):d= .tup ds∨∃n,d= .ref n:=by
 unfold Qm.cE at e
 split at e
 ·cases e;exact .inl rfl
 ·exact .inr ⟨_,rfl⟩
 ·cases e
theorem RS.Io(r:RS K ρ c H){n:Nat}{ds:List Qm.D}{v:V}(h:RD K ρ c.length H (.ref n) v)(e:Qm.cE (.ref n) c=some ds):∃vs,v= .ref (ρ n)∧cy K H (ρ n) vs∧RA K ρ c.length H ds vs:=by
 obtain⟨rfl,hn⟩:=h.kK
 unfold Qm.cE at e
 dsimp only at e
 split at e
 ·rename_i xs hx
  cases e
  obtain⟨vs,h1,h2⟩:=r.lst hx
  exact⟨vs,rfl,cy.of h1,h2⟩
 ·rename_i xs hx
  cases e
  obtain⟨vs,h1,h2⟩:=r.ok n _ hx
  exact⟨vs,rfl,h1.seq,h2⟩
 ·cases e
theorem RS.bj(r:RS K ρ c H){d:Qm.D}{n:Nat}{ds:List Qm.D}{v:V}(h:RD K ρ c.length H d v)(e:Qm.bj d c=some (n,ds)):d= .ref n∧c[n]? =some (.lst ds)∧∃vs,v= .ref (ρ n)∧H (ρ n)=some (.lst vs)∧RA K ρ c.length H ds vs:=by
 unfold Qm.bj at e
 split at e
 ·obtain⟨rfl,hn⟩:=h.kK
  split at e
  ·rename_i xs hx
   cases e
   obtain⟨vs,h1,h2⟩:=r.lst hx
   exact⟨rfl,hx,vs,rfl,h1,h2⟩
  ·cases e
 ·cases e
end
def TQ(K:PySem.W.Frag)(f:Qm.XE):TE:=fun σ H Q=>∃ρ env c d c',RS K ρ c H∧RE K ρ c.length H env σ∧f env c=some (d,c')∧∀a_ v H',Nx K ρ c H a_ c' H'→RD K a_ c'.length H' d v→Q v H'
def AQ(K:PySem.W.Frag)(f:Qm.XA):TA:=fun σ H Q=>∃ρ env c ds c',RS K ρ c H∧RE K ρ c.length H env σ∧f env c=some (ds,c')∧∀a_ vs H',Nx K ρ c H a_ c' H'→RA K a_ c'.length H' ds vs→Q vs H'
def BQ(K:PySem.W.Frag)(f:Qm.XT):TT:=fun σ H Q=>∃ρ env c b c',RS K ρ c H∧RE K ρ c.length H env σ∧f env c=some (b,c')∧∀a_ H',Nx K ρ c H a_ c' H'→Q b H'
def OQ(K:PySem.W.Frag)(f:Qm.XO):TO:=fun σ H Q=>∃ρ env c o c',RS K ρ c H∧RE K ρ c.length H env σ∧f env c=some (o,c')∧∀a_ H',Nx K ρ c H a_ c' H'→Q o H'
def Uv(K:PySem.W.Frag)(ρ:Nat→Addr)(c:Qm.Cells)(H:Hp)(env:Qm.Env)(D:Ends):Qm.Fl→Prop
 |.nx=>∀σ,RE K ρ c.length H env σ→D.nx σ H
 |.bk=>∀σ,RE K ρ c.length H env σ→D.bk σ H
 |.ct=>∀σ,RE K ρ c.length H env σ→D.ct σ H
 |.rt d=>∀v,RD K ρ c.length H d v→D.rt v H
def SQ(K:PySem.W.Frag)(f:Qm.XS):TS:=fun D σ H=>∃ρ env c fl cZ c',RS K ρ c H∧RE K ρ c.length H env σ∧f env c=some (fl,cZ,c')∧∀a_ H',Nx K ρ c H a_ c' H'→Uv K a_ c' H' cZ D fl
def GQ(K:PySem.W.Frag)(g:Qm.XG):TG:=fun v σ H Q=>∃ρ env c d cZ c',RS K ρ c H∧RE K ρ c.length H env σ∧RD K ρ c.length H d v∧g d env c=some (cZ,c')∧∀a_ H' σ',Nx K ρ c H a_ c' H'→RE K a_ c'.length H' cZ σ'→Q σ' H'
def GsQ(K:PySem.W.Frag)(g:Qm.xJ):yS:=fun vs σ H Q=>∃ρ env c ds cZ c',RS K ρ c H∧RE K ρ c.length H env σ∧RA K ρ c.length H ds vs∧g ds env c=some (cZ,c')∧∀a_ H' σ',Nx K ρ c H a_ c' H'→RE K a_ c'.length H' cZ σ'→Q σ' H'
def Ip(K:PySem.W.Frag)(C4:Nat→Addr)(N0:Nat)(H0:Hp)(m:Qm.Itm)(J:It):Prop:=∀ρ c H,Up K C4 N0 H0 ρ c.length H→RS K ρ c H→Qm.stays m.ks c→
 (∀i,i<m.ds.length→J.go i H)∧J.stop m.ds.length H∧∀i d x H',m.ds[i]? =some d→J.Ft i H x H'→Nx K ρ c H ρ c H'∧RD K ρ c.length H' d x
def IQ(K:PySem.W.Frag)(f:Qm.XI):TI:=fun σ H R=>∃ρ env c m c',RS K ρ c H∧RE K ρ c.length H env σ∧f env c=some (m,c')∧∀a_ J H',Nx K ρ c H a_ c' H'→Ip K a_ c'.length H' m J→R J H'
abbrev QE(X:Cx)(e:Expr)(f:Qm.XE):Prop:=PE X e (TQ X.K f)
abbrev QA(X:Cx)(es:List Expr)(f:Qm.XA):Prop:=PA X es (AQ X.K f)
abbrev QT(X:Cx)(e:Expr)(f:Qm.XT):Prop:=PT X e (BQ X.K f)
abbrev QW(X:Cx)(e:Expr)(f:Qm.XT):Prop:=PW X e (BQ X.K f)
abbrev QO(X:Cx)(e:Option Expr)(f:Qm.XO):Prop:=PO X e (OQ X.K f)
abbrev QS(X:Cx)(e:Stmt)(f:Qm.XS):Prop:=PS X e (SQ X.K f)
abbrev xM(X:Cx)(e:List Stmt)(f:Qm.XS):Prop:=nM X e (SQ X.K f)
abbrev QG(X:Cx)(e:Expr)(f:Qm.XG):Prop:=PG X e (GQ X.K f)
abbrev Mb(X:Cx)(e:List Expr)(f:Qm.xJ):Prop:=AB X e (GsQ X.K f)
abbrev QI(X:Cx)(tg e:Expr)(f:Qm.XI):Prop:=PI X tg e (IQ X.K f)
abbrev Iq(X:Cx)(e:List Expr)(f:Qm.XT):Prop:=uF X e (BQ X.K f)
section
variable{X:Cx}
theorem PE.imp{e:Expr}{t t':TE}(h:PE X e t)(k:∀σ H Q,t' σ H Q→t σ H Q):PE X e t':=fun pins s σ H Q I q=>h pins s σ H Q I (k σ H Q q)
theorem PT.imp{e:Expr}{t t':TT}(h:PT X e t)(k:∀σ H Q,t' σ H Q→t σ H Q):PT X e t':=fun pins s σ H Q I q=>h pins s σ H Q I (k σ H Q q)
theorem PW.imp{e:Expr}{t t':TT}(h:PW X e t)(k:∀σ H Q,t' σ H Q→t σ H Q):PW X e t':=fun wh pins s σ H Q I q=>h wh pins s σ H Q I (k σ H Q q)
theorem PA.imp{e:List Expr}{t t':TA}(h:PA X e t)(k:∀σ H Q,t' σ H Q→t σ H Q):PA X e t':=fun pos pins s σ H Q I q=>h pos pins s σ H Q I (k σ H Q q)
theorem PS.imp{e:Stmt}{t t':TS}(h:PS X e t)(k:∀D σ H,t' D σ H→t D σ H):PS X e t':=fun pins s σ H D I q=>h pins s σ H D I (k D σ H q)
theorem nM.imp{e:List Stmt}{t t':TS}(h:nM X e t)(k:∀D σ H,t' D σ H→t D σ H):nM X e t':=fun pins s σ H D I q=>h pins s σ H D I (k D σ H q)
theorem PO.imp{e:Option Expr}{t t':TO}(h:PO X e t)(k:∀σ H Q,t' σ H Q→t σ H Q):PO X e t':=fun pins s σ H Q I q=>h pins s σ H Q I (k σ H Q q)
theorem PG.imp{e:Expr}{t t':TG}(h:PG X e t)(k:∀v σ H Q,t' v σ H Q→t v σ H Q):PG X e t':=fun pins s σ H x v Q I r q=>h pins s σ H x v Q I r (k x σ H Q q)
theorem AB.imp{e:List Expr}{t t':yS}(h:AB X e t)(k:∀v σ H Q,t' v σ H Q→t v σ H Q):AB X e t':=fun pins s σ H x v Q I r q=>h pins s σ H x v Q I r (k x σ H Q q)
theorem PI.imp{tg e:Expr}{t t':TI}(h:PI X tg e t)(k:∀σ H Q,t' σ H Q→t σ H Q):PI X tg e t':=fun pins s σ H R I q=>h pins s σ H R I (k σ H R q)
theorem uF.imp{e:List Expr}{t t':TT}(h:uF X e t)(k:∀σ H Q,t' σ H Q→t σ H Q):uF X e t':=fun pins s σ H Q I q=>h pins s σ H Q I (k σ H Q q)
end
end L2
namespace L2
open PySem PySem.Spec PyProof.Rows
section
variable{X:Cx}{a b e:Expr}{es:List Expr}{fa fb fc fe:Qm.XE}{ft fu:Qm.XT}{pos:Pos}
theorem Mc(i:Nat)(h:PE X e (Hd i)):QE X e (Qm.eV i):=h.imp <| by
 rintro σ H Q ⟨ρ,env,c,d,c',rs,re,e,k⟩
 unfold Qm.eV at e
 obtain⟨d',e1,e2⟩:=aG e
 cases e2
 have e3:env[i]? =some (some d):=by
  cases h:env[i]? with
  |none=>rw[h]at e1;cases e1
  |some o=>rw[h]at e1;rw[show o=some d from e1]
 obtain⟨v,h1,h2⟩:=re.at_ i d e3
 exact⟨v,h1,k ρ v H (Nx.refl rs) h2⟩
theorem me{v:V}(d:Qm.D)(h:PE X e (tC v))(r:∀ρ N H,RD X.K ρ N H d v):QE X e (Qm.eC d):=h.imp <| by
 rintro σ H Q ⟨ρ,env,c,d',c',rs,re,e,k⟩
 unfold Qm.eC at e
 cases e
 exact k ρ v H (Nx.refl rs) (r _ _ _)
theorem ai{i:Int}{j pos}:QE X (.Constant (.int i) j pos) (Qm.eC (.int i)):=me _ K9 fun _ _ _=>.int i
theorem ij{i:Bool}{j pos}:QE X (.Constant (.bool i) j pos) (Qm.eC (.bl i)):=me _ P0 fun _ _ _=>.bl i
theorem zi{j pos}:QE X (.Constant .none j pos) (Qm.eC .bF):=me _ K_ fun _ _ _=>.bF
theorem zj{x:Str}{j pos}:QE X (.Constant (.str x) j pos) (Qm.eC (.str x)):=me _ La fun _ _ _=>.str x
def j4(K:PySem.W.Frag)(r:R2)(g:Qm.G2):Prop:=∀ρ c H x y d c' v u Q,RS K ρ c H→RD K ρ c.length H x v→RD K ρ c.length H y u→g x y c=some (d,c')→(∀a_ w H',Nx K ρ c H a_ c' H'→RD K a_ c'.length H' d w→Q w H')→r v u H Q
theorem zk{K:PySem.W.Frag}{r:R2}{g:Qm.G2}(hl:j4 K r g){σ:St}{H:Hp}{Q:VK}(h:TQ K (Qm.e2 g fa fb) σ H Q):Ho r (TQ K fa) (TQ K fb) σ H Q:=by
 obtain⟨ρ,env,c,d,c',rs,re,e,k⟩:=h
 obtain⟨p,e1,e⟩:=aG e
 obtain⟨q,e2,e3⟩:=aG e
 exact⟨ρ,env,c,p.1,p.2,rs,re,e1,fun aR v H1 n1 r1=>⟨aR,env,p.2,q.1,q.2,n1.rs,re.up n1.up,e2,fun jj u H2 n2 r2=>
  hl jj q.2 H2 p.1 q.1 d c' v u Q n2.rs (r1.up n2.up) r2 e3 fun a_ w H' n3 r3=>k a_ w H' (n1.trans (n2.trans n3)) r3⟩⟩
theorem aB{op:Operator}{r:R2}{g:Qm.G2}(ho:gJ X (binaryOp op) r)(hl:j4 X.K r g)(ha:QE X a fa)(hb:QE X b fb):QE X (.BinOp a op b pos) (Qm.e2 g fa fb):=(Qe ho ha hb).imp fun _ _ _ h=>zk hl h
theorem kL{op:CmpOp}{r:R2}{g:Qm.G2}(ho:gJ X (compareOp op) r)(hl:j4 X.K r g)(ha:QE X a fa)(hb:QE X b fb)(hm:behindInMarks op b=false):QE X (.Compare a [op] [b] pos) (Qm.e2 g fa fb):=(Ht ho ha hb hm).imp fun _ _ _ h=>zk hl h
theorem QZ{r:R2}{g:Qm.G2}(hr:xF X r)(hl:j4 X.K r g)(ha:QE X a fa)(hb:QE X b fb)(hs:rE b):QE X (.Subscript a b pos) (Qm.e2 g fa fb):=(Qs hr ha hb hs).imp fun _ _ _ h=>zk hl h
theorem jL{d:Qm.D}{i:Int}(h:Qm.rL d=some i):d= .int i:=by
 unfold Qm.rL at h
 split at h
 ·cases h;rfl
 ·cases h
theorem vy{d:Qm.D}{i:Bool}(h:Qm.kC d=some i):d= .bl i:=by
 unfold Qm.kC at h
 split at h
 ·cases h;rfl
 ·cases h
theorem vz{K:PySem.W.Frag}{C:Int→Int→Prop}{g:Int→Int→V}{f:Int→Int→Option Qm.D}(h:∀i j d,f i j=some d→C i j∧∀ρ N H,RD K ρ N H d (g i j)):j4 K (rI C g) (Qm.ii f):=by
 intro ρ c H x y d c' v u Q rs rx ry e k
 obtain⟨i,e1,e⟩:=aG e
 obtain⟨j,e2,e⟩:=aG e
 obtain⟨d',e3,e⟩:=aG e
 cases e
 cases jL e1;cases jL e2
 cases rx.eR;cases ry.eR
 obtain⟨hc,hr⟩:=h i j d e3
 exact⟨i,j,rfl,rfl,hc,k ρ _ H (Nx.refl rs) (hr _ _ _)⟩
theorem rN{K:PySem.W.Frag}{g:Int→Int→V}{f:Int→Int→Option Qm.D}(h:∀i j d,f i j=some d→∀ρ N H,RD K ρ N H d (g i j)):j4 K (rn g) (Qm.ii f):=by
 intro ρ c H x y d c' v u Q rs rx ry e k
 obtain⟨i,e1,e⟩:=aG e
 obtain⟨j,e2,e⟩:=aG e
 obtain⟨d',e3,e⟩:=aG e
 cases e
 cases jL e1;cases jL e2
 cases rx.eR;cases ry.eR
 exact⟨i,j,rfl,rfl,k ρ _ H (Nx.refl rs) (h i j d e3 _ _ _)⟩
theorem gU{K:PySem.W.Frag}:j4 K (rn fun i j=>.int (i - j)) Qm.fO:=rN fun i j d e ρ N H=>by cases e;exact .int _
theorem aX{K:PySem.W.Frag}:j4 K (rI IntMulOk fun i j=>.int (i*j)) Qm.aP:=vz fun i j d e=>by
 split at e
 ·rename_i h
  cases e
  refine⟨?_,fun _ _ _=>.int _⟩
  have e64:(2:Nat) ^ 64=18446744073709551616:=by decide
  rcases h with h|h|h
  ·exact My.QM h.1 h.2 rfl
  ·have:=h.lt
   exact My.L4 (by omega) (by omega)
  ·have:=h.lt
   exact My.L5 (by omega) (by omega)
 ·cases e
theorem jk{K:PySem.W.Frag}:j4 K (rI C1 fun i j=>.int (i.fdiv j)) Qm.gZ:=vz fun i j d e=>by
 split at e
 ·rename_i h
  cases e
  exact⟨Uc h.1 h.2 rfl,fun _ _ _=>.int _⟩
 ·cases e
theorem i9{K:PySem.W.Frag}:j4 K (rI (fun _ j=>j≠0) fun i j=>.int (i.fmod j)) Qm.fR:=vz fun i j d e=>by
 split at e
 ·rename_i h
  cases e
  exact⟨h,fun _ _ _=>.int _⟩
 ·cases e
theorem vA{K:PySem.W.Frag}:j4 K (rI Oy fun i j=>.int (i ^ j.toNat)) Qm.kI:=vz fun i j d e=>by
 split at e
 ·rename_i h
  cases e
  exact⟨⟨h.1,by omega,by(have:=h.2.2;have:(2:Nat) ^ 64=18446744073709551616:=(by decide);omega)⟩,fun _ _ _=>.int _⟩
 ·cases e
theorem tu{K:PySem.W.Frag}:j4 K (rn fun i j=>.bl (decide (i<j))) Qm.zd:=rN fun i j d e ρ N H=>by cases e;exact .bl _
theorem Q0{K:PySem.W.Frag}:j4 K (rn fun i j=>.bl (decide (i≤j))) Qm.Ma:=rN fun i j d e ρ N H=>by cases e;exact .bl _
theorem mO{K:PySem.W.Frag}:j4 K (rn fun i j=>.bl (decide (j<i))) Qm.pX:=rN fun i j d e ρ N H=>by cases e;exact .bl _
theorem cU{K:PySem.W.Frag}:j4 K (fun x y H Q=>(rn fun i j=>.int (i+j)) x y H Q∨(CN K x y H Q∨HK x y H Q)) Qm.bH:=by
 intro ρ c H x y d c' v u Q rs rx ry e k
 unfold Qm.bH at e
 split at e
 ·cases e
  cases rx.eR;cases ry.eR
  exact .inl ⟨_,_,rfl,rfl,k ρ _ H (Nx.refl rs) (.int _)⟩
 ·rename_i xs ys
  split at e
  ·rename_i h
   cases e
   obtain⟨p,vs,rfl,h1,a1⟩:=rx.jG
   obtain⟨q,us,rfl,h2,a2⟩:=ry.jG
   have l1:=a1.length
   have l2:=a2.length
   refine .inr (.inl ⟨p,q,vs,us,rfl,rfl,dj.of h1,dj.of h2,?_,md (by omega),fun z=>?_,fun _ l hl=>?_⟩)
   ·intro z;subst z
    have:xs=[]:=List.length_eq_zero_iff.mp (by simpa using l1)
    exact h.1 this
   ·subst z
    have:ys=[]:=List.length_eq_zero_iff.mp (by simpa using l2)
    subst this
    rw[List.append_nil]at k
    exact k ρ _ H (Nx.refl rs) (.tup h1 a1)
   ·have n:=Nx.same rs (iU (z:=.tup (vs++us)) hl)
    exact k ρ _ _ n (.tup dk ((a1.append a2).up n.up))
  ·cases e
 ·obtain⟨p,e1,e⟩:=aG e
  obtain⟨q,e2,e⟩:=aG e
  split at e
  ·rename_i h
   cases e
   obtain⟨_,hp,vs,rfl,h1,a1⟩:=rs.bj rx e1
   obtain⟨_,hq,us,rfl,h2,a2⟩:=rs.bj ry e2
   have l1:=a1.length
   have l2:=a2.length
   refine .inr (.inr ⟨_,_,vs,us,rfl,rfl,h1,h2,md (by omega),fun l hl=>?_⟩)
   obtain⟨n,r⟩:=Nx.alloc rs hl (a1.append a2)
   exact k _ _ _ n r
  ·cases e
theorem cu:gJ X (binaryOp .Add) (fun x y H Q=>(rn fun i j=>.int (i+j)) x y H Q∨(CN X.K x y H Q∨HK x y H Q)):=Lx.or (HG.or LR)
theorem zm{α:Type}{xs:List α}{i:Int}:Qm.iV xs i=CQ xs i:=rfl
theorem Q1{K:PySem.W.Frag}:j4 K (TY K) Qm.aw:=by
 intro ρ c H x y d c' v u Q rs rx ry e k
 obtain⟨xs,e1,e⟩:=aG e
 obtain⟨i,e2,e⟩:=aG e
 obtain⟨d',e3,e⟩:=aG e
 cases e
 cases jL e2
 cases ry.eR
 obtain⟨p,vs,rfl,h,a⟩:=rs.seq rx e1
 obtain⟨j,hj,hx⟩:=aG (show(Qm.zf xs.length i).bind (fun j=>xs[j]?)=some d from e3)
 obtain⟨w,hw,uY⟩:=a.get hx
 have Uw:CQ vs i=some w:=by
  show(CP vs.length i).bind (fun j=>vs[j]?)=some w
  rw[←a.length,show CP xs.length i=some j from hj]
  exact hw
 rcases h with h|h
 ·exact .inl ⟨p,vs,i,w,rfl,rfl,h,Uw,k ρ _ H (Nx.refl rs) uY⟩
 ·exact .inr (.inl ⟨p,vs,i,w,rfl,rfl,dj.of h,Uw,k ρ _ H (Nx.refl rs) uY⟩)
theorem dB(ha:QE X a fa)(hb:QE X b fb)(hs:rE b):QE X (.Subscript a b pos) (Qm.e2 Qm.aw fa fb):=QZ LN Q1 ha hb hs
theorem rO(ha:QE X a fa):QE X (.UnaryOp .USub a pos) (Qm.e1 Qm.qi fa):=(Qf Ly ha).imp <| by
 rintro σ H Q ⟨ρ,env,c,d,c',rs,re,e,k⟩
 obtain⟨p,e1,e⟩:=aG e
 obtain⟨i,e2,e⟩:=aG e
 cases e
 refine⟨ρ,env,c,p.1,p.2,rs,re,e1,fun aR v H1 n1 r1=>?_⟩
 rw[jL e2]at r1
 cases r1.eR
 exact⟨i,rfl,k aR _ H1 n1 (.int _)⟩
theorem vB{op}(h:QE X a fa):QE X (.BoolOp op [a] pos) fa:=Lg h
theorem rP{rest:List Expr}(ha:QE X a fa)(hb:QE X (.BoolOp .And (b::rest) pos) fb):QE X (.BoolOp .And (a::b::rest) pos) (Qm.uH fa fb):=(Lh ha hb).imp <| by
 rintro σ H Q ⟨ρ,env,c,d,c',rs,re,e,k⟩
 obtain⟨p,e1,e⟩:=aG e
 obtain⟨i,e2,e⟩:=aG e
 refine⟨ρ,env,c,p.1,p.2,rs,re,e1,fun aR v H1 n1 r1=>?_⟩
 rw[vy e2]at r1
 cases r1.pY
 refine⟨i,rfl,?_⟩
 split at e
 ·rename_i hi
  rw[if_pos hi]
  exact⟨aR,env,p.2,d,c',n1.rs,re.up n1.up,e,fun a_ w H' n r=>k a_ w H' (n1.trans n) r⟩
 ·rename_i hi
  rw[if_neg hi]
  cases e
  exact k aR _ H1 n1 (.bl _)
theorem rQ(ha:QE X a fa):QE X (.UnaryOp .Not a pos) (Qm.uI fa):=(Li ha).imp <| by
 rintro σ H Q ⟨ρ,env,c,d,c',rs,re,e,k⟩
 obtain⟨p,e1,e⟩:=aG e
 obtain⟨i,e2,e⟩:=aG e
 cases e
 refine⟨ρ,env,c,p.1,p.2,rs,re,e1,fun aR v H1 n1 r1=>?_⟩
 rw[vy e2]at r1
 cases r1.pY
 exact⟨i,rfl,k aR _ H1 n1 (.bl _)⟩
theorem pD{c0:Expr}(hc:QT X c0 ft)(ha:QE X a fa)(hb:QE X b fb):QE X (.IfExp c0 a b pos) (Qm.xK ft fa fb):=(Fo hc ha hb).imp <| by
 rintro σ H Q ⟨ρ,env,c,d,c',rs,re,e,k⟩
 obtain⟨p,e1,e⟩:=aG e
 refine⟨ρ,env,c,p.1,p.2,rs,re,e1,fun aR H1 n1=>?_⟩
 split at e
 ·rename_i hi
  rw[if_pos hi]
  exact⟨aR,env,p.2,d,c',n1.rs,re.up n1.up,e,fun a_ w H' n r=>k a_ w H' (n1.trans n) r⟩
 ·rename_i hi
  rw[if_neg hi]
  exact⟨aR,env,p.2,d,c',n1.rs,re.up n1.up,e,fun a_ w H' n r=>k a_ w H' (n1.trans n) r⟩
theorem aj:QA X [] Qm.ag:=LB.imp <| by
 rintro σ H Q ⟨ρ,env,c,ds,c',rs,re,e,k⟩
 cases e
 exact k ρ [] H (Nx.refl rs) .nil
theorem af{fr:Qm.XA}(ha:QE X e fa)(hr:QA X es fr)(hs:starEach (e::es) X.env=(false,eval e X.env)::starEach es X.env:=by rfl):QA X (e::es) (Qm.ae fa fr):=(Hx ha hr hs).imp <| by
 rintro σ H Q ⟨ρ,env,c,ds,c',rs,re,e,k⟩
 obtain⟨p,e1,e⟩:=aG e
 obtain⟨q,e2,e⟩:=aG e
 cases e
 exact⟨ρ,env,c,p.1,p.2,rs,re,e1,fun aR v H1 n1 r1=>⟨aR,env,p.2,q.1,q.2,n1.rs,re.up n1.up,e2,fun jj vs H2 n2 r2=>k jj (v::vs) H2 (n1.trans n2) (.cons (r1.up n2.up) r2)⟩⟩
theorem dE{x1}{f:Qm.XA}(h:QA X es f):QE X (.Tuple es x1 pos) (Qm.dI f):=(LC h).imp <| by
 rintro σ H Q ⟨ρ,env,c,d,c',rs,re,e,k⟩
 obtain⟨p,e1,e⟩:=aG e
 split at e
 ·rename_i hz
  cases e
  refine⟨ρ,env,c,p.1,p.2,rs,re,e1,fun aR vs H1 n1 r1=>⟨md (by rw[←r1.length];exact hz),fun l hl=>?_⟩⟩
  have n:=Nx.same n1.rs (iU (z:=.tup vs) hl)
  exact k aR _ _ (n1.trans n) (.tup dk (r1.up n.up))
 ·cases e
theorem eU{f:Qm.XA}(h:QA X es f):QE X (.List es pos) (Qm.fC f):=(LD h).imp <| by
 rintro σ H Q ⟨ρ,env,c,d,c',rs,re,e,k⟩
 obtain⟨p,e1,e⟩:=aG e
 split at e
 ·rename_i hz
  cases e
  refine⟨ρ,env,c,p.1,p.2,rs,re,e1,fun aR vs H1 n1 r1=>⟨md (by rw[←r1.length];exact hz),fun l hl=>?_⟩⟩
  obtain⟨n,r⟩:=Nx.alloc n1.rs hl r1
  exact k _ _ _ (n1.trans n) r
 ·cases e
def dG(K:PySem.W.Frag)(F:Qm.FN):Sp:=fun vs H Q _=>∃ρ c ds d c',RS K ρ c H∧RA K ρ c.length H ds vs∧F ds c=some (d,c')∧∀a_ v H',Nx K ρ c H a_ c' H'→RD K a_ c'.length H' d v→Q v H'
theorem Ir{K:PySem.W.Frag}{F:Qm.FN}{f:Qm.XA}{ds:List Qm.D}{rB:List V}{E:XK}(hd:∀ρ N H,RA K ρ N H ds rB){σ:St}{H:Hp}{Q:VK}(h:TQ K (Qm.aq F ds f) σ H Q):CJ (dG K F) rB E (AQ K f) σ H Q:=by
 obtain⟨ρ,env,c,d,c',rs,re,e,k⟩:=h
 obtain⟨p,e1,e⟩:=aG e
 exact⟨ρ,env,c,p.1,p.2,rs,re,e1,fun aR vs H1 n1 r1=>⟨aR,p.2,p.1++ds,d,c',n1.rs,r1.append (hd _ _ _),e,fun a_ v H' n r=>k a_ v H' (n1.trans n) r⟩⟩
theorem Iu{k:Nat}{f:Addr}{fd:FuncData}{ps:List Str}{F:Qm.FN}{rB:List V}{ds:List Value}{x:Str}{p:Pos}{fx:Qm.XA}(qs:List Qm.D)(G:bK X.prog X.w X.K X.mg X.base dm k f fd ps (dG X.K F))(hr:fP k X.A)(hg:Gl X x)(hm:X.mg x=some (.ref f))(hk:PySem.W.keepIn X.K (.ref f)=true)(hb:Binds X.K fd ps ds)(hd:Vals rB ds)(hq:∀ρ N H,RA X.K ρ N H qs rB)
  (ha:QA X (e::es) fx)(s_:(x==("__debug__":Str))=false:=by decide)(he:starEach (e::es) X.env=(false,eval e X.env)::starEach es X.env:=by rfl)(fA:(backTo pos (starEach es X.env)).any (·.1)=false:=by rfl):
  QE X (.Call (.Name x p) (e::es) [] pos) (Qm.aq F qs fx):=(Hy (E:=E0) G hr hg hm hk hb hd HQ ha s_ he fA).imp fun _ _ _ h=>Ir hq h
def qB(K:PySem.W.Frag)(r:List V→Hp→VK→Prop)(F:Qm.FN):Prop:=∀ρ c H ds d c' vs Q,RS K ρ c H→RA K ρ c.length H ds vs→F ds c=some (d,c')→(∀a_ w H',Nx K ρ c H a_ c' H'→RD K a_ c'.length H' d w→Q w H')→r vs H Q
theorem Iv{K:PySem.W.Frag}{r:List V→Hp→VK→Prop}{F:Qm.FN}(hl:qB K r F){f:Qm.XA}{σ:St}{H:Hp}{Q:VK}(h:TQ K (Qm.eB F f) σ H Q):Qp r (AQ K f) σ H Q:=by
 obtain⟨ρ,env,c,d,c',rs,re,e,k⟩:=h
 obtain⟨p,e1,e⟩:=aG e
 exact⟨ρ,env,c,p.1,p.2,rs,re,e1,fun aR vs H1 n1 r1=>hl aR p.2 H1 p.1 d c' vs Q n1.rs r1 e fun a_ v H' n r=>k a_ v H' (n1.trans n) r⟩
theorem aV{id:String}{r:List V→Hp→VK→Prop}{F:Qm.FN}{x:Str}{p:Pos}{f:Qm.XA}(hc:gK X (.builtin id) r)(hl:qB X.K r F)(hg:Gl X x)(hm:X.mg x=none)(hv:bootBuiltins x=some (.builtin id))(ha:QA X (e::es) f)(hn:x≠"__name__":=by decide)(s_:(x==("__debug__":Str))=false:=by decide)
  (he:starEach (e::es) X.env=(false,eval e X.env)::starEach es X.env:=by rfl)(fA:(backTo pos (starEach es X.env)).any (·.1)=false:=by rfl):QE X (.Call (.Name x p) (e::es) [] pos) (Qm.eB F f):=(Fw hc hg hm hv ha hn s_ he fA).imp fun _ _ _ h=>Iv hl h
theorem eW{id:String}{r:List V→Hp→VK→Prop}{F:Qm.FN}{x:Str}{p:Pos}{f:Qm.XA}(hc:gK X (.type id) r)(hl:qB X.K r F)(hg:Gl X x)(hm:X.mg x=none)(hv:bootBuiltins x=some (.type id))(ha:QA X (e::es) f)(hn:x≠"__name__":=by decide)(s_:(x==("__debug__":Str))=false:=by decide)
  (he:starEach (e::es) X.env=(false,eval e X.env)::starEach es X.env:=by rfl)(fA:(backTo pos (starEach es X.env)).any (·.1)=false:=by rfl):QE X (.Call (.Name x p) (e::es) [] pos) (Qm.eB F f):=(CL hc hg hm hv ha hn s_ he fA).imp fun _ _ _ h=>Iv hl h
end
end L2
namespace L2
open PySem PySem.Spec PyProof.Rows
section
variable{X:Cx}{a b e:Expr}{es:List Expr}{fa fb fc fe:Qm.XE}{ft fu:Qm.XT}{pos:Pos}
theorem OM{K:PySem.W.Frag}{t:TE}{f:Qm.XE}(ht:∀σ H Q,TQ K f σ H Q→t σ H Q){σ:St}{H:Hp}{Q:Bool→Hp→Prop}(h:BQ K (Qm.tV f) σ H Q):t σ H fun x H1=>∃k,x= .bl k∧Q k H1:=by
 obtain⟨ρ,env,c,d,c',rs,re,e,k⟩:=h
 obtain⟨p,e1,e⟩:=aG e
 obtain⟨i,e2,e⟩:=aG e
 cases e
 refine ht σ H _ ⟨ρ,env,c,p.1,p.2,rs,re,e1,fun aR v H1 n1 r1=>?_⟩
 rw[vy e2]at r1
 cases r1.pY
 exact⟨_,rfl,k aR H1 n1⟩
theorem cF(h:QE X e fe)(he:∀whole,isTrue e X.env whole=(do let v ←whole;standAt e.pos;holding [v] (truthy v)):=by intro _;rfl):QT X e (Qm.tV fe):=(Lb h he).imp fun _ _ _ q=>OM (fun _ _ _ z=>z) q
theorem bI{op:CmpOp}{r:R2}{g:Qm.G2}(ho:gJ X (compareOp op) r)(hl:j4 X.K r g)(ha:QE X a fa)(hb:QE X b fb)(hm:behindInMarks op b=false):QT X (.Compare a [op] [b] pos) (Qm.tV (Qm.e2 g fa fb)):=(Hu ho ha hb hm).imp fun _ _ _ q=>OM (fun _ _ _ z=>zk hl z) q
theorem mf(ha:QT X a ft):QW X (.BoolOp .And [a] pos) ft:=Hf ha
theorem kM(ha:QT X a ft):QW X (.BoolOp .Or [a] pos) ft:=Ld ha
theorem pE{rest:List Expr}(ha:QT X a ft)(hb:QW X (.BoolOp .And (b::rest) pos) fu):QW X (.BoolOp .And (a::b::rest) pos) (Qm.iN ft fu):=(Le ha hb).imp <| by
 rintro σ H Q ⟨ρ,env,c,d,c',rs,re,e,k⟩
 obtain⟨p,e1,e⟩:=aG e
 refine⟨ρ,env,c,p.1,p.2,rs,re,e1,fun aR H1 n1=>?_⟩
 split at e
 ·rename_i hi
  rw[if_pos hi]
  exact⟨aR,env,p.2,d,c',n1.rs,re.up n1.up,e,fun a_ H' n=>k a_ H' (n1.trans n)⟩
 ·rename_i hi
  rw[if_neg hi]
  cases e
  exact k aR H1 n1
theorem ly{rest:List Expr}(ha:QT X a ft)(hb:QW X (.BoolOp .Or (b::rest) pos) fu):QW X (.BoolOp .Or (a::b::rest) pos) (Qm.jX ft fu):=(P1 ha hb).imp <| by
 rintro σ H Q ⟨ρ,env,c,d,c',rs,re,e,k⟩
 obtain⟨p,e1,e⟩:=aG e
 refine⟨ρ,env,c,p.1,p.2,rs,re,e1,fun aR H1 n1=>?_⟩
 split at e
 ·rename_i hi
  rw[if_pos hi]
  cases e
  exact k aR H1 n1
 ·rename_i hi
  rw[if_neg hi]
  exact⟨aR,env,p.2,d,c',n1.rs,re.up n1.up,e,fun a_ H' n=>k a_ H' (n1.trans n)⟩
theorem gW(ha:QT X a ft):QT X (.UnaryOp .Not a pos) (Qm.eI ft):=(Lf ha).imp <| by
 rintro σ H Q ⟨ρ,env,c,d,c',rs,re,e,k⟩
 obtain⟨p,e1,e⟩:=aG e
 cases e
 exact⟨ρ,env,c,p.1,p.2,rs,re,e1,fun aR H1 n1=>k aR H1 n1⟩
theorem j5:QO X none Qm.f_:=HE.imp <| by
 rintro σ H Q ⟨ρ,env,c,d,c',rs,re,e,k⟩
 cases e
 exact k ρ H (Nx.refl rs)
theorem ik(h:QE X e fe):QO X (some e) (Qm.dO fe):=(HF h).imp <| by
 rintro σ H Q ⟨ρ,env,c,d,c',rs,re,e,k⟩
 obtain⟨p,e1,e⟩:=aG e
 refine⟨ρ,env,c,p.1,p.2,rs,re,e1,fun aR v H1 n1 r1=>?_⟩
 split at e
 ·rename_i i hi
  cases e
  rw[hi]at r1
  cases r1.eR
  exact⟨_,rfl,k aR H1 n1⟩
 ·cases e
theorem tw{K:PySem.W.Frag}{ρ:Nat→Addr}{N:Nat}{H:Hp}{ds:List Qm.D}{vs:List V}(a:RA K ρ N H ds vs)(lo hi:Option Int):RA K ρ N H (Qm.cutD ds lo hi) (nR vs lo hi):=by
 have e:∀n d o,Qm.wt n d o=HT.cL n d o:=fun n d o=>by cases o<;>rfl
 unfold Qm.cutD nR
 rw[e,e,a.length]
 exact(a.drop _).take _
end
section
variable{prog:Program}{w:World}{A:Around}{E:Value→Shared→Prop}{s:Shared}
theorem nW{t sl:Addr}{items:Array Value}{vl vu:Value}{lo hi:Option Int}{Q:Value→Shared→Prop}(ht:IsTup s.heap t items)(hs:s.heap.IsSliceOf sl vl vu .none)(pl:IsPart vl lo)(pu:IsPart vu hi)
  (hw:HT.cL items.size 0 lo=0∧HT.cL items.size items.size hi=items.size)(h:Q (.ref t) s):wpAny (model prog w) A (getItem (.ref t) (.ref sl)) Q E s:=by
 obtain⟨os,CM,LJ,HC⟩:=id hs
 have Qq:s.TypeIs (.ref sl) "slice":=⟨os,CM,LJ⟩
 unfold getItem
 try with_reducible refine wpAny_holding ?_
 first|refine wpAny_bind (wpAny_pure ?_)|skip
 refine wpAny_bind (wpAny_sequenceKey ht.typeIs (by decide) ?_)
 refine wpAny_bind (wpAny_callSpecial?_slot (name:=Str.ofString "__getitem__") ht.typeIs PyProof.Rows.slot_tuple_getitem
  (wpAny_call_entry PyProof.Rows.slot_tuple_getitem ht.typeIs entry_tuple_getitem ?_ (args_tuple_getitem _ _)))
 show wpAny _ _ (Builtin.Tuple.tupleItemsOf (.ref t) >>= _) _ _ s
 refine wpAny_bind (tupleItemsOf_ ht ?_)
 refine wpAny_bind (wpAny_typeOf Qq ?_)
 rw[if_pos (by decide)]
 refine wpAny_bind (HT.kH hs pl pu ?_)
 have Ux:(((HT.cL items.size 0 lo:Nat):Int)==0&&(1:Int)==1&&(HT.cL items.size items.size hi - HT.cL items.size 0 lo)==items.size)=true:=by
  rw[hw.1,hw.2];simp
 show wpAny _ _ (if (((HT.cL items.size 0 lo:Nat):Int)==0&&(1:Int)==1&&(HT.cL items.size items.size hi - HT.cL items.size 0 lo)==items.size)=true then _ else _) _ _ s
 rw[if_pos Ux]
 unfold Builtin.Tuple.tupleIsExact
 refine wpAny_bind (wpAny_bind (wpAny_typeOf ht.typeIs (wpAny_pure ?_)))
 rw[if_pos (by decide)]
 refine wpAny_bind (wpAny_rule ?_)
 exact wpAny_pure ⟨_,rfl,wpAny_pure h⟩
end
section
variable{X:Cx}{a b e:Expr}{es:List Expr}{fa fb fc fe:Qm.XE}{ft fu:Qm.XT}{pos p2:Pos}{lo hi:Option Expr}{fl fh:Qm.XO}
def Iw(K:PySem.W.Frag):V→Option Int→Option Int→Hp→VK→Prop:=fun x lo hi H Q=>∃a xs,x= .ref a∧dj K H a xs∧(HT.cL xs.length 0 lo=0∧HT.cL xs.length xs.length hi=xs.length)∧Q (.ref a) H
theorem Iy:yW X (Iw X.K):=by
 intro pins s σ H x v vl vu lo hi sl Q I rx hs pl pu h
 obtain⟨a,xs,rfl,hx,hw,q⟩:=h
 cases rx
 obtain⟨its,r,ht,hz⟩:=I.tuple hx
 have hlen:its.toArray.size=xs.length:=by rw[List.size_toArray];exact r.length.symm
 refine⟨"tuple",_,PyProof.Rows.slot_tuple_getitem.lookup,ht.typeIs,?_⟩
 exact nW ht hs pl pu (by rw[hlen];exact hw) ⟨.ref a,H,I,rfl,q⟩
def ON(K:PySem.W.Frag):V→Option Int→Option Int→Hp→VK→Prop:=fun x lo hi H Q=>OB K x lo hi H Q∨(Iw K x lo hi H Q∨OF K x lo hi H Q)
theorem Md:yW X (ON X.K):=LK.or (Iy.or HI)
theorem Me{K:PySem.W.Frag}{ρ:Nat→Addr}{c c':Qm.Cells}{H:Hp}{x d:Qm.D}{v:V}{lo hi:Option Int}{Q:VK}(rs:RS K ρ c H)(rx:RD K ρ c.length H x v)(e:Qm.eJ x lo hi c=some (d,c'))(k:∀a_ w H',Nx K ρ c H a_ c' H'→RD K a_ c'.length H' d w→Q w H'):ON K v lo hi H Q:=by
 unfold Qm.eJ at e
 split at e
 ·rename_i xs
  cases e
  obtain⟨p,vs,rfl,h1,a1⟩:=rx.jG
  by_cases hw:HT.cL vs.length 0 lo=0∧HT.cL vs.length vs.length hi=vs.length
  ·refine .inr (.inl ⟨p,vs,rfl,dj.of h1,hw,?_⟩)
   have:nR vs lo hi=vs:=by
    unfold nR
    rw[hw.1,hw.2];simp
   have a2:=tw a1 lo hi
   rw[this]at a2
   exact k ρ _ H (Nx.refl rs) (.tup h1 a2)
  ·refine .inl ⟨p,vs,rfl,dj.of h1,hw,fun l hl=>?_⟩
   have n:=Nx.same rs (iU (z:=.tup (nR vs lo hi)) hl)
   exact k ρ _ _ n (.tup dk ((tw a1 lo hi).up n.up))
 ·rename_i x' fH
  obtain⟨xs,e1,e⟩:=aG e
  cases e
  rcases zh e1 with z|⟨n,z⟩
  ·exact absurd z (fH xs)
  ·subst z
   obtain⟨vs,rfl,h,a⟩:=rs.Io rx e1
   refine .inr (.inr ⟨_,vs,rfl,h,fun l hl=>?_⟩)
   obtain⟨n,r⟩:=Nx.alloc rs hl (tw a lo hi)
   exact k _ _ _ n r
theorem hG(he:QE X e fe)(hl:QO X lo fl)(hu:QO X hi fh):QE X (.Subscript e (.Slice lo hi none p2) pos) (Qm.lZ Qm.eJ fe fl fh):=(Fz Md he hl hu).imp <| by
 rintro σ H Q ⟨ρ,env,c,d,c',rs,re,e,k⟩
 obtain⟨p,e1,e⟩:=aG e
 obtain⟨l,e2,e⟩:=aG e
 obtain⟨h,e3,e⟩:=aG e
 exact⟨ρ,env,c,p.1,p.2,rs,re,e1,fun aR v H1 n1 r1=>⟨aR,env,p.2,l.1,l.2,n1.rs,re.up n1.up,e2,fun jj H2 n2=>⟨jj,env,l.2,h.1,h.2,n2.rs,re.up (n1.trans n2).up,e3,fun zo H3 n3=>
  Me n3.rs ((r1.up n2.up).up n3.up) e fun a_ w H' n r=>k a_ w H' (n1.trans (n2.trans (n3.trans n))) r⟩⟩⟩
def FO(K:PySem.W.Frag)(r:V→List V→Hp→VK→Prop)(g:Qm.D→Qm.FN):Prop:=∀ρ c H x ds d c' v vs Q,RS K ρ c H→RD K ρ c.length H x v→RA K ρ c.length H ds vs→g x ds c=some (d,c')→(∀a_ w H',Nx K ρ c H a_ c' H'→RD K a_ c'.length H' d w→Q w H')→r v vs H Q
theorem Uy{K:PySem.W.Frag}{ρ:Nat→Addr}{c:Qm.Cells}{H:Hp}{x:Qm.D}{v:V}{z:Nat×List Qm.D}(rs:RS K ρ c H)(rx:RD K ρ c.length H x v)(e:Qm.bj x c=some z):LP K "list" v H:=by
 obtain⟨_,_,vs,rfl,h,_⟩:=rs.bj rx e
 exact .inl ⟨rfl,_,cy.of h⟩
theorem mh{name:Str}{id:String}{r:V→List V→Hp→VK→Prop}{g:Qm.D→Qm.FN}{o:Expr}{fo:Qm.XE}{f:Qm.XA}{apos bP:Pos}(slot:Slot "list" name id)(CS:typeOf (.builtin id)=pure (.type "method_descriptor"))(hm:CT X id r)(hl:FO X.K r g)(ho:QE X o fo)(ha:QA X (e::es) f)
  (iS:attributeBase o name X.env (eval o X.env)=eval o X.env:=by rfl)
  (rF:((backTo bP (starEach (e::es) X.env)).all (fun x=>!x.1)&&(backToKw bP (keywordEach [] X.env)).all (fun x=>x.1.isSome)
   &&decide ((e::es).length+([]:List Keyword).length+(if ([]:List Keyword).isEmpty then 0 else 1)<30))=true:=by rfl)
  (iT:(apos.endLine==bP.line)=true:=by rfl)(hs:starEach (e::es) X.env=(false,eval e X.env)::starEach es X.env:=by rfl)(yX:(backTo bP (starEach es X.env)).any (·.1)=false:=by rfl):
  QE X (.Call (.Attribute o name apos) (e::es) [] bP) (Qm.eM g fo f):=(Qu PySem.F.plainAttrs_list slot CS hm ho ha iS rF iT hs yX).imp <| by
 rintro σ H Q ⟨ρ,env,c,d,c',rs,re,e,k⟩
 obtain⟨p,e1,e⟩:=aG e
 obtain⟨z,e2,e⟩:=aG e
 obtain⟨q,e3,e⟩:=aG e
 exact⟨ρ,env,c,p.1,p.2,rs,re,e1,fun aR v H1 n1 r1=>⟨Uy n1.rs r1 e2,aR,env,p.2,q.1,q.2,n1.rs,re.up n1.up,e3,fun jj vs H2 n2 r2=>
  hl jj q.2 H2 p.1 q.1 d c' v vs Q n2.rs (r1.up n2.up) r2 e fun a_ w H' n r=>k a_ w H' (n1.trans (n2.trans n)) r⟩⟩
theorem Q2{name:Str}{id:String}{r:V→List V→Hp→VK→Prop}{g:Qm.D→Qm.FN}{o:Expr}{fo:Qm.XE}{apos bP:Pos}(slot:Slot "list" name id)(CS:typeOf (.builtin id)=pure (.type "method_descriptor"))(hm:CT X id r)(hl:FO X.K r g)(ho:QE X o fo)
  (iS:attributeBase o name X.env (eval o X.env)=eval o X.env:=by rfl)(iT:(apos.endLine==bP.line)=true:=by rfl):
  QE X (.Call (.Attribute o name apos) [] [] bP) (Qm.eM g fo Qm.ag):=(LQ PySem.F.plainAttrs_list slot CS hm ho iS iT).imp <| by
 rintro σ H Q ⟨ρ,env,c,d,c',rs,re,e,k⟩
 obtain⟨p,e1,e⟩:=aG e
 obtain⟨z,e2,e⟩:=aG e
 obtain⟨q,e3,e⟩:=aG e
 cases e3
 exact⟨ρ,env,c,p.1,p.2,rs,re,e1,fun aR v H1 n1 r1=>⟨Uy n1.rs r1 e2,hl aR p.2 H1 p.1 [] d c' v [] Q n1.rs r1 .nil e fun a_ w H' n r=>k a_ w H' (n1.trans n) r⟩⟩
theorem eX{K:PySem.W.Frag}:FO K AV Qm.bM:=by
 intro ρ c H x ds d c' v vs Q rs rx ra e k
 unfold Qm.bM Qm.one at e
 split at e
 ·rename_i y
  obtain⟨l,e1,e⟩:=aG e
  obtain⟨u,rfl,ry⟩:=ra.jF
  split at e
  ·rename_i hz
   cases e
   obtain⟨_,hn,ws,rfl,h,a⟩:=rs.bj rx e1
   have n:=Nx.put rs hn (a.append (RA.one ry))
   exact⟨_,ws,u,rfl,rfl,h,rM (by rw[←a.length];exact hz),k ρ _ _ n .bF⟩
  ·cases e
 ·cases e
theorem wz{K:PySem.W.Frag}:FO K AW Qm.fD:=by
 intro ρ c H x ds d c' v vs Q rs rx ra e k
 unfold Qm.fD Qm.one at e
 split at e
 ·rename_i y
  obtain⟨l,e1,e⟩:=aG e
  obtain⟨z,e2,e⟩:=aG e
  obtain⟨u,rfl,ry⟩:=ra.jF
  split at e
  ·rename_i hz
   cases e
   obtain⟨_,hn,ws,rfl,h,a⟩:=rs.bj rx e1
   obtain⟨_,T9,us,rfl,h2,a2⟩:=rs.bj ry e2
   have n:=Nx.put rs hn (a.append a2)
   exact⟨_,_,ws,us,rfl,rfl,h,h2,md (by rw[←a.length,←a2.length];exact hz),k ρ _ _ n .bF⟩
  ·cases e
 ·cases e
theorem FP{K:PySem.W.Frag}:FO K Eh Qm.vw:=by
 intro ρ c H x ds d c' v vs Q rs rx ra e k
 unfold Qm.vw at e
 split at e
 ·obtain⟨l,e1,e⟩:=aG e
  cases ra.OK
  cases e
  obtain⟨_,hn,ws,rfl,h,a⟩:=rs.bj rx e1
  exact⟨_,ws,rfl,rfl,h,k ρ _ _ (Nx.put rs hn .nil) .bF⟩
 ·cases e
theorem i_{g:Qm.G1}{ds:List Qm.D}{c:Qm.Cells}{z}(h:Qm.one g ds c=some z):∃x,ds=[x]∧g x c=some z:=by
 unfold Qm.one at h
 split at h
 ·exact⟨_,rfl,h⟩
 ·cases h
theorem Mf{g:Qm.G2}{ds:List Qm.D}{c:Qm.Cells}{z}(h:Qm.two g ds c=some z):∃x y,ds=[x,y]∧g x y c=some z:=by
 unfold Qm.two at h
 split at h
 ·exact⟨_,_,rfl,h⟩
 ·cases h
theorem mP{K:PySem.W.Frag}:qB K (fun xs H Q=>∃i,xs=[.int i]∧Q (.int (if i<0 then -i else i)) H) Qm.l_:=by
 intro ρ c H ds d c' vs Q rs ra e k
 obtain⟨x,rfl,e⟩:=i_ e
 obtain⟨v,rfl,rx⟩:=ra.jF
 obtain⟨i,e1,e⟩:=aG e
 cases e
 cases jL e1
 cases rx.eR
 exact⟨i,rfl,k ρ _ H (Nx.refl rs) (.int _)⟩
theorem fT{K:PySem.W.Frag}:qB K (fun xs H Q=>∃p ys,xs=[.ref p]∧(cy K H p ys∨dj K H p ys)∧Q (.int ys.length) H) Qm.cY:=by
 intro ρ c H ds d c' vs Q rs ra e k
 obtain⟨x,rfl,e⟩:=i_ e
 obtain⟨v,rfl,rx⟩:=ra.jF
 obtain⟨xs,e1,e⟩:=aG e
 cases e
 obtain⟨p,ws,rfl,h,a⟩:=rs.seq rx e1
 exact⟨p,ws,rfl,h.imp id dj.of,k ρ _ H (Nx.refl rs) (by rw[a.length];exact .int _)⟩
theorem Iz{K:PySem.W.Frag}:qB K (fun xs H Q=>(∃i,xs=[.int i]∧Q (.int i) H)∨∃k,xs=[.bl k]∧Q (.int (if k then 1 else 0)) H) Qm.Ep:=by
 intro ρ c H ds d c' vs Q rs ra e k
 obtain⟨x,rfl,e'⟩:=i_ e
 obtain⟨v,rfl,rx⟩:=ra.jF
 split at e'
 ·cases e'
  cases rx.eR
  exact .inl ⟨_,rfl,k ρ _ H (Nx.refl rs) (.int _)⟩
 ·cases e'
  cases rx.pY
  exact .inr ⟨_,rfl,k ρ _ H (Nx.refl rs) (.int _)⟩
 ·cases e'
theorem Bh{K:PySem.W.Frag}:qB K (fun xs H Q=>∃p ys,xs=[.ref p]∧(cy K H p ys∨dj K H p ys)∧∀l,H l=none→Q (.ref l) (upd H l (.lst ys))) Qm.qA:=by
 intro ρ c H ds d c' vs Q rs ra e k
 obtain⟨x,rfl,e⟩:=i_ e
 obtain⟨v,rfl,rx⟩:=ra.jF
 obtain⟨xs,e1,e⟩:=aG e
 cases e
 obtain⟨p,ws,rfl,h,a⟩:=rs.seq rx e1
 refine⟨p,ws,rfl,h.imp id dj.of,fun l hl=>?_⟩
 obtain⟨n,r⟩:=Nx.alloc rs hl a
 exact k _ _ _ n r
end
end L2
namespace L2
open PySem PySem.Spec PyProof.Rows
section
variable{X:Cx}{a b e tg:Expr}{es:List Expr}{fa fb fc fe:Qm.XE}{ft fu:Qm.XT}{pos:Pos}{st:Stmt}{rest:List Stmt}{fs fr:Qm.XS}{fg:Qm.XG}
theorem ba:xM X [] Qm.bA:=Hg.imp <| by
 rintro D σ H ⟨ρ,env,c,fl,cZ,c',rs,re,e,k⟩
 cases e
 exact k ρ H (Nx.refl rs) σ re
theorem ak(h1:QS X st fs)(h2:xM X rest fr):xM X (st::rest) (Qm.ay fs fr):=(Fp h1 h2).imp <| by
 rintro D σ H ⟨ρ,env,c,fl,cZ,c',rs,re,e,k⟩
 obtain⟨p,e1,e⟩:=aG e
 obtain⟨f,e2,c2⟩:=p
 cases f with
 |nx=>exact⟨ρ,env,c,.nx,e2,c2,rs,re,e1,fun aR H1 n1 pW vf=>⟨aR,e2,c2,fl,cZ,c',n1.rs,vf,e,fun a_ H' n=>k a_ H' (n1.trans n)⟩⟩
 |rt d=>cases e;exact⟨ρ,env,c,.rt d,cZ,c',rs,re,e1,fun aR H1 n1=>k aR H1 n1⟩
 |bk=>cases e;exact⟨ρ,env,c,.bk,cZ,c',rs,re,e1,fun aR H1 n1=>k aR H1 n1⟩
 |ct=>cases e;exact⟨ρ,env,c,.ct,cZ,c',rs,re,e1,fun aR H1 n1=>k aR H1 n1⟩
theorem au(h1:QS X st fs):xM X [st] fs:=Hh h1
theorem er(he:QE X e fe)(hs:swapsWith e none pos.line X.env=pure false:=by rfl):QS X (.Expr e pos) (Qm.cC fe):=(Hi he hs).imp <| by
 rintro D σ H ⟨ρ,env,c,fl,cZ,c',rs,re,e,k⟩
 obtain⟨p,e1,e⟩:=aG e
 cases e
 exact⟨ρ,env,c,p.1,p.2,rs,re,e1,fun aR v H1 n1 _=>k aR H1 n1 σ (re.up n1.up)⟩
theorem aD(he:QE X e fe):QS X (.Return (some e) pos) (Qm.aT fe):=(Lj he).imp <| by
 rintro D σ H ⟨ρ,env,c,fl,cZ,c',rs,re,e,k⟩
 obtain⟨p,e1,e⟩:=aG e
 cases e
 exact⟨ρ,env,c,p.1,p.2,rs,re,e1,fun aR v H1 n1 r1=>k aR H1 n1 v r1⟩
theorem cA{c0:Expr}{x y:List Stmt}(hc:QT X c0 ft)(ha:xM X x fs)(hb:xM X y fr):QS X (.If c0 x y pos) (Qm.cM ft fs fr):=(P8 hc ha hb).imp <| by
 rintro D σ H ⟨ρ,env,c,fl,cZ,c',rs,re,e,k⟩
 obtain⟨p,e1,e⟩:=aG e
 refine⟨ρ,env,c,p.1,p.2,rs,re,e1,fun aR H1 n1=>?_⟩
 split at e
 ·rename_i hi
  rw[if_pos hi]
  exact⟨aR,env,p.2,fl,cZ,c',n1.rs,re.up n1.up,e,fun a_ H' n=>k a_ H' (n1.trans n)⟩
 ·rename_i hi
  rw[if_neg hi]
  exact⟨aR,env,p.2,fl,cZ,c',n1.rs,re.up n1.up,e,fun a_ H' n=>k a_ H' (n1.trans n)⟩
theorem aJ{i:Nat}{x:Str}{pos':Pos}(hN:X.N.Nodup)(hi:X.N[i]? =some x)(hx:Loc X.env.scope x)(he:QE X e fe)(hs:swapsWith e (some (.Name x pos')) pos.line X.env=pure false:=by rfl)(hf:X.fn x=true∨X.env.scope.names.lookup x=some .local:=by first|exact .inl rfl|exact .inr rfl|assumption):
  QS X (.Assign [.Name x pos'] e pos) (Qm.aH i fe):=(Lo hN hi hx he hs hf).imp <| by
 rintro D σ H ⟨ρ,env,c,fl,cZ,c',rs,re,e,k⟩
 obtain⟨p,e1,e⟩:=aG e
 cases e
 exact⟨ρ,env,c,p.1,p.2,rs,re,e1,fun aR v H1 n1 r1=>k aR H1 n1 _ ((re.up n1.up).set r1)⟩
theorem rR(he:QE X e fe)(hg:QG X tg fg)(hs:swapsWithSole [tg] e pos.line X.env=pure false:=by rfl)(hw:swappedStores [tg] e X.env=pure none:=by rfl)
  (h1:(assignEach [tg] X.env).map (·.2)=[assign tg X.env]:=by rfl):QS X (.Assign [tg] e pos) (Qm.rK fe fg):=(Ln he hg hs hw h1).imp <| by
 rintro D σ H ⟨ρ,env,c,fl,cZ,c',rs,re,e,k⟩
 obtain⟨p,e1,e⟩:=aG e
 obtain⟨q,e2,e⟩:=aG e
 cases e
 exact⟨ρ,env,c,p.1,p.2,rs,re,e1,fun aR v H1 n1 r1=>⟨aR,env,p.2,p.1,q.1,q.2,n1.rs,re.up n1.up,r1,e2,fun a_ H' σ' n Q3=>k a_ H' (n1.trans n) σ' Q3⟩⟩
theorem mi{i j:Nat}{x y:Str}{f:Qm.XA}{px py pt:Pos}{kt k2 CB}(hc:X.calm=true)(hN:X.N.Nodup)(hi:X.N[i]? =some x)(hj:X.N[j]? =some y)(yT:i≠j)
  (hx:X.env.scope.names.lookup x=some .local)(hy:X.env.scope.names.lookup y=some .local)(ha:QA X [a,b] f)
  (hw:swappedStores [.Tuple [.Name x px,.Name y py] kt pt] (.Tuple [a,b] k2 CB) X.env=pure (some [x,y]))
  (hs:swapsWithSole [.Tuple [.Name x px,.Name y py] kt pt] (.Tuple [a,b] k2 CB) pos.line X.env=pure false:=by rfl):
  QS X (.Assign [.Tuple [.Name x px,.Name y py] kt pt] (.Tuple [a,b] k2 CB) pos) (Qm.qg [i,j] f):=(Lp hc hN hi hj yT hx hy ha hw hs).imp <| by
 rintro D σ H ⟨ρ,env,c,fl,cZ,c',rs,re,e,k⟩
 obtain⟨p,e1,e⟩:=aG e
 split at e
 ·rename_i hl
  cases e
  refine⟨ρ,env,c,p.1,p.2,rs,re,e1,fun aR vs H1 n1 r1=>?_⟩
  obtain⟨ds,c2⟩:=p
  match ds,hl,r1 with
  |[d1,d2],_,r1=>
   obtain⟨v,u,rfl,ra,rb⟩:=r1.uJ
   exact⟨v,u,rfl,k aR H1 n1 _ (((re.up n1.up).set ra).set rb)⟩
 ·cases e
theorem aS{i:Nat}{x:Str}(hN:X.N.Nodup)(hi:X.N[i]? =some x)(hx:Loc X.env.scope x)(hf:X.fn x=true∨X.env.scope.names.lookup x=some .local:=by first|exact .inl rfl|exact .inr rfl|assumption):QG X (.Name x pos) (Qm.av i):=(AD hN hi hx hf).imp <| by
 rintro v σ H Q ⟨ρ,env,c,d,cZ,c',rs,re,rd,e,k⟩
 cases e
 exact k ρ H _ (Nx.refl rs) (re.set rd)
theorem gc:Mb X [] Qm.cW:=Hk.imp <| by
 rintro vs σ H Q ⟨ρ,env,c,ds,cZ,c',rs,re,ra,e,k⟩
 unfold Qm.cW at e
 split at e
 ·cases e
  exact⟨ra.OK,k ρ H σ (Nx.refl rs) re⟩
 ·cases e
theorem bT{IA:Qm.xJ}(h1:QG X e fg)(h2:Mb X es IA)(hs:(assignEach (e::es) X.env).map (·.2)=assign e X.env::(assignEach es X.env).map (·.2):=by rfl):Mb X (e::es) (Qm.aK fg IA):=(Fq h1 h2 hs).imp <| by
 rintro vs σ H Q ⟨ρ,env,c,ds,cZ,c',rs,re,ra,e,k⟩
 unfold Qm.aK at e
 split at e
 ·rename_i d t
  obtain⟨p,e1,e⟩:=aG e
  cases ra with
  |cons r1 r2=>
   exact⟨_,_,rfl,ρ,env,c,d,p.1,p.2,rs,re,r1,e1,fun aR H1 pW n1 vf=>⟨aR,p.1,p.2,t,cZ,c',n1.rs,vf,r2.up n1.up,e,fun a_ H' σ' n Q3=>k a_ H' σ' (n1.trans n) Q3⟩⟩
 ·cases e
theorem ip{k0:Nat}{IA:Qm.xJ}{n:Nat}(hc:X.calm=true)(h:Mb X es IA)(hn:(assignEach es X.env).length=n:=by rfl)(vU:(assignEach es X.env).findIdx? (·.1)=none:=by rfl):QG X (.Tuple es k0 pos) (Qm.cX n IA):=(Ll hc h hn vU).imp <| by
 rintro v σ H Q ⟨ρ,env,c,d,cZ,c',rs,re,rd,e,k⟩
 unfold Qm.cX at e
 split at e
 ·rename_i xs
  split at e
  ·rename_i hl
   obtain⟨p,vs,rfl,h1,a1⟩:=rd.jG
   exact⟨p,vs,rfl,dj.of h1,by rw[←a1.length];exact hl,ρ,env,c,xs,cZ,c',rs,re,a1,e,k⟩
  ·cases e
 ·cases e
theorem Mg{o i:Expr}{fo fi:Qm.XE}(ho:QE X o fo)(hi:QE X i fi)
  (ha:∀v,assign (.Subscript o i pos) X.env v=(do
   let ov ←holding [v] (eval o X.env)
   let iv ←holding [v,ov] (eval i X.env)
   standAt pos
   holding [v,ov,iv] (setItem ov iv v)
   release [v,ov,iv] []):=by intro _;rfl):QG X (.Subscript o i pos) (Qm.Ik fo fi):=(Lm ho hi set_list ha).imp <| by
 rintro v σ H Q ⟨ρ,env,c,d,cZ,c',rs,re,rd,e,k⟩
 obtain⟨p,e1,e⟩:=aG e
 obtain⟨q,e2,e⟩:=aG e
 obtain⟨l,e3,e⟩:=aG e
 obtain⟨m,e4,e⟩:=aG e
 obtain⟨j,e5,e⟩:=aG e
 cases e
 refine⟨ρ,env,c,p.1,p.2,rs,re,e1,fun aR v1 H1 n1 r1=>⟨aR,env,p.2,q.1,q.2,n1.rs,re.up n1.up,e2,fun jj v2 H2 n2 r2=>?_⟩⟩
 rw[jL e4]at r2
 cases r2.eR
 obtain⟨_,hn,ws,rfl,h,a⟩:=n2.rs.bj (r1.up n2.up) e3
 have n:=Nx.put n2.rs hn (RA.set (rd.up (n1.trans n2).up) j a)
 refine⟨_,ws,m,j,rfl,rfl,h,by rw[←a.length];exact e5,?_⟩
 exact k jj _ σ (n1.trans (n2.trans n)) (re.up (n1.trans (n2.trans n)).up)
theorem Es(h:QE X e fe):QI X tg e (Qm.uw fe):=(Lu h).imp <| by
 rintro σ H R ⟨ρ,env,c,m,c',rs,re,e,k⟩
 obtain⟨p,e1,e⟩:=aG e
 refine⟨ρ,env,c,p.1,p.2,rs,re,e1,fun aR v H1 n1 r1=>?_⟩
 split at e
 ·rename_i xs hx
  cases e
  rw[hx]at r1
  obtain⟨q,vs,rfl,h1,a1⟩:=r1.jG
  refine⟨q,rfl,⟨vs,dj.of h1⟩,k aR _ H1 n1 fun jj c2 H2 u2 pZ _=>?_⟩
  have h2:=u2.ts _ _ h1
  have a2:=a1.up u2
  refine⟨fun i hi=>⟨vs,vs[i]'(by rw[←a1.length];exact hi),dj.of h2,List.getElem?_eq_getElem _⟩,⟨vs,dj.of h2,by rw[a1.length];exact Nat.le_refl _⟩,fun i d x H' hd hy=>?_⟩
  obtain⟨rfl,hy⟩:=hy
  obtain⟨v,hv,rv⟩:=a2.get hd
  have:=hy vs (dj.of h2)
  rw[hv]at this;cases this
  exact⟨Nx.refl pZ,rv⟩
 ·cases e
theorem qj{K:PySem.W.Frag}{ρ:Nat→Addr}{c:Qm.Cells}{H:Hp}(rs:RS K ρ c H){n:Nat}{z:Qm.Cell}{c0:Qm.Cells}{xs:List Qm.D}(h0:c0[n]? =some z)(h1:Qm.cE (.ref n) c0=some xs)(h:c[n]? =some z):∃vs,cy K H (ρ n) vs∧RA K ρ c.length H xs vs:=by
 have hn:n<c.length:=(List.getElem?_eq_some_iff.mp h).1
 have e:Qm.cE (.ref n) c=some xs:=by
  unfold Qm.cE at h1 ⊢
  dsimp only at h1 ⊢
  rw[h0]at h1;rw[h];exact h1
 obtain⟨vs,_,h2,h3⟩:=rs.Io (.ref hn) e
 exact⟨vs,h2,h3⟩
theorem gd(h:QE X e fe):QI X tg e (Qm.eK fe):=(Hm h).imp <| by
 rintro σ H R ⟨ρ,env,c,m,c',rs,re,e,k⟩
 obtain⟨p,e1,e⟩:=aG e
 refine⟨ρ,env,c,p.1,p.2,rs,re,e1,fun aR v H1 n1 r1=>?_⟩
 split at e
 ·rename_i n hx
  obtain⟨z,e2,e⟩:=aG e
  obtain⟨xs,e3,e⟩:=aG e
  cases e
  rw[hx]at r1
  obtain⟨hv,hn⟩:=r1.kK
  subst hv
  obtain⟨vs,h1,a1⟩:=qj n1.rs e2 e3 e2
  refine⟨_,rfl,⟨vs,h1⟩,k aR _ H1 n1 fun jj c2 H2 u2 pZ mG=>?_⟩
  obtain⟨ws,h2,a2⟩:=qj pZ e2 e3 (mG (n,z) (by simp))
  rw[u2.agree n hn]at h2
  refine⟨fun i hi=>⟨ws,ws[i]'(by rw[←a2.length];exact hi),h2,List.getElem?_eq_getElem _⟩,⟨ws,h2,by rw[a2.length];exact Nat.le_refl _⟩,fun i d x H' hd hy=>?_⟩
  obtain⟨rfl,hy⟩:=hy
  obtain⟨v,hv,rv⟩:=a2.get hd
  have:=hy ws h2
  rw[hv]at this;cases this
  exact⟨Nx.refl pZ,rv⟩
 ·cases e
theorem IB{lo:Int}{n i:Nat}{d:Qm.D}(h:(Qm.gY lo n)[i]? =some d):i<n∧d= .int (lo+i):=by
 unfold Qm.gY at h
 rw[List.getElem?_map]at h
 by_cases hi:i<n
 ·rw[List.getElem?_range hi]at h
  cases h
  exact⟨hi,rfl⟩
 ·rw[List.getElem?_eq_none_iff.mpr (by simpa using Nat.le_of_not_lt hi)]at h
  cases h
theorem Mh{K:PySem.W.Frag}{ρ:Nat→Addr}{N:Nat}{H:Hp}{lo:Int}{n:Nat}:Ip K ρ N H ⟨Qm.gY lo n,[]⟩ (Ls lo n):=fun ρ c H u rs _=>by
 have hl:(Qm.gY lo n).length=n:=by simp[Qm.gY]
 refine⟨fun i hi=>by show i<n;rw[←hl];exact hi,by show n≤(Qm.gY lo n).length;omega,fun i d x H' hd hy=>?_⟩
 obtain⟨rfl,rfl⟩:=hy
 obtain⟨_,rfl⟩:=IB hd
 exact⟨Nx.refl rs,.int _⟩
theorem j6{f:Qm.XA}{p:Pos}(hg:Gl X "range")(hm:X.mg "range" =none)(ha:QA X [a] f)(hs:starEach [a] X.env=[(false,eval a X.env)]:=by rfl):QI X tg (.Call (.Name "range" p) [a] [] pos) (Qm.fY f):=(CD hg hm ha hs).imp <| by
 rintro σ H R ⟨ρ,env,c,m,c',rs,re,e,k⟩
 obtain⟨p,e1,e⟩:=aG e
 refine⟨ρ,env,c,p.1,p.2,rs,re,e1,fun aR vs H1 n1 r1=>?_⟩
 split at e
 ·rename_i j hj
  split at e
  ·rename_i hb
   cases e
   rw[hj]at r1
   obtain⟨v,rfl,rv⟩:=r1.jF
   cases rv.eR
   exact⟨j,rfl,hb.1,hb.2,k aR _ H1 n1 Mh⟩
  ·cases e
 ·cases e
theorem dX{body:List Stmt}{fi:Qm.XI}(hp:PassesOwn (model X.prog X.w) X.A X.env X.xe)(hc:X.calm=true)(hi:QI X tg e fi)(hg:QG X tg fg)(hb:xM X body fs)
  (hs:∀x,foldedSetIterable e X.env x=pure x:=by intro _;rfl):QS X (.For tg e body [] pos) (Qm.dJ fi fg fs):=(Lv hp hc hi hg hb hs).imp <| by
 rintro D σ H ⟨ρ,env,c,fl,cZ,c',rs,re,e,k⟩
 obtain⟨m,e1,e⟩:=aG e
 refine⟨ρ,env,c,m.1,m.2,rs,re,e1,fun C4 J H0 n0 it=>?_⟩
 refine⟨fun i q σ' H'=>q=m.1.ds.length - i∧i≤m.1.ds.length∧∃aR fU c1,Nx X.K C4 m.2 H0 aR c1 H'∧RE X.K aR c1.length H' fU σ'∧Qm.ie m.1.ks fg fs (m.1.ds.drop i) fU c1=some (fl,cZ,c'),⟨_,rfl,Nat.zero_le _,C4,env,m.2,Nx.refl n0.rs,re.up n0.up,e⟩,?_⟩
 rintro i q pW H1 ⟨rfl,hi,aR,fU,c1,n1,vf,e1⟩
 by_cases fZ:i<m.1.ds.length
 ·rw[List.drop_eq_getElem_cons fZ]at e1
  unfold Qm.ie at e1
  split at e1
  ·rename_i vU
   obtain⟨go,_,yl⟩:=it aR c1 H1 n1.up n1.rs vU
   obtain⟨p,e2,e1⟩:=aG e1
   obtain⟨q,e3,e1⟩:=aG e1
   refine .inr ⟨go i fZ,fun σ' H'=>i+1≤m.1.ds.length∧∃aR fU c1,Nx X.K C4 m.2 H0 aR c1 H'∧RE X.K aR c1.length H' fU σ'∧Qm.ie m.1.ks fg fs (m.1.ds.drop (i+1)) fU c1=some (fl,cZ,c'),fun σ' H' h=>⟨m.1.ds.length - (i+1),by omega,rfl,h⟩,fun x H2 hy=>?_⟩
   obtain⟨n2,r2⟩:=yl i _ x H2 (List.getElem?_eq_getElem fZ) hy
   refine⟨aR,fU,c1,_,p.1,p.2,n2.rs,vf.up n2.up,r2,e2,fun zo H3 sY n3 FQ=>?_⟩
   obtain⟨f,wA,c4⟩:=q
   refine⟨zo,p.1,p.2,f,wA,c4,n3.rs,FQ,e3,fun vg H4 n4=>?_⟩
   have nn:=n1.trans (n2.trans (n3.trans n4))
   cases f with
   |nx=>exact fun C6 wC=>⟨fZ,vg,wA,c4,nn,wC,e1⟩
   |ct=>exact fun C6 wC=>⟨fZ,vg,wA,c4,nn,wC,e1⟩
   |bk=>cases e1;exact fun C6 wC=>k vg H4 (n0.trans nn) C6 wC
   |rt d=>cases e1;exact fun v rv=>k vg H4 (n0.trans nn) v rv
  ·cases e1
 ·have Q4:i=m.1.ds.length:=by omega
  subst Q4
  rw[List.drop_length]at e1
  unfold Qm.ie at e1
  split at e1
  ·rename_i vU
   obtain⟨_,stop,_⟩:=it aR c1 H1 n1.up n1.rs vU
   cases e1
   exact .inl ⟨stop,k aR H1 (n0.trans n1) pW vf⟩
  ·cases e1
theorem ml{c0:Expr}{body:List Stmt}(hp:PassesOwn (model X.prog X.w) X.A X.env X.xe)(hc:QT X c0 ft)(hb:xM X body fs):QS X (.While c0 body [] pos) (Qm.dP ft fs):=(Fs hp hc hb).imp <| by
 rintro D σ H ⟨ρ,env,c,fl,cZ,c',rs,re,e,k⟩
 obtain⟨n,e⟩:=Qm.wy e
 refine⟨fun q σ' H'=>∃aR fU c1,Nx X.K ρ c H aR c1 H'∧RE X.K aR c1.length H' fU σ'∧Qm.ji ft fs q fU c1=some (fl,cZ,c'),⟨n,ρ,env,c,Nx.refl rs,re,e⟩,?_⟩
 rintro q pW H1 ⟨aR,fU,c1,n1,vf,e1⟩
 cases q with
 |zero=>simp[Qm.ji]at e1
 |succ q=>
  simp only[Qm.ji]at e1
  obtain⟨p,e2,e1⟩:=aG e1
  refine⟨aR,fU,c1,p.1,p.2,n1.rs,vf,e2,fun jj H2 n2=>?_⟩
  split at e1
  ·rename_i hi
   rw[if_pos hi]
   obtain⟨r,e3,e1⟩:=aG e1
   refine⟨fun σ' H'=>∃aR fU c1,Nx X.K ρ c H aR c1 H'∧RE X.K aR c1.length H' fU σ'∧Qm.ji ft fs q fU c1=some (fl,cZ,c'),fun σ' H' h=>⟨q,Nat.lt_succ_self _,h⟩,?_⟩
   obtain⟨f,wA,c4⟩:=r
   refine⟨jj,fU,p.2,f,wA,c4,n2.rs,vf.up n2.up,e3,fun vg H4 n4=>?_⟩
   have nn:=n1.trans (n2.trans n4)
   cases f with
   |nx=>exact fun C6 wC=>⟨vg,wA,c4,nn,wC,e1⟩
   |ct=>exact fun C6 wC=>⟨vg,wA,c4,nn,wC,e1⟩
   |bk=>cases e1;exact fun C6 wC=>k vg H4 nn C6 wC
   |rt d=>cases e1;exact fun v rv=>k vg H4 nn v rv
  ·rename_i hi
   rw[if_neg hi]
   cases e1
   exact k jj H2 (n1.trans n2) pW (vf.up n2.up)
theorem eY:Iq X [] Qm.fB:=FK.imp <| by
 rintro σ H Q ⟨ρ,env,c,b,c',rs,re,e,k⟩
 cases e
 exact k ρ H (Nx.refl rs)
theorem RE.vc{K:PySem.W.Frag}{ρ:Nat→Addr}{N:Nat}{H:Hp}{env:Qm.Env}{σ:St}(re:RE K ρ N H env σ)(cap:List (Option Nat)):RE K ρ N H (Qm.qh env cap) (vc σ cap):=by
 refine⟨by simp[Qm.qh,L2.vc],fun j d h=>?_⟩
 unfold Qm.qh at h
 unfold L2.vc
 rw[List.getElem?_map]at h ⊢
 cases e:cap[j]? with
 |none=>rw[e]at h;cases h
 |some o=>
  rw[e]at h
  cases o with
  |none=>simp at h
  |some i=>
   simp only[Option.map_some,Option.some.injEq]at h
   cases e2:env[i]? with
   |none=>rw[e2]at h;cases h
   |some w=>
    rw[e2]at h
    have h':w=some d:=h
    subst h'
    obtain⟨v,h1,h2⟩:=re.at_ i d e2
    refine⟨v,?_,h2⟩
    simp[h1]
theorem Bi{K:PySem.W.Frag}{fi:Qm.XI}{cap:List (Option Nat)}{σ:St}{H:Hp}{Q:VK}(h:TQ K (Qm.ed fi cap fg ft fe) σ H Q):C3 (IQ K fi) cap (GQ K fg) (BQ K ft) (TQ K fe) σ H Q:=by
 obtain⟨ρ,env,c,d,c',rs,re,e,k⟩:=h
 obtain⟨m,e1,e⟩:=aG e
 obtain⟨cz,e2,e⟩:=aG e
 cases e
 refine⟨ρ,env,c,m.1,m.2,rs,re,e1,fun C4 J H0 n0 it l hl=>?_⟩
 obtain⟨na,ra⟩:=Nx.alloc n0.rs hl (ds:=[]) (vs:=[]) .nil
 generalize hρ:(fun n=>if n=m.2.length then l else C4 n)=IC at na ra
 have hL:IC m.2.length=l:=by rw[←hρ];simp
 have hlen:(m.2++[Qm.Cell.lst []]).length=m.2.length+1:=by simp
 have fin:∀{aR:Nat→Addr}{c1:Qm.Cells}{H1:Hp},Nx K IC (m.2++[.lst []]) (upd H0 l (.lst [])) aR c1 H1→aR m.2.length=l:=fun n=>by rw[n.up.agree _ (by rw[hlen];omega),hL]
 refine⟨fun i q τ H'=>q=m.1.ds.length - i∧i≤m.1.ds.length∧∃aR fU c1,Nx K IC (m.2++[.lst []]) (upd H0 l (.lst [])) aR c1 H'∧RE K aR c1.length H' fU τ∧Qm.gz m.2.length m.1.ks fg ft fe (m.1.ds.drop i) fU c1=some c',
  ⟨_,rfl,Nat.zero_le _,IC,_,_,Nx.refl na.rs,((re.up n0.up).up na.up).vc cap,e2⟩,?_⟩
 rintro i q τ H1 ⟨rfl,hi,aR,fU,c1,n1,vf,e1⟩
 have Uz:=it aR c1 H1 (na.up.trans n1.up) n1.rs
 by_cases fZ:i<m.1.ds.length
 ·rw[List.drop_eq_getElem_cons fZ]at e1
  unfold Qm.gz at e1
  split at e1
  ·rename_i vU
   obtain⟨go,_,yl⟩:=Uz vU
   obtain⟨p,e2,e1⟩:=aG e1
   obtain⟨b,e3,e1⟩:=aG e1
   refine .inr ⟨go i fZ,fun τ H'=>i+1≤m.1.ds.length∧∃aR fU c1,Nx K IC (m.2++[.lst []]) (upd H0 l (.lst [])) aR c1 H'∧RE K aR c1.length H' fU τ∧Qm.gz m.2.length m.1.ks fg ft fe (m.1.ds.drop (i+1)) fU c1=some c',fun σ' H' h=>⟨m.1.ds.length - (i+1),by omega,rfl,h⟩,fun x H2 hy=>?_⟩
   obtain⟨n2,r2⟩:=yl i _ x H2 (List.getElem?_eq_getElem fZ) hy
   refine⟨aR,fU,c1,_,p.1,p.2,n2.rs,vf.up n2.up,r2,e2,fun zo H3 sY n3 FQ=>?_⟩
   refine⟨zo,p.1,p.2,b.1,b.2,n3.rs,FQ,e3,fun vg H4 n4=>?_⟩
   have nn:=n1.trans (n2.trans (n3.trans n4))
   split at e1
   ·rename_i hb
    dsimp only
    rw[if_pos hb]
    obtain⟨y,e4,e1⟩:=aG e1
    refine⟨vg,p.1,b.2,y.1,y.2,n4.rs,FQ.up n4.up,e4,fun ρ5 yv H5 n5 r5=>?_⟩
    have ID:=nn.trans n5
    split at e1
    ·rename_i ys nX
     split at e1
     ·rename_i hz
      obtain⟨vs,h5,a5⟩:=ID.rs.lst nX
      rw[fin ID]at h5
      have n6:=Nx.put ID.rs nX (a5.append (RA.one r5))
      rw[fin ID]at n6
      refine⟨vs,h5,rM (by rw[←a5.length];exact hz),fZ,ρ5,p.1,_,ID.trans n6,(FQ.up (n4.trans (n5.trans n6)).up),e1⟩
     ·cases e1
    ·cases e1
   ·rename_i hb
    dsimp only
    rw[if_neg hb]
    exact⟨fZ,vg,p.1,b.2,nn,FQ.up n4.up,e1⟩
  ·cases e1
 ·have Q4:i=m.1.ds.length:=by omega
  subst Q4
  rw[List.drop_length]at e1
  unfold Qm.gz at e1
  split at e1
  ·rename_i vU
   obtain⟨_,stop,_⟩:=Uz vU
   cases e1
   refine .inl ⟨stop,k aR _ H1 (n0.trans (na.trans n1)) ?_⟩
   rw[←fin n1]
   exact .ref (Nat.lt_of_lt_of_le (by rw[hlen];omega) n1.up.len)
  ·cases e1
theorem mn{tg:Expr}{scope:Scope}{N':List Str}{cap:List (Option Nat)}{ifs:List Expr}{fi:Qm.XI}(B:qy X scope N' cap)(hc:X.calm=true)
  (hi:QI X tg b fi)(hg:∀C bJ di fp,QG (X.jy scope C N' bJ di fp) tg fg)(ht:∀C bJ di fp,Iq (X.jy scope C N' bJ di fp) ifs ft)(he:∀C bJ di fp,QE (X.jy scope C N' bJ di fp) e fe)
  (hs:∀x,foldedSetIterable b X.env x=pure x:=by intro _;rfl):
  QE X (.ListComp e [⟨tg,b,ifs,0⟩] scope pos) (Qm.ed fi cap fg ft fe):=(Ih B hc hi hg ht he hs).imp fun _ _ _ h=>Bi h
theorem wD{i:Nat}{tg:Expr}{y:Str}{py Bc:Pos}{scope:Scope}{N':List Str}{cap:List (Option Nat)}{ifs:List Expr}{fi:Qm.XI}(B:qy X scope N' cap)(hc:X.calm=true)
  (hi:QI X tg b fi)(hg:∀C bJ di fp,QG (X.jy scope C N' bJ di fp) tg fg)(ht:∀C bJ di fp,Iq (X.jy scope C N' bJ di fp) ifs ft)(he:∀C bJ di fp,QE (X.jy scope C N' bJ di fp) e fe)
  (hN:X.N.Nodup)(QR:X.N[i]? =some y)(hy:Loc X.env.scope y)(QU:swapsWith (.ListComp e [⟨tg,b,ifs,0⟩] scope pos) (some (.Name y py)) Bc.line X.env=pure true)
  (hf:X.fn y=true∨X.env.scope.names.lookup y=some .local:=by first|exact .inl rfl|exact .inr rfl|assumption)
  (hs:∀x,foldedSetIterable b X.env x=pure x:=by intro _;rfl):
  QS X (.Assign [.Name y py] (.ListComp e [⟨tg,b,ifs,0⟩] scope pos) Bc) (Qm.aH i (Qm.ed fi cap fg ft fe)):=(Ij B hc hi hg ht he hN QR hy QU hf hs).imp <| by
 rintro D σ H ⟨ρ,env,c,fl,cZ,c',rs,re,e,k⟩
 obtain⟨p,e1,e⟩:=aG e
 cases e
 exact Bi ⟨ρ,env,c,p.1,p.2,rs,re,e1,fun aR v H1 n1 r1=>k aR H1 n1 _ ((re.up n1.up).set r1)⟩
theorem pF{K:PySem.W.Frag}{n:Nat}{N:List Str}{B:Qm.XS}{vs:List V}{H:Hp}{Q:VK}{E:XK}(hn:n≤N.length)(h:dG K (Qm.ef n N.length B) vs H Q E):vs.length=n∧SQ K B { nx:=fun _ H'=>Q .bF H',rt:=Q } (start N vs) H:=by
 obtain⟨ρ,c,ds,d,c',rs,ra,e,k⟩:=h
 unfold Qm.ef at e
 split at e
 ·rename_i hl
  obtain⟨p,e1,e⟩:=aG e
  obtain⟨f,cZ,c2⟩:=p
  have hv:vs.length=n:=by rw[←ra.length];exact hl
  refine⟨hv,ρ,_,c,f,cZ,c2,rs,⟨?_,fun i d hd=>?_⟩,e1,fun a_ H' nx=>?_⟩
  ·simp[start,hl,hv]
  ·have hi:i<ds.length:=by
    by_cases hi:i<ds.length
    ·exact hi
    ·exfalso
     rw[List.getElem?_append_right (by simp;omega)]at hd
     have:=List.mem_of_getElem? hd
     have:=List.eq_of_mem_replicate this
     cases this
   rw[List.getElem?_append_left (by simpa using hi),List.getElem?_map]at hd
   cases e:ds[i]? with
   |none=>rw[e]at hd;cases hd
   |some d'=>
    rw[e]at hd
    cases hd
    obtain⟨v,h1,h2⟩:=ra.get e
    refine⟨v,?_,h2⟩
    unfold start
    rw[List.getElem?_append_left (by have:=ra.length;simp;omega),List.getElem?_map,h1]
    rfl
  ·cases f with
   |nx=>cases e;exact fun σ' _=>k a_ .bF H' nx .bF
   |rt d=>cases e;exact fun v rv=>k a_ v H' nx rv
   |bk=>cases e
   |ct=>cases e
 ·cases e
end
section
variable{P:Program}{w:World}{K:PySem.W.Frag}{mg:Str→Option Value}{base:Heap}
theorem d_.eQ{x qual:Str}{st:Stmt}{f:Addr}{fd:FuncData}{N ps:List Str}{k n m:Nat}{B:Qm.XS}{FF:Qm.FN}(F:d_ K x qual st f fd)(S:aQ N ps (ao st))(hn:ps.length=n)(hm:N.length=m)(hN:n≤m)(hF:FF=Qm.ef n m B)
  (mI:∀(bL:Value) (A:Around) (outer:List Env) (s:Shared) (H:Hp) (E:XK),fP k (A.deeper (envOfC qual (ao st) s.heap.objs.size f bL))→
   xM (rC dm P w K mg base N qual (ao st) f bL A outer s H E).AA (aF st) B):bK P w K mg base dm (k+1) f fd ps (dG K FF):=by
 subst hm hF
 exact F.ok S (fun vs H Q E h=>by rw[(pF hN h).1,hn]) fun bL A outer s H vs Q E hr h=>⟨_,mI bL A outer s H E hr,(pF hN h).2⟩
theorem x9.eQ{x qual:Str}{st:Stmt}{f:Addr}{fd:FuncData}{N ps:List Str}{k n m:Nat}{B:Qm.XS}{FF:Qm.FN}(F:x9 K x qual st f fd)(S:aQ N ps (ao st))(hn:ps.length=n)(hm:N.length=m)(hN:n≤m)(hF:FF=Qm.ef n m B)
  (mI:∀(bL:Value) (A:Around) (outer:List Env) (s:Shared) (H:Hp) (E:XK),fP k (A.deeper (envOfC qual (ao st) s.heap.objs.size f bL))→
   xM (rC dm P w K mg base N qual (ao st) f bL A outer s H E).AA (aF st) B):bK P w K mg base dm (k+1) f fd ps (dG K FF):=by
 subst hm hF
 exact F.ok S (fun vs H Q E h=>by rw[(pF hN h).1,hn]) fun bL A outer s H vs Q E hr h=>⟨_,mI bL A outer s H E hr,(pF hN h).2⟩
theorem Mi{F:Qm.FN}{H:Hp}{a:Addr}{ns:List Int}(hO:AX H)(hS:cy K H a (ns.map V.int)){c':Qm.Cells}(h:F [.ref 0] [.ro (ns.map Qm.D.int)]=some (.bl true,c')):dG K F [.ref a] H (fun v _=>v= .bl true) fun _ _ _=>False:=by
 have zs:∀ms:List Int,RA K (fun _=>a) 1 H (ms.map Qm.D.int) (ms.map V.int):=fun ms=>by
  induction ms with
  |nil=>exact .nil
  |cons m ms ih=>exact .cons (.int m) ih
 refine⟨fun _=>a,[.ro (ns.map Qm.D.int)],[.ref 0],.bl true,c',⟨fun i j z y h1 h2 m1 m2 _=>?_,fun n z hz=>?_⟩,.cons (.ref (by simp)) .nil,h,fun a_ v H' n r=>r.pY⟩
 ·match i,h1 with
  |0,h1=>
   have:z= .ro (ns.map Qm.D.int):=by simpa using h1.symm
   subst this
   cases m1
  |i+1,h1=>simp at h1
 ·match n,hz with
  |0,hz=>
   have:z= .ro (ns.map Qm.D.int):=by simpa using hz.symm
   subst this
   exact⟨ns.map V.int,yb.of hO hS,zs ns⟩
  |n+1,hz=>simp at hz
end
end L2
namespace L2
open PySem PySem.Spec PyProof.Rows
section
variable{prog:Program}{w:World}{A:Around}{E:Value→Shared→Prop}{s:Shared}
theorem jl{it t:Addr}{i:Nat}{vs:Array Value}{x:Value}{Q:Value→Shared→Prop}(a:s.heap.IsTupleIter it t i)(b:s.heap.IsTuple t vs)(g:vs[i]? =some x)
  (k:∀h',h'.IsTupleIter it t (i+1)→Heap.SameBut it s.heap h'→Q x { s with heap:=h' }):wpAny (model prog w) A (Builtin.SmallTypes.nextOf (.ref it)) Q E s:=by
 obtain⟨o1,q1,q2,q3⟩:=id a
 obtain⟨o2,p1,_,m,p3⟩:=b
 unfold Builtin.SmallTypes.nextOf
 refine wpAny_bind (wpAny_callSpecial?_slot (name:=Str.ofString "__next__") a.typeIs F.slot_tuple_iterator_next
  (wpAny_call_entry F.slot_tuple_iterator_next a.typeIs F.entry_tuple_iterator_next ?_ (F.args_tuple_iterator_next_1 _)))
 show wpAny _ _ (field (Value.ref it) 0 >>= _) _ _ _
 refine wpAny_bind (wpAny_field q1 q3 (x:=.ref t) rfl ?_)
 show wpAny _ _ (ite ((Value.ref t==Value.none)=true) _ _) _ _ _
 rw[if_neg (by exact Bool.false_ne_true)]
 show wpAny _ _ (field (Value.ref it) 1 >>= _) _ _ _
 refine wpAny_bind (wpAny_field q1 q3 (x:=.int i 0) rfl ?_)
 show wpAny _ _ (seqItems? (Value.ref t) >>= _) _ _ _
 refine wpAny_bind (wpAny_seqItems p1 p3 ?_)
 simp only[Int.toNat_natCast,g]
 refine wpAny_bind (wpAny_setField q1 q3 (by simp) (wpAny_pure ⟨x,rfl,wpAny_pure (k _ ⟨_,Heap.get?_update_self _ q1 (Obj.isFreed_of_fields (Obj.data_mapFields q3 _)),(Obj.cls_mapFields ..).trans q2,?_⟩ (Heap.SameBut.update ..))⟩))
 rw[Obj.data_mapFields q3];simp[rawInt]
theorem iW{it t:Addr}{i:Nat}{vs:Array Value}{Q:Value→Shared→Prop}(hh:A.handled=none)(a:s.heap.IsTupleIter it t i)(b:s.heap.IsTuple t vs)(g:vs[i]? =none)
  (k:∀h' e,Heap.ExtBut it s.heap h'→(∃o,h'.get? e=some o∧o.cls= .type "StopIteration")→E (.ref e) { s with heap:=h' }):wpAny (model prog w) A (Builtin.SmallTypes.nextOf (.ref it)) Q E s:=by
 obtain⟨o1,q1,q2,q3⟩:=id a
 obtain⟨o2,p1,_,m,p3⟩:=b
 unfold Builtin.SmallTypes.nextOf
 refine wpAny_bind (wpAny_callSpecial?_slot (name:=Str.ofString "__next__") a.typeIs F.slot_tuple_iterator_next
  (wpAny_call_entry F.slot_tuple_iterator_next a.typeIs F.entry_tuple_iterator_next ?_ (F.args_tuple_iterator_next_1 _)))
 show wpAny _ _ (field (Value.ref it) 0 >>= _) _ _ _
 refine wpAny_bind (wpAny_field q1 q3 (x:=.ref t) rfl ?_)
 show wpAny _ _ (ite ((Value.ref t==Value.none)=true) _ _) _ _ _
 rw[if_neg (by exact Bool.false_ne_true)]
 show wpAny _ _ (field (Value.ref it) 1 >>= _) _ _ _
 refine wpAny_bind (wpAny_field q1 q3 (x:=.int i 0) rfl ?_)
 show wpAny _ _ (seqItems? (Value.ref t) >>= _) _ _ _
 refine wpAny_bind (wpAny_seqItems p1 p3 ?_)
 simp only[Int.toNat_natCast,g]
 refine wpAny_bind (wpAny_rule (wpAny_bind (wpAny_setField q1 q3 (by simp) (wpAny_bind (m:=newExc (.type "StopIteration") []) ?_))))
 simp only[newExc,newTuple]
 refine wpAny_bind (wpAny_newObj_type ?_ (by size_fits))
 refine wpAny_bind (m:=firstArgMember _ _) (wpAny_of_eq (a:=.none) (by first|rfl|(simp only[firstArgMember];rfl)) (wpAny_newObj_type ?_ (by size_fits)))
 simp only[raiseNew]
 refine wpAny_bind (wpAny_handled ?_)
 first|rw[show A.in1.handled=none from hh]|rw[hh]
 exact wpAny_bind (wpAny_pure (wpAny_throw (k _ _ (((Heap.SameBut.update ..).extBut.push _).push _) ⟨_,Heap.get?_push_size _ rfl,rfl⟩)))
def iO(h:Heap)(z TI TO:Addr)(f0 f1:Value):Prop:=h.get? z=some { cls:=.type "zip",dict:=none,data:=.fields #[f0,f1,.bool false,.ref TI,.ref TO],slots:=#[] }
def dF(h:Heap)(T:Addr)(a b:Value):Prop:=h.get? T=some { cls:=.type "tuple",data:=.seq #[a,b] }
structure jM(z TI TO i1 i2 t1 t2:Addr):Prop where
 nd: [z,TI,TO,i1,i2].Nodup
 n1:t1∉[z,TI,TO,i1,i2]
 n2:t2∉[z,TI,TO,i1,i2]
def IE(h:Heap)(f0:Value):Prop:=f0= .none∨∃T o,f0=rawInt (T:Addr)∧h.get? T=some o
theorem jM.ne{z TI TO i1 i2 t1 t2:Addr}(D:jM z TI TO i1 i2 t1 t2):TI≠z∧TO≠z∧i1≠z∧i2≠z∧TI≠TO∧TI≠i1∧TI≠i2∧TO≠i1∧TO≠i2∧i1≠i2:=by
 have h:=D.nd
 simp only[List.nodup_cons,List.mem_cons,List.not_mem_nil,or_false,not_or]at h
 obtain⟨⟨a1,a2,a3,a4⟩,⟨b1,b2,b3⟩,⟨c1,c2⟩,d1,_⟩:=h
 exact⟨fun e=>a1 e.symm,fun e=>a2 e.symm,fun e=>a3 e.symm,fun e=>a4 e.symm,b1,b2,b3,c1,c2,d1⟩
theorem jM.Q5{z TI TO i1 i2 t1 t2:Addr}(D:jM z TI TO i1 i2 t1 t2):(t1≠z∧t1≠TO∧t1≠i1∧t1≠i2)∧(t2≠z∧t2≠TO∧t2≠i1∧t2≠i2):=by
 have h1:=D.n1
 have h2:=D.n2
 simp only[List.mem_cons,List.not_mem_nil,or_false,not_or]at h1 h2
 exact⟨⟨h1.1,h1.2.2.1,h1.2.2.2.1,h1.2.2.2.2⟩,h2.1,h2.2.2.1,h2.2.2.2.1,h2.2.2.2.2⟩
theorem tD{T:Addr}{a b x:Value}{k:Nat}{Q:Unit→Shared→Prop}(g:dF s.heap T a b)
  (q:∀h',h'.get? T=some { cls:=.type "tuple",data:=.seq ((#[a,b]:Array Value).setIfInBounds k x) }→Heap.SameBut T s.heap h'→Q () { s with heap:=h' }):
  wpAny (model prog w) A (updateSeq T (·.setIfInBounds k x)) Q E s:=by
 refine wpAny_updateSeq g rfl (q _ ?_ (Heap.SameBut.update ..))
 rw[Heap.get?_update_self _ g rfl]
 simp[Obj.mapSeq]
structure IF(h h':Heap)(z TI TO i1 i2 t1 t2:Addr)(k:Nat)(T:Addr)(x y:Value):Prop where
 rc:∃f0 b1,iO h' z TI TO f0 (.bool b1)∧IE h' f0
 to:∃a b,dF h' TO a b
 j1:h'.IsTupleIter i1 t1 (k+1)
 j2:h'.IsTupleIter i2 t2 (k+1)
 new:h.objs.size≤T
 at_:dF h' T x y
 keep:∀c o,c≠z→c≠TO→c≠i1→c≠i2→h.get? c=some o→h'.get? c=some o
theorem C7{z TI TO i1 i2 t1 t2:Addr}{k:Nat}{xs ys:Array Value}{x y a b f1:Value}{Q:Value→Shared→Prop}(D:jM z TI TO i1 i2 t1 t2)
  (hz:iO s.heap z TI TO .none f1)(gI:dF s.heap TI (.ref i1) (.ref i2))(gO:dF s.heap TO a b)(h1:s.heap.IsTupleIter i1 t1 k)(h2:s.heap.IsTupleIter i2 t2 k)(l1:s.heap.IsTuple t1 xs)(l2:s.heap.IsTuple t2 ys)(hx:xs[k]? =some x)(hy:ys[k]? =some y)
  (q:∀h' T,IF s.heap h' z TI TO i1 i2 t1 t2 k T x y→iO h' z TI TO (rawInt T) (.bool false)→Q (.ref T) { s with heap:=h' }):
  wpAny (model prog w) A (Builtin.«zip.__next__» ⟨[.ref z],[]⟩) (fun fin s'=>∃v,fin= .done (.ret v)∧Q v s') E s:=by
 obtain⟨d1,d2,d3,d4,d5,d6,d7,d8,d9,xN⟩:=D.ne
 obtain⟨⟨m1,m2,m3,m4⟩,n1,n2,n3,n4⟩:=D.Q5
 show wpAny _ _ (field (Value.ref z) 2 >>= _) _ _ _
 refine wpAny_bind (wpAny_field hz rfl (x:=Value.bool false) rfl ?_)
 show wpAny _ _ (field (Value.ref z) 3 >>= _) _ _ _
 refine wpAny_bind (wpAny_field hz rfl (x:=Value.ref TI) rfl (wpAny_bind (wpAny_seqItems gI rfl ?_)))
 refine wpAny_bind (m:=Builtin.SmallTypes.ownedTupleIsFree (.ref z)) ?_
 unfold Builtin.SmallTypes.ownedTupleIsFree
 refine wpAny_bind (wpAny_field hz rfl (x:=Value.none) rfl (wpAny_pure ?_))
 simp only[if_true]
 refine wpAny_bind (wpAny_rule (wpAny_bind (wpAny_field hz rfl (x:=Value.ref TO) rfl (wpAny_bind (wpAny_setField_rec hz (by simp) fun e1 z1 s1=>?_)))))
 have Mj:iO e1 z TI TO .ellipsis f1:=z1
 refine wpAny_bind ?_
 simp only[List.forIn_cons,List.forIn_nil,List.zipIdx_cons,List.zipIdx_nil]
 refine wpAny_bind (wpAny_bind (wpAny_onRaise (show wpAny _ _ (Builtin.SmallTypes.nextOf (Value.ref i1) >>= _) _ _ _ from ?_)))
 refine wpAny_bind (jl (h1.extBut s1.extBut d3) (l1.extBut s1.extBut m1) hx fun e2 j1 s2=>wpAny_pure ?_)
 have IG:dF e2 TO a b:=s2.extBut _ _ d8 (s1.extBut _ _ d2 gO)
 refine wpAny_bind (wpAny_seqItems IG rfl (wpAny_bind (tD IG fun e3 w3 s3=>wpAny_bind (wpAny_letGo (wpAny_pure ?_)))))
 have gO3:dF e3 TO x b:=w3
 refine wpAny_bind (wpAny_bind (wpAny_onRaise (show wpAny _ _ (Builtin.SmallTypes.nextOf (Value.ref i2) >>= _) _ _ _ from ?_)))
 refine wpAny_bind (jl (((h2.extBut s1.extBut d4).extBut s2.extBut xN.symm).extBut s3.extBut d9.symm) (((l2.extBut s1.extBut n1).extBut s2.extBut n3).extBut s3.extBut n2) hy fun e4 j2 s4=>wpAny_pure ?_)
 have UA:dF e4 TO x b:=s4.extBut _ _ d9 gO3
 refine wpAny_bind (wpAny_seqItems UA rfl (wpAny_bind (tD UA fun e5 w5 s5=>wpAny_bind (wpAny_letGo (wpAny_pure (wpAny_pure ?_))))))
 have UB:dF e5 TO x y:=w5
 refine wpAny_bind (wpAny_seqItems UB rfl (wpAny_bind (wpAny_newTuple ?_)))
 have sz:e5.objs.size=s.heap.objs.size:=by rw[s5.1,s4.1,s3.1,s2.1,s1.1]
 have z5:iO e5 z TI TO .ellipsis f1:=s5.extBut _ _ d2.symm (s4.extBut _ _ d4.symm (s3.extBut _ _ d2.symm (s2.extBut _ _ d3.symm Mj)))
 have k5:∀c o,c≠z→c≠TO→c≠i1→c≠i2→s.heap.get? c=some o→e5.get? c=some o:=fun c o c1 c2 c3 c4 e=>
  s5.extBut _ _ c2 (s4.extBut _ _ c4 (s3.extBut _ _ c2 (s2.extBut _ _ c3 (s1.extBut _ _ c1 e))))
 have J1:e5.IsTupleIter i1 t1 (k+1):=((j1.extBut s3.extBut d8.symm).extBut s4.extBut xN).extBut s5.extBut d8.symm
 have J2:e5.IsTupleIter i2 t2 (k+1):=j2.extBut s5.extBut d9.symm
 have zl:z<e5.objs.size:=Heap.lt_size z5
 refine wpAny_bind (m:=Builtin.SmallTypes.ownedTupleHandOut (.ref z) (.ref e5.objs.size)) ?_
 unfold Builtin.SmallTypes.ownedTupleHandOut
 have z6:iO (e5.push { cls:=.type "tuple",data:=.seq #[x,y] }) z TI TO .ellipsis f1:=Heap.get?_push_of_some _ z5
 refine wpAny_bind (wpAny_setField_rec z6 (by simp) fun e7 w7 s7=>?_)
 have z7:iO e7 z TI TO (rawInt e5.objs.size) f1:=w7
 refine wpAny_setField_rec z7 (by simp) fun e8 w8 s8=>?_
 have z8:iO e8 z TI TO (rawInt e5.objs.size) (.bool false):=w8
 have up:∀c o,c≠z→e5.get? c=some o→e8.get? c=some o:=fun c o c1 e=>s8.extBut _ _ c1 (s7.extBut _ _ c1 (Heap.get?_push_of_some _ e))
 have OO:dF e8 e5.objs.size x y:=s8.extBut _ _ (Nat.ne_of_gt zl) (s7.extBut _ _ (Nat.ne_of_gt zl) (Heap.get?_push_size _ rfl))
 refine wpAny_pure ⟨_,rfl,q e8 e5.objs.size ⟨⟨_,_,z8,.inr ⟨_,_,rfl,OO⟩⟩,⟨x,y,up _ _ d2 UB⟩,J1.at fun o e=>up _ o d3 e,J2.at fun o e=>up _ o d4 e,by rw[sz];exact Nat.le_refl _,OO,fun c o c1 c2 c3 c4 e=>up c o c1 (k5 c o c1 c2 c3 c4 e)⟩ z8⟩
theorem FR{z TI TO i1 i2 t1 t2:Addr}{k:Nat}{xs ys:Array Value}{a b f1:Value}{Q:PySem.Fin→Shared→Prop}(hh:A.handled=none)(D:jM z TI TO i1 i2 t1 t2)
  (hz:iO s.heap z TI TO .none f1)(gI:dF s.heap TI (.ref i1) (.ref i2))(gO:dF s.heap TO a b)(h1:s.heap.IsTupleIter i1 t1 k)(h2:s.heap.IsTupleIter i2 t2 k)(l1:s.heap.IsTuple t1 xs)(l2:s.heap.IsTuple t2 ys)(nH:xs[k]? =none∨ys[k]? =none)
  (q:∀h' e,(∀c o,c≠z→c≠TO→c≠i1→c≠i2→s.heap.get? c=some o→h'.get? c=some o)→(∃o,h'.get? e=some o∧o.cls= .type "StopIteration")→E (.ref e) { s with heap:=h' }):
  wpAny (model prog w) A (Builtin.«zip.__next__» ⟨[.ref z],[]⟩) Q E s:=by
 obtain⟨d1,d2,d3,d4,d5,d6,d7,d8,d9,xN⟩:=D.ne
 obtain⟨⟨m1,m2,m3,m4⟩,n1,n2,n3,n4⟩:=D.Q5
 show wpAny _ _ (field (Value.ref z) 2 >>= _) _ _ _
 refine wpAny_bind (wpAny_field hz rfl (x:=Value.bool false) rfl ?_)
 show wpAny _ _ (field (Value.ref z) 3 >>= _) _ _ _
 refine wpAny_bind (wpAny_field hz rfl (x:=Value.ref TI) rfl (wpAny_bind (wpAny_seqItems gI rfl ?_)))
 refine wpAny_bind (m:=Builtin.SmallTypes.ownedTupleIsFree (.ref z)) ?_
 unfold Builtin.SmallTypes.ownedTupleIsFree
 refine wpAny_bind (wpAny_field hz rfl (x:=Value.none) rfl (wpAny_pure ?_))
 simp only[if_true]
 refine wpAny_bind (wpAny_rule (wpAny_bind (wpAny_field hz rfl (x:=Value.ref TO) rfl (wpAny_bind (wpAny_setField_rec hz (by simp) fun e1 z1 s1=>?_)))))
 have Mj:iO e1 z TI TO .ellipsis f1:=z1
 refine wpAny_bind ?_
 simp only[List.forIn_cons,List.forIn_nil,List.zipIdx_cons,List.zipIdx_nil]
 refine wpAny_bind (wpAny_bind (wpAny_onRaise (show wpAny _ _ (Builtin.SmallTypes.nextOf (Value.ref i1) >>= _) _ _ _ from ?_)))
 have off:∀{h h3:Heap}{e:Addr},iO h z TI TO .ellipsis f1→(∃o,h.get? e=some o∧o.cls= .type "StopIteration")→Heap.SameBut z h h3→∃o,h3.get? e=some o∧o.cls= .type "StopIteration":=fun {h h3 e} zz he ss=>by
  obtain⟨o,e1,c⟩:=he
  refine⟨o,ss.extBut _ _ (fun q=>?_) e1,c⟩
  subst q
  rw[show h.get? e=_ from zz]at e1
  cases e1
  simp at c
 cases hx:xs[k]? with
 |none=>
  refine wpAny_bind (iW hh (h1.extBut s1.extBut d3) (l1.extBut s1.extBut m1) hx fun e2 e s2 he=>?_)
  have z2:iO e2 z TI TO .ellipsis f1:=s2 _ _ d3.symm Mj
  exact wpAny_setField_rec z2 (by simp) fun e3 _ s3=>q e3 e (fun c o c1 _ c3 _ x=>s3.extBut _ _ c1 (s2 _ _ c3 (s1.extBut _ _ c1 x))) (off z2 he s3)
 |some x=>
  have hy:ys[k]? =none:=nH.resolve_left (by rw[hx];simp)
  refine wpAny_bind (jl (h1.extBut s1.extBut d3) (l1.extBut s1.extBut m1) hx fun e2 j1 s2=>wpAny_pure ?_)
  have IG:dF e2 TO a b:=s2.extBut _ _ d8 (s1.extBut _ _ d2 gO)
  refine wpAny_bind (wpAny_seqItems IG rfl (wpAny_bind (tD IG fun e3 w3 s3=>wpAny_bind (wpAny_letGo (wpAny_pure ?_)))))
  refine wpAny_bind (wpAny_bind (wpAny_onRaise (show wpAny _ _ (Builtin.SmallTypes.nextOf (Value.ref i2) >>= _) _ _ _ from ?_)))
  refine wpAny_bind (iW hh (((h2.extBut s1.extBut d4).extBut s2.extBut xN.symm).extBut s3.extBut d9.symm) (((l2.extBut s1.extBut n1).extBut s2.extBut n3).extBut s3.extBut n2) hy fun e4 e s4 he=>?_)
  have z4:iO e4 z TI TO .ellipsis f1:=s4 _ _ d4.symm (s3.extBut _ _ d2.symm (s2.extBut _ _ d3.symm Mj))
  exact wpAny_setField_rec z4 (by simp) fun e5 _ s5=>q e5 e (fun c o c1 c2 c3 c4 x=>s5.extBut _ _ c1 (s4 _ _ c4 (s3.extBut _ _ c2 (s2.extBut _ _ c3 (s1.extBut _ _ c1 x))))) (off z4 he s5)
theorem FT{z TI TO i1 i2 t1 t2 T0:Addr}{ob:Obj}{k:Nat}{xs ys:Array Value}{b1:Bool}{Q:PySem.Fin→Shared→Prop}(hh:A.handled=none)(D:jM z TI TO i1 i2 t1 t2)(hl:s.heap.get? T0=some ob)
  (hz:iO s.heap z TI TO (rawInt T0) (.bool b1))(gI:dF s.heap TI (.ref i1) (.ref i2))(h1:s.heap.IsTupleIter i1 t1 k)(h2:s.heap.IsTupleIter i2 t2 k)(l1:s.heap.IsTuple t1 xs)(l2:s.heap.IsTuple t2 ys)(nH:xs[k]? =none∨ys[k]? =none)
  (q:∀h' e,(∀c o,c≠z→c≠TO→c≠i1→c≠i2→s.heap.get? c=some o→h'.get? c=some o)→(∃o,h'.get? e=some o∧o.cls= .type "StopIteration")→E (.ref e) { s with heap:=h' }):
  wpAny (model prog w) A (Builtin.«zip.__next__» ⟨[.ref z],[]⟩) Q E s:=by
 obtain⟨d1,d2,d3,d4,d5,d6,d7,d8,d9,xN⟩:=D.ne
 obtain⟨⟨m1,m2,m3,m4⟩,n1,n2,n3,n4⟩:=D.Q5
 show wpAny _ _ (field (Value.ref z) 2 >>= _) _ _ _
 refine wpAny_bind (wpAny_field hz rfl (x:=Value.bool false) rfl ?_)
 show wpAny _ _ (field (Value.ref z) 3 >>= _) _ _ _
 refine wpAny_bind (wpAny_field hz rfl (x:=Value.ref TI) rfl (wpAny_bind (wpAny_seqItems gI rfl ?_)))
 refine wpAny_bind (m:=Builtin.SmallTypes.ownedTupleIsFree (.ref z)) ?_
 unfold Builtin.SmallTypes.ownedTupleIsFree
 refine wpAny_bind (wpAny_field hz rfl (x:=rawInt T0) rfl ?_)
 show wpAny _ _ (loadIfAlive ((T0:Int).toNat) >>= _) _ _ _
 rw[show((T0:Int).toNat)=T0 from Int.toNat_natCast _]
 refine wpAny_bind (PySem.W.kdx_alive hl ?_)
 show wpAny _ _ (field (Value.ref z) 1 >>= _) _ _ _
 refine wpAny_bind (wpAny_field hz rfl (x:=Value.bool b1) rfl ?_)
 cases b1 with
 |true=>
  rw[if_neg (by decide)]
  refine wpAny_pure ?_
  have s0:Heap.SameBut z s.heap s.heap:=Heap.SameBut.refl ..
  simp only[Bool.false_eq_true,if_false]
  refine wpAny_bind ?_
  rw[show(#[Value.ref i1,Value.ref i2]:Array Value)=[Value.ref i1,Value.ref i2].toArray from rfl]
  simp only[List.forIn_toArray,List.forIn_cons,List.forIn_nil]
  refine wpAny_bind (wpAny_bind (wpAny_holding ?_))
  show wpAny _ _ (Builtin.SmallTypes.nextOf (Value.ref i1) >>= _) _ _ _
  cases hx:xs[k]? with
  |none=>exact wpAny_bind (iW hh (h1.extBut s0.extBut d3) (l1.extBut s0.extBut m1) hx fun e1 e s1 he=>q e1 e (fun c o c1 c2 c3 c4 z=>s1 _ _ c3 (s0.extBut _ _ c1 z)) he)
  |some x=>
   have hy:ys[k]? =none:=nH.resolve_left (by rw[hx];simp)
   refine wpAny_bind (jl (h1.extBut s0.extBut d3) (l1.extBut s0.extBut m1) hx fun e1 j1 s1=>wpAny_pure (wpAny_pure ?_))
   refine wpAny_bind (wpAny_bind (wpAny_holding ?_))
   show wpAny _ _ (Builtin.SmallTypes.nextOf (Value.ref i2) >>= _) _ _ _
   exact wpAny_bind (iW hh ((h2.extBut s0.extBut d4).extBut s1.extBut xN.symm) ((l2.extBut s0.extBut n1).extBut s1.extBut n3) hy fun e2 e s2 he=>q e2 e (fun c o c1 c2 c3 c4 z=>s2 _ _ c4 (s1.extBut _ _ c3 (s0.extBut _ _ c1 z))) he)
 |false=>
  rw[if_pos (by decide)]
  refine wpAny_bind (wpAny_setField_rec hz (by simp) fun e0 z0 s0=>wpAny_pure ?_)
  simp only[Bool.false_eq_true,if_false]
  refine wpAny_bind ?_
  rw[show(#[Value.ref i1,Value.ref i2]:Array Value)=[Value.ref i1,Value.ref i2].toArray from rfl]
  simp only[List.forIn_toArray,List.forIn_cons,List.forIn_nil]
  refine wpAny_bind (wpAny_bind (wpAny_holding ?_))
  show wpAny _ _ (Builtin.SmallTypes.nextOf (Value.ref i1) >>= _) _ _ _
  cases hx:xs[k]? with
  |none=>exact wpAny_bind (iW hh (h1.extBut s0.extBut d3) (l1.extBut s0.extBut m1) hx fun e1 e s1 he=>q e1 e (fun c o c1 c2 c3 c4 z=>s1 _ _ c3 (s0.extBut _ _ c1 z)) he)
  |some x=>
   have hy:ys[k]? =none:=nH.resolve_left (by rw[hx];simp)
   refine wpAny_bind (jl (h1.extBut s0.extBut d3) (l1.extBut s0.extBut m1) hx fun e1 j1 s1=>wpAny_pure (wpAny_pure ?_))
   refine wpAny_bind (wpAny_bind (wpAny_holding ?_))
   show wpAny _ _ (Builtin.SmallTypes.nextOf (Value.ref i2) >>= _) _ _ _
   exact wpAny_bind (iW hh ((h2.extBut s0.extBut d4).extBut s1.extBut xN.symm) ((l2.extBut s0.extBut n1).extBut s1.extBut n3) hy fun e2 e s2 he=>q e2 e (fun c o c1 c2 c3 c4 z=>s2 _ _ c4 (s1.extBut _ _ c3 (s0.extBut _ _ c1 z))) he)
structure wF(h:Heap)(z TI TO i1 i2 t1 t2:Addr)(xs ys:Array Value)(k:Nat):Prop where
 ap:jM z TI TO i1 i2 t1 t2
 rc:∃f0 b1,iO h z TI TO f0 (.bool b1)∧IE h f0
 ti:dF h TI (.ref i1) (.ref i2)
 to:∃a b,dF h TO a b
 j1:h.IsTupleIter i1 t1 k
 j2:h.IsTupleIter i2 t2 k
 l1:h.IsTuple t1 xs
 l2:h.IsTuple t2 ys
theorem wF.type{z TI TO i1 i2 t1 t2:Addr}{xs ys:Array Value}{k:Nat}(Z:wF s.heap z TI TO i1 i2 t1 t2 xs ys k):s.TypeIs (.ref z) "zip":=by
 obtain⟨f0,b1,h,_⟩:=Z.rc
 exact⟨_,h,rfl⟩
theorem wF.stop{z TI TO i1 i2 t1 t2:Addr}{xs ys:Array Value}{k:Nat}{Q:Option Value→Shared→Prop}(hh:A.handled=none)(Z:wF s.heap z TI TO i1 i2 t1 t2 xs ys k)(nH:xs[k]? =none∨ys[k]? =none)
  (q:∀h',(∀c o,c≠z→c≠TO→c≠i1→c≠i2→s.heap.get? c=some o→h'.get? c=some o)→Q none { s with heap:=h' }):wpAny (model prog w) A (pyNext (.ref z)) Q E s:=by
 have hT:=Z.type
 obtain⟨D,⟨f0,b1,hz,hf⟩,gI,⟨a,b,gO⟩,j1,j2,l1,l2⟩:=Z
 have go:∀h' e,(∀c o,c≠z→c≠TO→c≠i1→c≠i2→s.heap.get? c=some o→h'.get? c=some o)→(∃o,h'.get? e=some o∧o.cls= .type "StopIteration")→
   wpAny (model prog w) A (do if ←isInstance (.ref e) (.type "StopIteration")then pure none else throw (.ref e)) Q E { s with heap:=h' }:=by
  rintro h' e kk ⟨o,ho,hc⟩
  refine wpAny_bind (wpAny_isInstance (T:="StopIteration") (b:=true) ⟨o,ho,hc⟩ isSubtype_stop ?_)
  exact wpAny_pure (q h' kk)
 unfold pyNext
 refine wpAny_bind (wpAny_attempt (wpAny_callSpecial?_slot (name:=Str.ofString "__next__") hT F.slot_zip_next (wpAny_call_entry F.slot_zip_next hT F.entry_zip_next ?_ (F.args_zip_next_1 _))))
 rcases hf with rfl|⟨T0,o,rfl,ho⟩
 ·exact FR hh D hz gI gO j1 j2 l1 l2 nH fun h' e kk he=>go h' e kk he
 ·exact FT hh D ho hz gI j1 j2 l1 l2 nH fun h' e kk he=>go h' e kk he
end
end L2
namespace L2
open PySem PySem.Spec PyProof.Rows
abbrev Q6(t:Addr):Obj:={ cls:=.type "tuple_iterator",data:=.fields #[.ref t,.int 0 0] }
abbrev zA(h:Heap)(t:Addr):Heap:=h.push (Q6 t)
abbrev zB(h:Heap)(t u:Addr):Heap:=(zA h t).push (Q6 u)
abbrev zC(h:Heap)(t u:Addr):Heap:=(zB h t u).push { cls:=.type "tuple",data:=.seq #[.ref h.objs.size,.ref (zA h t).objs.size] }
abbrev zD(h:Heap)(t u:Addr):Heap:=(zC h t u).push { cls:=.type "tuple",data:=.seq #[.none,.none] }
abbrev zE(h:Heap)(t u:Addr):Heap:=(zD h t u).push { cls:=.type "zip",data:=.fields #[.none,.bool false,.bool false,.ref (zB h t u).objs.size,.ref (zC h t u).objs.size] }
theorem FU(t u:Addr)(xs ys:Array Value):Meets (Builtin.«zip.__new__» ⟨[.type "zip",.ref t,.ref u],[]⟩) (fun _ R s=>s.heap.IsTuple t xs∧s.heap.IsTuple u ys∧R (.ok (.ret (.ref (zD s.heap t u).objs.size))) { s with heap:=zE s.heap t u }):=
 .of_wp fun prog w A R s h=>by
  obtain⟨hp,g,d,tk,os⟩:=s
  obtain⟨a1,a2,h⟩:=h
  have IH:=sub_zip
  have b1:Heap.IsTuple (Shared.heap ⟨hp,g,d,tk,os⟩) t xs:=a1
  have b2:Heap.IsTuple (Shared.heap ⟨hp.push (Q6 t),g,d,tk,os⟩) u ys:=Heap.IsTuple.push a2 _
  wp_walk using wpAny_pyIter_tuple b1,wpAny_pyIter_tuple b2
  exact⟨_,rfl,h⟩
theorem Q7(n t u:Nat)(ht:t<n)(hu:u<n): [n+4,n+2,n+3,n,n+1].Nodup∧t∉[n+4,n+2,n+3,n,n+1]∧u∉[n+4,n+2,n+3,n,n+1]:=by
 refine⟨?_,?_,?_⟩
 ·simp only[List.nodup_cons,List.mem_cons,List.not_mem_nil,or_false,not_or,not_false_eq_true,List.nodup_nil,and_true]
  omega
 ·simp only[List.mem_cons,List.not_mem_nil,or_false,not_or]
  omega
 ·simp only[List.mem_cons,List.not_mem_nil,or_false,not_or]
  omega
section
variable{prog:Program}{w:World}{A:Around}{E:Value→Shared→Prop}{s:Shared}
theorem FV{t u:Addr}{xs ys:Array Value}{Q:Value→Shared→Prop}(a1:s.heap.IsTuple t xs)(a2:s.heap.IsTuple u ys)
  (q:∀h',wF h' (s.heap.objs.size+4) (s.heap.objs.size+2) (s.heap.objs.size+3) s.heap.objs.size (s.heap.objs.size+1) t u xs ys 0→iO h' (s.heap.objs.size+4) (s.heap.objs.size+2) (s.heap.objs.size+3) .none (.bool false)→h'.objs.size=s.heap.objs.size+5→(∀c o,s.heap.get? c=some o→h'.get? c=some o)→Q (.ref (s.heap.objs.size+4)) { s with heap:=h' }):
  wpAny (model prog w) A (call (.type "zip") [.ref t,.ref u]) Q E s:=by
 refine callType_new F.called_zip (by decide) (F.typeCall_zip_2 _ _) (F.newCall_zip_2 _ _) (fun obj=>F.args_object_init_3 obj _ _) F.entry_zip_new (FU t u xs ys) ⟨a1,a2,?_⟩
 have s1:(zA s.heap t).objs.size=s.heap.objs.size+1:=Heap.size_push ..
 have s2:(zB s.heap t u).objs.size=s.heap.objs.size+2:=by rw[Heap.size_push,s1]
 have s3:(zC s.heap t u).objs.size=s.heap.objs.size+3:=by rw[Heap.size_push,s2]
 have s4:(zD s.heap t u).objs.size=s.heap.objs.size+4:=by rw[Heap.size_push,s3]
 have s5:(zE s.heap t u).objs.size=s.heap.objs.size+5:=by rw[Heap.size_push,s4]
 have up:∀c o,s.heap.get? c=some o→(zE s.heap t u).get? c=some o:=fun c o e=>Heap.get?_push_of_some _ (Heap.get?_push_of_some _ (Heap.get?_push_of_some _ (Heap.get?_push_of_some _ (Heap.get?_push_of_some _ e))))
 have g5:(zE s.heap t u).get? (zD s.heap t u).objs.size=some _:=Heap.get?_push_size _ rfl
 have g4:(zE s.heap t u).get? (zC s.heap t u).objs.size=some _:=Heap.get?_push_of_some _ (Heap.get?_push_size _ rfl)
 have g3:(zE s.heap t u).get? (zB s.heap t u).objs.size=some _:=Heap.get?_push_of_some _ (Heap.get?_push_of_some _ (Heap.get?_push_size _ rfl))
 have g2:(zE s.heap t u).get? (zA s.heap t).objs.size=some _:=Heap.get?_push_of_some _ (Heap.get?_push_of_some _ (Heap.get?_push_of_some _ (Heap.get?_push_size _ rfl)))
 have g1:(zE s.heap t u).get? s.heap.objs.size=some _:=Heap.get?_push_of_some _ (Heap.get?_push_of_some _ (Heap.get?_push_of_some _ (Heap.get?_push_of_some _ (Heap.get?_push_size _ rfl))))
 rw[s2,s3,s4]at g5
 rw[s1,s2]at g3
 rw[s3]at g4
 rw[s1]at g2
 have lt:t<s.heap.objs.size:=by obtain⟨o,e,_⟩:=a1;exact Heap.lt_size e
 have lu:u<s.heap.objs.size:=by obtain⟨o,e,_⟩:=a2;exact Heap.lt_size e
 show _∧_
 rw[s4]
 refine⟨⟨_,g5,rfl⟩,q _ ⟨⟨(Q7 _ t u lt lu).1,(Q7 _ t u lt lu).2.1,(Q7 _ t u lt lu).2.2⟩,⟨.none,false,g5,.inl rfl⟩,g3,⟨_,_,g4⟩,⟨_,g1,rfl,rfl⟩,⟨_,g2,rfl,rfl⟩,a1.at fun o e=>up _ o e,a2.at fun o e=>up _ o e⟩ g5 s5 up⟩
theorem wF.at{h h':Heap}{z TI TO i1 i2 t1 t2:Addr}{xs ys:Array Value}{k:Nat}(Z:wF h z TI TO i1 i2 t1 t2 xs ys k)(up:∀c,c∈[z,TI,TO,i1,i2,t1,t2]→∀o,h.get? c=some o→h'.get? c=some o)(al:∀c o,h.get? c=some o→∃o',h'.get? c=some o'):wF h' z TI TO i1 i2 t1 t2 xs ys k:=by
 obtain⟨D,⟨f0,b1,hz,hf⟩,gI,⟨a,b,gO⟩,j1,j2,l1,l2⟩:=Z
 refine⟨D,⟨f0,b1,up _ (by simp) _ hz,?_⟩,up _ (by simp) _ gI,⟨a,b,up _ (by simp) _ gO⟩,j1.at fun o e=>up _ (by simp) o e,j2.at fun o e=>up _ (by simp) o e,l1.at fun o e=>up _ (by simp) o e,l2.at fun o e=>up _ (by simp) o e⟩
 rcases hf with e|⟨T,o,e,g⟩
 ·exact .inl e
 ·obtain⟨o',g'⟩:=al _ _ g
  exact .inr ⟨T,o',e,g'⟩
theorem wF.self{z TI TO i1 i2 t1 t2:Addr}{xs ys:Array Value}{k:Nat}{Q:Value→Shared→Prop}(Z:wF s.heap z TI TO i1 i2 t1 t2 xs ys k)(q:Q (.ref z) s):wpAny (model prog w) A (pyIter (.ref z)) Q E s:=by
 have hT:=Z.type
 refine wpAny_pyIter_slot hT F.slot_zip_iter (wpAny_call_entry F.slot_zip_iter hT F.entry_zip_iter ?_ (F.args_zip_iter_1 _))
 exact wpAny_pure ⟨_,rfl,"zip",_,hT,F.slot_zip_next.lookup,q⟩
end
end L2
namespace L2
open PySem PySem.Spec PyProof.Rows
structure OP(h:Heap)(b0:Nat)(xs ys:Array Value)(Ts:List Addr)(k:Nat):Prop where
 len:Ts.length=k
 nd:Ts.Nodup
 new:∀T∈Ts,b0≤T∧T<h.objs.size
 at_:∀(i:Nat) (T:Addr),Ts[i]? =some T→∃x y,xs[i]? =some x∧ys[i]? =some y∧dF h T x y
theorem OP.nil{h:Heap}{b0:Nat}{xs ys:Array Value}:OP h b0 xs ys [] 0:=⟨rfl,List.nodup_nil,fun _ h=>(nomatch h),fun i T h=>by simp at h⟩
section
variable{prog:Program}{w:World}{A:Around}{s:Shared}{R:Result→Shared→Prop}
end
section
variable{prog:Program}{w:World}{A:Around}{E:Value→Shared→Prop}{s:Shared}
end
end L2
namespace L2
open PySem PySem.Spec PyProof.Rows
section
variable{X:Cx}{pins:List (Addr×Obj)}{σ:St}{H H':Hp}{s:Shared}{h':Heap}
end
section
variable{X:Cx}
end
end L2
namespace L2
open PySem PySem.Spec PyProof.Rows
section
variable{X:Cx}{e1 e2:Expr}{p0 p1 p2 pos:Pos}{f:Qm.XA}
theorem RA.zip{K:PySem.W.Frag}{ρ:Nat→Addr}{N:Nat}{H:Hp}:∀{xs ys:List Qm.D}{vs us:List V}{Ts:List Addr},RA K ρ N H xs vs→RA K ρ N H ys us→Ts.length=min vs.length us.length→(∀(i:Nat) (T:Addr) (x y:V),Ts[i]? =some T→vs[i]? =some x→us[i]? =some y→H T=some (.tup [x,y]))→RA K ρ N H (Qm.fS xs ys) (Ts.map V.ref)
 |[],_,_,_,Ts,.nil,_,hl,_=>by
  have:Ts=[]:=List.length_eq_zero_iff.mp (by simpa using hl)
  subst this
  exact .nil
 |_::_,[],_,_,Ts,.cons _ _,.nil,hl,_=>by
  have:Ts=[]:=List.length_eq_zero_iff.mp (by simpa using hl)
  subst this
  exact .nil
 |x::xs,y::ys,v::vs,u::us,Ts,.cons r1 a1,.cons r2 a2,hl,h=>by
  cases Ts with
  |nil=>simp at hl
  |cons T Ts=>
   refine .cons (.tup (h 0 T v u rfl rfl rfl) (.cons r1 (.cons r2 .nil))) (RA.zip a1 a2 (by simp at hl ⊢;omega) fun i T' x y h1 h2 h3=>h (i+1) T' x y (by simpa using h1) (by simpa using h2) (by simpa using h3))
end
end L2
namespace L2
open PySem PySem.Spec PyProof.Rows
end L2
namespace L2
open PySem PySem.Spec PyProof.Rows
section
variable{prog:Program}{w:World}{A:Around}{E:Value→Shared→Prop}{s:Shared}
def II(h:Heap)(a t:Addr)(i:Int):Prop:=∃o,h.get? a=some o∧o.cls= .type "reversed"∧o.data= .fields #[.ref t,rawInt i]
theorem II.at{h h':Heap}{a t:Addr}{i:Int}(x:II h a t i)(e:∀o,h.get? a=some o→h'.get? a=some o):II h' a t i:=let ⟨o,ho,r⟩:=x;⟨o,e _ ho,r⟩
end
end L2
namespace L2
open PySem PySem.Spec PyProof.Rows
section
variable{prog:Program}{w:World}{A:Around}{E:Value→Shared→Prop}{s:Shared}{I:Addr}{fp wr:List Addr}{G:Array GenState→Array GenState→Prop}{n:Nat}{P:Nat→Value→Prop}{St:Nat→Shared→Prop}
end
end L2
namespace L2
open PySem PySem.Spec PyProof.Rows
section
variable{prog:Program}{w:World}{A:Around}{E:Value→Shared→Prop}{s:Shared}{I:Addr}{fp wr:List Addr}{G:Array GenState→Array GenState→Prop}{P:Nat→Value→Prop}{St:Nat→Shared→Prop}
end
section
variable{X:Cx}
end
end L2
namespace Qm
open PySem
end Qm
namespace L2
open PySem PySem.Spec PyProof.Rows
section
variable{X:Cx}{e1:Expr}{p0 p1 p2 pos:Pos}{f:Qm.XA}
end
end L2
namespace L2
open PySem PySem.Spec PyProof.Rows
mutual
def nb:PyData→Bool
 |.none=>true
 |.int _=>true
 |.str _=>true
 |.tuple ds=>wG ds
 |.list ds=>wG ds
 |_=>false
def wG:List PyData→Bool
 |[]=>true
 |d::ds=>nb d&&wG ds
end
section
variable{K:PySem.W.Frag}{ρ:Nat→Addr}{c:Qm.Cells}{H:Hp}
theorem zp{k:Nat}(rs:RS K ρ c H)(ih:∀{x:Qm.D}{v:V}{d:PyData},RD K ρ c.length H x v→Qm.data c k x=some d→kB K H v d∧PyData.canLay0 d=true∧d.depth≤k∧nb d=true):
  ∀{xs:List Qm.D}{vs:List V}{ds:List PyData},RA K ρ c.length H xs vs→Qm.omap (Qm.data c k) xs=some ds→tm K H vs ds∧PyData.canLayAll0 ds=true∧PyData.depthAll ds≤k∧wG ds=true
 |[],_,ds,a,h=>by
  cases a
  cases h
  exact⟨.nil,rfl,Nat.zero_le _,rfl⟩
 |x::xs,_,ds,a,h=>by
  cases a with
  |cons r a=>
   obtain⟨d,h1,h⟩:=aG h
   obtain⟨es,h2,h⟩:=aG h
   cases h
   obtain⟨a1,a2,a3,a4⟩:=ih r h1
   obtain⟨b1,b2,b3,b4⟩:=zp rs ih a h2
   exact⟨.cons a1 b1,by simp[PyData.canLayAll0,a2,b2],by simp only[PyData.depthAll];omega,by simp[wG,a4,b4]⟩
theorem mQ(rs:RS K ρ c H):∀(k:Nat) {x:Qm.D}{v:V}{d:PyData},RD K ρ c.length H x v→Qm.data c k x=some d→kB K H v d∧PyData.canLay0 d=true∧d.depth≤k∧nb d=true
 |0,_,_,_,_,h=>by simp[Qm.data]at h
 |k+1,x,v,d,r,h=>by
  have A:∀{xs:List Qm.D}{vs:List V}{ds:List PyData},RA K ρ c.length H xs vs→Qm.omap (Qm.data c k) xs=some ds→tm K H vs ds∧PyData.canLayAll0 ds=true∧PyData.depthAll ds≤k∧wG ds=true:=fun {xs vs ds}=>zp (k:=k) rs (fun r h=>mQ rs k r h)
  cases x with
  |bF=>simp[Qm.data]at h;subst h;cases r.OL;exact⟨.bF,rfl,Nat.zero_le _,rfl⟩
  |int i=>simp[Qm.data]at h;subst h;cases r.eR;exact⟨.int i,rfl,Nat.zero_le _,rfl⟩
  |bl b=>simp[Qm.data]at h
  |str b=>
   simp only[Qm.data]at h
   split at h
   ·rename_i hb
    cases h
    cases r
    exact⟨.str b,hb,Nat.zero_le _,rfl⟩
   ·cases h
  |ty b=>simp[Qm.data]at h
  |adr b=>simp[Qm.data]at h
  |tup xs=>
   simp only[Qm.data]at h
   obtain⟨ds,h1,h⟩:=aG h
   cases h
   obtain⟨p,vs,rfl,g,a⟩:=r.jG
   obtain⟨a1,a2,a3,a4⟩:=A a h1
   exact⟨.tup (dj.of g) a1,by simpa[PyData.canLay0]using a2,by simp only[PyData.depth];omega,by simpa[nb]using a4⟩
  |ref n=>
   simp only[Qm.data]at h
   have hs:∀{xs:List Qm.D},Qm.cE (.ref n) c=some xs→(Qm.omap (Qm.data c k) xs).bind (fun ds=>some (PyData.list ds))=some d→kB K H v d∧PyData.canLay0 d=true∧d.depth≤k+1∧nb d=true:=fun {xs} e h=>by
    obtain⟨ds,h1,h⟩:=aG h
    cases h
    obtain⟨vs,rfl,g,a⟩:=rs.Io r e
    obtain⟨a1,a2,a3,a4⟩:=A a h1
    exact⟨.lst g a1,by simpa[PyData.canLay0]using a2,by simp only[PyData.depth];omega,by simpa[nb]using a4⟩
   cases e:c[n]? with
   |none=>rw[e]at h;cases h
   |some z=>
    rw[e]at h
    cases z with
    |lst xs=>exact hs (by simp[Qm.cE,e]) h
    |ro xs=>exact hs (by simp[Qm.cE,e]) h
    |vd xs=>cases h
    |FL xs=>cases h
    |tp xs=>cases h
    |gP xs=>cases h
    |jZ xs=>cases h
end
mutual
theorem nY:∀(d e:PyData),nb d=true→nb e=true→(PyData.eqv d e=true↔d=e)
 |.none,e,_,he=>by cases e<;>simp_all [PyData.eqv,nb]
 |.int i,e,_,he=>by cases e<;>simp_all [PyData.eqv,nb]
 |.tuple ds,e,hd,he=>by
  cases e<;>simp_all [PyData.eqv,nb]
  exact tE _ _ hd he
 |.list ds,e,hd,he=>by
  cases e<;>simp_all [PyData.eqv,nb]
  exact tE _ _ hd he
 |.bool _,_,h,_=>by simp[nb]at h
 |.str a,e,_,he=>by cases e<;>simp_all [PyData.eqv,nb]
 |.dict _,_,h,_=>by simp[nb]at h
theorem tE:∀(ds es:List PyData),wG ds=true→wG es=true→(PyData.eqvAll ds es=true↔ds=es)
 |[],[],_,_=>by simp[PyData.eqvAll]
 |[],_::_,_,_=>by simp[PyData.eqvAll]
 |_::_,[],_,_=>by simp[PyData.eqvAll]
 |d::ds,e::es,hd,he=>by
  simp only[wG,Bool.and_eq_true]at hd he
  simp only[PyData.eqvAll,Bool.and_eq_true,List.cons.injEq]
  rw[nY d e hd.1 he.1,tE ds es hd.2 he.2]
end
section
variable{X:Cx}
theorem Et{x y:Qm.D}{c:Qm.Cells}{b:Bool}(h:Qm.ze x y c=some b):(∃p q,x= .bl p∧y= .bl q∧b=(p==q))∨∃d e,Qm.data c 6 x=some d∧Qm.data c 6 y=some e∧(b=true↔d=e):=by
 unfold Qm.ze at h
 split at h
 ·cases h;exact .inl ⟨_,_,rfl,rfl,rfl⟩
 ·obtain⟨d,h1,h⟩:=aG h
  obtain⟨e,h2,h⟩:=aG h
  cases h
  exact .inr ⟨d,e,h1,h2,by simp⟩
theorem Bj{K:PySem.W.Frag}{ρ:Nat→Addr}{c:Qm.Cells}{H:Hp}{x y:Qm.D}{v u:V}{d e:PyData}{b:Bool}(rs:RS K ρ c H)(rx:RD K ρ c.length H x v)(ry:RD K ρ c.length H y u)(h1:Qm.data c 6 x=some d)(h2:Qm.data c 6 y=some e)(hb:b=true↔d=e):
  kB K H v d∧kB K H u e∧SeqAt.shaped d=true∧SeqAt.shaped e=true∧PyData.eqv d e=b:=by
 obtain⟨a1,a2,a3,a4⟩:=mQ rs 6 rx h1
 obtain⟨b1,b2,b3,b4⟩:=mQ rs 6 ry h2
 refine⟨a1,b1,by simp[SeqAt.shaped,a2];omega,by simp[SeqAt.shaped,b2];omega,?_⟩
 have:=nY d e a4 b4
 cases b with
 |true=>exact this.mpr (hb.mp rfl)
 |false=>
  cases q:PyData.eqv d e with
  |false=>rfl
  |true=>exact absurd (hb.mpr (this.mp q)) (by decide)
theorem eO(hu:X.A.units+64<cLine):gJ X (compareOp .Eq) (fun x y H Q=>Lz x y H Q∨uG X.K false x y H Q):=Qg.or (L8 hu)
theorem jN(hu:X.A.units+64<cLine):gJ X (compareOp .NotEq) (fun x y H Q=>LA x y H Q∨uG X.K true x y H Q):=Qh.or (L9 hu)
theorem iq{K:PySem.W.Frag}:j4 K (fun x y H Q=>Lz x y H Q∨uG K false x y H Q) Qm.hZ:=by
 intro ρ c H x y d c' v u Q rs rx ry e k
 obtain⟨b,e1,e⟩:=aG e
 cases e
 rcases Et e1 with⟨p,q,rfl,rfl,rfl⟩|⟨dd,ee,h1,h2,hb⟩
 ·cases rx.pY;cases ry.pY
  exact .inl ⟨rfl,by rw[vo];exact k ρ _ H (Nx.refl rs) (.bl _)⟩
 ·obtain⟨a1,a2,a3,a4,a5⟩:=Bj rs rx ry h1 h2 hb
  refine .inr ⟨dd,ee,a1,a2,a3,a4,?_⟩
  rw[if_neg (by decide),a5]
  exact k ρ _ H (Nx.refl rs) (.bl _)
theorem tF{K:PySem.W.Frag}:j4 K (fun x y H Q=>LA x y H Q∨uG K true x y H Q) Qm.mL:=by
 intro ρ c H x y d c' v u Q rs rx ry e k
 obtain⟨b,e1,e⟩:=aG e
 cases e
 rcases Et e1 with⟨p,q,rfl,rfl,rfl⟩|⟨dd,ee,h1,h2,hb⟩
 ·cases rx.pY;cases ry.pY
  exact .inl ⟨rfl,by rw[vo];exact k ρ _ H (Nx.refl rs) (.bl _)⟩
 ·obtain⟨a1,a2,a3,a4,a5⟩:=Bj rs rx ry h1 h2 hb
  refine .inr ⟨dd,ee,a1,a2,a3,a4,?_⟩
  rw[if_pos rfl,a5]
  exact k ρ _ H (Nx.refl rs) (.bl _)
def IJ(x:Qm.D):Bool:=match x with|.bF=>true|_=>false
theorem RD.IK{K:PySem.W.Frag}{ρ:Nat→Addr}{N:Nat}{H:Hp}{x:Qm.D}{v:V}(r:RD K ρ N H x v):decide (v= .bF)=IJ x:=by
 cases r<;>simp[IJ]
theorem IL{K:PySem.W.Frag}:j4 K (fun x y H Q=>y= .bF∧Q (.bl (!decide (x= .bF))) H) Qm.tq:=by
 intro ρ c H x y d c' v u Q rs rx ry e k
 unfold Qm.tq at e
 split at e
 ·cases e
  cases ry.OL
  refine⟨rfl,?_⟩
  rw[rx.IK]
  refine k ρ _ H (Nx.refl rs) ?_
  cases x<;>exact .bl _
 ·cases e
theorem kit_is(K:PySem.W.Frag):PySem.W.kitOne K (.type "int") (.type "int")=some true∧PySem.W.kitOne K (.type "int") (.type "bool")=some false∧PySem.W.kitOne K (.type "bool") (.type "bool")=some true∧PySem.W.kitOne K (.type "bool") (.type "int")=some true∧PySem.W.kitOne K (.type "tuple") (.type "tuple")=some true∧PySem.W.kitOne K (.type "list") (.type "list")=some true:=
 ⟨by with_unfolding_all rfl,by with_unfolding_all rfl,by with_unfolding_all rfl,by with_unfolding_all rfl,by with_unfolding_all rfl,by with_unfolding_all rfl⟩
theorem gf{K:PySem.W.Frag}:qB K (fun xs H Q=>∃x n t k,xs=[x,.ty n]∧kG K H x t∧PySem.W.kitOne K t (.type n)=some k∧Q (.bl k) H) Qm.cq:=by
 intro ρ c H ds d c' vs Q rs ra e k
 obtain⟨x,y,rfl,e'⟩:=Mf e
 obtain⟨v,u,rfl,rx,ry⟩:=ra.uJ
 obtain⟨k1,k2,k3,k4,k5,k6⟩:=kit_is K
 split at e'
 ·rename_i n
  obtain⟨b,e1,e2⟩:=aG e'
  cases e2
  have hu:u= .ty n:=by cases ry;rfl
  subst hu
  unfold Qm.kJ at e1
  split at e1
  ·cases rx.eR
   split at e1
   ·rename_i hn;cases e1;subst hn;exact⟨_,_,_,_,rfl,.int _,k1,k ρ _ H (Nx.refl rs) (.bl _)⟩
   ·split at e1
    ·rename_i hn;cases e1;subst hn;exact⟨_,_,_,_,rfl,.int _,k2,k ρ _ H (Nx.refl rs) (.bl _)⟩
    ·cases e1
  ·cases rx.pY
   split at e1
   ·rename_i hn;cases e1;subst hn;exact⟨_,_,_,_,rfl,.bl _,k3,k ρ _ H (Nx.refl rs) (.bl _)⟩
   ·cases e1
  ·obtain⟨p,ws,rfl,g,_⟩:=rx.jG
   split at e1
   ·rename_i hn;cases e1;subst hn;exact⟨_,_,_,_,rfl,.tup g,k5,k ρ _ H (Nx.refl rs) (.bl _)⟩
   ·cases e1
  ·rename_i m
   obtain⟨rfl,_⟩:=rx.kK
   split at e1
   ·rename_i ws hw
    obtain⟨us,g,_⟩:=rs.lst hw
    split at e1
    ·rename_i hn;cases e1;subst hn;exact⟨_,_,_,_,rfl,.lst g,k6,k ρ _ H (Nx.refl rs) (.bl _)⟩
    ·cases e1
   ·cases e1
  ·cases e1
 ·cases e'
end
end L2
namespace L2
open PySem PySem.Spec PyProof.Rows
section
variable{X:Cx}
theorem uK:∀{ds:List PyData},PyData.canLayAll0 ds=true→∀e∈ds,PyData.canLay0 e=true
 |[],_,e,he=>nomatch he
 |d::ds,h,e,he=>by
  simp only[PyData.canLayAll0,Bool.and_eq_true]at h
  rcases List.mem_cons.mp he with rfl|he
  ·exact h.1
  ·exact uK h.2 e he
theorem Bk:∀{ds:List PyData},wG ds=true→∀e∈ds,nb e=true
 |[],_,e,he=>nomatch he
 |d::ds,h,e,he=>by
  simp only[wG,Bool.and_eq_true]at h
  rcases List.mem_cons.mp he with rfl|he
  ·exact h.1
  ·exact Bk h.2 e he
theorem acy{K:PySem.W.Frag}{ρ:Nat→Addr}{c:Qm.Cells}{H:Hp}{x y:Qm.D}{v u:V}{b:Bool}(rs:RS K ρ c H)(rx:RD K ρ c.length H x v)(ry:RD K ρ c.length H y u)(h:Qm.inM x y c=some b):
  ∃(p:Addr) (xs:List V) (d:PyData) (ds:List PyData),u= .ref p∧(cy K H p xs∨dj K H p xs)∧kB K H v d∧tm K H xs ds∧SeqAt.shaped d=true∧d.depth≤8∧(∀e∈ds,PyData.canLay0 e=true)∧(ds.any fun e=>PyData.eqv e d)=b:=by
 obtain⟨xs,h1,h⟩:=aG h
 obtain⟨d,h2,h⟩:=aG h
 obtain⟨ds,h3,h⟩:=aG h
 cases h
 obtain⟨p,vs,rfl,hp,a⟩:=rs.seq ry h1
 obtain⟨a1,a2,a3,a4⟩:=mQ rs 5 rx h2
 obtain⟨b1,b2,b3,b4⟩:=zp (k:=5) rs (fun r h=>mQ rs 5 r h) a h3
 refine⟨p,vs,d,ds,rfl,hp.imp id dj.of,a1,b1,by simp[SeqAt.shaped,a2];omega,by omega,uK b2,?_⟩
 rw[Bool.eq_iff_iff]
 simp only[List.any_eq_true,decide_eq_true_eq]
 constructor
 ·rintro⟨e,he,q⟩
  rw[nY e d (Bk b4 e he) a4]at q
  exact q ▸ he
 ·intro hd
  exact⟨d,hd,(nY d d a4 a4).mpr rfl⟩
theorem Bl:∀{bs:List Bool}{us:List Value},Vals (bs.map V.bl) us→∀(i:Nat) (v:Value),us[i]? =some v→v= .bool (bs.getD i false)
 |[],_,.nil,i,v,h=>by simp at h
 |b::bs,_,.cons r t,0,v,h=>by
  simp at h
  subst h
  simpa using(show _=Value.bool b from r)
 |b::bs,_,.cons r t,i+1,v,h=>by
  have:=Bl t i v (by simpa using h)
  simpa using this
theorem wH{prog:Program}{w:World}{A:Around}{bs:List Bool}{us:List Value}(hv:Vals (bs.map V.bl) us):TruthOf prog w A (fun i v=>us.toArray[i]? =some v) fun i=>bs.getD i false:=fun i v s Q E h q=>by
 rw[Bl hv i v (by simpa using h)]
 exact wpAny_truthy_bool q
theorem range_all(bs:List Bool):(List.range bs.length).all (fun i=>bs.getD i false)=bs.all id:=by
 rw[Bool.eq_iff_iff]
 simp only[List.all_eq_true,List.mem_range]
 constructor
 ·intro h b hb
  obtain⟨i,hi⟩:=List.getElem?_of_mem hb
  have hl:=(List.getElem?_eq_some_iff.mp hi).1
  have:=h i hl
  simpa[List.getD,hi]using this
 ·intro h i hi
  have:bs[i]? =some bs[i]:=List.getElem?_eq_getElem hi
  simp only[List.getD,this,Option.getD_some]
  exact h _ (List.getElem_mem hi)
theorem range_any(bs:List Bool):(List.range bs.length).any (fun i=>bs.getD i false)=bs.any id:=by
 rw[Bool.eq_iff_iff]
 simp only[List.any_eq_true,List.mem_range]
 constructor
 ·rintro⟨i,hi,h⟩
  have:bs[i]? =some bs[i]:=List.getElem?_eq_getElem hi
  simp only[List.getD,this,Option.getD_some]at h
  exact⟨_,List.getElem_mem hi,h⟩
 ·rintro⟨b,hb,h⟩
  obtain⟨i,hi⟩:=List.getElem?_of_mem hb
  exact⟨i,(List.getElem?_eq_some_iff.mp hi).1,by simpa[List.getD,hi]using h⟩
theorem wI(hc:X.calm=true):gK X (.builtin "all") (fun xs H Q=>∃(p:Addr) (bs:List Bool),xs=[.ref p]∧cy X.K H p (bs.map V.bl)∧Q (.bl (bs.all id)) H):=by
 intro pins s σ H xs us Q I r h
 obtain⟨p,bs,rfl,hp,q⟩:=h
 obtain⟨u,rfl,ru⟩:=vals1 r
 cases (show u=Value.ref p from ru)
 obtain⟨its,hv,pl,_⟩:=I.list hp
 have hl:=pl.isList
 have fZ:p<s.heap.objs.size:=by obtain⟨o,e,_⟩:=hl;exact Heap.lt_size e
 refine call_all_walk (wpAny_pyIter_list hl ?_)
 refine⟨s.heap.objs.size,_,_,_,_,_,_,rfl,Walks.list (A:=X.A.in1) (I.ok.hd hc) s.heap.objs.size p (Nat.ne_of_lt fZ) its.toArray,⟨⟨_,Heap.get?_push_size _ rfl,rfl,rfl⟩,hl.at fun o e=>Heap.get?_push_of_some _ e⟩,wH hv,fun h' tk kk=>?_⟩
 have e:its.toArray.size=bs.length:=by rw[List.size_toArray,←hv.length,List.length_map]
 rw[e,range_all]
 exact⟨.bl _,H,I.kept (t':=tk) fun b o g=>kk b o (by simpa using Nat.ne_of_lt (Heap.lt_size g)) (Heap.get?_push_of_some _ g),rfl,q⟩
theorem C8(hc:X.calm=true):gK X (.builtin "any") (fun xs H Q=>∃(p:Addr) (bs:List Bool),xs=[.ref p]∧cy X.K H p (bs.map V.bl)∧Q (.bl (bs.any id)) H):=by
 intro pins s σ H xs us Q I r h
 obtain⟨p,bs,rfl,hp,q⟩:=h
 obtain⟨u,rfl,ru⟩:=vals1 r
 cases (show u=Value.ref p from ru)
 obtain⟨its,hv,pl,_⟩:=I.list hp
 have hl:=pl.isList
 have fZ:p<s.heap.objs.size:=by obtain⟨o,e,_⟩:=hl;exact Heap.lt_size e
 refine call_any_walk (wpAny_pyIter_list hl ?_)
 refine⟨s.heap.objs.size,_,_,_,_,_,_,rfl,Walks.list (A:=X.A.in1) (I.ok.hd hc) s.heap.objs.size p (Nat.ne_of_lt fZ) its.toArray,⟨⟨_,Heap.get?_push_size _ rfl,rfl,rfl⟩,hl.at fun o e=>Heap.get?_push_of_some _ e⟩,wH hv,fun h' tk kk=>?_⟩
 have e:its.toArray.size=bs.length:=by rw[List.size_toArray,←hv.length,List.length_map]
 rw[e,range_any]
 exact⟨.bl _,H,I.kept (t':=tk) fun b o g=>kk b o (by simpa using Nat.ne_of_lt (Heap.lt_size g)) (Heap.get?_push_of_some _ g),rfl,q⟩
theorem tG{K:PySem.W.Frag}{ρ:Nat→Addr}{N:Nat}{H:Hp}:∀{ds:List Qm.D}{vs:List V}{bs:List Bool},RA K ρ N H ds vs→Qm.omap Qm.kC ds=some bs→vs=bs.map V.bl
 |[],_,bs,a,h=>by cases a;cases h;rfl
 |d::ds,_,bs,a,h=>by
  cases a with
  |cons r a=>
   obtain⟨b,h1,h⟩:=aG h
   obtain⟨cs,h2,h⟩:=aG h
   cases h
   rw[vy h1]at r
   cases r.pY
   rw[tG a h2];rfl
theorem Eu{K:PySem.W.Frag}:qB K (fun xs H Q=>∃(p:Addr) (bs:List Bool),xs=[.ref p]∧cy K H p (bs.map V.bl)∧Q (.bl (bs.all id)) H) Qm.wu:=by
 intro ρ c H ds d c' vs Q rs ra e k
 obtain⟨x,rfl,e'⟩:=i_ e
 obtain⟨v,rfl,rx⟩:=ra.jF
 obtain⟨n,e0,e'⟩:=aG e'
 obtain⟨bs,e2,e'⟩:=aG e'
 cases e'
 obtain⟨rfl,hn,ws,rfl,g,a⟩:=rs.bj rx e0
 exact⟨_,bs,rfl,tG a e2 ▸ cy.of g,k ρ _ H (Nx.refl rs) (.bl _)⟩
theorem Mk{K:PySem.W.Frag}:qB K (fun xs H Q=>∃(p:Addr) (bs:List Bool),xs=[.ref p]∧cy K H p (bs.map V.bl)∧Q (.bl (bs.any id)) H) Qm.Be:=by
 intro ρ c H ds d c' vs Q rs ra e k
 obtain⟨x,rfl,e'⟩:=i_ e
 obtain⟨v,rfl,rx⟩:=ra.jF
 obtain⟨n,e0,e'⟩:=aG e'
 obtain⟨bs,e2,e'⟩:=aG e'
 cases e'
 obtain⟨rfl,hn,ws,rfl,g,a⟩:=rs.bj rx e0
 exact⟨_,bs,rfl,tG a e2 ▸ cy.of g,k ρ _ H (Nx.refl rs) (.bl _)⟩
theorem Ew:bootBuiltins "all" =some (.builtin "all"):=by decide +kernel
theorem Ml:bootBuiltins "any" =some (.builtin "any"):=by decide +kernel
end
end L2
namespace Qm
open PySem
noncomputable section
def adg:G2:=fun x y c=>match x with
 |.ref n=>(match c[n]? with
  |some (.ro xs)=>(bj y c).bind fun q=>if xs.length+q.2.length≤cR then some (.ref c.length,c++[.lst (xs++q.2)])else none
  |_=>none)
 |_=>none
end
end Qm
namespace L2
open PySem PySem.Spec PyProof.Rows
section
variable{X:Cx}
end
end L2
namespace L2
open PySem PySem.Spec PyProof.Rows
def iX:List Int→List Int→Bool
 |[],_=>false
 |_::_,[]=>true
 |a::r,b::t=>if a=b then iX r t else decide (a > b)
theorem IM{y:List Int}:iX [] y=false:=by cases y<;>rfl
section
variable{prog:Program}{w:World}{A:Around}{E:Value→Shared→Prop}{s:Shared}
theorem wJ{xs ys:Array Value}{x y:List Int}{a b:Addr}{oa ob:Obj}{na nb:Nat}{P:PySem.Fin→Shared→Prop}(hoa:s.heap.get? a=some oa)(hda:oa.data= .seq xs na)(UC:s.heap.get? b=some ob)(hcb:ob.cls= .type "tuple")(s_:ob.data= .seq ys nb)
  (hx:IntsAre xs.toList x)(hy:IntsAre ys.toList y)(h:P (.done (.ret (.bool (iX y x)))) s):
  wpAny (model prog w) A (Builtin.«tuple.__lt__» ⟨[.ref a,.ref b],[]⟩) P E s:=by
 have hTb:s.TypeIs (.ref b) "tuple":=⟨_,UC,hcb⟩
 show wpAny _ _ (isInstance (.ref b) (.type "tuple") >>= _) _ _ s
 refine wpAny_bind (wpAny_isInstance hTb isSubtype_tuple_tuple ?_)
 simp only[Bool.not_true,Bool.false_eq_true,if_false]
 refine wpAny_bind (wpAny_tupleItemsOf hoa hda ?_)
 refine wpAny_bind (wpAny_tupleItemsOf UC s_ ?_)
 refine wpAny_bind ?_
 refine wpAny_forIn_list _
  (fun rest r s'=>r.1=none∧s'=s∧∃x' y' qW qX,rest=List.zip qW qX∧IntsAre qW x'∧IntsAre qX y'∧iX y' x'=iX y x∧(decide (qW.length<qX.length))=(decide (xs.size<ys.size)))
  _ ?_ ?_ _ _ ⟨rfl,rfl,x,y,xs.toList,ys.toList,rfl,hx,hy,rfl,by simp⟩
 ·rintro⟨u,v⟩ rest r s' ⟨hr,rfl,x',y',qW,qX,hz,hV,kA,qY,hlen⟩
  cases hV with
  |nil=>simp at hz
  |@cons i t UD x'' UE=>
   cases kA with
   |nil=>simp at hz
   |@cons j t' UG y'' UH=>
    simp only[List.zip_cons_cons,List.cons.injEq,Prod.mk.injEq]at hz
    obtain⟨⟨rfl,rfl⟩,rfl⟩:=hz
    refine wpAny_bind (wpAny_eqBool_int ?_)
    by_cases hk:i=j
    ·subst hk
     rw[beq_self_eq_true]
     simp only[Bool.not_true,Bool.false_eq_true,if_false]
     refine wpAny_pure ⟨rfl,rfl,x'',y'',UD,UG,rfl,UE,UH,?_,by simpa using hlen⟩
     rw[←qY]
     simp[iX]
    ·rw[beq_eq_false_iff_ne.mpr hk]
     simp only[Bool.not_false,if_true]
     have hf:iX y x=decide (i<j):=by rw[←qY];simp[iX,Ne.symm hk]
     rw[hf]at h
     refine wpAny_bind (wpAny_rule (wpAny_bind ?_))
     refine richCompare_gives (op:=.Lt) (typeIs_int _ _ t) (typeIs_int _ _ t') PySem.F.slot_int_lt PySem.F.entry_int_lt (PySem.F.args_int_lt_2 _ _) (gives_int_lt _ _ t t') (fun x=>nomatch x) ?_
     exact wpAny_bind (wpAny_pure (wpAny_pure (wpAny_pure h)))
 ·rintro⟨r1,r2⟩ s' ⟨hr,rfl,x',y',qW,qX,hz,hV,kA,qY,hlen⟩
  simp only at hr
  subst hr
  refine wpAny_pure ?_
  have UI:(decide (xs.size<ys.size))=iX y x:=by
   rw[←qY,←hlen]
   cases kA with
   |nil=>simp[IM]
   |cons _ _ _=>
    cases hV with
    |nil=>simp[iX]
    |cons _ _ _=>simp at hz
  show P (.done (.ret (.bool (decide (xs.size<ys.size))))) s'
  rw[UI];exact h
theorem uL{p:Addr}{its:Array Value}(h:IsTup s.heap p its):s.TypeIs (.ref p) "tuple":=by
 obtain⟨o,ho,hc,_⟩:=h
 exact⟨_,ho,hc⟩
theorem FW{p q:Addr}{xs ys:Array Value}{x y:List Int}{Q:Value→Shared→Prop}(hp:IsTup s.heap p xs)(hq:IsTup s.heap q ys)(hx:IntsAre xs.toList x)(hy:IntsAre ys.toList y)(hu:A.units<cLine)(h:Q (.bool (iX y x)) s):wpAny (model prog w) A (richCompare .Lt (.ref p) (.ref q)) Q E s:=by
 have t1:=uL hp
 have t2:=uL hq
 obtain⟨oa,ha,ca,na,da⟩:=hp
 obtain⟨ob,hb,cb,nb,db⟩:=hq
 refine wpAny_richCompare_same_room (op:=.Lt) t1 t2 PySem.F.slot_tuple_lt (wpAny_call_entry PySem.F.slot_tuple_lt t1 PySem.F.entry_tuple_lt ?_ (PySem.F.args_tuple_lt_2 _ _)) hu
 exact wJ ha da hb cb db hx hy ⟨_,rfl,nofun,h⟩
end
theorem ints_of:∀{ns:List Int}{us:List Value},Vals (ns.map V.int) us→IntsAre us ns
 |[],_,h=>by cases h;exact .nil
 |n::ns,_,h=>by
  cases h with
  |cons r t=>
   obtain⟨k,rfl⟩:=r
   exact .cons n k (ints_of t)
section
variable{X:Cx}
end
end L2
namespace L2
open PySem PySem.Spec PyProof.Rows
section
variable{prog:Program}{w:World}{A:Around}
end
section
variable{X:Cx}
end
end L2
namespace L2
open PySem PySem.Spec PyProof.Rows PySem.W
section
variable{X:Cx}{pins:List (Addr×Obj)}{σ:St}{H:Hp}{s:Shared}
end
section
variable{prog:Program}{w:World}{A:Around}{s:Shared}{Q:Bool→Shared→Prop}
end
section
variable{X:Cx}
end
end L2
namespace L2
open PySem PySem.Spec PyProof.Rows
section
variable{prog:Program}{w:World}{A:Around}{E:Value→Shared→Prop}
end
section
variable{X:Cx}{pos:Pos}
end
end L2
namespace Qm
open PySem
noncomputable section
def iX:List Int→List Int→Bool
 |[],_=>false
 |_::_,[]=>true
 |a::r,b::t=>if a=b then iX r t else decide (a > b)
def nums(xs:List D):Option (List Int):=omap rL xs
def agz:G2:=fun x y c=>match x,y with
 |.tup xs,.tup ys=>(nums xs).bind fun ns=>(nums ys).bind fun ms=>some (.bl (iX ns ms),c)
 |_,_=>none
def acz:FN:=fun ds c=>match ds with
 |[.tup xs,.tup ys]=>(nums xs).bind fun ns=>(nums ys).bind fun ms=>some (if iX ms ns=true then .tup ys else .tup xs,c)
 |_=>none
def Q8(xs:List D):Option (List D×List D×List Int×List Int):=match xs with
 |[.tup xs,.tup ys]=>(nums xs).bind fun ns=>(nums ys).bind fun ms=>if ns≠[]∧ms≠[] then some (xs,ys,ns,ms)else none
 |_=>none
def S9:FN:=fun ds c=>match ds with
 |[.ref l]=>(cE (.ref l) c).bind fun zs=>(Q8 zs).bind fun q=>some (.ref c.length,c++[.lst (if iX q.2.2.1 q.2.2.2=true then [.tup q.2.1,.tup q.1] else [.tup q.1,.tup q.2.1])])
 |_=>none
end
end Qm
namespace L2
open PySem PySem.Spec PyProof.Rows
theorem C9:bootBuiltins "sorted" =some (.builtin "sorted"):=by decide +kernel
theorem Ex:∀x y:List Int,iX x y=Qm.iX x y
 |[],y=>by cases y<;>rfl
 |_::_,[]=>rfl
 |a::r,b::t=>by simp only[iX,Qm.iX];rw[Ex r t]
section
variable{K:PySem.W.Frag}
theorem rS{ρ:Nat→Addr}{N:Nat}{H:Hp}:∀{xs:List Qm.D}{vs:List V}{ns:List Int},RA K ρ N H xs vs→Qm.nums xs=some ns→vs=ns.map V.int
 |[],_,ns,a,h=>by cases a;cases h;rfl
 |x::xs,_,ns,a,h=>by
  cases a with
  |cons r a=>
   obtain⟨i,h1,h⟩:=aG h
   obtain⟨ms,h2,h⟩:=aG h
   cases h
   rw[jL h1]at r
   cases r.eR
   rw[rS a h2]
   rfl
end
section
variable{X:Cx}{pos:Pos}{es:List Expr}
end
end L2
namespace Qm
open PySem
noncomputable section
def asS(d:D):Option Str:=match d with
 |.str x=>some x
 |_=>none
def Ey(d:D)(c:Cells):Option (Nat×List (Str×D)):=match d with
 |.ref n=>(match c[n]? with
  |some (.vd ps)=>some (n,ps)
  |_=>none)
 |_=>none
def UJ{α:Type}(ps:List (Str×α))(k:Str)(d:α):List (Str×α):=
 if (ps.any fun p=>decide (p.1=k))=true then ps.map (fun p=>if p.1=k then(p.1,d)else p)else ps++[(k,d)]
def HX(o k v:XE):XS:=fun σ c=>(v σ c).bind fun w=>(o σ w.2).bind fun p=>(k σ p.2).bind fun q=>(Ey p.1 q.2).bind fun l=>(asS q.1).bind fun x=>if l.2.length<cR then some (.nx,σ,q.2.set l.1 (.vd (UJ l.2 x w.1)))else none
end
end Qm
namespace PySem
open Sem (wp)
section
variable{prog:Program}{w:World}{K:Type}[DecidableEq K]{knd:KeyKind prog w K}{A:Around}{E:Value→Shared→Prop}{s:Shared}
end
end PySem
namespace L2
open PySem PySem.Spec PyProof.Rows
section
variable{K:PySem.W.Frag}{ρ a_:Nat→Addr}{N:Nat}{c c':Qm.Cells}{H H':Hp}
theorem RK.length:∀{ps:List (Str×Qm.D)}{us:List (Key×V)},RK K ρ N H ps us→ps.length=us.length
 |_,_,.nil=>rfl
 |_,_,.cons _ a=>congrArg (·+1) (RK.length a)
theorem RK.any:∀{ps:List (Str×Qm.D)}{us:List (Key×V)},RK K ρ N H ps us→∀k,(ps.any fun p=>decide (p.1=k))=us.any fun kv=>decide (kv.1= .inr k)
 |_,_,.nil,_=>rfl
 |_,_,.cons (k:=k') h a,k=>by
  rw[List.any_cons,List.any_cons,RK.any a k]
  congr 1
  by_cases e:k'=k
  ·subst e;simp
  ·have e':¬(Sum.inr k':Key)= .inr k:=fun z=>e (Sum.inr.inj z)
   simp[e]
theorem RS.vd(r:RS K ρ c H){n:Nat}{ps:List (Str×Qm.D)}(h:c[n]? =some (.vd ps)):∃us,H (ρ n)=some (.dK us)∧RK K ρ c.length H ps us:=r.ok n _ h
theorem RS.Ey(r:RS K ρ c H){d:Qm.D}{n:Nat}{ps:List (Str×Qm.D)}{v:V}(h:RD K ρ c.length H d v)(e:Qm.Ey d c=some (n,ps)):d= .ref n∧c[n]? =some (.vd ps)∧∃us,v= .ref (ρ n)∧H (ρ n)=some (.dK us)∧RK K ρ c.length H ps us:=by
 unfold Qm.Ey at e
 split at e
 ·obtain⟨rfl,hn⟩:=h.kK
  split at e
  ·rename_i xs hx
   cases e
   obtain⟨vs,h1,h2⟩:=r.vd hx
   exact⟨rfl,hx,vs,rfl,h1,h2⟩
  ·cases e
 ·cases e
end
section
variable{X:Cx}{a b e:Expr}{es:List Expr}{fa fb fc fe:Qm.XE}{pos apos bP:Pos}
theorem IP:bootBuiltins "dict" =some (.type "dict"):=by decide +kernel
end
end L2
namespace L2
open PySem PySem.Spec PyProof.Rows
theorem KV.get{aC:List (Key×V)}{vs:List (Key×Value)}(r:KV aC vs):∀{i:Nat}{q:Key×Value},vs[i]? =some q→∃p,aC[i]? =some p∧p.1=q.1∧RelV p.2 q.2:=by
 unfold KV at r
 induction r with
 |nil=>intro i q h;simp at h
 |@cons p q ps qs h t ih=>
  intro i q' h'
  cases i with
  |zero=>simp at h';subst h';exact⟨p,rfl,h⟩
  |succ i=>exact ih (by simpa using h')
section
variable{X:Cx}
end
section
variable{K:PySem.W.Frag}{ρ:Nat→Addr}{c:Qm.Cells}{H:Hp}
inductive PD(K:PySem.W.Frag)(H:Hp):List (Str×PyData)→List (Key×V)→Prop
 |nil:PD K H [] []
 |cons {k:Str}{d:PyData}{r:List (Str×PyData)}{v:V}{t:List (Key×V)}:kB K H v d→SeqAt.shaped d=true→nb d=true→PD K H r t→PD K H ((k,d)::r) ((.inr k,v)::t)
theorem PD.length:∀{ds:List (Str×PyData)}{us:List (Key×V)},PD K H ds us→ds.length=us.length
 |_,_,.nil=>rfl
 |_,_,.cons _ _ _ a=>congrArg (·+1) (PD.length a)
theorem PD.get:∀{ds:List (Str×PyData)}{us:List (Key×V)}{i:Nat}{kv:Key×V},PD K H ds us→us[i]? =some kv→∃k d,ds[i]? =some (k,d)∧kv.1= .inr k∧kB K H kv.2 d∧SeqAt.shaped d=true∧nb d=true
 |_,_,_,_,.nil,e=>by simp at e
 |_,_,0,_,.cons h1 h2 h3 _,e=>by simp at e;subst e;exact⟨_,_,rfl,rfl,h1,h2,h3⟩
 |_,_,i+1,kv,.cons _ _ _ a,e=>by
  obtain⟨k,d,h1,h2⟩:=PD.get (i:=i) (kv:=kv) a (by simpa using e)
  exact⟨k,d,by simpa using h1,h2⟩
end
end L2
namespace L2
open PySem PySem.Spec PyProof.Rows
theorem bK.none{P:Program}{w:World}{K:PySem.W.Frag}{mg:Str→Option Value}{base:Heap}{k:Nat}{f:Addr}{fd:FuncData}{ps:List Str}{F:Qm.FN}(h:∀ds c,F ds c=Option.none):bK P w K mg base dm k f fd ps (dG K F):=
 ⟨fun vs H Q E ⟨_,_,_,_,_,_,_,e,_⟩=>(by rw[h]at e;cases e),fun A outer s H args us vs Q E _ _ _ _ ⟨_,_,_,_,_,_,_,e,_⟩=>(by rw[h]at e;cases e)⟩
end L2
namespace L2
open PySem PySem.Spec PyProof.Rows
end L2
namespace L2
open PySem PySem.Spec PyProof.Rows
section
variable{X:Cx}{es:List Expr}{fr:Qm.XA}{p:Pos}
end
end L2
namespace L2
open PySem PySem.Spec PyProof.Rows
section
variable{X:Cx}{pins:List (Addr×Obj)}{σ:St}{H:Hp}{s:Shared}{h':Heap}
theorem Inv.C_{ch:List Addr}{T:Addr}{o:HO}{t':Nat}(I:Inv X pins σ H s)(iQ:∀b∈ch,h_ X pins H b)(k:∀b u,b∉ch→s.heap.get? b=some u→h'.get? b=some u)(hT:s.heap.objs.size≤T)(new:bV X.prog X.w (upd H T o) h' T o):
  Inv X pins σ (upd H T o) { s with heap:=h',toks:=t' }:=by
 have hn:H T=none:=I.bh.fresh hT
 have ne:∀b u,s.heap.get? b=some u→b≠T:=fun b u e=>Nat.ne_of_lt (Nat.lt_of_lt_of_le (Heap.lt_size e) hT)
 have nc:∀b u,H b=some u→b∉ch:=fun b u e hb=>by rw[(iQ b hb).1]at e;cases e
 refine I.step (g':=s.gens) (d':=s.drawn) (ch:=ch) (fun b hb=>⟨(iQ b hb).2.2.2.1,(iQ b hb).2.1,(iQ b hb).2.2.2.2.1,(iQ b hb).2.2.2.2.2⟩) (fun b u _ _ hc e _=>k b u hc e) (fun b u _ _ hc e _=>⟨u.slots,k b u hc e⟩) (fun b u _ e z=>by rw[bg (ne b u e)];exact z)
  (fun b u hc e=>⟨u,k b u hc e⟩) (fun b xs e=>by rw[bg (dw e hn)];exact e) (fun b u v e=>by rw[bg (dw e hn)];exact e) (fun b ps e=>⟨#[],by rw[bg (dw e hn),e];simp⟩) (fun m hm=>?_) (fun b u e=>?_) I.bare
 ·obtain⟨ob,es,ep,ho,r⟩:=hm
  exact⟨ob,es,ep,k _ ob (fun z=>(iQ _ z).2.1 rfl) ho,r⟩
 ·by_cases hb:b=T
  ·subst hb
   rw[dk]at e
   cases e
   exact new
  ·rw[bg hb]at e
   refine(I.bh b u e).vR (fun c v hc q=>k c v ?_ q) (fun c q=>by rw[bg (dw q hn)];exact q) fun c xs q=>by rw[bg (dw q hn)];exact q
   rcases hc with z|z
   ·rw[z];exact nc b u e
   ·exact nc c _ z
theorem Inv.Dc{ch:List Addr}{t':Nat}(I:Inv X pins σ H s)(iQ:∀b∈ch,h_ X pins H b)(k:∀b u,b∉ch→s.heap.get? b=some u→h'.get? b=some u):Inv X pins σ H { s with heap:=h',toks:=t' }:=by
 have nc:∀b u,H b=some u→b∉ch:=fun b u e hb=>by rw[(iQ b hb).1]at e;cases e
 refine I.step (g':=s.gens) (d':=s.drawn) (ch:=ch) (fun b hb=>⟨(iQ b hb).2.2.2.1,(iQ b hb).2.1,(iQ b hb).2.2.2.2.1,(iQ b hb).2.2.2.2.2⟩) (fun b u _ _ hc e _=>k b u hc e) (fun b u _ _ hc e _=>⟨u.slots,k b u hc e⟩) (fun b u _ e z=>z)
  (fun b u hc e=>⟨u,k b u hc e⟩) (fun b xs e=>e) (fun b u v e=>e) (fun b ps e=>⟨#[],by rw[e];simp⟩) (fun m hm=>?_) (fun b u e=>?_) I.bare
 ·obtain⟨ob,es,ep,ho,r⟩:=hm
  exact⟨ob,es,ep,k _ ob (fun z=>(iQ _ z).2.1 rfl) ho,r⟩
 ·refine(I.bh b u e).vR (fun c v hc q=>k c v ?_ q) (fun c q=>q) fun c xs q=>q
  rcases hc with z|z
  ·rw[z];exact nc b u e
  ·exact nc c _ z
end
structure ZL(h:Heap)(z TI TO i1 i2 a b:Addr)(k:Nat):Prop where
 ap:jM z TI TO i1 i2 a b
 rc:∃b1,iO h z TI TO .none (.bool b1)
 ti:dF h TI (.ref i1) (.ref i2)
 to:∃x y,dF h TO x y
 j1:h.IsTupleIter i1 a k
 j2:h.IsTupleIter i2 b k
def Q9(K:PySem.W.Frag)(a b:Addr):It:=
 ⟨fun i H=>∃xs ys x y,dj K H a xs∧dj K H b ys∧xs[i]? =some x∧ys[i]? =some y,
      fun i H v H'=>∃T,v= .ref T∧H T=none∧∀xs ys,dj K H a xs→dj K H b ys→∃x y,xs[i]? =some x∧ys[i]? =some y∧H'=upd H T (.tup [x,y]),
      fun i H=>∃xs ys,dj K H a xs∧dj K H b ys∧(xs.length≤i∨ys.length≤i)⟩
theorem FX{P:Program}{w:World}{K:PySem.W.Frag}{es:List Expr}{k0:Nat}{p0:Pos}(z TI TO i1 i2 a b:Addr):
  Turn P w K (.Tuple es k0 p0) (Q9 K a b) [z,TI,TO,i1,i2] z (fun i h=>ZL h z TI TO i1 i2 a b i) where
 mem:=by simp
 obj:=fun i h Z c hc=>by
  obtain⟨D,⟨b1,hz⟩,gI,⟨x,y,gO⟩,j1,j2⟩:=Z
  rcases List.mem_cons.mp hc with rfl|hc
  ·exact⟨_,hz,by simp⟩
  rcases List.mem_cons.mp hc with rfl|hc
  ·exact⟨_,gI,by simp⟩
  rcases List.mem_cons.mp hc with rfl|hc
  ·exact⟨_,gO,by simp⟩
  rcases List.mem_cons.mp hc with rfl|hc
  ·obtain⟨o,e,_,d⟩:=j1
   exact⟨o,e,by rw[d];simp⟩
  ·have:c=i2:=by simpa using hc
   subst this
   obtain⟨o,e,_,d⟩:=j2
   exact⟨o,e,by rw[d];simp⟩
 keep:=fun i h h' Z kk=>by
  obtain⟨D,⟨b1,hz⟩,gI,⟨x,y,gO⟩,j1,j2⟩:=Z
  exact⟨D,⟨b1,kk _ (by simp) _ hz⟩,kk _ (by simp) _ gI,⟨x,y,kk _ (by simp) _ gO⟩,j1.at fun o e=>kk _ (by simp) o e,j2.at fun o e=>kk _ (by simp) o e⟩
 item:=fun X hP hw hK hc i pins s σ H E I hf Z go=>by
  subst hP hw hK
  obtain⟨xs,ys,x,y,rT,nX,hx,hy⟩:=go
  obtain⟨ia,va,ta,_⟩:=I.tuple rT
  obtain⟨ib,vb,tb,_⟩:=I.tuple nX
  obtain⟨ux,Dd,rx⟩:=va.get hx
  obtain⟨uy,IS,ry⟩:=vb.get hy
  obtain⟨D,⟨b1,hz⟩,gI,⟨x0,y0,gO⟩,j1,j2⟩:=Z
  have hT:s.TypeIs (.ref z) "zip":=⟨_,hz,rfl⟩
  obtain⟨d1,d2,d3,d4,d5,d6,d7,d8,d9,xN⟩:=D.ne
  unfold pyNext
  refine wpAny_bind (wpAny_attempt (wpAny_callSpecial?_slot (name:=Str.ofString "__next__") hT F.slot_zip_next (wpAny_call_entry F.slot_zip_next hT F.entry_zip_next ?_ (F.args_zip_next_1 _))))
  refine C7 (xs:=ia.toArray) (ys:=ib.toArray) D hz gI gO j1 j2 ta tb (by simpa using Dd) (by simpa using IS) fun h' T B zr=>wpAny_pure ⟨.ref T,rfl,?_⟩
  have tI:dF h' TI (.ref i1) (.ref i2):=B.keep _ _ d1 d5 d6 d7 gI
  -- AH owned tuple agA
  unfold letOwnedTupleGo
  refine wpAny_bind (wpAny_load zr ?_)
  dsimp only
  rw[if_pos (by simp)]
  refine wpAny_bind (wpAny_rule (show wpAny _ _ (setField (.ref z) 0 .none) _ _ _ from wpAny_setField_rec zr (by simp) fun h2 w2 s2=>?_))
  have z2:iO h2 z TI TO .none (.bool false):=w2
  have up:∀c o,c≠z→h'.get? c=some o→h2.get? c=some o:=fun c o bu e=>s2.extBut _ _ bu e
  obtain⟨xo,yo,go'⟩:=B.to
  have zl:z<s.heap.objs.size:=Heap.lt_size hz
  have Tz:T≠z:=Nat.ne_of_gt (Nat.lt_of_lt_of_le zl B.new)
  have gT:=up _ _ Tz B.at_
  have qb:∀c u,c∉[z,TI,TO,i1,i2]→s.heap.get? c=some u→h2.get? c=some u:=fun c u bu e=>by
   simp only[List.mem_cons,List.not_mem_nil,or_false,not_or]at bu
   exact up c u bu.1 (B.keep c u bu.1 bu.2.2.1 bu.2.2.2.1 bu.2.2.2.2 e)
  have IT:H T=none:=I.bh.fresh B.new
  have hfT:∀c∈[z,TI,TO,i1,i2],c≠T:=fun c bu=>by
   have:c<s.heap.objs.size:=by
    rcases List.mem_cons.mp bu with rfl|bu
    ·exact zl
    rcases List.mem_cons.mp bu with rfl|bu
    ·exact Heap.lt_size gI
    rcases List.mem_cons.mp bu with rfl|bu
    ·exact Heap.lt_size gO
    rcases List.mem_cons.mp bu with rfl|bu
    ·obtain⟨o,e,_⟩:=j1;exact Heap.lt_size e
    ·have:c=i2:=by simpa using bu
     subst this
     obtain⟨o,e,_⟩:=j2;exact Heap.lt_size e
   exact Nat.ne_of_lt (Nat.lt_of_lt_of_le this B.new)
  refine⟨.ref T,upd H T (.tup [x,y]),I.C_ (t':=s.toks) hf qb B.new ⟨by show 2≤sizeLine;decide,[ux,uy],.cons rx (.cons ry .nil),⟨_,gT,rfl,_,rfl⟩⟩,rfl,⟨T,rfl,IT,fun qW qX h1 h2=>?_⟩,⟨D,⟨false,z2⟩,up _ _ d1 tI,⟨xo,yo,up _ _ d2 go'⟩,B.j1.extBut s2.extBut d3,B.j2.extBut s2.extBut d4⟩,fun c bu=>?_⟩
  ·rw[←I.qu rT h1,←I.qu nX h2]
   exact⟨x,y,hx,hy,rfl⟩
  ·rw[bg (hfT c bu)]
   exact(hf c bu).1
 done:=fun X hP hw hK hc i pins s σ H E I hf Z st=>by
  subst hP hw hK
  obtain⟨xs,ys,rT,nX,nH⟩:=st
  obtain⟨ia,va,ta,_⟩:=I.tuple rT
  obtain⟨ib,vb,tb,_⟩:=I.tuple nX
  obtain⟨D,⟨b1,hz⟩,gI,⟨x0,y0,gO⟩,j1,j2⟩:=Z
  have la:=va.length
  have lb:=vb.length
  refine wF.stop (xs:=ia.toArray) (ys:=ib.toArray) (I.ok.hd hc) ⟨D,⟨.none,b1,hz,.inl rfl⟩,gI,⟨x0,y0,gO⟩,j1,j2,ta,tb⟩ ?_ fun h' kk=>⟨rfl,I.Dc (t':=s.toks) hf fun c u bu e=>?_⟩
  ·rcases nH with h|h
   ·exact .inl (Array.getElem?_eq_none (by simp;omega))
   ·exact .inr (Array.getElem?_eq_none (by simp;omega))
  ·simp only[List.mem_cons,List.not_mem_nil,or_false,not_or]at bu
   exact kk c u bu.1 bu.2.2.1 bu.2.2.2.1 bu.2.2.2.2 e
 self:=fun A i s Q E Z q=>by
  obtain⟨D,⟨b1,hz⟩,_⟩:=Z
  have hT:s.TypeIs (.ref z) "zip":=⟨_,hz,rfl⟩
  refine wpAny_pyIter_slot hT F.slot_zip_iter (wpAny_call_entry F.slot_zip_iter hT F.entry_zip_iter ?_ (F.args_zip_iter_1 _))
  exact wpAny_pure ⟨_,rfl,"zip",_,hT,F.slot_zip_next.lookup,q⟩
def Q_(K:PySem.W.Frag)(t:TA):TI:=fun σ H R=>t σ H fun vs H1=>∃a b xs ys,vs=[.ref a,.ref b]∧dj K H1 a xs∧dj K H1 b ys∧R (Q9 K a b) H1
section
variable{X:Cx}{e1 e2:Expr}{p0 p1 p2 pos:Pos}{f:Qm.XA}{es:List Expr}{k0:Nat}
theorem Mm{t:TA}(hg:Gl X "zip")(hm:X.mg "zip" =none)(ha:PA X [e1,e2] t)(mR:starEach [e1,e2] X.env=(false,eval e1 X.env)::starEach [e2] X.env:=by rfl)(fA:(backTo p2 (starEach [e2] X.env)).any (·.1)=false:=by rfl):
  PI X (.Tuple es k0 p0) (.Call (.Name "zip" p1) [e1,e2] [] p2) (Q_ X.K t):=by
 intro pins s σ H R I h
 refine wpAny_Call_Name_kw (i7 I hg hm (u:=.type "zip") (by decide +kernel) ?_)
 refine PyProof.Rows.callWith_type1 (bZ (ha p2 pins s σ H _ I h) fun us s1 ⟨vs,H1,I1,r1,q1⟩=>?_) mR fA
 obtain⟨a,b,xs,ys,rfl,tH,zq,q⟩:=q1
 obtain⟨u1,u2,rfl,ra,rb⟩:=vals2 r1
 cases (show u1=Value.ref a from ra)
 cases (show u2=Value.ref b from rb)
 obtain⟨ia,va,ta,za⟩:=I1.tuple tH
 obtain⟨ib,vb,tb,zb⟩:=I1.tuple zq
 refine FV (xs:=ia.toArray) (ys:=ib.toArray) ta tb fun h2 Z zr sz up=>?_
 refine Z.self ?_
 obtain⟨D,⟨f0,b1,hz,hf⟩,gI,gO,j1,j2,_,_⟩:=Z
 have I2:Inv X pins σ H1 { s1 with heap:=h2 }:=I1.kept (t':=s1.toks) up
 have fr:∀c,s1.heap.objs.size≤c→h_ X pins H1 c:=fun c hc=>I1.q_ hc (I1.bh.fresh hc)
 refine⟨_,_,_,Q9 X.K a b,H1,rfl,I2,FX _ _ _ _ _ a b,⟨D,⟨false,zr⟩,gI,gO,j1,j2⟩,fun c hc=>?_,q⟩
 ·rcases List.mem_cons.mp hc with rfl|hc
  ·exact fr _ (Nat.le_add_right _ _)
  rcases List.mem_cons.mp hc with rfl|hc
  ·exact fr _ (Nat.le_add_right _ _)
  rcases List.mem_cons.mp hc with rfl|hc
  ·exact fr _ (Nat.le_add_right _ _)
  rcases List.mem_cons.mp hc with rfl|hc
  ·exact fr _ (Nat.le_refl _)
  ·have:c=s1.heap.objs.size+1:=by simpa using hc
   subst this
   exact fr _ (Nat.le_add_right _ _)
theorem tJ{xs ys:List Qm.D}{i:Nat}{d:Qm.D}(h:(Qm.fS xs ys)[i]? =some d):∃x y,xs[i]? =some x∧ys[i]? =some y∧d= .tup [x,y]:=by
 unfold Qm.fS at h
 rw[List.getElem?_map]at h
 cases e:(xs.zip ys)[i]? with
 |none=>rw[e]at h;cases h
 |some p=>
  rw[e]at h
  cases h
  obtain⟨h1,h2⟩:=List.getElem?_zip_eq_some.mp e
  exact⟨p.1,p.2,h1,h2,rfl⟩
theorem Mn(hg:Gl X "zip")(hm:X.mg "zip" =none)(ha:QA X [e1,e2] f)(mR:starEach [e1,e2] X.env=(false,eval e1 X.env)::starEach [e2] X.env:=by rfl)(fA:(backTo p2 (starEach [e2] X.env)).any (·.1)=false:=by rfl):
  QI X (.Tuple es k0 p0) (.Call (.Name "zip" p1) [e1,e2] [] p2) (Qm.Bf f):=(Mm hg hm ha mR fA).imp <| by
 rintro σ H R ⟨ρ,env,c,m,c',rs,re,e,k⟩
 obtain⟨p,ea,e⟩:=aG e
 refine⟨ρ,env,c,p.1,p.2,rs,re,ea,fun aR vs H1 n1 r1=>?_⟩
 split at e
 ·rename_i xs ys hp
  cases e
  rw[hp]at r1
  obtain⟨v,u,rfl,rx,ry⟩:=r1.uJ
  obtain⟨a,va,rfl,tH,aa⟩:=rx.jG
  obtain⟨b,vb,rfl,zq,ab⟩:=ry.jG
  refine⟨a,b,va,vb,rfl,dj.of tH,dj.of zq,k aR _ H1 n1 fun jj c2 H2 u2 pZ _=>?_⟩
  have wK:=u2.ts _ _ tH
  have IU:=u2.ts _ _ zq
  have aa2:=aa.up u2
  have ab2:=ab.up u2
  have l1:=aa.length
  have l2:=ab.length
  have hl:(Qm.fS xs ys).length=min xs.length ys.length:=by simp[Qm.fS]
  refine⟨fun i hi=>?_,⟨va,vb,dj.of wK,dj.of IU,?_⟩,fun i d x H' hd hy=>?_⟩
  ·dsimp only at hi
   have h1:i<va.length:=by omega
   have h2:i<vb.length:=by omega
   exact⟨va,vb,va[i],vb[i],dj.of wK,dj.of IU,List.getElem?_eq_getElem h1,List.getElem?_eq_getElem h2⟩
  ·show va.length≤(Qm.fS xs ys).length∨vb.length≤(Qm.fS xs ys).length
   omega
  ·obtain⟨T,rfl,hT,hy⟩:=hy
   obtain⟨x',y',h1,h2,rfl⟩:=hy va vb (dj.of wK) (dj.of IU)
   obtain⟨dx,dy,g1,g2,rfl⟩:=tJ hd
   obtain⟨v1,q1,r1⟩:=aa2.get g1
   obtain⟨v2,q2,r2⟩:=ab2.get g2
   rw[h1]at q1;cases q1
   rw[h2]at q2;cases q2
   have n:=Nx.same pZ (iU (z:=.tup [x',y']) hT)
   exact⟨n,.tup dk (.cons (r1.up n.up) (.cons (r2.up n.up) .nil))⟩
 ·cases e
end
end L2
namespace Qm
open PySem
noncomputable section
def eD(xs:List D):List D:=xs.zipIdx.map fun p=>.tup [.int p.2,p.1]
def fK(a:XA):XI:=fun σ c=>(a σ c).bind fun p=>match p.1 with
 |[.ref n]=>(p.2[n]?).bind fun z=>(bj (.ref n) p.2).bind fun l=>some (⟨eD l.2,[(n,z)]⟩,p.2)
 |_=>none
open Classical in
def Bm(x y:D)(c:Cells):Option Bool:=(data c 60 x).bind fun d=>(data c 60 y).bind fun e=>some (decide (d=e))
def Bn:G2:=fun x y c=>(Bm x y c).bind fun b=>some (.bl b,c)
def yc:G2:=fun x y c=>(Bm x y c).bind fun b=>some (.bl (!b),c)
end
end Qm
namespace L2
open PySem PySem.Spec PyProof.Rows
section
variable{K:PySem.W.Frag}
theorem yd{ρ:Nat→Addr}{c:Qm.Cells}{H:Hp}{x y:Qm.D}{v u:V}{b:Bool}(rs:RS K ρ c H)(rx:RD K ρ c.length H x v)(ry:RD K ρ c.length H y u)(h:Qm.Bm x y c=some b):
  ∃d e,kB K H v d∧kB K H u e∧SeqAt.shaped d=true∧SeqAt.shaped e=true∧PyData.eqv d e=b:=by
 unfold Qm.Bm at h
 obtain⟨d,h1,h⟩:=aG h
 obtain⟨e,h2,h⟩:=aG h
 cases h
 obtain⟨a1,a2,a3,a4⟩:=mQ rs 60 rx h1
 obtain⟨b1,b2,b3,b4⟩:=mQ rs 60 ry h2
 refine⟨d,e,a1,b1,by simp[SeqAt.shaped,a2];omega,by simp[SeqAt.shaped,b2];omega,?_⟩
 have:=nY d e a4 b4
 by_cases q:d=e
 ·rw[this.mpr q];simp[q]
 ·cases z:PyData.eqv d e with
  |false=>simp[q]
  |true=>exact absurd (this.mp z) q
theorem Ez:j4 K (fun x y H Q=>Lz x y H Q∨uG K false x y H Q) Qm.Bn:=by
 intro ρ c H x y d c' v u Q rs rx ry e k
 obtain⟨b,e1,e⟩:=aG e
 cases e
 obtain⟨dd,ee,a1,a2,a3,a4,a5⟩:=yd rs rx ry e1
 refine .inr ⟨dd,ee,a1,a2,a3,a4,?_⟩
 rw[if_neg (by decide),a5]
 exact k ρ _ H (Nx.refl rs) (.bl _)
theorem zt:j4 K (fun x y H Q=>LA x y H Q∨uG K true x y H Q) Qm.yc:=by
 intro ρ c H x y d c' v u Q rs rx ry e k
 obtain⟨b,e1,e⟩:=aG e
 cases e
 obtain⟨dd,ee,a1,a2,a3,a4,a5⟩:=yd rs rx ry e1
 refine .inr ⟨dd,ee,a1,a2,a3,a4,?_⟩
 rw[if_pos rfl,a5]
 exact k ρ _ H (Nx.refl rs) (.bl _)
end
def Ra(K:PySem.W.Frag)(a:Addr):It:=
 ⟨fun i H=>∃xs x,cy K H a xs∧xs[i]? =some x,
      fun i H v H'=>∃T,v= .ref T∧H T=none∧∀xs,cy K H a xs→∃x,xs[i]? =some x∧H'=upd H T (.tup [.int i,x]),
      fun i H=>∃xs,cy K H a xs∧xs.length≤i⟩
theorem Df{P:Program}{w:World}{K:PySem.W.Frag}{es:List Expr}{k0:Nat}{p0:Pos}(e it a:Addr)(UK:e≠it):
  Turn P w K (.Tuple es k0 p0) (Ra K a) [e,it] e (fun i h=>(∃old,IsEnum h e it i old)∧h.IsListIter it a i) where
 mem:=by simp
 obj:=fun i h Z c hc=>by
  obtain⟨⟨old,he⟩,hit⟩:=Z
  rcases List.mem_cons.mp hc with rfl|hc
  ·exact⟨_,he,by simp⟩
  ·have:c=it:=by simpa using hc
   subst this
   obtain⟨o,e,_,d⟩:=hit
   exact⟨o,e,by rw[d];simp⟩
 keep:=fun i h h' Z kk=>by
  obtain⟨⟨old,he⟩,hit⟩:=Z
  exact⟨⟨old,kk _ (by simp) _ he⟩,hit.at fun o e=>kk _ (by simp) o e⟩
 item:=fun X hP hw hK hc i pins s σ H E I hf Z go=>by
  subst hP hw hK
  obtain⟨xs,x,rT,hx⟩:=go
  obtain⟨ia,va,p,_⟩:=I.list rT
  obtain⟨ux,Dd,rx⟩:=va.get hx
  obtain⟨⟨old,he⟩,hit⟩:=Z
  refine wpAny_pyNext_enum_item he hit p.isList (x:=ux) (by simpa using Dd) UK fun h' ho UL hT hsz hk=>?_
  refine⟨_,rfl,?_⟩
  refine wpAny_letOwnedTupleGo_enum ho fun h2 he2 mR=>?_
  have UM:s.heap.objs.size≠e:=Nat.ne_of_gt (Heap.lt_size he)
  have hTi:s.heap.objs.size≠it:=by
   obtain⟨o,q,_⟩:=hit
   exact Nat.ne_of_gt (Heap.lt_size q)
  have gT:=mR.extBut _ _ UM hT
  have qb:∀c u,c∉[e,it]→s.heap.get? c=some u→h2.get? c=some u:=fun c u bu q=>by
   simp only[List.mem_cons,List.not_mem_nil,or_false,not_or]at bu
   exact mR.extBut c u bu.1 (hk c u bu.1 bu.2 q)
  have IT:H s.heap.objs.size=none:=I.bh.fresh (Nat.le_refl _)
  refine⟨.ref s.heap.objs.size,upd H s.heap.objs.size (.tup [.int i,x]),I.C_ (t':=s.toks+1) hf qb (Nat.le_refl _) ⟨by show 2≤sizeLine;decide,[.int i s.toks,ux],.cons ⟨_,rfl⟩ (.cons rx .nil),⟨_,gT,rfl,_,rfl⟩⟩,rfl,⟨_,rfl,IT,fun qW h1=>?_⟩,⟨⟨_,by simpa using he2⟩,UL.extBut mR.extBut UK.symm⟩,fun c bu=>?_⟩
  ·rw[←I.lT rT h1]
   exact⟨x,hx,rfl⟩
  ·have fH:c≠s.heap.objs.size:=by
    rcases List.mem_cons.mp bu with rfl|bu
    ·exact UM.symm
    ·have:c=it:=by simpa using bu
     subst this
     exact hTi.symm
   rw[bg fH]
   exact(hf c bu).1
 done:=fun X hP hw hK hc i pins s σ H E I hf Z st=>by
  subst hP hw hK
  obtain⟨xs,rT,nH⟩:=st
  obtain⟨ia,va,p,_⟩:=I.list rT
  obtain⟨⟨old,he⟩,hit⟩:=Z
  have la:=va.length
  refine wpAny_pyNext_enum_end (I.ok.hd hc) he hit p.isList (Array.getElem?_eq_none (by simp;omega)) fun h' eb=>⟨rfl,I.Dc (t':=s.toks) hf fun c u bu q=>?_⟩
  simp only[List.mem_cons,List.not_mem_nil,or_false,not_or]at bu
  exact eb c u bu.2 q
 self:=fun A i s Q E Z q=>by
  obtain⟨⟨old,he⟩,_⟩:=Z
  exact wpAny_pyIter_enum he q
def Mo(K:PySem.W.Frag)(t:TA):TI:=fun σ H R=>t σ H fun vs H1=>∃a xs,vs=[.ref a]∧cy K H1 a xs∧R (Ra K a) H1
section
variable{X:Cx}{e1:Expr}{p0 p1 p2 pos:Pos}{f:Qm.XA}{es:List Expr}{k0:Nat}
theorem IV{t:TA}(hg:Gl X "enumerate")(hm:X.mg "enumerate" =none)(ha:PA X [e1] t)(mR:starEach [e1] X.env=(false,eval e1 X.env)::starEach [] X.env:=by rfl)(fA:(backTo p2 (starEach [] X.env)).any (·.1)=false:=by rfl):
  PI X (.Tuple es k0 p0) (.Call (.Name "enumerate" p1) [e1] [] p2) (Mo X.K t):=by
 intro pins s σ H R I h
 refine wpAny_Call_Name_kw (i7 I hg hm (u:=.type "enumerate") (by decide +kernel) ?_)
 refine PyProof.Rows.callWith_type1 (bZ (ha p2 pins s σ H _ I h) fun us s1 ⟨vs,H1,I1,r1,q1⟩=>?_) mR fA
 obtain⟨a,xs,rfl,tH,q⟩:=q1
 obtain⟨u1,rfl,ra⟩:=vals1 r1
 cases (show u1=Value.ref a from ra)
 obtain⟨ia,va,p,za⟩:=I1.list tH
 refine call_enumerate_list p.isList fun h2 he hit sz up=>?_
 refine wpAny_pyIter_enum he ?_
 have I2:Inv X pins σ H1 { s1 with heap:=h2 }:=I1.kept (t':=s1.toks) up
 have fr:∀c,s1.heap.objs.size≤c→h_ X pins H1 c:=fun c hc=>I1.q_ hc (I1.bh.fresh hc)
 refine⟨_,_,_,Ra X.K a,H1,rfl,I2,Df _ _ a (show s1.heap.objs.size+1≠s1.heap.objs.size by omega),⟨⟨_,he⟩,hit⟩,fun c hc=>?_,q⟩
 rcases List.mem_cons.mp hc with rfl|hc
 ·exact fr _ (Nat.le_add_right _ _)
 ·have:c=s1.heap.objs.size:=by simpa using hc
  subst this
  exact fr _ (Nat.le_refl _)
theorem Dg{xs:List Qm.D}{i:Nat}{d:Qm.D}(h:(Qm.eD xs)[i]? =some d):∃x,xs[i]? =some x∧d= .tup [.int i,x]:=by
 unfold Qm.eD at h
 rw[List.getElem?_map,List.getElem?_zipIdx]at h
 cases q:xs[i]? with
 |none=>rw[q]at h;cases h
 |some x=>rw[q]at h;simp at h;exact⟨x,rfl,h.symm⟩
theorem rV(hg:Gl X "enumerate")(hm:X.mg "enumerate" =none)(ha:QA X [e1] f)(mR:starEach [e1] X.env=(false,eval e1 X.env)::starEach [] X.env:=by rfl)(fA:(backTo p2 (starEach [] X.env)).any (·.1)=false:=by rfl):
  QI X (.Tuple es k0 p0) (.Call (.Name "enumerate" p1) [e1] [] p2) (Qm.fK f):=(IV hg hm ha mR fA).imp <| by
 rintro σ H R ⟨ρ,env,c,m,c',rs,re,e,k⟩
 obtain⟨p,ea,e⟩:=aG e
 refine⟨ρ,env,c,p.1,p.2,rs,re,ea,fun aR vs H1 n1 r1=>?_⟩
 split at e
 ·rename_i n hp
  obtain⟨z,e2,e⟩:=aG e
  obtain⟨l,e3,e⟩:=aG e
  cases e
  rw[hp]at r1
  obtain⟨v,rfl,rx⟩:=r1.jF
  obtain⟨hv,hn⟩:=rx.kK
  subst hv
  obtain⟨dn,zu,ws,_,h1,a1⟩:=n1.rs.bj (d:=.ref n) (.ref hn) (show Qm.bj (.ref n) p.2=some (l.1,l.2)from e3)
  have Rb:l.1=n:=by cases dn;rfl
  rw[Rb]at zu h1
  refine⟨_,ws,rfl,cy.of h1,k aR _ H1 n1 fun jj c2 H2 u2 pZ mG=>?_⟩
  have hz:z= .lst l.2:=by rw[e2]at zu;exact Option.some.inj zu
  obtain⟨us,h2,a2⟩:=pZ.lst (by rw[←hz];exact mG (n,z) (by simp))
  rw[u2.agree n hn]at h2
  have hl:(Qm.eD l.2).length=us.length:=by rw[←a2.length];simp[Qm.eD]
  refine⟨fun i hi=>?_,⟨us,cy.of h2,by show us.length≤(Qm.eD l.2).length;omega⟩,fun i d x H' hd hy=>?_⟩
  ·dsimp only at hi
   have h3:i<us.length:=by omega
   exact⟨us,us[i],cy.of h2,List.getElem?_eq_getElem h3⟩
  ·obtain⟨T,rfl,hT,hy⟩:=hy
   obtain⟨x',h3,rfl⟩:=hy us (cy.of h2)
   obtain⟨dx,g1,rfl⟩:=Dg hd
   obtain⟨v1,q1,r1⟩:=a2.get g1
   rw[h3]at q1;cases q1
   have n:=Nx.same pZ (iU (z:=.tup [.int i,x']) hT)
   exact⟨n,.tup dk (.cons (.int _) (.cons (r1.up n.up) .nil))⟩
 ·cases e
end
end L2
namespace L2
open PySem PySem.Spec PyProof.Rows
section
variable{X:Cx}{pins:List (Addr×Obj)}{σ:St}{H:Hp}{s:Shared}{h':Heap}
end
section
variable{X:Cx}{tg l:Expr}{tl:TE}
end
section
variable{K:PySem.W.Frag}{ρ a_:Nat→Addr}{N:Nat}{c c':Qm.Cells}{H H':Hp}
theorem RK.at_:∀{ps:List (Str×Qm.D)}{us:List (Key×V)},RK K ρ N H ps us→∀{i:Nat}{p:Str×Qm.D},ps[i]? =some p→∃kv,us[i]? =some kv∧kv.1= .inr p.1
 |_,_,.nil,i,p,h=>by simp at h
 |_,_,.cons (k:=k') _ a,0,p,h=>by simp at h;subst h;exact⟨_,rfl,rfl⟩
 |_,_,.cons _ a,i+1,p,h=>by
  obtain⟨kv,h1,h2⟩:=RK.at_ a (i:=i) (p:=p) (by simpa using h)
  exact⟨kv,by simpa using h1,h2⟩
end
section
variable{X:Cx}{e a b tg:Expr}{fe fa fb:Qm.XE}{pos:Pos}
end
end L2
namespace L2
open PySem PySem.Spec PyProof.Rows
section
variable{X:Cx}{pins:List (Addr×Obj)}{σ:St}{H:Hp}{s:Shared}
end
end L2
namespace Qm
open PySem
noncomputable section
end
end Qm
namespace Qm
open PySem
noncomputable section
end
end Qm
namespace L2
open PySem PySem.Spec PyProof.Rows
section
variable{X:Cx}
end
section
variable{K:PySem.W.Frag}{ρ:Nat→Addr}{c:Qm.Cells}{H:Hp}
end
end L2
namespace PySem
open Sem (wp)
open AutoSeq1 (wpAny_loadPart')
open MeetsSeq MeetsSeq2 MeetsSeq3 SeqRoads2
section
variable{P:Program}{W:World}
variable{A:Around}{E:Value→Shared→Prop}{s:Shared}
end
end PySem
namespace L2
open PySem PySem.Spec PyProof.Rows
section
variable{X:Cx}
end
section
variable{K:PySem.W.Frag}{ρ:Nat→Addr}{c:Qm.Cells}{H:Hp}
end
end L2
namespace Qm
open PySem
noncomputable section
def lA(a:XA):XI:=fun σ c=>(a σ c).bind fun p=>match p.1 with
 |[.ref n,.ref m]=>(p.2[n]?).bind fun z=>(p.2[m]?).bind fun y=>(bj (.ref n) p.2).bind fun l=>(bj (.ref m) p.2).bind fun k=>some (⟨fS l.2 k.2,[(n,z),(m,y)]⟩,p.2)
 |_=>none
end
end Qm
namespace PySem
open Sem (wp)
section
variable{prog:Program}{w:World}{A:Around}{E:Value→Shared→Prop}{s:Shared}{I:Addr}{fp wr:List Addr}{G:Array GenState→Array GenState→Prop}{n:Nat}{P:Nat→Value→Prop}{St:Nat→Shared→Prop}
end
end PySem
namespace L2
open PySem PySem.Spec PyProof.Rows
section
variable{X:Cx}
end
end L2
namespace L2
open PySem PySem.Spec PyProof.Rows
theorem ye{m a b:Nat}(ha:a<m)(hb:b<m):ZipApart (m+4) (m+2) (m+3) m (m+1) a b:=by
 constructor<;>first|exact Nat.ne_of_lt (by omega)|exact Nat.ne_of_gt (by omega)
def IW(K:PySem.W.Frag)(a b:Addr):It:=
 ⟨fun i H=>∃xs ys x y,cy K H a xs∧cy K H b ys∧xs[i]? =some x∧ys[i]? =some y,
      fun i H v H'=>∃T,v= .ref T∧H T=none∧∀xs ys,cy K H a xs→cy K H b ys→∃x y,xs[i]? =some x∧ys[i]? =some y∧H'=upd H T (.tup [x,y]),
      fun i H=>∃xs ys,cy K H a xs∧cy K H b ys∧(xs.length≤i∨ys.length≤i)⟩
def EA(K:PySem.W.Frag)(t:TA):TI:=fun σ H R=>t σ H fun vs H1=>∃a b xs ys,vs=[.ref a,.ref b]∧cy K H1 a xs∧cy K H1 b ys∧R (IW K a b) H1
section
variable{X:Cx}{e1 e2:Expr}{p0 p1 p2 pos:Pos}{f:Qm.XA}{es:List Expr}{k0:Nat}
theorem FY{K:PySem.W.Frag}{f:Qm.XA}:∀σ H R,IQ K (Qm.lA f) σ H R→EA K (AQ K f) σ H R:=by
 rintro σ H R ⟨ρ,env,c,m,c',rs,re,e,k⟩
 obtain⟨p,ea,e⟩:=aG e
 refine⟨ρ,env,c,p.1,p.2,rs,re,ea,fun aR vs H1 n1 r1=>?_⟩
 split at e
 ·rename_i n m' hp
  obtain⟨z,e2,e⟩:=aG e
  obtain⟨y,e3,e⟩:=aG e
  obtain⟨l,e4,e⟩:=aG e
  obtain⟨l2,e5,e⟩:=aG e
  cases e
  rw[hp]at r1
  obtain⟨v,u,rfl,rx,ry⟩:=r1.uJ
  obtain⟨hv,hn⟩:=rx.kK
  obtain⟨hu,zv⟩:=ry.kK
  subst hv hu
  obtain⟨dn,zu,ws,_,h1,a1⟩:=n1.rs.bj (d:=.ref n) (.ref hn) (show Qm.bj (.ref n) p.2=some (l.1,l.2)from e4)
  obtain⟨Rc,Bo,zg,_,IX,a1'⟩:=n1.rs.bj (d:=.ref m') (.ref zv) (show Qm.bj (.ref m') p.2=some (l2.1,l2.2)from e5)
  have Rb:l.1=n:=by cases dn;rfl
  have IY:l2.1=m':=by cases Rc;rfl
  rw[Rb]at zu h1
  rw[IY]at Bo IX
  refine⟨_,_,ws,zg,rfl,cy.of h1,cy.of IX,k aR _ H1 n1 fun jj c2 H2 u2 pZ mG=>?_⟩
  have hz:z= .lst l.2:=by rw[e2]at zu;exact Option.some.inj zu
  have hy:y= .lst l2.2:=by rw[e3]at Bo;exact Option.some.inj Bo
  obtain⟨us,h2,a2⟩:=pZ.lst (by rw[←hz];exact mG (n,z) (by simp))
  obtain⟨tK,zw,IZ⟩:=pZ.lst (by rw[←hy];exact mG (m',y) (by simp))
  rw[u2.agree n hn]at h2
  rw[u2.agree m' zv]at zw
  have l1:=a2.length
  have l2':=IZ.length
  have hl:(Qm.fS l.2 l2.2).length=min l.2.length l2.2.length:=by simp[Qm.fS]
  refine⟨fun i hi=>?_,⟨us,tK,cy.of h2,cy.of zw,?_⟩,fun i d x H' hd hy=>?_⟩
  ·dsimp only at hi
   have g1:i<us.length:=by omega
   have g2:i<tK.length:=by omega
   exact⟨us,tK,us[i],tK[i],cy.of h2,cy.of zw,List.getElem?_eq_getElem g1,List.getElem?_eq_getElem g2⟩
  ·show us.length≤(Qm.fS l.2 l2.2).length∨tK.length≤(Qm.fS l.2 l2.2).length
   omega
  ·obtain⟨T,rfl,hT,hy⟩:=hy
   obtain⟨x',y',g1,g2,rfl⟩:=hy us tK (cy.of h2) (cy.of zw)
   obtain⟨dx,dy,f1,f2,rfl⟩:=tJ hd
   obtain⟨v1,q1,r1⟩:=a2.get f1
   obtain⟨v2,q2,r2⟩:=IZ.get f2
   rw[g1]at q1;cases q1
   rw[g2]at q2;cases q2
   have n:=Nx.same pZ (iU (z:=.tup [x',y']) hT)
   exact⟨n,.tup dk (.cons (r1.up n.up) (.cons (r2.up n.up) .nil))⟩
 ·cases e
end
end L2
namespace PySem
open Sem (wp)
open AutoSeq1 (wpAny_loadPart')
open MeetsSeq MeetsSeq2 MeetsSeq3 SeqRoads2
section
variable{P:Program}{W:World}
end
end PySem
namespace L2
open PySem PySem.Spec PyProof.Rows
section
variable{X:Cx}
end
end L2
namespace Qm
open PySem
noncomputable section
def rW(tab:List (Nat×FN))(f:XE)(a:XA):XE:=fun σ c=>(f σ c).bind fun p=>match p.1 with
 |.adr x=>(tab.lookup x).bind fun F=>(a σ p.2).bind fun q=>F q.1 q.2
 |_=>none
def nZ(lo:Int)(n:Nat):List D:=(List.range n).map fun(i:Nat)=>.int (lo+i*2)
open Classical in
def zx(a:XA):XI:=fun σ c=>(a σ c).bind fun p=>match p.1 with
 |[.int i,.int j,.int k]=>if k=2∧QY i∧QY j then some (⟨nZ i ((j - i+1) / 2).toNat,[]⟩,p.2)else none
 |_=>none
def I0:XE:=fun _ _=>none
end
end Qm
namespace L2
open PySem PySem.Spec PyProof.Rows
structure EB(X:Cx)(f:Addr)(F:Qm.FN):Prop where
 ex:∃(k:Nat) (fd:FuncData) (ps:List Str),bK X.prog X.w X.K X.mg X.base dm k f fd ps (dG X.K F)∧fP k X.A∧PySem.W.keepIn X.K (.ref f)=true∧Binds X.K fd ps []
section
variable{X:Cx}{e:Expr}{es:List Expr}{x:Str}{p pos:Pos}{fx:Qm.XA}{fe:Qm.XE}
theorem lookup_mem{tab:List (Nat×Qm.FN)}{a:Nat}{F:Qm.FN}(h:tab.lookup a=some F):(a,F)∈tab:=by
 induction tab with
 |nil=>cases h
 |cons q r ih=>
  obtain⟨b,G⟩:=q
  rw[List.lookup_cons]at h
  cases hb:(a==b)with
  |true=>
   rw[hb]at h
   cases h
   have:a=b:=by simpa using hb
   subst this
   exact List.mem_cons_self ..
  |false=>
   rw[hb]at h
   exact List.mem_cons_of_mem _ (ih h)
theorem FZ(tab:List (Nat×Qm.FN))(hT:∀q∈tab,EB X q.1 q.2)(hv:QE X (.Name x p) fe)(ha:QA X (e::es) fx)
  (he:starEach (e::es) X.env=(false,eval e X.env)::starEach es X.env:=by rfl)(fA:(backTo pos (starEach es X.env)).any (·.1)=false:=by rfl):
  QE X (.Call (.Name x p) (e::es) [] pos) (Qm.rW tab fe fx):=by
 intro pins s σ H Q I ⟨ρ,env,c,d,c',rs,re,h,k⟩
 obtain⟨q,e1,h⟩:=aG h
 split at h
 ·rename_i a hq
  obtain⟨F,e2,h⟩:=aG h
  obtain⟨r,e3,h⟩:=aG h
  obtain⟨lv,fd,ps,G,hr,hk,hb⟩:=(hT _ (lookup_mem e2)).ex
  refine wpAny_Call_Name_kw (bZ (hv pins s σ H (fun v H1=>v= .ref a∧∃aR,Nx X.K ρ c H aR q.2 H1) I ⟨ρ,env,c,q.1,q.2,rs,re,e1,fun aR v H1 n1 r1=>?_⟩) fun u s1 ⟨v,H1,I1,rv,hva,aR,n1⟩=>?_)
  ·rw[hq]at r1
   cases r1
   exact⟨rfl,aR,n1⟩
  ·subst hva
   cases (show u=Value.ref a from rv)
   have t1:CJ (dG X.K F) [] E0 (AQ X.K fx) σ H1 Q:=⟨aR,env,q.2,r.1,r.2,n1.rs,re.up n1.up,e3,fun jj vs H2 n2 r2=>⟨jj,r.2,r.1,d,c',n2.rs,by simpa using r2,h,fun a_ v H' n r=>k a_ v H' ((n1.trans n2).trans n) r⟩⟩
   refine PySem.W.callWith_K (h₀:=X.base) I.ok.mod.Au hk (bZ (ha pos pins s1 σ H1 _ I1 t1) fun us s2 ⟨vs,H2,I2,r,q⟩=>⟨I2.nL,?_⟩) he fA
   exact Ef G hr hb .nil HQ I2 r q
 ·cases h
theorem I8{a:Nat}(hg:Gl X x)(hm:X.mg x=some (.ref a))(hd:(x==("__debug__":Str))=false:=by decide):QE X (.Name x pos) (Qm.eC (.adr a)):=
 me (.adr a) (He (v:=.ref a) hg hm rfl hd) fun _ _ _=>.adr a
theorem I9:QE X e Qm.I0:=fun _ _ _ _ _ _ ⟨_,_,_,_,_,_,_,h,_⟩=>by cases h
end
def EC(lo:Int)(n:Nat):It:=⟨fun i _=>i<n,fun i H x H'=>H'=H∧x= .int (lo+i*2),fun i _=>n≤i⟩
theorem zy{P:Program}{w:World}{K:PySem.W.Frag}{tg:Expr}(it:Addr)(lo:Int)(n:Nat):Turn P w K tg (EC lo n) [it] it (fun i h=>IsRangeIter h it (lo+(i:Nat)*2) ((n:Int) - (i:Nat)) 2) where
 mem:=by simp
 obj:=fun i h st b hb=>by
  have e:b=it:=by simpa using hb
  subst e
  exact⟨_,st,fun v z=>by
   have z':Data.fields _=Data.cell v:=z
   cases z'⟩
 keep:=fun i h h' st k=>k it (by simp) _ st
 item:=by
  intro X hP hw hK hc i pins s σ H E I hf st hg
  subst hP hw hK
  obtain⟨f0,f1,f2,f3,f4,f5⟩:=hf it (by simp)
  have W:=Walks.range (prog:=X.prog) (w:=X.w) (I.ok.hd hc) it lo 2 n
  refine W.item i s _ _ hg st fun v h' tk hv rg kk=>?_
  obtain⟨t,rfl⟩:=hv
  have I1:Inv X pins σ H { s with heap:=h',toks:=tk }:=I.turned (fun b o hb e=>kk b o (by simpa using hb) e) f0 f1 f3 f4 f5
  exact⟨_,rfl,yU (s:={ s with heap:=h',toks:=tk }) (n:="range_iterator") rg rfl rfl (by decide) ⟨.int (lo+i*2),H,I1,⟨t,rfl⟩,⟨rfl,rfl⟩,rg,fun b hb=>(hf b hb).1⟩⟩
 done:=by
  intro X hP hw hK hc i pins s σ H E I hf st hg
  subst hP hw hK
  obtain⟨f0,f1,f2,f3,f4,f5⟩:=hf it (by simp)
  exact wpAny_pyNext_range_end (I.ok.hd hc) st (by have:n≤i:=hg;omega) fun h' eb=>⟨rfl,I.turned (t':=s.toks) (fun b o hb e=>eb b o hb e) f0 f1 f3 f4 f5⟩
 self:=fun _ _ _ _ _ st h=>wpAny_pyIter_rangeiter st h
section
variable{X:Cx}{tg:Expr}
theorem Mp{lo hi:Int}(h1: -(2 ^ 62)≤lo)(h2:lo<2 ^ 62)(h3: -(2 ^ 62)≤hi)(h4:hi<2 ^ 62):Builtin.Range.small lo hi 2=true:=by
 have e:Builtin.Range.rangeSize lo hi 2=if lo<hi then(hi - lo - 1) / 2+1 else 0:=by
  unfold Builtin.Range.rangeSize
  rw[if_pos (by decide)]
 unfold Builtin.Range.small
 rw[e]
 simp only[Builtin.Range.rangeFitsLong,Bool.and_eq_true,Bool.or_eq_true,decide_eq_true_eq,beq_iff_eq,show(2:Int) > 0 by decide,if_true]
 split<;>omega
theorem Dh{pins:List (Addr×Obj)}{σ:St}{H:Hp}{s:Shared}{R:It→Hp→Prop}{E:Value→Shared→Prop}{lo hi:Int}{t u v:Tok}{tk:Nat}(I:Inv X pins σ H s)(h1: -(2 ^ 62)≤lo)(h2:lo<2 ^ 62)(h3: -(2 ^ 62)≤hi)(h4:hi<2 ^ 62)
  (q:R (EC lo ((hi - lo+1) / 2).toNat) H):wpAny (model X.prog X.w) X.A (pyIter (.ref s.heap.objs.size)) (P9 X pins σ tg R) E { s with heap:=s.heap.push { cls:=.type "range",data:=.fields #[.int lo t,.int hi u,.int 2 v] },toks:=tk }:=by
 refine wpAny_pyIter_range (IsRange.new ..) (Mp h1 h2 h3 h4) ?_
 have I1:Inv X pins σ H { s with heap:=s.heap.push { cls:=.type "range",data:=.fields #[.int lo t,.int hi u,.int 2 v] },toks:=tk }:=I.kept fun b o e=>Heap.get?_push_of_some _ e
 refine⟨(s.heap.push { cls:=.type "range",data:=.fields #[.int lo t,.int hi u,.int 2 v] }).objs.size,[(s.heap.push { cls:=.type "range",data:=.fields #[.int lo t,.int hi u,.int 2 v] }).objs.size],_,_,H,rfl,
  I1.kept (t':=tk) fun b o e=>Heap.get?_push_of_some _ e,zy _ lo ((hi - lo+1) / 2).toNat,?_,fun b hb=>?_,q⟩
 ·have e1:lo+((0:Nat):Int)*2=lo:=by simp
  have e2:((((hi - lo+1) / 2).toNat:Nat):Int) - ((0:Nat):Int)=Builtin.Range.rangeSize lo hi 2:=by
   unfold Builtin.Range.rangeSize
   rw[if_pos (by decide)]
   split<;>omega
  show IsRangeIter _ _ (lo+((0:Nat):Int)*2) (((((hi - lo+1) / 2).toNat:Nat):Int) - ((0:Nat):Int)) 2
  rw[e1,e2]
  exact Heap.get?_push_size _ rfl
 ·have e:b=(s.heap.push { cls:=.type "range",data:=.fields #[.int lo t,.int hi u,.int 2 v] }).objs.size:=by simpa using hb
  subst e
  exact I1.q_ (Nat.le_refl _) (I1.bh.fresh (Nat.le_refl _))
def Mq(ta:TA):TI:=fun σ H R=>ta σ H fun vs H1=>∃i j:Int,vs=[.int i,.int j,.int 2]∧(-(2 ^ 62)≤i∧i<2 ^ 62∧-(2 ^ 62)≤j∧j<2 ^ 62)∧R (EC i ((j - i+1) / 2).toNat) H1
theorem Di{a b d:Expr}{ta:TA}{p pos:Pos}(hg:Gl X "range")(hm:X.mg "range" =none)(ha:PA X [a,b,d] ta)(hs:starEach [a,b,d] X.env=(false,eval a X.env)::starEach [b,d] X.env:=by rfl)(fA:(backTo pos (starEach [b,d] X.env)).any (·.1)=false:=by rfl):
  PI X tg (.Call (.Name "range" p) [a,b,d] [] pos) (Mq ta):=by
 intro pins s σ H R I h
 refine Call_ (i7 I hg hm boot_range (PyProof.Rows.callWith_type1 (bZ (ha pos pins s σ H _ I h) fun us s1 ⟨vs,H1,I1,r1,q1⟩=>?_) hs fA))
 obtain⟨i,j,e,⟨q1,q2,q3,q4⟩,q⟩:=q1
 subst e
 cases r1 with
 |cons r rr=>
  cases rr with
  |cons r' rr=>
   cases rr with
   |cons r'' rr=>
    cases rr
    obtain⟨t,rfl⟩:=r
    obtain⟨t',rfl⟩:=r'
    obtain⟨t'',rfl⟩:=r''
    exact call_range_3 (by decide) (Dh I1 q1 q2 q3 q4 q) (Or.inl (PyProof.noPylong_of_log2 (by decide +kernel)))
theorem I_{K:PySem.W.Frag}{ρ:Nat→Addr}{N:Nat}{H:Hp}{lo:Int}{n:Nat}:Ip K ρ N H ⟨Qm.nZ lo n,[]⟩ (EC lo n):=by
 intro a_ c' H' _ rs' _
 refine⟨fun i hi=>by show i<n;simpa[Qm.nZ]using hi,by show n≤(Qm.nZ lo n).length;simp[Qm.nZ],fun i d x H2 hd hy=>?_⟩
 obtain⟨rfl,rfl⟩:=hy
 unfold Qm.nZ at hd
 rw[List.getElem?_map]at hd
 cases q:(List.range n)[i]? with
 |none=>rw[q]at hd;cases hd
 |some j=>
  rw[q]at hd
  cases hd
  have:j=i:=by
   obtain⟨h1,h2⟩:=List.getElem?_eq_some_iff.mp q
   simpa using h2.symm
  subst this
  exact⟨Nx.refl rs',.int _⟩
theorem Dj{a b d:Expr}{f:Qm.XA}{p pos:Pos}(hg:Gl X "range")(hm:X.mg "range" =none)(ha:QA X [a,b,d] f)(hs:starEach [a,b,d] X.env=(false,eval a X.env)::starEach [b,d] X.env:=by rfl)(fA:(backTo pos (starEach [b,d] X.env)).any (·.1)=false:=by rfl):
  QI X tg (.Call (.Name "range" p) [a,b,d] [] pos) (Qm.zx f):=(Di hg hm ha hs fA).imp <| by
 rintro σ H R ⟨ρ,env,c,m,c',rs,re,e,k⟩
 obtain⟨p,e1,e⟩:=aG e
 refine⟨ρ,env,c,p.1,p.2,rs,re,e1,fun aR vs H1 n1 r1=>?_⟩
 split at e
 ·rename_i i j kk hj
  split at e
  ·rename_i hb
   cases e
   obtain⟨rfl,hi,UN⟩:=hb
   rw[hj]at r1
   cases r1 with
   |cons rv rr=>
    obtain⟨v2,v3,rfl,ru,uY⟩:=rr.uJ
    cases rv.eR;cases ru.eR;cases uY.eR
    exact⟨i,j,rfl,⟨hi.1,hi.2,UN.1,UN.2⟩,k aR _ H1 n1 I_⟩
  ·cases e
 ·cases e
end
end L2
namespace Qm
open PySem
noncomputable section
def k1(d:D):Option (List Int):=match d with
 |.tup xs=>nums xs
 |_=>none
def k2(d:D):Option (List (List Int)):=match d with
 |.tup xs=>omap k1 xs
 |_=>none
def Ja(k:List Int):D:=.tup (k.map .int)
def Bp(k:List (List Int)):D:=.tup (k.map Ja)
section
variable{κ α:Type}[DecidableEq κ]
def mS(ps:List (κ×α))(k:κ):Option α:=(ps.find? fun p=>decide (p.1=k)).map (·.2)
def mq(ps:List (κ×α))(k:κ)(d:α):List (κ×α):=
 if (ps.any fun p=>decide (p.1=k))=true then ps.map (fun p=>if p.1=k then(p.1,d)else p)else ps++[(k,d)]
end
def qk(d:D)(c:Cells):Option (Nat×List (List Int×D)):=match d with
 |.ref n=>(match c[n]? with
  |some (.tp ps)=>some (n,ps)
  |_=>none)
 |_=>none
def nI(d:D)(c:Cells):Option (Nat×List (List (List Int)×D)):=match d with
 |.ref n=>(match c[n]? with
  |some (.gP ps)=>some (n,ps)
  |_=>none)
 |_=>none
def qC(d:D)(c:Cells):Option (List (List (List Int)×D)):=match d with
 |.ref n=>(match c[n]? with
  |some (.gP ps)=>some ps
  |some (.jZ ps)=>some ps
  |_=>none)
 |_=>none
def zF:XE:=fun _ c=>some (.ref c.length,c++[.tp []])
def rX:XE:=fun _ c=>some (.ref c.length,c++[.gP []])
def pG(o k v:XE):XS:=fun σ c=>(v σ c).bind fun w=>(o σ w.2).bind fun p=>(k σ p.2).bind fun q=>(qk p.1 q.2).bind fun l=>(k1 q.1).bind fun x=>if l.2.length<cR then some (.nx,σ,q.2.set l.1 (.tp (mq l.2 x w.1)))else none
def n_:FN:=one fun x c=>(qk x c).bind fun l=>if l.2.length≤cR then some (.ref c.length,c++[.lst (l.2.map fun p=>Ja p.1)])else none
def jm:FN:=one fun x c=>(qC x c).bind fun l=>if l.length≤cR then some (.ref c.length,c++[.lst (l.map fun p=>Bp p.1)])else none
def fE(o k:XE):XE:=fun σ c=>(o σ c).bind fun p=>(nI p.1 p.2).bind fun _=>(k σ p.2).bind fun q=>(nI p.1 q.2).bind fun l=>(k2 q.1).bind fun x=>if l.2.length<cR then(match mS l.2 x with
 |some d=>some (d,q.2++[Cell.lst []])
 |none=>some (D.ref q.2.length,(q.2++[Cell.lst []]).set l.1 (Cell.gP (l.2++[(x,D.ref q.2.length)]))))else none
def jz(o k:XE):XE:=fun σ c=>(o σ c).bind fun p=>(k σ p.2).bind fun q=>(qC p.1 q.2).bind fun l=>(k2 q.1).bind fun x=>(mS l x).bind fun d=>some (d,q.2)
def tL(d:D):Option (List (List Int)×D):=match d with
 |.tup [k,v]=>(k2 k).bind fun x=>some (x,v)
 |_=>none
def vC:FN:=one fun x c=>(bj x c).bind fun l=>(omap tL l.2).bind fun ps=>some (.ref c.length,c++[.gP (ps.foldl (fun a p=>mq a p.1 p.2) [])])
def zG(o:XE):XE:=fun σ c=>(o σ c).bind fun p=>(qC p.1 p.2).bind fun l=>if l.length≤cR then some (.ref p.2.length,p.2++[.lst (l.map fun q=>q.2)])else none
def rY(a:XA):XI:=fun σ c=>(a σ c).bind fun p=>match p.1 with
 |[.ref n,.ref m]=>(match p.2[n]? with
  |some (.gP ps)=>(bj (.ref m) p.2).bind fun k=>some (⟨fS (ps.map fun q=>Bp q.1) k.2,[(n,.jZ ps),(m,.lst k.2)]⟩,p.2.set n (.jZ ps))
  |_=>none)
 |_=>none
end
end Qm
namespace L2
open PySem PySem.Spec PyProof.Rows
abbrev og(k:List Int):List Key:=k.map Sum.inl
abbrev lB(k:List (List Int)):List (List Key):=k.map (List.map Sum.inl)
section
variable{K:PySem.W.Frag}{ρ a_:Nat→Addr}{N N':Nat}{H H':Hp}
theorem vD{x y:List Int}(h:og x=og y):x=y:=(List.map_inj_right fun _ _ e=>Sum.inl.inj e).mp h
theorem fI.length:∀{ps:List (List Int×Qm.D)}{us:List (List Key×V)},fI K ρ N H ps us→ps.length=us.length
 |_,_,.nil=>rfl
 |_,_,.cons _ a=>congrArg (·+1) (fI.length a)
theorem fI.val:∀{ps:List (List Int×Qm.D)}{us:List (List Key×V)},fI K ρ N H ps us→∀k,(Qm.mS ps k=none∧en us (og k)=none)∨∃d v,Qm.mS ps k=some d∧en us (og k)=some v∧RD K ρ N H d v
 |_,_,.nil,_=>.inl ⟨rfl,rfl⟩
 |_,_,.cons (k:=k0) (d:=d) (x:=x) r a,k=>by
  by_cases hk:k0=k
  ·subst hk
   exact .inr ⟨d,x,by simp[Qm.mS],by simp[en],r⟩
  ·have mT:¬og k0=og k:=fun e=>hk (vD e)
   rcases fI.val a k with⟨h1,h2⟩|⟨d',v',h1,h2,h3⟩
   ·refine .inl ⟨?_,?_⟩
    ·unfold Qm.mS at h1 ⊢
     rw[List.find?_cons]
     simp only[hk,decide_false]
     exact h1
    ·unfold en at h2 ⊢
     rw[List.find?_cons]
     simp only[mT,decide_false]
     exact h2
   ·refine .inr ⟨d',v',?_,?_,h3⟩
    ·unfold Qm.mS at h1 ⊢
     rw[List.find?_cons]
     simp only[hk,decide_false]
     exact h1
    ·unfold en at h2 ⊢
     rw[List.find?_cons]
     simp only[mT,decide_false]
     exact h2
theorem fI.any:∀{ps:List (List Int×Qm.D)}{us:List (List Key×V)},fI K ρ N H ps us→∀k,(ps.any fun p=>decide (p.1=k))=us.any fun kv=>decide (kv.1=og k)
 |_,_,.nil,_=>rfl
 |_,_,.cons (k:=k0) r a,k=>by
  rw[List.any_cons,List.any_cons,fI.any a k]
  by_cases hk:k0=k
  ·subst hk;simp
  ·have mT:¬og k0=og k:=fun e=>hk (vD e)
   simp[hk,mT]
theorem fI.lX{d:Qm.D}{v:V}(r:RD K ρ N H d v):∀{ps:List (List Int×Qm.D)}{us:List (List Key×V)},fI K ρ N H ps us→∀k,fI K ρ N H (ps.map fun p=>if p.1=k then(p.1,d)else p) (us.map fun kv=>if kv.1=og k then(kv.1,v)else kv)
 |_,_,.nil,_=>.nil
 |_,_,.cons (k:=k0) r0 a,k=>by
  rw[List.map_cons,List.map_cons]
  by_cases hk:k0=k
  ·subst hk
   simp only[if_true]
   exact .cons r (fI.lX r a k0)
  ·have mT:¬og k0=og k:=fun e=>hk (vD e)
   simp only[if_neg hk,if_neg mT]
   exact .cons r0 (fI.lX r a k)
theorem fI.append:∀{ps qs:List (List Int×Qm.D)}{us vs:List (List Key×V)},fI K ρ N H ps us→fI K ρ N H qs vs→fI K ρ N H (ps++qs) (us++vs)
 |_,_,_,_,.nil,b=>b
 |_,_,_,_,.cons h a,b=>.cons h (fI.append a b)
theorem fI.put{d:Qm.D}{v:V}(r:RD K ρ N H d v){ps:List (List Int×Qm.D)}{us:List (List Key×V)}(a:fI K ρ N H ps us)(k:List Int):fI K ρ N H (Qm.mq ps k d) (putK us (og k) v):=by
 unfold Qm.mq putK
 rw[a.any k]
 split
 ·exact a.lX r k
 ·exact a.append (.cons r .nil)
theorem fI.at_:∀{ps:List (List Int×Qm.D)}{us:List (List Key×V)}{i:Nat}{p:List Int×Qm.D},fI K ρ N H ps us→ps[i]? =some p→∃v,us[i]? =some (og p.1,v)∧RD K ρ N H p.2 v
 |_,_,_,_,.nil,e=>by simp at e
 |_,_,0,_,.cons h _,e=>by simp at e;subst e;exact⟨_,rfl,h⟩
 |_,_,i+1,p,.cons _ a,e=>by
  obtain⟨v,h1,h2⟩:=fI.at_ (i:=i) (p:=p) a (by simpa using e)
  exact⟨v,by simpa using h1,h2⟩
end
section
variable{K:PySem.W.Frag}{ρ a_:Nat→Addr}{N N':Nat}{H H':Hp}
theorem zH{x y:List (List Int)}(h:lB x=lB y):x=y:=(List.map_inj_right fun _ _ e=>vD e).mp h
theorem dY.length:∀{ps:List (List (List Int)×Qm.D)}{us:List (List (List Key)×V)},dY K ρ N H ps us→ps.length=us.length
 |_,_,.nil=>rfl
 |_,_,.cons _ a=>congrArg (·+1) (dY.length a)
theorem dY.val:∀{ps:List (List (List Int)×Qm.D)}{us:List (List (List Key)×V)},dY K ρ N H ps us→∀k,(Qm.mS ps k=none∧en us (lB k)=none)∨∃d v,Qm.mS ps k=some d∧en us (lB k)=some v∧RD K ρ N H d v
 |_,_,.nil,_=>.inl ⟨rfl,rfl⟩
 |_,_,.cons (k:=k0) (d:=d) (x:=x) r a,k=>by
  by_cases hk:k0=k
  ·subst hk
   exact .inr ⟨d,x,by simp[Qm.mS],by simp[en],r⟩
  ·have mT:¬lB k0=lB k:=fun e=>hk (zH e)
   rcases dY.val a k with⟨h1,h2⟩|⟨d',v',h1,h2,h3⟩
   ·refine .inl ⟨?_,?_⟩
    ·unfold Qm.mS at h1 ⊢
     rw[List.find?_cons]
     simp only[hk,decide_false]
     exact h1
    ·unfold en at h2 ⊢
     rw[List.find?_cons]
     simp only[mT,decide_false]
     exact h2
   ·refine .inr ⟨d',v',?_,?_,h3⟩
    ·unfold Qm.mS at h1 ⊢
     rw[List.find?_cons]
     simp only[hk,decide_false]
     exact h1
    ·unfold en at h2 ⊢
     rw[List.find?_cons]
     simp only[mT,decide_false]
     exact h2
theorem dY.any:∀{ps:List (List (List Int)×Qm.D)}{us:List (List (List Key)×V)},dY K ρ N H ps us→∀k,(ps.any fun p=>decide (p.1=k))=us.any fun kv=>decide (kv.1=lB k)
 |_,_,.nil,_=>rfl
 |_,_,.cons (k:=k0) r a,k=>by
  rw[List.any_cons,List.any_cons,dY.any a k]
  by_cases hk:k0=k
  ·subst hk;simp
  ·have mT:¬lB k0=lB k:=fun e=>hk (zH e)
   simp[hk,mT]
theorem dY.lX{d:Qm.D}{v:V}(r:RD K ρ N H d v):∀{ps:List (List (List Int)×Qm.D)}{us:List (List (List Key)×V)},dY K ρ N H ps us→∀k,dY K ρ N H (ps.map fun p=>if p.1=k then(p.1,d)else p) (us.map fun kv=>if kv.1=lB k then(kv.1,v)else kv)
 |_,_,.nil,_=>.nil
 |_,_,.cons (k:=k0) r0 a,k=>by
  rw[List.map_cons,List.map_cons]
  by_cases hk:k0=k
  ·subst hk
   simp only[if_true]
   exact .cons r (dY.lX r a k0)
  ·have mT:¬lB k0=lB k:=fun e=>hk (zH e)
   simp only[if_neg hk,if_neg mT]
   exact .cons r0 (dY.lX r a k)
theorem dY.append:∀{ps qs:List (List (List Int)×Qm.D)}{us vs:List (List (List Key)×V)},dY K ρ N H ps us→dY K ρ N H qs vs→dY K ρ N H (ps++qs) (us++vs)
 |_,_,_,_,.nil,b=>b
 |_,_,_,_,.cons h a,b=>.cons h (dY.append a b)
theorem dY.put{d:Qm.D}{v:V}(r:RD K ρ N H d v){ps:List (List (List Int)×Qm.D)}{us:List (List (List Key)×V)}(a:dY K ρ N H ps us)(k:List (List Int)):dY K ρ N H (Qm.mq ps k d) (putK us (lB k) v):=by
 unfold Qm.mq putK
 rw[a.any k]
 split
 ·exact a.lX r k
 ·exact a.append (.cons r .nil)
theorem dY.at_:∀{ps:List (List (List Int)×Qm.D)}{us:List (List (List Key)×V)}{i:Nat}{p:List (List Int)×Qm.D},dY K ρ N H ps us→ps[i]? =some p→∃v,us[i]? =some (lB p.1,v)∧RD K ρ N H p.2 v
 |_,_,_,_,.nil,e=>by simp at e
 |_,_,0,_,.cons h _,e=>by simp at e;subst e;exact⟨_,rfl,h⟩
 |_,_,i+1,p,.cons _ a,e=>by
  obtain⟨v,h1,h2⟩:=dY.at_ (i:=i) (p:=p) a (by simpa using e)
  exact⟨v,by simpa using h1,h2⟩
end
end L2
namespace L2
open PySem PySem.Spec PyProof.Rows
section
variable{K:PySem.W.Frag}{ρ:Nat→Addr}{N:Nat}{H:Hp}
theorem Dk{xs:List Qm.D}{is:List Int}(h:Qm.nums xs=some is):xs=is.map Qm.D.int:=by
 unfold Qm.nums at h
 induction xs generalizing is with
 |nil=>cases h;rfl
 |cons x xs ih=>
  unfold Qm.omap at h
  obtain⟨d,h1,h⟩:=aG h
  obtain⟨ds,h2,h⟩:=aG h
  cases h
  rw[ih h2]
  cases x<;>simp[Qm.rL]at h1
  subst h1
  rfl
theorem Bq:∀{is:List Int}{vs:List V},RA K ρ N H (is.map Qm.D.int) vs→vs=is.map V.int
 |[],_,h=>by cases h;rfl
 |i::is,_,h=>by
  cases h with
  |cons r a=>
   cases r.eR
   rw[Bq a]
   rfl
theorem Br(is:List Int):(is.map (Sum.inl:Int→Key)).map kV=is.map V.int:=by rw[List.map_map];rfl
theorem Jb{d:Qm.D}{v:V}{is:List Int}(r:RD K ρ N H d v)(h:Qm.k1 d=some is):∃b,v= .ref b∧H b=some (.tup ((og is).map kV)):=by
 unfold Qm.k1 at h
 split at h
 ·obtain⟨b,vs,rfl,h1,a⟩:=r.jG
  rw[Dk h]at a
  refine⟨b,rfl,?_⟩
  rw[Br,←Bq a]
  exact h1
 ·cases h
theorem Jc:∀{xs:List Qm.D}{vs:List V}{bN:List (List Int)},RA K ρ N H xs vs→Qm.omap Qm.k1 xs=some bN→∃as:List Addr,vs=as.map V.ref∧Paired (fun(ks:List Key) (a:Addr)=>H a=some (.tup (ks.map kV))) (lB bN) as
 |[],_,_,a,h=>by
  cases a;cases h
  exact⟨[],rfl,.nil⟩
 |x::xs,_,_,a,h=>by
  cases a with
  |cons r a=>
   unfold Qm.omap at h
   obtain⟨k,h1,h⟩:=aG h
   obtain⟨ks,h2,h⟩:=aG h
   cases h
   obtain⟨b,rfl,h3⟩:=Jb r h1
   obtain⟨as,rfl,p⟩:=Jc a h2
   exact⟨b::as,rfl,.cons h3 p⟩
theorem Dl{d:Qm.D}{v:V}{bN:List (List Int)}(r:RD K ρ N H d v)(h:Qm.k2 d=some bN):∃b,v= .ref b∧iM H (lB bN) b:=by
 unfold Qm.k2 at h
 split at h
 ·obtain⟨b,vs,rfl,h1,a⟩:=r.jG
  obtain⟨as,rfl,p⟩:=Jc a h
  exact⟨b,rfl,as,h1,p⟩
 ·cases h
theorem oh:∀(is:List Int),RA K ρ N H (is.map Qm.D.int) (is.map V.int)
 |[]=>.nil
 |i::is=>.cons (.int i) (oh is)
theorem ED{is:List Int}{a:Addr}(h:H a=some (.tup ((og is).map kV))):RD K ρ N H (Qm.Ja is) (.ref a):=by
 rw[Br]at h
 exact .tup h (oh is)
theorem EF:∀{bN:List (List Int)}{as:List Addr},Paired (fun(ks:List Key) (a:Addr)=>H a=some (.tup (ks.map kV))) (lB bN) as→RA K ρ N H (bN.map Qm.Ja) (as.map V.ref)
 |[],_,h=>by cases h;exact .nil
 |k::bN,_,h=>by
  cases h with
  |cons h1 t=>exact .cons (ED h1) (EF t)
theorem EG{bN:List (List Int)}{a:Addr}(h:iM H (lB bN) a):RD K ρ N H (Qm.Bp bN) (.ref a):=by
 obtain⟨as,h1,h2⟩:=h
 exact .tup h1 (EF h2)
end
section
variable{K:PySem.W.Frag}{ρ:Nat→Addr}{c:Qm.Cells}{H:Hp}
theorem RS.qk(r:RS K ρ c H){d:Qm.D}{n:Nat}{ps:List (List Int×Qm.D)}{v:V}(h:RD K ρ c.length H d v)(e:Qm.qk d c=some (n,ps)):d= .ref n∧c[n]? =some (.tp ps)∧∃us,v= .ref (ρ n)∧H (ρ n)=some (.dT us)∧fI K ρ c.length H ps us:=by
 unfold Qm.qk at e
 split at e
 ·obtain⟨rfl,hn⟩:=h.kK
  split at e
  ·rename_i xs hx
   cases e
   obtain⟨us,h1,h2⟩:=r.ok n _ hx
   exact⟨rfl,hx,us,rfl,h1,h2⟩
  ·cases e
 ·cases e
theorem RS.nI(r:RS K ρ c H){d:Qm.D}{n:Nat}{ps:List (List (List Int)×Qm.D)}{v:V}(h:RD K ρ c.length H d v)(e:Qm.nI d c=some (n,ps)):d= .ref n∧c[n]? =some (.gP ps)∧∃us,v= .ref (ρ n)∧H (ρ n)=some (.dU us)∧dY K ρ c.length H ps us:=by
 unfold Qm.nI at e
 split at e
 ·obtain⟨rfl,hn⟩:=h.kK
  split at e
  ·rename_i xs hx
   cases e
   obtain⟨us,h1,h2⟩:=r.ok n _ hx
   exact⟨rfl,hx,us,rfl,h1,h2⟩
  ·cases e
 ·cases e
theorem RS.qC(r:RS K ρ c H){d:Qm.D}{ps:List (List (List Int)×Qm.D)}{v:V}(h:RD K ρ c.length H d v)(e:Qm.qC d c=some ps):∃p us,v= .ref p∧Rd H p (.dU us)∧dY K ρ c.length H ps us:=by
 unfold Qm.qC at e
 split at e
 ·rename_i n
  obtain⟨rfl,hn⟩:=h.kK
  split at e
  ·rename_i xs hx
   cases e
   obtain⟨us,h1,h2⟩:=r.ok n _ hx
   exact⟨_,us,rfl,.inl h1,h2⟩
  ·rename_i xs hx
   cases e
   obtain⟨o,us,h1,h2⟩:=r.ok n _ hx
   exact⟨_,us,rfl,.inr ⟨o,h1⟩,h2⟩
  ·cases e
 ·cases e
theorem Nx.Rf(r:RS K ρ c H){n:Nat}{xs:List (List Int×Qm.D)}(hn:c[n]? =some (.tp xs)){ds:List (List Int×Qm.D)}{vs:List (List Key×V)}(a:fI K ρ c.length H ds vs):Nx K ρ c H ρ (c.set n (.tp ds)) (upd H (ρ n) (.dT vs)):=
 Nx.Er r hn rfl fun _ _ u h=>⟨vs,h,a.up u⟩
theorem Nx.Rg(r:RS K ρ c H){n:Nat}{xs:List (List (List Int)×Qm.D)}(hn:c[n]? =some (.gP xs)){ds:List (List (List Int)×Qm.D)}{vs:List (List (List Key)×V)}(a:dY K ρ c.length H ds vs):Nx K ρ c H ρ (c.set n (.gP ds)) (upd H (ρ n) (.dU vs)):=
 Nx.Er r hn rfl fun _ _ u h=>⟨vs,h,a.up u⟩
theorem Nx.Rh(r:RS K ρ c H){n:Nat}{ds:List (List (List Int)×Qm.D)}{vs:List (List (List Key)×V)}{o:Obj}(hn:c[n]? =some (.gP ds))(a:dY K ρ c.length H ds vs):Nx K ρ c H ρ (c.set n (.jZ ds)) (upd H (ρ n) (.fX o (.dU vs))):=
 Nx.Er r hn rfl fun _ _ u h=>⟨o,vs,h,a.up u⟩
end
section
variable{X:Cx}{pos:Pos}
theorem yf{P:Program}{w:World}{H:Hp}(h:Heap)(hb:sysModules<h.objs.size):bV P w H (h.push { cls:=.type "dict",data:=.dict #[] }) h.objs.size (.dU []):=
 ⟨Nat.zero_le _,by simpa using Nat.ne_of_gt hb,[],.nil,_,#[],0,Heap.get?_push_size _ rfl,⟨rfl,rfl,rfl⟩,rfl,rfl,List.nodup_nil⟩
def Mr:TE:=fun _ H Q=>∀p,H p=none→Q (.ref p) (upd H p (.dU []))
theorem F_:PE X (.Dict [] [] pos) Mr:=fun pins s σ H Q I h=>
 wpAny_Dict_empty ⟨.ref s.heap.objs.size,_,I.laid (a:=s.heap.objs.size) (o:=.dU []) (t':=s.toks) (fun _ _ q=>Heap.get?_push_of_some _ q) (Nat.le_refl _) (yf s.heap I.big),rfl,h _ (I.bh.fresh (Nat.le_refl _))⟩
theorem Ga:QE X (.Dict [] [] pos) Qm.zF:=FE.imp <| by
 rintro σ H Q ⟨ρ,env,c,d,c',rs,re,e,k⟩
 cases e
 intro p hp
 obtain⟨n,r⟩:=Nx.vx (z:=.tp []) (o:=.dT []) rs hp (fun _ _ _ _ h=>⟨[],h,.nil⟩)
 exact k _ _ _ n r
theorem yg:QE X (.Dict [] [] pos) Qm.rX:=F_.imp <| by
 rintro σ H Q ⟨ρ,env,c,d,c',rs,re,e,k⟩
 cases e
 intro p hp
 obtain⟨n,r⟩:=Nx.vx (z:=.gP []) (o:=.dU []) rs hp (fun _ _ _ _ h=>⟨[],h,.nil⟩)
 exact k _ _ _ n r
theorem Gb{o i value:Expr}{fo fi fv:Qm.XE}{pos':Pos}(hu:X.A.units+64<cLine)(ho:QE X o fo)(hi:QE X i fi)(hv:QE X value fv)(hs:swapsWith value (some (.Subscript o i pos')) pos.line X.env=pure false:=by rfl):
  QS X (.Assign [.Subscript o i pos'] value pos) (Qm.pG fo fi fv):=(HY (by omega) ho hi hv hs).imp <| by
 rintro D σ H ⟨ρ,env,c,fl,cZ,c',rs,re,e,k⟩
 obtain⟨w,e1,e⟩:=aG e
 obtain⟨p,e2,e⟩:=aG e
 obtain⟨q,e3,e⟩:=aG e
 obtain⟨l,e4,e⟩:=aG e
 obtain⟨x,e5,e⟩:=aG e
 split at e
 ·rename_i hz
  cases e
  refine⟨ρ,env,c,w.1,w.2,rs,re,e1,fun aR v H1 n1 r1=>⟨aR,env,w.2,p.1,p.2,n1.rs,re.up n1.up,e2,fun jj u H2 n2 r2=>⟨jj,env,p.2,q.1,q.2,n2.rs,re.up (n1.trans n2).up,e3,fun zo y H3 n3 r3=>?_⟩⟩⟩
  obtain⟨b,rfl,hb⟩:=Jb r3 e5
  obtain⟨_,hc,us,hv,h1,a1⟩:=n3.rs.qk (r2.up n3.up) e4
  cases hv
  have n4:=Nx.Rf n3.rs hc (fI.put ((r1.up n2.up).up n3.up) a1 x)
  have nn:=n1.trans (n2.trans (n3.trans n4))
  exact⟨_,_,rfl,wd.t (k:=og x) h1 hb (rM (by rw[←a1.length];exact hz)),k zo _ nn σ (re.up nn.up)⟩
 ·cases e
end
end L2
namespace L2
open PySem PySem.Spec PyProof.Rows
section
variable{P:Program}{w:World}{H:Hp}{h:Heap}{a:Addr}
theorem wL:∀{as:List Addr}{us:List Value},Vals (as.map V.ref) us→us=as.map Value.ref
 |[],_,x=>by cases x;rfl
 |a::as,_,x=>by
  cases x with
  |cons r t=>
   cases (show _=Value.ref a from r)
   rw[wL t]
   rfl
theorem lC:∀(as:List Addr),Vals (as.map V.ref) (as.map Value.ref)
 |[]=>.nil
 |a::as=>.cons (show Value.ref a=Value.ref a from rfl) (lC as)
theorem Bs(ok:gH P w H h):∀{bN:List (List Key)}{as:List Addr},Paired (fun(ks:List Key) (a:Addr)=>H a=some (.tup (ks.map kV))) bN as→jE (cB P w) h bN (as.map Value.ref)
 |_,_,.nil=>.nil
 |_,_,.cons r t=>.cons (y8 ok r) (Bs ok t)
theorem rZ(ok:gH P w H h){bN:List (List Key)}{b:Addr}(k:iM H bN b):(mF (cB P w)).is h bN b:=by
 obtain⟨as,h1,p⟩:=k
 obtain⟨_,its,r,o,g1,g2,n,g3⟩:=(show bV P w H h b (.tup (as.map V.ref))from ok b _ h1)
 refine⟨o,its.toArray,n,g1,g2,g3,?_⟩
 rw[wL r]
 simpa using Bs ok p
abbrev KU(H:Hp)(aC:List (List (List Key)×V))(xs:List (List (List Key)×Addr×Value)):Prop:=Paired (fun(p:List (List Key)×V) (q:List (List Key)×Addr×Value)=>p.1=q.1∧iM H p.1 q.2.1∧RelV p.2 q.2.2) aC xs
theorem tM{aC:List (List (List Key)×V)}(ok:gH P w H h)(e:Rd H a (.dU aC)):aC.length≤sizeLine∧(a==sysModules)=false∧∃xs,KU H aC xs∧h.DictOfH (mF (cB P w)) a xs:=by
 obtain⟨z,y,xs,r,o,es,ep,h1,h2,h3,h4,h5⟩:=(show bV P w H h a (.dU aC)from CY ok e)
 refine⟨z,y,xs,r,o,es,ep,h1,h2,h3,h4,fun x hx=>?_,h5⟩
 have all:∀{l:List (List (List Key)×V)}{m:List (List (List Key)×Addr×Value)},KU H l m→∀x∈m,(mF (cB P w)).is h x.1 x.2.1:=by
  intro l m q
  induction q with
  |nil=>intro x hx;exact nomatch hx
  |@cons p q ps qs hq t ih=>
   intro x hx
   rcases List.mem_cons.mp hx with e|hx
   ·subst e
    exact rZ ok (by rw[←hq.1];exact hq.2.1)
   ·exact ih x hx
 exact all r x hx
theorem KU.val:∀{aC:List (List (List Key)×V)}{xs:List (List (List Key)×Addr×Value)},KU H aC xs→∀k,qc (en aC k) ((atKey xs k).map (·.2))
 |_,_,.nil,_=>trivial
 |_,_,.cons (a:=p) (b:=q) r t,k=>by
  have ih:=KU.val t k
  unfold en atKey at ih ⊢
  rw[List.find?_cons,List.find?_cons]
  rw[r.1]
  by_cases hk:q.1=k
  ·simp only[hk,decide_true]
   exact r.2.2
  ·simp only[hk,decide_false]
   exact ih
theorem KU.length{aC:List (List (List Key)×V)}{xs:List (List (List Key)×Addr×Value)}(r:KU H aC xs):aC.length=xs.length:=by
 induction r with
 |nil=>rfl
 |cons _ _ ih=>simp[ih]
theorem KU.addrs{aC:List (List (List Key)×V)}{xs:List (List (List Key)×Addr×Value)}(r:KU H aC xs):Paired (fun(kv:List (List Key)×V) (a:Addr)=>iM H kv.1 a) aC (xs.map (·.2.1)):=by
 induction r with
 |nil=>exact .nil
 |cons h _ ih=>exact .cons h.2.1 ih
theorem KU.vals{aC:List (List (List Key)×V)}{xs:List (List (List Key)×Addr×Value)}(r:KU H aC xs):Vals (aC.map (·.2)) (xs.map (·.2.2)):=by
 induction r with
 |nil=>exact .nil
 |cons h _ ih=>exact .cons h.2.2 ih
theorem KT.len{aC:List (List Key×V)}{xs:List (List Key×Addr×Value)}(r:KT H aC xs):aC.length=xs.length:=by
 induction r with
 |nil=>rfl
 |cons _ _ ih=>simp[ih]
theorem KT.addrs{aC:List (List Key×V)}{xs:List (List Key×Addr×Value)}(r:KT H aC xs):Paired (fun(kv:List Key×V) (a:Addr)=>H a=some (.tup (kv.1.map kV))) aC (xs.map (·.2.1)):=by
 induction r with
 |nil=>exact .nil
 |cons h _ ih=>exact .cons h.2.1 ih
end
section
variable{X:Cx}
theorem uM{K:Type}[DecidableEq K]{knd:HeapKind X.prog X.w K}{es:Array DictEntry}{xs:List (K×Addr×Value)}{acc:Array Value}(he:es.toList=xs.map (entryOfKey knd))(h:ItemsOf (fun i v=>∃e,es[i]? =some e∧v=e.key) acc es.size):acc.toList=(xs.map (·.2.1)).map Value.ref:=by
 obtain⟨h1,h2⟩:=h
 apply List.ext_getElem?
 intro i
 have hl:es.size=xs.length:=by rw[←Array.length_toList,he,List.length_map]
 by_cases hi:i<es.size
 ·have e1:acc[i]? =some (acc[i]'(by omega)):=Array.getElem?_eq_getElem _
  obtain⟨e,e2,e3⟩:=h2 i _ e1
  have e4:es.toList[i]? =some e:=by simpa using e2
  rw[he,List.getElem?_map]at e4
  rw[show acc.toList[i]? =acc[i]? by simp,e1,e3,List.getElem?_map,List.getElem?_map]
  cases hx:xs[i]? with
  |none=>rw[hx]at e4;cases e4
  |some x=>rw[hx]at e4;cases e4;rfl
 ·rw[List.getElem?_eq_none (by simp;omega),List.getElem?_eq_none (by simp;omega)]
theorem Bt{K:Type}[DecidableEq K]{knd:HeapKind X.prog X.w K}{es:Array DictEntry}{xs:List (K×Addr×Value)}{acc:Array Value}(he:es.toList=xs.map (entryOfKey knd))(h:ItemsOf (fun i v=>∃e,es[i]? =some e∧v=e.val) acc es.size):acc.toList=xs.map (·.2.2):=by
 obtain⟨h1,h2⟩:=h
 apply List.ext_getElem?
 intro i
 have hl:es.size=xs.length:=by rw[←Array.length_toList,he,List.length_map]
 by_cases hi:i<es.size
 ·have e1:acc[i]? =some (acc[i]'(by omega)):=Array.getElem?_eq_getElem _
  obtain⟨e,e2,e3⟩:=h2 i _ e1
  have e4:es.toList[i]? =some e:=by simpa using e2
  rw[he,List.getElem?_map]at e4
  rw[show acc.toList[i]? =acc[i]? by simp,e1,e3,List.getElem?_map]
  cases hx:xs[i]? with
  |none=>rw[hx]at e4;cases e4
  |some x=>rw[hx]at e4;cases e4;rfl
 ·rw[List.getElem?_eq_none (by simp;omega),List.getElem?_eq_none (by simp;omega)]
def EH(H0:Unit):List V→Hp→VK→Prop:=fun xs H Q=>∃p us,xs=[.ref p]∧Rd H p (.dT us)∧∀l as,H l=none→Paired (fun(kv:List Key×V) (a:Addr)=>H a=some (.tup (kv.1.map kV))) us as→Q (.ref l) (upd H l (.lst (as.map V.ref)))
def EI(H0:Unit):List V→Hp→VK→Prop:=fun xs H Q=>∃p us,xs=[.ref p]∧Rd H p (.dU us)∧∀l as,H l=none→Paired (fun(kv:List (List Key)×V) (a:Addr)=>iM H kv.1 a) us as→Q (.ref l) (upd H l (.lst (as.map V.ref)))
theorem uN(hc:X.calm=true):gK X (.type "list") (EH ()):=by
 intro pins s σ H xs us Q I r h
 obtain⟨p,aC,rfl,hp,q⟩:=h
 obtain⟨u,rfl,rx⟩:=vals1 r
 cases (show u=Value.ref p from rx)
 obtain⟨z,nd,ys,rel,ob,es,ep,h1,h2,h3,h4,h5,h6⟩:=HU I.bh hp
 have hl:es.size=ys.length:=by rw[←Array.length_toList,h4,List.length_map]
 have UO:=rel.len
 refine PySem.W.kdl_call (Oo nd) (I.ok.hd hc) ⟨ob,h1,h2,h3⟩ (by omega) fun h' tk acc c' hk hD Bu=>?_
 have ea:=uM h4 Bu
 refine⟨.ref s.heap.objs.size,_,I.laid (t':=tk) hk (Nat.le_refl _) (show bV X.prog X.w _ h' _ (.lst ((ys.map (·.2.1)).map V.ref))from⟨by simp;omega,acc.toList,c',?_,by simpa using hD⟩),rfl,q _ _ (I.bh.fresh (Nat.le_refl _)) rel.addrs⟩
 rw[ea]
 exact lC _
theorem oi(hc:X.calm=true):gK X (.type "list") (EI ()):=by
 intro pins s σ H xs us Q I r h
 obtain⟨p,aC,rfl,hp,q⟩:=h
 obtain⟨u,rfl,rx⟩:=vals1 r
 cases (show u=Value.ref p from rx)
 obtain⟨z,nd,ys,rel,ob,es,ep,h1,h2,h3,h4,h5,h6⟩:=tM I.bh hp
 have hl:es.size=ys.length:=by rw[←Array.length_toList,h4,List.length_map]
 have UO:=rel.length
 refine PySem.W.kdl_call (Oo nd) (I.ok.hd hc) ⟨ob,h1,h2,h3⟩ (by omega) fun h' tk acc c' hk hD Bu=>?_
 have ea:=uM h4 Bu
 refine⟨.ref s.heap.objs.size,_,I.laid (t':=tk) hk (Nat.le_refl _) (show bV X.prog X.w _ h' _ (.lst ((ys.map (·.2.1)).map V.ref))from⟨by simp;omega,acc.toList,c',?_,by simpa using hD⟩),rfl,q _ _ (I.bh.fresh (Nat.le_refl _)) rel.addrs⟩
 rw[ea]
 exact lC _
end
end L2
namespace PySem
set_option maxRecDepth 100000 in
theorem Jd:Slot "dict" "setdefault" "dict.setdefault":=
 Slot.of (owner:="dict") (n:="setdefault") ((by rw[typeLookup_type,builtinLookup_eq_fast];kernel_rfl)) ((by decide +kernel)) ((by decide +kernel)) ((by decide +kernel)) ((by first|exact .inl (by decide +kernel)|exact .inr (by decide +kernel))) ((by rw[isSubtype_type];kernel_rfl))
theorem Ri:typeOf (.builtin "dict.setdefault")=pure (.type "method_descriptor"):=by show builtinType _=_;rw[builtinType_eq_fast];kernel_rfl
theorem Rj:entryFor table "dict.setdefault" =some Builtin.«dict.setdefault»:=entryFor_of_tree (by kernel_rfl)
theorem Rk(x y z:Value):argsOk "dict.setdefault" ⟨[x,y,z],[]⟩:=by
 unfold argsOk
 rw[signature?_of (id:="dict.setdefault") (n:="setdefault".toList.reverse) (o:="dict".toList.reverse) (by kernel_rfl) F.owner_dict]
 kernel_rfl
section
variable{prog:Program}{w:World}{K:Type}[DecidableEq K]{knd:HeapKind prog w K}{A:Around}{E:Value→Shared→Prop}{s:Shared}
theorem zI{d a:Addr}{ys:List (K×Addr×Value)}{k:K}{v:Value}{Q:Value→Shared→Prop}(hu:knd.room A)(hk:knd.is s.heap k a)(hm:s.heap.DictOfH knd d ys)(hz:ys.length≤sizeLine)
  (h1:∀p,atKey ys k=some p→Q p.2 { s with toks:=s.toks+knd.draws k })
  (h2:atKey ys k=none→∀h',h'.DictOfH knd d (ys++[(k,a,v)])→Heap.SameBut d s.heap h'→Q v { s with heap:=h',toks:=s.toks+knd.draws k }):
  wpAny (model prog w) A (dictSetDefault d (.ref a) v) Q E s:=by
 obtain⟨ob,es,ep,ho,hc,hd,he,hi,hn⟩:=hm
 unfold dictSetDefault
 try with_reducible refine wpAny_holding ?_
 refine wpAny_bind (knd.pyHash hu hk (wpAny_bind (wpAny_dictFind_heap (s:={ s with toks:=s.toks+knd.draws k }) hu hk ho hd he hi hn (fun no=>?_) (fun j p hj=>?_))))
 ·have e0:=atKey_none_of_get no
  have nm:k∉ys.map (·.1):=not_mem_keys_of_get no
  refine wpAny_bind (wpAny_rule (wpAny_bind (wpAny_updateDictKeys (hz:=by have e:=size_of_entries he;omega) (s:={ s with toks:=s.toks+knd.draws k }) ho hd (wpAny_pure (h2 e0 _ ⟨_,_,ep+1,Heap.get?_update_self _ ho (Obj.isFreed_of_dict (Obj.data_mapDictKeys hd _)),hc.mapDictKeys _,Obj.data_mapDictKeys hd _,?_,?_,?_⟩ (Heap.SameBut.update ..))))))
  ·simp[he,entryOfKey]
  ·intro x hx
   rcases List.mem_append.mp hx with hx|hx
   ·exact knd.keeps (hi x hx) ho hd (Heap.SameBut.update ..)
   ·cases List.mem_singleton.mp hx
    exact knd.keeps hk ho hd (Heap.SameBut.update ..)
  ·rw[List.map_append,List.nodup_append]
   refine⟨hn,by simp,fun x hx y hy e=>nm ?_⟩
   rw[List.map_cons,List.map_nil,List.mem_singleton]at hy
   exact(e.trans (show y=k from hy)) ▸ hx
 ·refine wpAny_bind (wpAny_dictEntries (s:={ s with toks:=s.toks+knd.draws k }) ho hd ?_)
  rw[entry_at he j,hj]
  exact wpAny_bind (wpAny_rule (wpAny_pure (h1 p (atKey_of_get hn hj))))
theorem Gd(knd:HeapKind prog w K)(d a:Addr)(nd:(d==sysModules)=false)(v:Value):
  MeetsIn prog w (Builtin.«dict.setdefault» ⟨[.ref d,.ref a,v],[]⟩) (fun A R s=>knd.room A.in1∧∃k ys,knd.is s.heap k a∧s.heap.DictOfH knd d ys∧ys.length≤sizeLine∧
   (∀p,atKey ys k=some p→R (.ok (.ret p.2)) { s with toks:=s.toks+knd.draws k })∧
   (atKey ys k=none→∀h',h'.DictOfH knd d (ys++[(k,a,v)])→Heap.SameBut d s.heap h'→R (.ok (.ret v)) { s with heap:=h',toks:=s.toks+knd.draws k })):=
 .of_wp <| by
  rintro A R s ⟨hu,k,ys,hk,hm,hz,h1,h2⟩
  refine wpAny_bind (m:=Builtin.Dict.keyAndDefault _ _) ?_
  unfold Builtin.Dict.keyAndDefault
  refine wpAny_bind (wpAny_notOrdered_dict hm.typeIs ?_)
  show wpAny _ _ (pure (d,Value.ref a,some v)) _ _ s
  refine wpAny_pure ?_
  show wpAny _ _ (if (d==sysModules)=true then _ else _) _ _ s
  rw[if_neg (by rw[nd];exact Bool.false_ne_true)]
  show wpAny _ _ (dictSetDefault d (.ref a) v >>= _) _ _ s
  exact wpAny_bind (zI hu hk hm hz (fun p hp=>wpAny_pure ⟨_,rfl,h1 p hp⟩) fun e h' x y=>wpAny_pure ⟨_,rfl,h2 e h' x y⟩)
end
end PySem
namespace L2
open PySem PySem.Spec PyProof.Rows
section
variable{K:Type}[DecidableEq K]
theorem EJ{α β:Type}{F:α→β→Prop}{uu m₁:List α}{uv m₂:List β}(h:Paired F uu uv)(g:Paired F m₁ m₂):Paired F (uu++m₁) (uv++m₂):=by
 induction h with
 |nil=>exact g
 |cons a _ ih=>exact .cons a ih
end
section
variable{X:Cx}{o i e f:Expr}{pos apos bP:Pos}{td ty tx:TE}
theorem qD{pins:List (Addr×Obj)}{σ:St}{H:Hp}{s:Shared}{a:Addr}{us:List (List (List Key)×V)}(I:Inv X pins σ H s)(g:Rd H a (.dU us)):s.TypeIs (.ref a) "dict"∧∀b,Value.ref a= .ref b→∃ob,s.heap.get? b=some ob∧ob.dict=none:=by
 obtain⟨_,_,xs,_,dd⟩:=tM I.bh g
 refine⟨dd.typeIs,fun b q=>?_⟩
 cases q
 obtain⟨ob,_,_,h1,h2,_⟩:=dd
 exact⟨ob,h1,h2.2.1⟩
def UP(td ty tx:TE):TE:=fun σ H Q=>td σ H fun x H1=>∃a Ms,x= .ref a∧Rd H1 a (.dU Ms)∧ty σ H1 fun y H2=>tx σ H2 fun z H3=>∃us b bN,H3 a=some (.dU us)∧y= .ref b∧iM H3 bN b∧us.length<sizeLine∧
 (∀v,en us bN=some v→Q v H3)∧(en us bN=none→Q z (upd H3 a (.dU (us++[(bN,z)]))))
theorem Mt(hu:X.A.units+64<cLine)(ho:PE X o td)(he:PE X e ty)(hf:PE X f tx)(m:M2 X o "setdefault" apos e f bP):PE X (.Call (.Attribute o "setdefault" apos) [e,f] [] bP) (UP td ty tx):=by
 intro pins s σ H Q I h
 refine wpAny_Call_method m.base m.T_ m.line PySem.F.plainAttrs_dict PySem.Jd PySem.Ri (bZ (ho pins s σ H _ I h) fun u s1 ⟨x,H1,I1,rx,a,Ms,ex,g0,q1⟩=>?_)
 subst ex
 obtain rfl:u=Value.ref a:=rx
 obtain⟨t1,t2⟩:=qD I1 g0
 refine⟨t1,t2,?_⟩
 rw[m.trees]
 refine Calls.callWith_builtin rfl (Calls.evalArgs_plain (Calls.spliced_cons (bZ (he pins s1 σ H1 _ I1 q1) fun iv s2 ⟨y,H2,I2,ry,q2⟩=>
  Calls.spliced_cons (bZ (hf pins s2 σ H2 _ I2 q2) fun fv s3 ⟨z,H3,I3,rz,us,b,bN,e3,ey,kb,hl,c1,c2⟩=>Calls.spliced_nil ?_))))
 subst ey
 cases (show iv=Value.ref b from ry)
 obtain⟨zl,nd,xs,rel,dd⟩:=tM I3.bh (.inl e3)
 have lx:=rel.length
 refine call_meetsIn PySem.Jd dd.typeIs PySem.Rj (PySem.Rk _ _ _) (PySem.Gd (mF (cB X.prog X.w)) a b nd fv) ⟨by show X.A.units+1+4<cLine;omega,bN,xs,rZ I3.bh kb,dd,by omega,fun p hp=>?_,fun hp h' AZ hs=>?_⟩
 ·have r:=rel.val bN
  rw[hp]at r
  cases hv:en us bN with
  |none=>rw[hv]at r;cases r
  |some v=>
   rw[hv]at r
   exact⟨v,H3,I3.tok _,r,c1 v hv⟩
 ·have r:=rel.val bN
  rw[hp]at r
  have hv:en us bN=none:=by
   cases hv:en us bN with
   |none=>rfl
   |some v=>rw[hv]at r;cases r
  obtain⟨q,es,ep,hq,h2,h3,h4,_,h5⟩:=AZ
  have r2:KU H3 (us++[(bN,z)]) (xs++[(bN,b,fv)]):=EJ rel (.cons ⟨rfl,kb,rz⟩ .nil)
  have r3:KU (upd H3 a (.dU (us++[(bN,z)]))) (us++[(bN,z)]) (xs++[(bN,b,fv)]):=by
   refine Paired.ur r2 fun p q w=>⟨w.1,w.2.1.more fun c ys ec=>?_,w.2.2⟩
   rw[bg (vQ ec e3 (fun z=>nomatch z))]
   exact ec
  exact⟨z,_,nS (ob:=.dU (us++[(bN,z)])) I3 (by rw[e3];exact True.intro) hs ⟨q,hq⟩ (show bV X.prog X.w _ h' a (.dU (us++[(bN,z)]))from⟨by simp;omega,nd,_,r3,q,es,ep,hq,h2,h3,h4,h5⟩),rz,c2 hv⟩
def UQ(td ty:TE):TE:=fun σ H Q=>td σ H fun x H1=>ty σ H1 fun y H2=>∃a us b bN v,x= .ref a∧Rd H2 a (.dU us)∧y= .ref b∧iM H2 bN b∧en us bN=some v∧Q v H2
theorem Mu(hu:X.A.units+64<cLine)(ho:PE X o td)(hi:PE X i ty)(hs:HV i):PE X (.Subscript o i pos) (UQ td ty):=by
 intro pins s σ H Q I h
 refine HW PySem.F.slot_dict_getitem.lookup hs (bZ (ho pins s σ H _ I h) fun u s1 ⟨x,H1,I1,rx,q1⟩=>bZ (hi pins s1 σ H1 _ I1 q1) fun iv s2 ⟨y,H2,I2,ry,a,us,b,bN,v,ex,g,ey,kb,hv,q2⟩=>?_)
 subst ex ey
 obtain rfl:u=Value.ref a:=rx
 cases (show iv=Value.ref b from ry)
 refine⟨(qD I2 g).1,?_⟩
 obtain⟨zl,nd,xs,rel,dd⟩:=tM I2.bh g
 obtain⟨w',hw,uY⟩:=qc.some_of (v:=v) (o:=(atKey xs bN).map (·.2)) (by rw[←hv];exact rel.val bN)
 obtain⟨p,hp,hp2⟩:=Option.map_eq_some_iff.mp hw
 refine wpAny_getItem_heap (knd:=mF (cB X.prog X.w)) (by show X.A.units+1+4<cLine;omega) (rZ I2.bh kb) dd hp ?_
 rw[hp2]
 exact⟨v,H2,I2.tok _,uY,q2⟩
end
theorem Ge{d:Qm.D}{c:Qm.Cells}{l:Nat×List (List (List Int)×Qm.D)}(h:Qm.nI d c=some l)(z:Qm.Cell):Qm.nI d (c++[z])=some l:=by
 unfold Qm.nI at h ⊢
 split at h
 ·rename_i n
  split at h
  ·rename_i ps hp
   have e2:(c++[z])[n]? =some (Qm.Cell.gP ps):=by rw[List.getElem?_append_left (List.getElem?_eq_some_iff.mp hp).1,hp]
   rw[e2]
   exact h
  ·cases h
 ·cases h
section
variable{X:Cx}{o i b:Expr}{pos apos bP p0 p1 p2 lp:Pos}{fo fb:Qm.XE}
theorem wM(hu:X.A.units+64<cLine)(ho:QE X o fo)(hb:QE X b fb)(iS:attributeBase o "setdefault" X.env (eval o X.env)=eval o X.env:=by rfl)(rF:((backTo bP (starEach [b,.List [] lp] X.env)).all (fun x=>!x.1)&&(backToKw bP (keywordEach [] X.env)).all (fun x=>x.1.isSome)
  &&decide (([b,.List [] lp]:List Expr).length+([]:List Keyword).length+(if ([]:List Keyword).isEmpty then 0 else 1)<30))=true:=by rfl)(iT:(apos.endLine==bP.line)=true:=by rfl)(ht:backTo bP (starEach [b,.List [] lp] X.env)=[(false,eval b X.env),(false,eval (.List [] lp) X.env)]:=by rfl):
  QE X (.Call (.Attribute o "setdefault" apos) [b,.List [] lp] [] bP) (Qm.fE fo fb):=(Mt hu ho hb (eU aj) ⟨iS,rF,iT,ht⟩).imp <| by
 rintro σ H Q ⟨ρ,env,c,d,c',rs,re,e,k⟩
 obtain⟨p,e1,e⟩:=aG e
 obtain⟨l0,e0,e⟩:=aG e
 obtain⟨q,e2,e⟩:=aG e
 obtain⟨l,e3,e⟩:=aG e
 obtain⟨x,e4,e⟩:=aG e
 split at e
 ·rename_i hz
  refine⟨ρ,env,c,p.1,p.2,rs,re,e1,fun aR v H1 n1 r1=>?_⟩
  obtain⟨_,_,Ms,rfl,g1,_⟩:=n1.rs.nI r1 e0
  refine⟨_,Ms,rfl,.inl g1,aR,env,p.2,q.1,q.2,n1.rs,re.up n1.up,e2,fun jj u H2 n2 r2=>?_⟩
  refine⟨jj,env,q.2,.ref q.2.length,q.2++[.lst []],n2.rs,re.up (n1.trans n2).up,rfl,fun zo z H3 n3 r3=>?_⟩
  have e5:=Ge e3 (.lst [])
  obtain⟨bb,rfl,kb⟩:=Dl (r2.up n3.up) e4
  obtain⟨hp1,hc,us,hv,h1,a1⟩:=n3.rs.nI ((r1.up n2.up).up n3.up) e5
  rw[←V.ref.inj hv]at h1
  refine⟨us,bb,lB x,h1,rfl,kb,rM (by rw[←a1.length];exact hz),fun v Dm=>?_,fun Dm=>?_⟩
  ·rcases a1.val x with⟨h2,h3⟩|⟨d',v',h2,h3,h4⟩
   ·rw[h3]at Dm;cases Dm
   ·rw[h2]at e
    cases e
    rw[h3]at Dm
    cases Dm
    exact k zo _ H3 (n1.trans (n2.trans n3)) h4
  ·rcases a1.val x with⟨h2,h3⟩|⟨d',v',h2,h3,h4⟩
   ·rw[h2]at e
    cases e
    have n4:=Nx.Rg n3.rs hc (a1.append (.cons (k:=x) r3 .nil))
    rw[←V.ref.inj hv]at n4
    exact k zo _ _ (n1.trans (n2.trans (n3.trans n4))) (r3.up n4.up)
   ·rw[h3]at Dm;cases Dm
 ·cases e
theorem Bv(hu:X.A.units+64<cLine)(ho:QE X o fo)(hb:QE X b fb)(hs:HV b:=by intro _ _;rfl):QE X (.Subscript o b pos) (Qm.jz fo fb):=(Mu hu ho hb hs).imp <| by
 rintro σ H Q ⟨ρ,env,c,d,c',rs,re,e,k⟩
 obtain⟨p,e1,e⟩:=aG e
 obtain⟨q,e2,e⟩:=aG e
 obtain⟨l,e3,e⟩:=aG e
 obtain⟨x,e4,e⟩:=aG e
 obtain⟨d',e5,e⟩:=aG e
 cases e
 refine⟨ρ,env,c,p.1,p.2,rs,re,e1,fun aR v H1 n1 r1=>⟨aR,env,p.2,q.1,q.2,n1.rs,re.up n1.up,e2,fun jj u H2 n2 r2=>?_⟩⟩
 obtain⟨bb,rfl,kb⟩:=Dl r2 e4
 obtain⟨a,us,rfl,g,a1⟩:=n2.rs.qC (r1.up n2.up) e3
 rcases a1.val x with⟨h2,h3⟩|⟨d2,v',h2,h3,h4⟩
 ·rw[h2]at e5;cases e5
 ·rw[h2]at e5
  cases e5
  exact⟨a,us,bb,lB x,v',rfl,g,rfl,kb,h3,k jj _ H2 (n1.trans n2) h4⟩
end
theorem wN{K:PySem.W.Frag}:qB K (EH ()) Qm.n_:=by
 intro ρ c H ds d c' vs Q rs ra e k
 obtain⟨x,rfl,e⟩:=i_ e
 obtain⟨v,rfl,rx⟩:=ra.jF
 obtain⟨l,e1,e⟩:=aG e
 split at e
 ·cases e
  obtain⟨_,hc,us,rfl,h1,a1⟩:=rs.qk rx e1
  refine⟨_,us,rfl,.inl h1,fun q as hq pa=>?_⟩
  have Je:∀{ps:List (List Int×Qm.D)}{us:List (List Key×V)}{as:List Addr},fI K ρ c.length H ps us→Paired (fun(kv:List Key×V) (a:Addr)=>H a=some (.tup (kv.1.map kV))) us as→RA K ρ c.length H (ps.map fun p=>Qm.Ja p.1) (as.map V.ref):=by
   intro ps us as a p
   induction a generalizing as with
   |nil=>cases p;exact .nil
   |cons r a ih=>
    cases p with
    |cons h1 t=>exact .cons (ED h1) (ih t)
  obtain⟨n,r⟩:=Nx.alloc rs hq (Je a1 pa)
  exact k _ _ _ n r
 ·cases e
theorem qE{K:PySem.W.Frag}:qB K (EI ()) Qm.jm:=by
 intro ρ c H ds d c' vs Q rs ra e k
 obtain⟨x,rfl,e⟩:=i_ e
 obtain⟨v,rfl,rx⟩:=ra.jF
 obtain⟨l,e1,e⟩:=aG e
 split at e
 ·cases e
  obtain⟨a,us,rfl,g,a1⟩:=rs.qC rx e1
  refine⟨_,us,rfl,g,fun q as hq pa=>?_⟩
  have Je:∀{ps:List (List (List Int)×Qm.D)}{us:List (List (List Key)×V)}{as:List Addr},dY K ρ c.length H ps us→Paired (fun(kv:List (List Key)×V) (a:Addr)=>iM H kv.1 a) us as→RA K ρ c.length H (ps.map fun p=>Qm.Bp p.1) (as.map V.ref):=by
   intro ps us as a p
   induction a generalizing as with
   |nil=>cases p;exact .nil
   |cons r a ih=>
    cases p with
    |cons h1 t=>exact .cons (EG h1) (ih t)
  obtain⟨n,r⟩:=Nx.alloc rs hq (Je a1 pa)
  exact k _ _ _ n r
 ·cases e
end L2
namespace L2
open PySem PySem.Spec PyProof.Rows
section
variable{X:Cx}{o:Expr}{p0 pos apos bP:Pos}{td:TE}{fo:Qm.XE}
def Mv(td:TE):TE:=fun σ H Q=>td σ H fun x H1=>∃a us,x= .ref a∧Rd H1 a (.dU us)∧∀l,H1 l=none→Q (.ref l) (upd H1 l (.lst (us.map (·.2))))
theorem Gf(hc:X.calm=true)(hg:Gl X "list")(hm:X.mg "list" =none)(ho:PE X o td)(iS:attributeBase o "values" X.env (eval o X.env)=eval o X.env)(rF:((backTo bP (starEach [] X.env)).all (fun x=>!x.1)&&(backToKw bP (keywordEach [] X.env)).all (fun x=>x.1.isSome)
  &&decide (([]:List Expr).length+([]:List Keyword).length+(if ([]:List Keyword).isEmpty then 0 else 1)<30))=true)(iT:(apos.endLine==bP.line)=true)(ht:backTo bP (starEach [] X.env)=[])
  (hs:starEach [.Call (.Attribute o "values" apos) [] [] bP] X.env=[(false,eval (.Call (.Attribute o "values" apos) [] [] bP) X.env)]):
  PE X (.Call (.Name "list" p0) [.Call (.Attribute o "values" apos) [] [] bP] [] pos) (Mv td):=by
 intro pins s σ H Q I h
 refine wpAny_Call_Name_kw (i7 I hg hm (u:=.type "list") (by decide +kernel) ?_)
 refine PyProof.Rows.callWith_type1 ?_ hs rfl
 rw[hs]
 show wpAny _ _ (spliced [(false,eval (.Call (.Attribute o "values" apos) [] [] bP) X.env)]) _ _ _
 refine Calls.spliced_cons ?_
 refine wpAny_Call_method iS rF iT PySem.F.plainAttrs_dict PySem.F.slot_dict_values PySem.F.type_dict_values (bZ (ho pins s σ H _ I h) fun u s1 ⟨x,H1,I1,rx,a,us,ex,g,q1⟩=>?_)
 subst ex
 obtain rfl:u=Value.ref a:=rx
 obtain⟨t1,t2⟩:=qD I1 g
 refine⟨t1,t2,?_⟩
 rw[ht]
 obtain⟨zl,nd,ys,rel,ob,es,ep,h1,h2,h3,h4,h5,h6⟩:=tM I1.bh g
 have hl:es.size=ys.length:=by rw[←Array.length_toList,h4,List.length_map]
 have UO:=rel.length
 have m:dg s1.heap a es ep:=⟨ob,h1,h2,h3⟩
 refine Calls.callWith_builtin rfl (PySem.evalArgs_none ?_)
 refine call_meetsIn PySem.F.slot_dict_values t1 PySem.F.entry_dict_values (PySem.F.args_dict_values_1 _) (G5 a nd) ⟨⟨es,ep,m⟩,Calls.spliced_nil ?_⟩
 have I2:Inv X pins σ H1 { s1 with heap:=s1.heap.push { cls:=.type "dict_values",data:=.fields #[.ref a] } }:=I1.kept (t':=s1.toks) fun b o e=>Heap.get?_push_of_some _ e
 have m2:dg (s1.heap.push { cls:=.type "dict_values",data:=.fields #[.ref a] }) a es ep:=m.at fun o e=>Heap.get?_push_of_some _ e
 have v2:(s1.heap.push { cls:=.type "dict_values",data:=.fields #[.ref a] }).IsValuesView s1.heap.objs.size a:=⟨_,Heap.get?_push_size _ rfl,rfl,rfl⟩
 refine PySem.W.kdl_call (s:={ s1 with heap:=s1.heap.push { cls:=.type "dict_values",data:=.fields #[.ref a] } }) Te (I.ok.hd hc) ⟨v2,m2⟩ (by omega) fun h' tk acc c' hk hD Bu=>?_
 have ea:=Bt h4 Bu
 refine⟨.ref _,_,I2.laid (t':=tk) hk (Nat.le_refl _) (show bV X.prog X.w _ h' _ (.lst (us.map (·.2)))from⟨by simp;omega,acc.toList,c',?_,by simpa using hD⟩),rfl,q1 _ (I2.bh.fresh (Nat.le_refl _))⟩
 rw[ea]
 exact rel.vals
theorem Gg(hg:Gl X "list")(hm:X.mg "list" =none)(ho:QE X o fo)(hc:X.calm=true:=by rfl)(iS:attributeBase o "values" X.env (eval o X.env)=eval o X.env:=by rfl)(rF:((backTo bP (starEach [] X.env)).all (fun x=>!x.1)&&(backToKw bP (keywordEach [] X.env)).all (fun x=>x.1.isSome)
  &&decide (([]:List Expr).length+([]:List Keyword).length+(if ([]:List Keyword).isEmpty then 0 else 1)<30))=true:=by rfl)(iT:(apos.endLine==bP.line)=true:=by rfl)(ht:backTo bP (starEach [] X.env)=[]:=by rfl)
  (hs:starEach [.Call (.Attribute o "values" apos) [] [] bP] X.env=[(false,eval (.Call (.Attribute o "values" apos) [] [] bP) X.env)]:=by rfl):
  QE X (.Call (.Name "list" p0) [.Call (.Attribute o "values" apos) [] [] bP] [] pos) (Qm.zG fo):=(Gf hc hg hm ho iS rF iT ht hs).imp <| by
 rintro σ H Q ⟨ρ,env,c,d,c',rs,re,e,k⟩
 obtain⟨p,e1,e⟩:=aG e
 obtain⟨l,e2,e⟩:=aG e
 split at e
 ·cases e
  refine⟨ρ,env,c,p.1,p.2,rs,re,e1,fun aR v H1 n1 r1=>?_⟩
  obtain⟨a,us,rfl,g,a1⟩:=n1.rs.qC r1 e2
  refine⟨a,us,rfl,g,fun l hl=>?_⟩
  have Je:∀{N:Nat}{ps:List (List (List Int)×Qm.D)}{us:List (List (List Key)×V)},dY X.K aR N H1 ps us→RA X.K aR N H1 (ps.map fun q=>q.2) (us.map (·.2)):=by
   intro N ps us a
   induction a with
   |nil=>exact .nil
   |cons r a ih=>exact .cons r ih
  obtain⟨n,r⟩:=Nx.alloc n1.rs hl (Je a1)
  exact k _ _ _ (n1.trans n) r
 ·cases e
end
end L2
namespace PySem
set_option maxRecDepth 100000
theorem Dp:typeLookup (.type "list") "keys" =pure none:=am_miss_of_fast (by decide +kernel)
theorem EK:entryFor table "dict.update.loop" =some Builtin.«dict.update.loop»:=entryFor_of_tree (by kernel_rfl)
theorem vE:plainId "dict.update.loop" =true:=by decide +kernel
theorem Mw{prog:Program}{w:World}{A:Around}{E:Value→Shared→Prop}{s:Shared}{a:Addr}{o:Obj}{xs:Array Value}{k:Nat}{Q:Option Value→Shared→Prop}
  (hx:s.heap.get? a=some o)(hc:o.cls= .type "list")(OR:o.data= .seq xs k)(hd:o.dict=none)(hA:A.handled=none)
  (h:∀h' tk e,Heap.NewExcOf s.heap h' e "AttributeError"→Q none { s with heap:=h',toks:=tk }):wpAny (model prog w) A (getAttr? (.ref a) "keys") Q E s:=by
 obtain⟨c,vd,dat,sl⟩:=o
 simp only at hc OR hd
 subst hc OR hd
 obtain⟨hp,g,d,tk,os⟩:=s
 have hT:∀UR,(⟨hp,g,d,UR,os⟩:Shared).TypeIs (.ref a) "list":=fun _=>⟨_,hx,rfl⟩
 have f1:=sub_AttributeError
 have f3:=F.slot_list_getattribute.lookup
 have f4:=F.slot_list_getattribute.bind (.ref a)
 have f5:=am_list_getattr_none
 unfold getAttr? getAttrBy? getAttrBy
 repeat (any_goals (first|assumption|exact hT _|((with_reducible show wpAny _ _ (call (Value.builtin "list.__getattribute__") _ _) _ _ _);refine call_meets F.slot_list_getattribute (hT _) am_entry_list_getattribute (F.args_list_getattribute_2 _ _) (meets_getattribute_miss_list a xs k sl "keys" _ Dp (by decide) (by decide)) ⟨hx,hA,fun h' UR e hV=>?_⟩)|wp_step))
 obtain⟨t',u',he⟩:=hV.there
 show wpAny _ _ (getattributeRaised _ _ _ _ _ _ _) _ _ _
 unfold getattributeRaised
 repeat (any_goals (first|assumption|wp_step))
 all_goals exact h _ _ _ hV.of
end PySem
namespace L2
open PySem PySem.Spec PyProof.Rows
theorem KU.lX{H:Hp}{aC:List (List (List Key)×V)}{xs:List (List (List Key)×Addr×Value)}(r:KU H aC xs)(k:List (List Key)){y:V}{u:Value}(ry:RelV y u):
  KU H (aC.map fun kv=>if kv.1=k then(kv.1,y)else kv) (xs.map (putAt k u)):=by
 induction r with
 |nil=>exact .nil
 |@cons p q ps qs h t ih=>
  rw[List.map_cons,List.map_cons]
  refine .cons ?_ ih
  obtain⟨h1,h2,h3⟩:=h
  unfold putAt
  by_cases e:p.1=k
  ·rw[if_pos e,if_pos (h1.symm.trans e)];exact⟨h1,h2,ry⟩
  ·rw[if_neg e,if_neg (fun z=>e (h1.trans z))];exact⟨h1,h2,h3⟩
theorem KU.put{H:Hp}{aC:List (List (List Key)×V)}{xs:List (List (List Key)×Addr×Value)}(r:KU H aC xs)(k:List (List Key)){b:Addr}{y:V}{u:Value}(hb:iM H k b)(ry:RelV y u):
  KU H (putK aC k y) (storedH xs k b u):=by
 have e:(aC.any fun kv=>decide (kv.1=k))=(atKey xs k).isSome:=by
  rw[tj,(KU.val r k).wb,Option.isSome_map]
 unfold putK storedH
 rw[e]
 by_cases q:(atKey xs k).isSome=true
 ·rw[if_pos q,if_pos q];exact KU.lX r k ry
 ·rw[if_neg q,if_neg q];exact EJ r (.cons ⟨rfl,hb,ry⟩ .nil)
theorem Dq{α β:Type}{F:α→β→Prop}:∀{uu:List α}{uv:List β}{i:Nat}{x:α},Paired F uu uv→uu[i]? =some x→∃y,uv[i]? =some y∧F x y
 |_,_,0,_,.cons h _,e=>by cases e;exact⟨_,rfl,h⟩
 |_,_,i+1,_,.cons _ t,e=>Dq (i:=i) t e
section
variable{X:Cx}{pins:List (Addr×Obj)}{σ:St}{H:Hp}{A:Around}{E:Value→Shared→Prop}
theorem Mx{s:Shared}{a b:Addr}{us:List (List (List Key)×V)}{bN:List (List Key)}{v:V}{r:Value}{Q:Unit→Shared→Prop}(hu:A.units+8<cLine)(I:Inv X pins σ H s)(e:H a=some (.dU us))(kb:iM H bN b)(hl:us.length<sizeLine)(rv:RelV v r)
  (h:∀h' t',Heap.SameBut a s.heap h'→Inv X pins σ (upd H a (.dU (putK us bN v))) { s with heap:=h',toks:=t' }→Q () { s with heap:=h',toks:=t' }):wpAny (model X.prog X.w) A (dictSet a (.ref b) r) Q E s:=by
 obtain⟨z,nd,xs,rel,dd⟩:=tM I.bh (.inl e)
 have lx:=rel.length
 have u9:(putK us bN v).length≤sizeLine:=by have:=jJ us bN v;omega
 refine wpAny_dictSet_heap (knd:=mF (cB X.prog X.w)) (hsz:=by omega) (show A.units+4<cLine by omega) (rZ I.bh kb) dd fun h' AZ hs=>h _ _ hs ?_
 obtain⟨q,es,ep,hq,h2,h3,h4,_,h5⟩:=AZ
 have r3:KU (upd H a (.dU (putK us bN v))) (putK us bN v) (storedH xs bN b r):=by
  refine Paired.ur (KU.put rel bN kb rv) fun p q w=>⟨w.1,w.2.1.more fun c ys ec=>?_,w.2.2⟩
  rw[bg (vQ ec e (fun z=>nomatch z))]
  exact ec
 exact nS (ob:=.dU (putK us bN v)) I (by rw[e];exact True.intro) hs ⟨q,hq⟩ (show bV X.prog X.w _ h' a (.dU (putK us bN v))from⟨u9,nd,_,r3,q,es,ep,hq,h2,h3,h4,h5⟩)
def Ds(H:Hp)(x:V)(p:List (List Key)×V):Prop:=∃t b,x= .ref t∧H t=some (.tup [.ref b,p.2])∧iM H p.1 b
theorem xO{s:Shared}{t:Addr}{x y:Value}{Q:List Value→Shared→Prop}(h:IsTup s.heap t #[x,y])(q:Q [x,y] s):wpAny (model X.prog X.w) A (Builtin.Dict.pairItems (.ref t)) Q E s:=by
 obtain⟨o,ho,hc,n,hd⟩:=h
 unfold Builtin.Dict.pairItems
 refine wpAny_bind (wpAny_typeOf (T:="tuple") ⟨o,ho,hc⟩ ?_)
 rw[if_pos (by decide)]
 refine wpAny_bind ?_
 show wpAny _ _ (load t >>= _) _ _ s
 refine wpAny_bind (wpAny_load ho ?_)
 obtain⟨oc,od,US,nQ⟩:=o
 simp only at hd
 subst hd
 exact wpAny_pure (wpAny_pure q)
theorem Rl{J l D:Addr}{its:Array Value}{xs:List V}{ps:List (List (List Key)×V)}{R:Result→Shared→Prop}(hh:A.in1.handled=none)(hu:A.units+16<cLine)(hJl:l≠J)(Rm:J≠D)(hlD:l≠D)(hD:H D=none)(rx:Vals xs its.toList)(pp:Paired (Ds H) xs ps)(hz:its.size≤sizeLine):
  ∀(k i:Nat) (s:Shared) (us:List (List (List Key)×V)),its.size - i=k→i≤its.size→s.heap.IsListIter J l i→s.heap.IsList l its→us.length≤i→h_ X pins H J→Inv X pins σ (upd H D (.dU us)) s→
   (∀s',Inv X pins σ (upd H D (.dU ((ps.drop i).foldl (fun a p=>putK a p.1 p.2) us))) s'→R (.ok (.ret .none)) s')→
   codeAny (model X.prog X.w) A (.builtin "dict.update.loop" ⟨[.ref D,.ref J,rawInt i,.none],[]⟩) R s:=by
 have W:=Walks.list (prog:=X.prog) (w:=X.w) (A:=A.in1) hh J l hJl its
 have lp:xs.length=ps.length:=Paired.length pp
 have lx:=rx.length
 have lz:its.toList.length=its.size:=Array.length_toList
 intro k
 induction k with
 |zero=>
  intro i s us hk hi hit hl HJ hf I hR
  have hin:i=its.size:=by omega
  subst hin
  refine codeAny_builtin PySem.EK ?_
  rw[Around.under_plainId PySem.vE _]
  show wpAny _ A.in1 (pyNext (.ref J) >>= _) _ _ s
  refine wpAny_bind (W.done s _ _ ⟨hit,hl⟩ fun h' tk kk=>?_)
  obtain⟨f0,f1,f2,f3,f4,f5⟩:=hf
  have I1:Inv X pins σ (upd H D (.dU us)) { s with heap:=h',toks:=tk }:=I.turned (it:=J) (fun b o hb e=>kk b o (by simpa using hb) e) (by rw[bg Rm];exact f0) f1 f3 f4 f5
  show wpAny _ A.in1 (Builtin.Dict.addKeywords D [] >>= _) _ _ _
  refine wpAny_bind (wpAny_pure (wpAny_pure ?_))
  refine hR _ ?_
  rw[List.drop_eq_nil_of_le (by omega)]
  exact I1
 |succ k ih=>
  intro i s us hk hi hit hl HJ hf I hR
  have fZ:i<its.size:=by omega
  refine codeAny_builtin PySem.EK ?_
  rw[Around.under_plainId PySem.vE _]
  show wpAny _ A.in1 (pyNext (.ref J) >>= _) _ _ s
  refine wpAny_bind (W.item i s _ _ fZ ⟨hit,hl⟩ fun v h' tk hv rg kk=>?_)
  obtain⟨f0,f1,f2,f3,f4,f5⟩:=id hf
  have I1:Inv X pins σ (upd H D (.dU us)) { s with heap:=h',toks:=tk }:=I.turned (it:=J) (fun b o hb e=>kk b o (by simpa using hb) e) (by rw[bg Rm];exact f0) f1 f3 f4 f5
  obtain⟨x,hx⟩:∃x,xs[i]? =some x:=⟨_,List.getElem?_eq_getElem (by omega)⟩
  obtain⟨p,hp,t,b,ex,ht,kb⟩:=Dq pp hx
  obtain⟨u,UT,ru⟩:=rx.get hx
  subst ex
  have hvu:v= .ref t:=by
   rw[Array.getElem?_toList,hv]at UT
   cases UT
   exact ru
  subst hvu
  have htD:t≠D:=fun e=>by rw[e,hD]at ht;cases ht
  have ht2:(upd H D (.dU us)) t=some (.tup [.ref b,p.2]):=by rw[bg htD];exact ht
  have kb2:iM (upd H D (.dU us)) p.1 b:=kb.more fun c ys ec=>by
   rw[bg (fun e=>by rw[e,hD]at ec;cases ec)]
   exact ec
  obtain⟨its',r2,tt,_⟩:=I1.tuple (dj.of ht2)
  obtain⟨u1,u2,rfl,ru1,ru2⟩:=vals2 r2
  cases (show u1=Value.ref b from ru1)
  show wpAny _ A.in1 (holding [Value.ref t] _ >>= _) _ _ _
  refine wpAny_bind (wpAny_holding ?_)
  refine wpAny_bind (wpAny_tryCatch (xO tt ?_))
  show wpAny _ A.in1 (holding [Value.ref b,u2] (dictSet D (.ref b) u2)) _ _ _
  refine wpAny_holding (Mx (by show A.units+1+8<cLine;omega) I1 (dk) kb2 (by omega) ru2 fun h2 t2 hs I2=>?_)
  rw[G6]at I2
  refine wpAny_pure ⟨plainId_quiet PySem.vE _,?_⟩
  have UU:h2.IsListIter J l (i+1):=rg.1.at fun o e=>(hs.2 J Rm).trans e
  have u9:h2.IsList l its:=rg.2.at fun o e=>(hs.2 l hlD).trans e
  refine ih (i+1) _ (putK us p.1 p.2) (by omega) fZ UU u9 (by have:=jJ us p.1 p.2;omega) hf I2 fun s' I3=>hR s' ?_
  rw[List.drop_eq_getElem_cons (show i<ps.length by omega)]
  have:ps[i]'(by omega)=p:=by
   rw[List.getElem?_eq_getElem (by omega)]at hp
   exact Option.some.inj hp
  rw[this]
  exact I3
end
end L2
namespace L2
open PySem PySem.Spec PyProof.Rows
def EL(K:PySem.W.Frag):List V→Hp→VK→Prop:=fun xs H Q=>∃l ws ps,xs=[.ref l]∧cy K H l ws∧Paired (Ds H) ws ps∧∀D,H D=none→Q (.ref D) (upd H D (.dU (ps.foldl (fun a p=>putK a p.1 p.2) [])))
section
variable{X:Cx}
theorem Bw(hc:X.calm=true)(hu:X.A.units+64<cLine):gK X (.type "dict") (EL X.K):=by
 intro pins s σ H xs us Q I r h
 obtain⟨l,ws,ps,rfl,hl,pp,q⟩:=h
 obtain⟨u,rfl,rx⟩:=vals1 r
 cases (show u=Value.ref l from rx)
 obtain⟨its,rv,tl,zl⟩:=I.list hl
 have hA:X.A.handled=none:=I.ok.hd hc
 refine callType_codes (Q₁:=fun obj bO=>obj= .ref s.heap.objs.size∧bO= { s with heap:=s.heap.push { cls:=.type "dict",data:=.dict #[] } }) F.kt_called_dict (F.kt_typeCall_dict_1 _) F.entry_dict_init (kt_code_dict_new _ ⟨rfl,rfl⟩) ?_
 rintro obj bO ⟨rfl,rfl⟩
 have hD:H s.heap.objs.size=none:=I.bh.fresh (Nat.le_refl _)
 have I1:Inv X pins σ (upd H s.heap.objs.size (.dU [])) { s with heap:=s.heap.push { cls:=.type "dict",data:=.dict #[] } }:=I.laid (a:=s.heap.objs.size) (o:=.dU []) (t':=s.toks) (fun _ _ q=>Heap.get?_push_of_some _ q) (Nat.le_refl _) (yf s.heap I.big)
 have Rn:({ s with heap:=s.heap.push { cls:=.type "dict",data:=.dict #[] } }:Shared).TypeIs (.ref s.heap.objs.size) "dict":=⟨_,Heap.get?_push_size _ rfl,rfl⟩
 have sz:(s.heap.push { cls:=.type "dict",data:=.dict #[] }).objs.size=s.heap.objs.size+1:=Heap.size_push ..
 have UW:l<s.heap.objs.size:=by obtain⟨o,n,e,_⟩:=tl;exact Heap.lt_size e
 have UX:PlainL (s.heap.push { cls:=.type "dict",data:=.dict #[] }) l its.toArray:=by
  obtain⟨o,n,e,x⟩:=tl
  exact⟨o,n,Heap.get?_push_of_some _ e,x⟩
 refine⟨Rn,F.args_dict_init_2 _ _,?_⟩
 generalize hD0:s.heap.objs.size=D at*
 generalize Jf:({ s with heap:=s.heap.push { cls:=.type "dict",data:=.dict #[] } }:Shared)=s1 at*
 have eh:s1.heap=s.heap.push { cls:=.type "dict",data:=.dict #[] }:=by rw[←Jf]
 rw[←eh]at sz UX
 clear Jf
 unfold Builtin.«dict.__init__»
 refine wpAny_bind ?_
 unfold Builtin.Dict.selfAndRest
 refine wpAny_bind (wpAny_notOrdered_dict Rn ?_)
 show wpAny _ _ (pure (D,[Value.ref l])) _ _ _
 refine wpAny_pure ?_
 show wpAny _ _ (Builtin.Dict.updateFrom "dict.__init__" D (.ref l) [] .none) _ _ _
 unfold Builtin.Dict.updateFrom
 obtain⟨o,n,e,cl,nd,dt⟩:=id UX
 refine wpAny_bind (wpAny_typeOf (T:="list") ⟨o,e,cl⟩ ?_)
 rw[if_pos (by decide)]
 refine wpAny_bind (PySem.Mw e cl dt nd (by simp[hA]) fun h2 tk ex ne=>?_)
 have I2:Inv X pins σ (upd H D (.dU [])) { s1 with heap:=h2,toks:=tk }:=I1.kept ne.keeps
 have UY:h2.IsList l its.toArray:=⟨o,ne.keeps _ _ e,cl,n,dt⟩
 have z2:D<h2.objs.size:=by
  obtain⟨o',e',_⟩:=Rn
  exact Heap.lt_size (ne.keeps _ _ e')
 have n1:h2.objs.size≠D:=Nat.ne_of_gt z2
 have n2:l≠h2.objs.size:=Nat.ne_of_lt (Nat.lt_trans UW z2)
 have n3:l≠D:=Nat.ne_of_lt UW
 show wpAny _ _ (_ >>= _) _ _ _
 refine wpAny_bind (wpAny_rule ?_)
 refine wpAny_bind (wpAny_pyIter_list UY ?_)
 have I3:Inv X pins σ (upd H D (.dU [])) { s1 with heap:=h2.push { cls:=.type "list_iterator",data:=.fields #[.ref l,.int 0 0] },toks:=tk }:=I2.kept (t':=tk) fun b o e=>Heap.get?_push_of_some _ e
 have fJ:h_ X pins H h2.objs.size:=I2.q_ (Nat.le_refl _) (by have:=I2.bh.fresh (a:=h2.objs.size) (Nat.le_refl _);rw[bg n1]at this;exact this)
 refine wpAny_pure ⟨plainId_quiet PySem.vE _,?_⟩
 refine Rl (H:=H) (J:=h2.objs.size) (l:=l) (D:=D) (its:=its.toArray) (xs:=ws) (ps:=ps) (by simp[hA]) (by show X.A.units+1+16<cLine;omega) n2 n1 n3 hD rv pp (by have:=rv.length;simp;omega) _ 0 _ [] rfl (Nat.zero_le _) ⟨_,Heap.get?_push_size _ rfl,rfl,rfl⟩ (UY.push _) (Nat.le_refl _) fJ I3 fun s' I4=>?_
 exact⟨rfl,.ref D,_,I4,rfl,q D hD⟩
end
theorem Bx{K:PySem.W.Frag}{ρ:Nat→Addr}{N:Nat}{H:Hp}:∀{xs:List Qm.D}{vs:List V}{ps:List (List (List Int)×Qm.D)},RA K ρ N H xs vs→Qm.omap Qm.tL xs=some ps→∃us,Paired (Ds H) vs us∧dY K ρ N H ps us
 |[],_,_,a,h=>by
  cases a;cases h
  exact⟨[],.nil,.nil⟩
 |x::xs,_,_,a,h=>by
  cases a with
  |cons r a=>
   unfold Qm.omap at h
   obtain⟨p,h1,h⟩:=aG h
   obtain⟨ps,h2,h⟩:=aG h
   cases h
   obtain⟨us,p1,p2⟩:=Bx a h2
   unfold Qm.tL at h1
   split at h1
   ·rename_i kk vv
    obtain⟨y,h3,h1⟩:=aG h1
    cases h1
    obtain⟨t,ws,rfl,h4,a4⟩:=r.jG
    obtain⟨w1,w2,rfl,r1,r2⟩:=a4.uJ
    obtain⟨b,rfl,kb⟩:=Dl r1 h3
    exact⟨(lB y,w2)::us,.cons ⟨t,b,rfl,h4,kb⟩ p1,.cons r2 p2⟩
   ·cases h1
theorem dY.Ro{K:PySem.W.Frag}{ρ:Nat→Addr}{N:Nat}{H:Hp}{ps:List (List (List Int)×Qm.D)}{us:List (List (List Key)×V)}(a:dY K ρ N H ps us):∀{qs:List (List (List Int)×Qm.D)}{vs:List (List (List Key)×V)},dY K ρ N H qs vs→dY K ρ N H (ps.foldl (fun a p=>Qm.mq a p.1 p.2) qs) (us.foldl (fun a p=>putK a p.1 p.2) vs):=by
 induction a with
 |nil=>exact fun b=>b
 |cons r a ih=>exact fun b=>ih (dY.put r b _)
theorem Gh{K:PySem.W.Frag}:qB K (EL K) Qm.vC:=by
 intro ρ c H ds d c' vs Q rs ra e k
 obtain⟨x,rfl,e⟩:=i_ e
 obtain⟨v,rfl,rx⟩:=ra.jF
 obtain⟨l,e1,e⟩:=aG e
 obtain⟨ps,e2,e⟩:=aG e
 cases e
 obtain⟨_,hc,ws,rfl,h1,a1⟩:=rs.bj rx e1
 obtain⟨us,p1,p2⟩:=Bx a1 e2
 refine⟨_,ws,us,rfl,cy.of h1,p1,fun q hq=>?_⟩
 obtain⟨n,r⟩:=Nx.vx (z:=.gP (ps.foldl (fun a p=>Qm.mq a p.1 p.2) [])) (o:=.dU (us.foldl (fun a p=>putK a p.1 p.2) [])) rs hq (fun _ _ _ u h=>⟨_,h,(p2.Ro .nil).up u⟩)
 exact k _ _ _ n r
end L2
namespace PySem
set_option maxRecDepth 100000
abbrev kD(h:Heap)(z TI TO:Addr)(f0 f1:Value):Prop:=
 h.get? z=some { cls:=.type "zip",dict:=none,data:=.fields #[f0,f1,.bool false,.ref TI,.ref TO],slots:=#[] }
def ZF(f0:Value):Prop:=f0= .none∨∃a t,f0= .int a t
structure Gi(z TI TO i1 i2:Addr):Prop where
 a1:TI≠z
 a2:TO≠z
 a3:i1≠z
 a4:i2≠z
 a5:TI≠TO
 a6:TI≠i1
 a7:TI≠i2
 a8:TO≠i1
 a9:TO≠i2
 Gj:i1≠i2
section
variable{prog:Program}{w:World}{A:Around}{E:Value→Shared→Prop}{s:Shared}{z TI TO i1 i2:Addr}{f0 f1 x y a b:Value}
theorem zJ{n:Addr}{Q:Option Obj→Shared→Prop}(h:Q (s.heap.get? n) s):wpAny (model prog w) A (loadIfAlive n) Q E s:=fun _ _ _=>h
theorem Jg{Q:Bool→Shared→Prop}(hz:kD s.heap z TI TO f0 f1)(hf:ZF f0)(q1:Q true s)(q2:∀h' g1,kD h' z TI TO f0 g1→Heap.SameBut z s.heap h'→Q false { s with heap:=h' }):
  wpAny (model prog w) A (Builtin.SmallTypes.ownedTupleIsFree (.ref z)) Q E s:=by
 unfold Builtin.SmallTypes.ownedTupleIsFree
 refine wpAny_bind (wpAny_field hz rfl (x:=f0) rfl ?_)
 rcases hf with rfl|⟨n,t,rfl⟩
 ·exact wpAny_pure q1
 ·refine wpAny_bind (zJ ?_)
  cases hg:s.heap.get? n.toNat with
  |none=>exact wpAny_pure q1
  |some o=>
   show wpAny _ _ (field (.ref z) 1 >>= _) _ _ _
   refine wpAny_bind (wpAny_field hz rfl (x:=f1) rfl ?_)
   split
   ·exact wpAny_bind (wpAny_setField_rec hz (by simp) fun h' ve hs=>wpAny_pure (q2 h' _ ve hs))
   ·exact wpAny_pure (q2 s.heap f1 hz ⟨rfl,fun _ _=>rfl⟩)
def Dr(prog:Program)(w:World)(A:Around)(s:Shared)(i:Addr)(h:Heap)(x:Value)(G:Heap→Prop):Prop:=
 ∀(Q:Value→Shared→Prop) (E:Value→Shared→Prop),(∀h',G h'→Heap.SameBut i h h'→Q x { s with heap:=h' })→wpAny (model prog w) A (Builtin.SmallTypes.nextOf (.ref i)) Q E { s with heap:=h }
theorem Jh{G1 G2:Heap→Prop}{Q:Value→Shared→Prop}(D:Gi z TI TO i1 i2)(hz:kD s.heap z TI TO f0 f1)(hf:ZF f0)(hI:IsPair s.heap TI (.ref i1) (.ref i2))(hO:IsPair s.heap TO a b)
  (d1:∀h',(∀c o,c≠z→s.heap.get? c=some o→h'.get? c=some o)→Dr prog w A s i1 h' x G1)(d2:∀h',(∀c o,c≠z→c≠TO→c≠i1→s.heap.get? c=some o→h'.get? c=some o)→Dr prog w A s i2 h' y G2)
  (g1:∀h h',G1 h→(∀c o,c≠z→c≠TO→c≠i2→h.get? c=some o→h'.get? c=some o)→G1 h')(g2:∀h h',G2 h→(∀c o,c≠z→c≠TO→h.get? c=some o→h'.get? c=some o)→G2 h')
  (hQ:∀h' k0 k1 p q,kD h' z TI TO k0 k1→ZF k0→IsPair h' TO p q→G1 h'→G2 h'→IsPair h' s.heap.objs.size x y→(∀c o,c≠z→c≠TO→c≠i1→c≠i2→s.heap.get? c=some o→h'.get? c=some o)→Q (.ref s.heap.objs.size) { s with heap:=h' }):
  wpAny (model prog w) A (Builtin.«zip.__next__» ⟨[.ref z],[]⟩) (fun fin s'=>∃v,fin= .done (.ret v)∧Q v s') E s:=by
 show wpAny _ _ (field (.ref z) 2 >>= _) _ _ _
 refine wpAny_bind (wpAny_field hz rfl (x:=.bool false) rfl ?_)
 show wpAny _ _ (field (.ref z) 3 >>= _) _ _ _
 refine wpAny_bind (wpAny_field hz rfl (x:=.ref TI) rfl ?_)
 refine wpAny_bind (wpAny_seqItems hI rfl ?_)
 show wpAny _ _ (Builtin.SmallTypes.ownedTupleIsFree (.ref z) >>= _) _ _ _
 refine wpAny_bind (Jg hz hf ?_ (fun h0 k1 z0 s0=>?_))
 ·simp only[if_true]
  refine wpAny_bind (wpAny_rule ?_)
  refine wpAny_bind (wpAny_field hz rfl (x:=.ref TO) rfl ?_)
  refine wpAny_bind (wpAny_setField_rec hz (by simp) fun h1 z1 s1=>?_)
  replace z1:kD h1 z TI TO .ellipsis f1:=z1
  refine wpAny_bind ?_
  simp only[List.zipIdx_cons,List.zipIdx_nil,List.forIn_cons,List.forIn_nil]
  refine wpAny_bind (wpAny_bind (wpAny_onRaise ?_))
  show wpAny _ _ (Builtin.SmallTypes.nextOf (.ref i1) >>= _) _ _ _
  refine wpAny_bind (d1 h1 (fun c o hc e=>s1.extBut _ _ hc e) _ _ fun h2 v2 s2=>wpAny_pure ?_)
  have o2:IsPair h2 TO a b:=s2.extBut _ _ D.a8 (s1.extBut _ _ D.a2 hO)
  refine wpAny_bind (wpAny_seqItems o2 rfl (wpAny_bind (wpAny_updateSeq_pair o2 fun h3 o3 s3=>?_)))
  replace o3:IsPair h3 TO x b:=o3
  refine wpAny_bind (wpAny_letGo (wpAny_pure ?_))
  refine wpAny_bind (wpAny_bind (wpAny_onRaise ?_))
  show wpAny _ _ (Builtin.SmallTypes.nextOf (.ref i2) >>= _) _ _ _
  refine wpAny_bind (d2 h3 (fun c o c1 c2 c3 e=>s3.extBut _ _ c2 (s2.extBut _ _ c3 (s1.extBut _ _ c1 e))) _ _ fun h4 v4 s4=>wpAny_pure ?_)
  have o4:IsPair h4 TO x b:=s4.extBut _ _ D.a9 o3
  refine wpAny_bind (wpAny_seqItems o4 rfl (wpAny_bind (wpAny_updateSeq_pair o4 fun h5 o5 s5=>?_)))
  replace o5:IsPair h5 TO x y:=o5
  refine wpAny_bind (wpAny_letGo (wpAny_pure (wpAny_pure ?_)))
  refine wpAny_bind (wpAny_seqItems o5 rfl (wpAny_bind (wpAny_newTuple ?_)))
  have sz:h5.objs.size=s.heap.objs.size:=by rw[s5.1,s4.1,s3.1,s2.1,s1.1]
  have z5:kD h5 z TI TO .ellipsis f1:=s5.extBut _ _ D.a2.symm (s4.extBut _ _ D.a4.symm (s3.extBut _ _ D.a2.symm (s2.extBut _ _ D.a3.symm z1)))
  have k5:∀c o,c≠z→c≠TO→c≠i1→c≠i2→s.heap.get? c=some o→h5.get? c=some o:=fun c o c1 c2 c3 c4 e=>s5.extBut _ _ c2 (s4.extBut _ _ c4 (s3.extBut _ _ c2 (s2.extBut _ _ c3 (s1.extBut _ _ c1 e))))
  show wpAny _ _ (Builtin.SmallTypes.ownedTupleHandOut (.ref z) (.ref h5.objs.size) >>= _) _ _ _
  refine wpAny_bind ?_
  unfold Builtin.SmallTypes.ownedTupleHandOut
  have z6:kD (h5.push { cls:=.type "tuple",data:=.seq #[x,y] }) z TI TO .ellipsis f1:=Heap.get?_push_of_some _ z5
  refine wpAny_bind (wpAny_setField_rec z6 (by simp) fun h7 z7 s7=>?_)
  replace z7:kD h7 z TI TO (rawInt h5.objs.size) f1:=z7
  refine wpAny_setField_rec z7 (by simp) fun h8 z8 s8=>?_
  replace z8:kD h8 z TI TO (rawInt h5.objs.size) (.bool false):=z8
  have nz:h5.objs.size≠z:=Nat.ne_of_gt (Heap.lt_size z5)
  have up:∀c o,c≠z→h5.get? c=some o→h8.get? c=some o:=fun c o c1 e=>s8.extBut _ _ c1 (s7.extBut _ _ c1 (Heap.get?_push_of_some _ e))
  have t8:IsPair h8 h5.objs.size x y:=s8.extBut _ _ nz (s7.extBut _ _ nz (Heap.get?_push_size _ rfl))
  rw[sz]at t8
  refine wpAny_pure ⟨_,rfl,?_⟩
  show Q (.ref h5.objs.size) _
  rw[sz]
  refine hQ h8 _ _ _ _ z8 (.inr ⟨_,_,rfl⟩) (up _ _ D.a2 o5) (g1 _ _ v2 fun c o c1 c2 c4 e=>up c o c1 (s5.extBut _ _ c2 (s4.extBut _ _ c4 (s3.extBut _ _ c2 e)))) (g2 _ _ v4 fun c o c1 c2 e=>up c o c1 (s5.extBut _ _ c2 e)) t8 fun c o c1 c2 c3 c4 e=>up c o c1 (k5 c o c1 c2 c3 c4 e)
 ·simp only[Bool.false_eq_true,if_false]
  rw[←Array.forIn_toList]
  simp only[List.forIn_cons,List.forIn_nil]
  refine wpAny_bind (wpAny_bind (wpAny_bind (wpAny_holding ?_)))
  show wpAny _ _ (Builtin.SmallTypes.nextOf (.ref i1) >>= _) _ _ _
  refine wpAny_bind (d1 h0 (fun c o hc e=>s0.extBut _ _ hc e) _ _ fun h1 v1 s1=>wpAny_pure (wpAny_pure ?_))
  refine wpAny_bind (wpAny_bind (wpAny_holding ?_))
  show wpAny _ _ (Builtin.SmallTypes.nextOf (.ref i2) >>= _) _ _ _
  refine wpAny_bind (d2 h1 (fun c o hc _ h1 e=>s1.extBut _ _ h1 (s0.extBut _ _ hc e)) _ _ fun h2 v2 s2=>wpAny_pure (wpAny_pure (wpAny_pure ?_)))
  show wpAny _ _ (newTuple [x,y] >>= _) _ _ _
  have sz:h2.objs.size=s.heap.objs.size:=by rw[s2.1,s1.1,s0.1]
  have z2:kD h2 z TI TO f0 k1:=s2.extBut _ _ D.a4.symm (s1.extBut _ _ D.a3.symm z0)
  have up:∀c o,h2.get? c=some o→(h2.push { cls:=.type "tuple",data:=.seq #[x,y] }).get? c=some o:=fun c o e=>Heap.get?_push_of_some _ e
  refine wpAny_bind (wpAny_newTuple (wpAny_pure ⟨_,rfl,?_⟩))
  show Q (.ref h2.objs.size) _
  have t8:IsPair (h2.push { cls:=.type "tuple",data:=.seq #[x,y] }) h2.objs.size x y:=Heap.get?_push_size _ rfl
  rw[sz]at t8 ⊢
  exact hQ _ _ _ _ _ (up _ _ z2) hf (up _ _ (s2.extBut _ _ D.a9 (s1.extBut _ _ D.a8 (s0.extBut _ _ D.a2 hO)))) (g1 _ _ v1 fun c o _ _ c4 e=>up _ _ (s2.extBut _ _ c4 e)) (g2 _ _ v2 fun c o _ _ e=>up _ _ e) t8 fun c o c1 _ c3 c4 e=>up _ _ (s2.extBut _ _ c4 (s1.extBut _ _ c3 (s0.extBut _ _ c1 e)))
def De(prog:Program)(w:World)(A:Around)(s:Shared)(i:Addr)(h:Heap):Prop:=
 ∀(Q:Value→Shared→Prop) (E:Value→Shared→Prop),(∀h' e,Heap.ExtBut i h h'→(∃o,h'.get? e=some o∧o.cls= .type "StopIteration")→E (.ref e) { s with heap:=h' })→wpAny (model prog w) A (Builtin.SmallTypes.nextOf (.ref i)) Q E { s with heap:=h }
theorem Mz{Q:Fin→Shared→Prop}(D:Gi z TI TO i1 i2)(hz:kD s.heap z TI TO f0 f1)(hf:ZF f0)(hI:IsPair s.heap TI (.ref i1) (.ref i2))(hO:IsPair s.heap TO a b)
  (hd:(∀h',(∀c o,c≠z→s.heap.get? c=some o→h'.get? c=some o)→De prog w A s i1 h')∨
   ∃x G1,(∀h',(∀c o,c≠z→s.heap.get? c=some o→h'.get? c=some o)→Dr prog w A s i1 h' x G1)∧∀h',(∀c o,c≠z→c≠TO→c≠i1→s.heap.get? c=some o→h'.get? c=some o)→De prog w A s i2 h')
  (hE:∀h' e,(∀c o,c≠z→c≠TO→c≠i1→c≠i2→s.heap.get? c=some o→h'.get? c=some o)→(∃o,h'.get? e=some o∧o.cls= .type "StopIteration")→E (.ref e) { s with heap:=h' }):
  wpAny (model prog w) A (Builtin.«zip.__next__» ⟨[.ref z],[]⟩) Q E s:=by
 show wpAny _ _ (field (.ref z) 2 >>= _) _ _ _
 refine wpAny_bind (wpAny_field hz rfl (x:=.bool false) rfl ?_)
 show wpAny _ _ (field (.ref z) 3 >>= _) _ _ _
 refine wpAny_bind (wpAny_field hz rfl (x:=.ref TI) rfl ?_)
 refine wpAny_bind (wpAny_seqItems hI rfl ?_)
 show wpAny _ _ (Builtin.SmallTypes.ownedTupleIsFree (.ref z) >>= _) _ _ _
 refine wpAny_bind (Jg hz hf ?_ (fun h0 k1 z0 s0=>?_))
 ·simp only[if_true]
  refine wpAny_bind (wpAny_rule ?_)
  refine wpAny_bind (wpAny_field hz rfl (x:=.ref TO) rfl ?_)
  refine wpAny_bind (wpAny_setField_rec hz (by simp) fun h1 z1 s1=>?_)
  replace z1:kD h1 z TI TO .ellipsis f1:=z1
  refine wpAny_bind ?_
  simp only[List.zipIdx_cons,List.zipIdx_nil,List.forIn_cons,List.forIn_nil]
  refine wpAny_bind (wpAny_bind (wpAny_onRaise ?_))
  show wpAny _ _ (Builtin.SmallTypes.nextOf (.ref i1) >>= _) _ _ _
  rcases hd with e1|⟨x,G1,d1,e2⟩
  ·refine wpAny_bind (e1 h1 (fun c o hc e=>s1.extBut _ _ hc e) _ _ fun h2 e s2 he=>?_)
   obtain⟨oe,g,hc⟩:=he
   have z2:kD h2 z TI TO .ellipsis f1:=s2 _ _ D.a3.symm z1
   have ez:e≠z:=fun x=>by subst x;rw[z2]at g;cases g;simp at hc
   exact wpAny_setField_rec z2 (by simp) fun h3 _ s3=>hE h3 e (fun c o c1 _ c3 _ x=>s3.extBut _ _ c1 (s2 _ _ c3 (s1.extBut _ _ c1 x))) ⟨oe,s3.extBut _ _ ez g,hc⟩
  ·refine wpAny_bind (d1 h1 (fun c o hc e=>s1.extBut _ _ hc e) _ _ fun h2 v2 s2=>wpAny_pure ?_)
   have o2:IsPair h2 TO a b:=s2.extBut _ _ D.a8 (s1.extBut _ _ D.a2 hO)
   refine wpAny_bind (wpAny_seqItems o2 rfl (wpAny_bind (wpAny_updateSeq_pair o2 fun h3 o3 s3=>?_)))
   refine wpAny_bind (wpAny_letGo (wpAny_pure ?_))
   refine wpAny_bind (wpAny_bind (wpAny_onRaise ?_))
   show wpAny _ _ (Builtin.SmallTypes.nextOf (.ref i2) >>= _) _ _ _
   refine wpAny_bind (e2 h3 (fun c o c1 c2 c3 e=>s3.extBut _ _ c2 (s2.extBut _ _ c3 (s1.extBut _ _ c1 e))) _ _ fun h4 e s4 he=>?_)
   obtain⟨oe,g,hc⟩:=he
   have z4:kD h4 z TI TO .ellipsis f1:=s4 _ _ D.a4.symm (s3.extBut _ _ D.a2.symm (s2.extBut _ _ D.a3.symm z1))
   have ez:e≠z:=fun x=>by subst x;rw[z4]at g;cases g;simp at hc
   exact wpAny_setField_rec z4 (by simp) fun h5 _ s5=>hE h5 e (fun c o c1 c2 c3 c4 x=>s5.extBut _ _ c1 (s4 _ _ c4 (s3.extBut _ _ c2 (s2.extBut _ _ c3 (s1.extBut _ _ c1 x))))) ⟨oe,s5.extBut _ _ ez g,hc⟩
 ·simp only[Bool.false_eq_true,if_false]
  rw[←Array.forIn_toList]
  simp only[List.forIn_cons,List.forIn_nil]
  refine wpAny_bind (wpAny_bind (wpAny_bind (wpAny_holding ?_)))
  show wpAny _ _ (Builtin.SmallTypes.nextOf (.ref i1) >>= _) _ _ _
  rcases hd with e1|⟨x,G1,d1,e2⟩
  ·exact wpAny_bind (e1 h0 (fun c o hc e=>s0.extBut _ _ hc e) _ _ fun h2 e s2 he=>hE h2 e (fun c o c1 _ c3 _ x=>s2 _ _ c3 (s0.extBut _ _ c1 x)) he)
  ·refine wpAny_bind (d1 h0 (fun c o hc e=>s0.extBut _ _ hc e) _ _ fun h1 v1 s1=>wpAny_pure (wpAny_pure ?_))
   refine wpAny_bind (wpAny_bind (wpAny_holding ?_))
   show wpAny _ _ (Builtin.SmallTypes.nextOf (.ref i2) >>= _) _ _ _
   exact wpAny_bind (e2 h1 (fun c o hc _ h1 e=>s1.extBut _ _ h1 (s0.extBut _ _ hc e)) _ _ fun h2 e s2 he=>hE h2 e (fun c o c1 _ c3 c4 x=>s2 _ _ c4 (s1.extBut _ _ c3 (s0.extBut _ _ c1 x))) he)
theorem Ji{G1 G2:Heap→Prop}{Q:Option Value→Shared→Prop}(D:Gi z TI TO i1 i2)(hz:kD s.heap z TI TO f0 f1)(hf:ZF f0)(hI:IsPair s.heap TI (.ref i1) (.ref i2))(hO:IsPair s.heap TO a b)
  (d1:∀h',(∀c o,c≠z→s.heap.get? c=some o→h'.get? c=some o)→Dr prog w A.in1 s i1 h' x G1)(d2:∀h',(∀c o,c≠z→c≠TO→c≠i1→s.heap.get? c=some o→h'.get? c=some o)→Dr prog w A.in1 s i2 h' y G2)
  (g1:∀h h',G1 h→(∀c o,c≠z→c≠TO→c≠i2→h.get? c=some o→h'.get? c=some o)→G1 h')(g2:∀h h',G2 h→(∀c o,c≠z→c≠TO→h.get? c=some o→h'.get? c=some o)→G2 h')
  (hQ:∀h' k0 k1 p q,kD h' z TI TO k0 k1→ZF k0→IsPair h' TO p q→G1 h'→G2 h'→IsPair h' s.heap.objs.size x y→(∀c o,c≠z→c≠TO→c≠i1→c≠i2→s.heap.get? c=some o→h'.get? c=some o)→Q (some (.ref s.heap.objs.size)) { s with heap:=h' }):
  wpAny (model prog w) A (pyNext (.ref z)) Q E s:=by
 have hT:s.TypeIs (.ref z) "zip":=⟨_,hz,rfl⟩
 unfold pyNext
 exact wpAny_bind (wpAny_attempt (wpAny_callSpecial?_slot (name:=Str.ofString "__next__") hT F.slot_zip_next (wpAny_call_entry F.slot_zip_next hT F.entry_zip_next
  (Jh D hz hf hI hO d1 d2 g1 g2 fun h' k0 k1 p q c1 c2 c3 c4 c5 c6 c7=>wpAny_pure (hQ h' k0 k1 p q c1 c2 c3 c4 c5 c6 c7)) (F.args_zip_next_1 _))))
theorem MA{Q:Option Value→Shared→Prop}(D:Gi z TI TO i1 i2)(hz:kD s.heap z TI TO f0 f1)(hf:ZF f0)(hI:IsPair s.heap TI (.ref i1) (.ref i2))(hO:IsPair s.heap TO a b)
  (hd:(∀h',(∀c o,c≠z→s.heap.get? c=some o→h'.get? c=some o)→De prog w A.in1 s i1 h')∨
   ∃x G1,(∀h',(∀c o,c≠z→s.heap.get? c=some o→h'.get? c=some o)→Dr prog w A.in1 s i1 h' x G1)∧∀h',(∀c o,c≠z→c≠TO→c≠i1→s.heap.get? c=some o→h'.get? c=some o)→De prog w A.in1 s i2 h')
  (hQ:∀h',(∀c o,c≠z→c≠TO→c≠i1→c≠i2→s.heap.get? c=some o→h'.get? c=some o)→Q none { s with heap:=h' }):wpAny (model prog w) A (pyNext (.ref z)) Q E s:=by
 have hT:s.TypeIs (.ref z) "zip":=⟨_,hz,rfl⟩
 unfold pyNext
 refine wpAny_bind (wpAny_attempt (wpAny_callSpecial?_slot (name:=Str.ofString "__next__") hT F.slot_zip_next (wpAny_call_entry F.slot_zip_next hT F.entry_zip_next (Mz D hz hf hI hO hd fun h' e hk he=>?_) (F.args_zip_next_1 _))))
 obtain⟨o,ho,hc⟩:=he
 exact wpAny_bind (wpAny_isInstance (T:="StopIteration") (b:=true) ⟨o,ho,hc⟩ isSubtype_stop (wpAny_pure (hQ _ hk)))
end
end PySem
namespace PySem
section
variable{prog:Program}{w:World}{A:Around}{E:Value→Shared→Prop}{s:Shared}{z TI TO:Addr}{f0 f1:Value}
theorem MB{tg:Expr}{T:Addr}{Q:Unit→Shared→Prop}(hz:kD s.heap z TI TO f0 f1)(hf:ZF f0)(q:∀h' k0,kD h' z TI TO k0 f1→ZF k0→Heap.SameBut z s.heap h'→Q () { s with heap:=h' }):
  wpAny (model prog w) A (letOwnedTupleGo tg (.ref z) (.ref T)) Q E s:=by
 have skip:Q () s:=q s.heap f0 hz hf ⟨rfl,fun _ _=>rfl⟩
 have tup:wpAny (model prog w) A (letOwnedTupleGo (.Tuple [] 0 default) (.ref z) (.ref T)) Q E s:=by
  unfold letOwnedTupleGo
  refine wpAny_bind (wpAny_load hz ?_)
  show wpAny _ _ (if (["enumerate","zip","dict_itemiterator","dict_reverseitemiterator","odict_iterator","itertools.zip_longest","itertools.pairwise"].contains "zip"&&(#[f0,f1,.bool false,.ref TI,.ref TO]:Array Value)[0]?==some (rawInt T))=true then _ else _) Q E s
  split
  ·refine wpAny_bind (wpAny_rule ?_)
   show wpAny _ _ (setField (.ref z) 0 .none) Q E s
   exact wpAny_setField_rec hz (by simp) fun h' ve Ii=>q h' _ ve (.inl rfl) Ii
  ·exact wpAny_pure skip
 cases tg<;>first|exact tup|exact wpAny_pure skip
end
end PySem
namespace L2
open PySem PySem.Spec PyProof.Rows
theorem wO{P:Program}{w:World}{K:PySem.W.Frag}{tg:Expr}{J:It}(z TI TO i1 i2:Addr)(D:Gi z TI TO i1 i2)(S1 S2:Nat→Heap→Prop)
  (o1:∀i h,S1 i h→∃o,h.get? i1=some o∧∀v,o.data≠.cell v)(o2:∀i h,S2 i h→∃o,h.get? i2=some o∧∀v,o.data≠.cell v)
  (k1:∀i h h',S1 i h→(∀o,h.get? i1=some o→h'.get? i1=some o)→S1 i h')(k2:∀i h h',S2 i h→(∀o,h.get? i2=some o→h'.get? i2=some o)→S2 i h')
  (go:∀(X:Cx),X.prog=P→X.w=w→X.K=K→X.calm=true→∀(i:Nat) (pins:List (Addr×Obj)) (s:Shared) (σ:St) (H:Hp),Inv X pins σ H s→J.go i H→S1 i s.heap→S2 i s.heap→H s.heap.objs.size=none→∃x y ux uy,RelV x ux∧RelV y uy∧
   (∀h',(∀c o,c≠z→s.heap.get? c=some o→h'.get? c=some o)→Dr P w X.A.in1 s i1 h' ux (S1 (i+1)))∧(∀h',(∀c o,c≠z→c≠TO→c≠i1→s.heap.get? c=some o→h'.get? c=some o)→Dr P w X.A.in1 s i2 h' uy (S2 (i+1)))∧
   J.Ft i H (.ref s.heap.objs.size) (upd H s.heap.objs.size (.tup [x,y])))
  (dn:∀(X:Cx),X.prog=P→X.w=w→X.K=K→X.calm=true→∀(i:Nat) (pins:List (Addr×Obj)) (s:Shared) (σ:St) (H:Hp),Inv X pins σ H s→J.stop i H→S1 i s.heap→S2 i s.heap→
   (∀h',(∀c o,c≠z→s.heap.get? c=some o→h'.get? c=some o)→De P w X.A.in1 s i1 h')∨
   ∃x G1,(∀h',(∀c o,c≠z→s.heap.get? c=some o→h'.get? c=some o)→Dr P w X.A.in1 s i1 h' x G1)∧∀h',(∀c o,c≠z→c≠TO→c≠i1→s.heap.get? c=some o→h'.get? c=some o)→De P w X.A.in1 s i2 h'):
  Turn P w K tg J [z,TI,TO,i1,i2] z (fun i h=>(∃f0 f1,kD h z TI TO f0 f1∧ZF f0)∧IsPair h TI (.ref i1) (.ref i2)∧(∃x y,IsPair h TO x y)∧S1 i h∧S2 i h) where
 mem:=by simp
 obj:=fun i h Z c hc=>by
  obtain⟨⟨f0,f1,hz,_⟩,gI,⟨x,y,gO⟩,j1,j2⟩:=Z
  rcases List.mem_cons.mp hc with rfl|hc
  ·exact⟨_,hz,by simp⟩
  rcases List.mem_cons.mp hc with rfl|hc
  ·exact⟨_,gI,by simp⟩
  rcases List.mem_cons.mp hc with rfl|hc
  ·exact⟨_,gO,by simp⟩
  rcases List.mem_cons.mp hc with rfl|hc
  ·exact o1 _ _ j1
  ·cases List.mem_singleton.mp hc
   exact o2 _ _ j2
 keep:=fun i h h' Z kk=>by
  obtain⟨⟨f0,f1,hz,hf⟩,gI,⟨x,y,gO⟩,j1,j2⟩:=Z
  exact⟨⟨f0,f1,kk _ (by simp) _ hz,hf⟩,kk _ (by simp) _ gI,⟨x,y,kk _ (by simp) _ gO⟩,k1 _ _ _ j1 fun o e=>kk _ (by simp) o e,k2 _ _ _ j2 fun o e=>kk _ (by simp) o e⟩
 item:=fun X hP hw hK hc i pins s σ H E I hf Z hg=>by
  obtain⟨⟨f0,f1,hz,Rp⟩,gI,⟨x0,y0,gO⟩,j1,j2⟩:=Z
  have IT:H s.heap.objs.size=none:=I.bh.fresh (Nat.le_refl _)
  obtain⟨x,y,ux,uy,rx,ry,d1,d2,yl⟩:=go X hP hw hK hc i pins s σ H I hg j1 j2 IT
  subst hP hw hK
  have fZ:∀c∈[z,TI,TO,i1,i2],c<s.heap.objs.size:=fun c bu=>by
   rcases List.mem_cons.mp bu with rfl|bu
   ·exact Heap.lt_size hz
   rcases List.mem_cons.mp bu with rfl|bu
   ·exact Heap.lt_size gI
   rcases List.mem_cons.mp bu with rfl|bu
   ·exact Heap.lt_size gO
   rcases List.mem_cons.mp bu with rfl|bu
   ·obtain⟨o,e,_⟩:=o1 _ _ j1;exact Heap.lt_size e
   ·cases List.mem_singleton.mp bu
    obtain⟨o,e,_⟩:=o2 _ _ j2;exact Heap.lt_size e
  refine Ji D hz Rp gI gO d1 d2 (fun h h' g kk=>k1 _ _ _ g fun o e=>kk i1 o D.a3 D.a8.symm D.Gj e) (fun h h' g kk=>k2 _ _ _ g fun o e=>kk i2 o D.a4 D.a9.symm e) fun h' m0 m1 p q zr hm gO' j1' j2' gT keep=>⟨_,rfl,?_⟩
  refine MB zr hm fun h2 n0 z2 hn s2=>?_
  have up:∀c o,c≠z→h'.get? c=some o→h2.get? c=some o:=fun c o bu e=>s2.extBut _ _ bu e
  have Tz:s.heap.objs.size≠z:=Nat.ne_of_gt (fZ z (by simp))
  have gT2:=up _ _ Tz gT
  have tI:=keep _ _ D.a1 D.a5 D.a6 D.a7 gI
  have qb:∀c u,c∉[z,TI,TO,i1,i2]→s.heap.get? c=some u→h2.get? c=some u:=fun c u bu e=>by
   simp only[List.mem_cons,List.not_mem_nil,or_false,not_or]at bu
   exact up c u bu.1 (keep c u bu.1 bu.2.2.1 bu.2.2.2.1 bu.2.2.2.2 e)
  refine⟨.ref s.heap.objs.size,upd H s.heap.objs.size (.tup [x,y]),I.C_ (t':=s.toks) hf qb (Nat.le_refl _) ⟨by show 2≤sizeLine;decide,[ux,uy],.cons rx (.cons ry .nil),⟨_,gT2,rfl,_,rfl⟩⟩,rfl,yl,⟨⟨_,_,z2,hn⟩,up _ _ D.a1 tI,⟨_,_,up _ _ D.a2 gO'⟩,k1 _ _ _ j1' fun o e=>up _ _ D.a3 e,k2 _ _ _ j2' fun o e=>up _ _ D.a4 e⟩,fun c bu=>?_⟩
  rw[bg (Nat.ne_of_lt (fZ c bu))]
  exact(hf c bu).1
 done:=fun X hP hw hK hc i pins s σ H E I hf Z st=>by
  obtain⟨⟨f0,f1,hz,Rp⟩,gI,⟨x0,y0,gO⟩,j1,j2⟩:=Z
  have hd:=dn X hP hw hK hc i pins s σ H I st j1 j2
  subst hP hw hK
  refine MA D hz Rp gI gO hd fun h' kk=>⟨rfl,I.Dc (t':=s.toks) hf fun c u bu e=>?_⟩
  simp only[List.mem_cons,List.not_mem_nil,or_false,not_or]at bu
  exact kk c u bu.1 bu.2.2.1 bu.2.2.2.1 bu.2.2.2.2 e
 self:=fun A i s Q E Z q=>by
  obtain⟨⟨f0,f1,hz,_⟩,_⟩:=Z
  have hT:s.TypeIs (.ref z) "zip":=⟨_,hz,rfl⟩
  refine wpAny_pyIter_slot hT F.slot_zip_iter (wpAny_call_entry F.slot_zip_iter hT F.entry_zip_iter ?_ (F.args_zip_iter_1 _))
  show wpAny _ _ (ret (.ref z)) _ _ s
  exact wpAny_pure ⟨_,rfl,"zip",_,hT,F.slot_zip_next.lookup,q⟩
end L2
namespace PySem
abbrev MC(h:Heap)(d:Addr)(n ep:Nat):Heap:=h.push { cls:=.type "dict_keyiterator",data:=.fields #[.ref d,.int 0 0,.int n 0,.int ep 0] }
abbrev MD(h:Heap)(d l:Addr)(n ep:Nat):Heap:=(MC h d n ep).push { cls:=.type "list_iterator",data:=.fields #[.ref l,.int 0 0] }
abbrev ME(h:Heap)(d l:Addr)(n ep:Nat):Heap:=(MD h d l n ep).push { cls:=.type "tuple",data:=.seq #[.ref h.objs.size,.ref (MC h d n ep).objs.size] }
abbrev MF(h:Heap)(d l:Addr)(n ep:Nat):Heap:=(ME h d l n ep).push { cls:=.type "tuple",data:=.seq #[.none,.none] }
abbrev Gk(h:Heap)(d l:Addr)(n ep:Nat):Heap:=(MF h d l n ep).push { cls:=.type "zip",data:=.fields #[.none,.bool false,.bool false,.ref (MD h d l n ep).objs.size,.ref (ME h d l n ep).objs.size] }
section
variable{prog:Program}{w:World}{A:Around}{E:Value→Shared→Prop}{s:Shared}
theorem EM{z TI TO i1 i2 a b:Addr}(D:ZipApart z TI TO i1 i2 a b):Gi z TI TO i1 i2:=⟨D.TIz,D.TOz,D.i1z,D.i2z,D.TITO,D.TIi1,D.TIi2,D.TOi1,D.TOi2,D.i12⟩
theorem Jj(d l:Addr)(xs:Array Value)(es:Array DictEntry)(ep:Nat)(nd:(d==sysModules)=false):Meets (Builtin.«zip.__new__» ⟨[.type "zip",.ref d,.ref l],[]⟩) (fun _ R s=>dg s.heap d es ep∧s.heap.IsList l xs∧
   R (.ok (.ret (.ref (MF s.heap d l es.size ep).objs.size))) { s with heap:=Gk s.heap d l es.size ep }):=
 .of_wp fun prog w A R s h=>by
  obtain⟨hp,g,dd,tk,os⟩:=s;obtain⟨hl1,u9,h⟩:=h
  have IH:=sub_zip
  have MG:dg (Shared.heap ⟨hp,g,dd,tk,os⟩) d es ep:=hl1
  have UZ:Heap.IsList (Shared.heap ⟨hp.push { cls:=.type "dict_keyiterator",data:=.fields #[.ref d,.int 0 0,.int es.size 0,.int ep 0] },g,dd,tk,os⟩) l xs:=Heap.IsList.push u9 _
  wp_walk using G4 nd MG,wpAny_pyIter_list UZ
  exact⟨_,rfl,h⟩
theorem Gm{d l:Addr}{xs:Array Value}{es:Array DictEntry}{ep:Nat}{Q:Value→Shared→Prop}(nd:(d==sysModules)=false)(hd:dg s.heap d es ep)(hl:s.heap.IsList l xs)
  (h:∀h',IsZip h' (s.heap.objs.size+4) (s.heap.objs.size+2) (s.heap.objs.size+3) .none→IsPair h' (s.heap.objs.size+2) (.ref s.heap.objs.size) (.ref (s.heap.objs.size+1))→
   IsPair h' (s.heap.objs.size+3) .none .none→h'.IsKeyIter s.heap.objs.size d 0 es.size ep→h'.IsListIter (s.heap.objs.size+1) l 0→(∀c o,s.heap.get? c=some o→h'.get? c=some o)→Q (.ref (s.heap.objs.size+4)) { s with heap:=h' }):
  wpAny (model prog w) A (call (.type "zip") [.ref d,.ref l]) Q E s:=by
 refine callType_new F.called_zip (by decide) (F.typeCall_zip_2 _ _) (F.newCall_zip_2 _ _) (fun obj=>F.args_object_init_3 obj _ _) F.entry_zip_new (Jj d l xs es ep nd) ⟨hd,hl,?_⟩
 have z1:(MC s.heap d es.size ep).objs.size=s.heap.objs.size+1:=Heap.size_push ..
 have z2:(MD s.heap d l es.size ep).objs.size=s.heap.objs.size+2:=by rw[Heap.size_push,z1]
 have z3:(ME s.heap d l es.size ep).objs.size=s.heap.objs.size+3:=by rw[Heap.size_push,z2]
 have z4:(MF s.heap d l es.size ep).objs.size=s.heap.objs.size+4:=by rw[Heap.size_push,z3]
 have g5:(Gk s.heap d l es.size ep).get? (MF s.heap d l es.size ep).objs.size=some _:=Heap.get?_push_size _ rfl
 have g4:(Gk s.heap d l es.size ep).get? (ME s.heap d l es.size ep).objs.size=some _:=Heap.get?_push_of_some _ (Heap.get?_push_size _ rfl)
 have g3:(Gk s.heap d l es.size ep).get? (MD s.heap d l es.size ep).objs.size=some _:=Heap.get?_push_of_some _ (Heap.get?_push_of_some _ (Heap.get?_push_size _ rfl))
 have g2:(Gk s.heap d l es.size ep).get? (MC s.heap d es.size ep).objs.size=some _:=Heap.get?_push_of_some _ (Heap.get?_push_of_some _ (Heap.get?_push_of_some _ (Heap.get?_push_size _ rfl)))
 have g1:(Gk s.heap d l es.size ep).get? s.heap.objs.size=some _:=Heap.get?_push_of_some _ (Heap.get?_push_of_some _ (Heap.get?_push_of_some _ (Heap.get?_push_of_some _ (Heap.get?_push_size _ rfl))))
 show _∧_
 rw[z2,z3,z4]at g5
 rw[z1,z2]at g3
 rw[z3]at g4
 rw[z1]at g2
 rw[z4]
 exact⟨⟨_,g5,rfl⟩,h _ g5 g3 g4 ⟨_,g1,rfl,rfl⟩ ⟨_,g2,rfl,rfl⟩ fun c o x=>
  Heap.get?_push_of_some _ (Heap.get?_push_of_some _ (Heap.get?_push_of_some _ (Heap.get?_push_of_some _ (Heap.get?_push_of_some _ x))))⟩
end
end PySem
namespace L2
open PySem PySem.Spec PyProof.Rows
theorem Dt{P:Program}{w:World}{K:PySem.W.Frag}{tg:Expr}(z TI TO i1 i2 a b:Addr)(D:ZipApart z TI TO i1 i2 a b):
  Turn P w K tg (IW K a b) [z,TI,TO,i1,i2] z (fun i h=>(∃f0 f1,kD h z TI TO f0 f1∧ZF f0)∧IsPair h TI (.ref i1) (.ref i2)∧(∃x y,IsPair h TO x y)∧h.IsListIter i1 a i∧h.IsListIter i2 b i):=by
 have ob:∀{i1 a:Addr}{i:Nat}{h:Heap},h.IsListIter i1 a i→∃o,h.get? i1=some o∧∀v,o.data≠.cell v:=fun⟨o,e,_,d⟩=>⟨o,e,by rw[d];simp⟩
 refine wO z TI TO i1 i2 (EM D) (fun i h=>h.IsListIter i1 a i) (fun i h=>h.IsListIter i2 b i) (fun _ _=>ob) (fun _ _=>ob) (fun _ _ _ j k=>j.at k) (fun _ _ _ j k=>j.at k)
  (fun X hP hw hK hc i pins s σ H I hg j1 j2 hn=>?_) (fun X hP hw hK hc i pins s σ H I hg j1 j2=>?_)
 ·subst hP hw hK
  obtain⟨xs,ys,x,y,rT,nX,hx,hy⟩:=hg
  obtain⟨ia,va,ta,_⟩:=I.list rT
  obtain⟨ib,vb,tb,_⟩:=I.list nX
  obtain⟨ux,Dd,rx⟩:=va.get hx
  obtain⟨uy,IS,ry⟩:=vb.get hy
  refine⟨x,y,ux,uy,rx,ry,fun h' kk Q E q=>?_,fun h' kk Q E q=>?_,⟨_,rfl,hn,fun qW qX h1 h2=>?_⟩⟩
  ·exact wpAny_nextOf_list_item (s:={ s with heap:=h' }) (j1.at fun o e=>kk i1 o D.i1z e) (ta.isList.at fun o e=>kk a o D.l1z e) (by simpa using Dd) q
  ·exact wpAny_nextOf_list_item (s:={ s with heap:=h' }) (j2.at fun o e=>kk i2 o D.i2z D.TOi2.symm D.i12.symm e) (tb.isList.at fun o e=>kk b o D.l2z D.l2TO D.l2i1 e) (by simpa using IS) q
  ·rw[←I.lT rT h1,←I.lT nX h2]
   exact⟨x,y,hx,hy,rfl⟩
 ·subst hP hw hK
  obtain⟨xs,ys,rT,nX,nH⟩:=hg
  obtain⟨ia,va,ta,_⟩:=I.list rT
  obtain⟨ib,vb,tb,_⟩:=I.list nX
  have la:=va.length
  have lb:=vb.length
  have hh:X.A.in1.handled=none:=by simp[I.ok.hd hc]
  by_cases h1:xs.length≤i
  ·exact .inl fun h' kk Q E q=>wpAny_nextOf_list_end (s:={ s with heap:=h' }) hh (j1.at fun o e=>kk i1 o D.i1z e) (ta.isList.at fun o e=>kk a o D.l1z e) (Array.getElem?_eq_none (by simp;omega)) q
  ·obtain⟨ux,Dd,_⟩:=va.get (List.getElem?_eq_getElem (Nat.lt_of_not_le h1))
   refine .inr ⟨ux,fun h=>h.IsListIter i1 a (i+1),fun h' kk Q E q=>?_,fun h' kk Q E q=>?_⟩
   ·exact wpAny_nextOf_list_item (s:={ s with heap:=h' }) (j1.at fun o e=>kk i1 o D.i1z e) (ta.isList.at fun o e=>kk a o D.l1z e) (by simpa using Dd) q
   ·exact wpAny_nextOf_list_end (s:={ s with heap:=h' }) hh (j2.at fun o e=>kk i2 o D.i2z D.TOi2.symm D.i12.symm e) (tb.isList.at fun o e=>kk b o D.l2z D.l2TO D.l2i1 e) (Array.getElem?_eq_none (by simp;omega)) q
section
variable{X:Cx}{e1 e2 tg:Expr}{p1 p2:Pos}{f:Qm.XA}
theorem Jk{t:TA}(hg:Gl X "zip")(hm:X.mg "zip" =none)(ha:PA X [e1,e2] t)(mR:starEach [e1,e2] X.env=(false,eval e1 X.env)::starEach [e2] X.env:=by rfl)(fA:(backTo p2 (starEach [e2] X.env)).any (·.1)=false:=by rfl):
  PI X tg (.Call (.Name "zip" p1) [e1,e2] [] p2) (EA X.K t):=by
 intro pins s σ H R I h
 refine wpAny_Call_Name_kw (i7 I hg hm (u:=.type "zip") (by decide +kernel) ?_)
 refine PyProof.Rows.callWith_type1 (bZ (ha p2 pins s σ H _ I h) fun us s1 ⟨vs,H1,I1,r1,q1⟩=>?_) mR fA
 obtain⟨a,b,xs,ys,rfl,tH,zq,q⟩:=q1
 obtain⟨u1,u2,rfl,ra,rb⟩:=vals2 r1
 cases (show u1=Value.ref a from ra)
 cases (show u2=Value.ref b from rb)
 obtain⟨ia,va,ta,za⟩:=I1.list tH
 obtain⟨ib,vb,tb,zb⟩:=I1.list zq
 have la:a<s1.heap.objs.size:=by obtain⟨o,ho,_⟩:=ta.isList;exact Heap.lt_size ho
 have lb:b<s1.heap.objs.size:=by obtain⟨o,ho,_⟩:=tb.isList;exact Heap.lt_size ho
 refine call_zip_2 ta.isList tb.isList fun h2 hz gI gO j1 j2 sz up=>?_
 refine wpAny_pyIter_zip hz ?_
 have I2:Inv X pins σ H1 { s1 with heap:=h2 }:=I1.kept (t':=s1.toks) up
 have fr:∀c,s1.heap.objs.size≤c→h_ X pins H1 c:=fun c hc=>I1.q_ hc (I1.bh.fresh hc)
 have D:=ye la lb
 refine⟨_,_,_,IW X.K a b,H1,rfl,I2,Dt _ _ _ _ _ a b D,⟨⟨_,_,hz,.inl rfl⟩,gI,⟨_,_,gO⟩,j1,j2⟩,fun c hc=>fr c ?_,q⟩
 simp only[List.mem_cons,List.not_mem_nil,or_false]at hc
 rcases hc with rfl|rfl|rfl|rfl|rfl<;>first|exact Nat.le_refl _|exact Nat.le_add_right _ _
theorem By(hg:Gl X "zip")(hm:X.mg "zip" =none)(ha:QA X [e1,e2] f)(mR:starEach [e1,e2] X.env=(false,eval e1 X.env)::starEach [e2] X.env:=by rfl)(fA:(backTo p2 (starEach [e2] X.env)).any (·.1)=false:=by rfl):
  QI X tg (.Call (.Name "zip" p1) [e1,e2] [] p2) (Qm.lA f):=(Jk hg hm ha mR fA).imp FY
end
end L2
namespace L2
open PySem PySem.Spec PyProof.Rows
def Jl(K:PySem.W.Frag)(d:Addr)(ob:Obj)(us:List (List (List Key)×V))(b:Addr):It:=
 ⟨fun i H=>∃ys y,H d=some (.fX ob (.dU us))∧cy K H b ys∧i<us.length∧ys[i]? =some y,
                           fun i H v H'=>∃T,v= .ref T∧H T=none∧∀ys,cy K H b ys→∃kv y a,us[i]? =some kv∧ys[i]? =some y∧iM H kv.1 a∧H'=upd H T (.tup [.ref a,y]),
                           fun i H=>∃ys,H d=some (.fX ob (.dU us))∧cy K H b ys∧(us.length≤i∨ys.length≤i)⟩
theorem EN{X:Cx}{pins:List (Addr×Obj)}{σ:St}{H:Hp}{s:Shared}{d:Addr}{ob:Obj}{us:List (List (List Key)×V)}{es:Array DictEntry}{ep:Nat}(I:Inv X pins σ H s)(e:H d=some (.fX ob (.dU us)))(Jm:ob.data= .dict es ep):
  ∃xs,KU H us xs∧dg s.heap d es ep∧es.toList=xs.map (entryOfKey (mF (cB X.prog X.w))):=by
 obtain⟨h1,_,_,xs,r,o,K5,K6,h2,h3,h4,h5,_⟩:=(show bV X.prog X.w H s.heap d (.fX ob (.dU us))from I.bh d _ e)
 rw[h1]at h2
 cases h2
 rw[Jm]at h4
 cases h4
 exact⟨xs,r,⟨ob,h1,h3,Jm⟩,h5⟩
theorem Du{P:Program}{w:World}{K:PySem.W.Frag}{tg:Expr}(z TI TO i1 i2 d b:Addr)(D:ZipApart z TI TO i1 i2 d b){ob:Obj}(us:List (List (List Key)×V)){es:Array DictEntry}{ep:Nat}(Jm:ob.data= .dict es ep):
  Turn P w K tg (Jl K d ob us b) [z,TI,TO,i1,i2] z (fun i h=>(∃f0 f1,kD h z TI TO f0 f1∧ZF f0)∧IsPair h TI (.ref i1) (.ref i2)∧(∃x y,IsPair h TO x y)∧h.IsKeyIter i1 d i es.size ep∧h.IsListIter i2 b i):=by
 refine wO z TI TO i1 i2 (EM D) (fun i h=>h.IsKeyIter i1 d i es.size ep) (fun i h=>h.IsListIter i2 b i) (fun _ _ ⟨o,e,_,d⟩=>⟨o,e,by rw[d];simp⟩) (fun _ _ ⟨o,e,_,d⟩=>⟨o,e,by rw[d];simp⟩) (fun _ _ _ j k=>j.at k) (fun _ _ _ j k=>j.at k)
  (fun X hP hw hK hc i pins s σ H I hg j1 j2 hn=>?_) (fun X hP hw hK hc i pins s σ H I hg j1 j2=>?_)
 ·subst hP hw hK
  obtain⟨ys,y,hd,nX,hx,hy⟩:=hg
  obtain⟨xs,rel,de,MH⟩:=EN I hd Jm
  have lx:=rel.length
  have le:es.size=xs.length:=by rw[←Array.length_toList,MH,List.length_map]
  obtain⟨ib,vb,tb,_⟩:=I.list nX
  obtain⟨uy,IS,ry⟩:=vb.get hy
  obtain⟨q,hq,h1,h2,h3⟩:=Dq rel (List.getElem?_eq_getElem hx)
  have he:es[i]? =some (entryOfKey (mF (cB X.prog X.w)) q):=by
   rw[←Array.getElem?_toList,MH,List.getElem?_map,hq]
   rfl
  refine⟨.ref q.2.1,y,.ref q.2.1,uy,rfl,ry,fun h' kk Q E qq=>?_,fun h' kk Q E qq=>?_,⟨_,rfl,hn,fun qX g2=>?_⟩⟩
  ·exact Td (s:={ s with heap:=h' }) (j1.at fun o e=>kk i1 o D.i1z e) (de.at fun o e=>kk d o D.l1z e) he qq
  ·exact wpAny_nextOf_list_item (s:={ s with heap:=h' }) (j2.at fun o e=>kk i2 o D.i2z D.TOi2.symm D.i12.symm e) (tb.isList.at fun o e=>kk b o D.l2z D.l2TO D.l2i1 e) (by simpa using IS) qq
  ·rw[←I.lT nX g2]
   exact⟨_,y,q.2.1,List.getElem?_eq_getElem hx,hy,h2,rfl⟩
 ·subst hP hw hK
  obtain⟨ys,hd,nX,nH⟩:=hg
  obtain⟨xs,rel,de,MH⟩:=EN I hd Jm
  have lx:=rel.length
  have le:es.size=xs.length:=by rw[←Array.length_toList,MH,List.length_map]
  obtain⟨ib,vb,tb,_⟩:=I.list nX
  have lb:=vb.length
  have hh:X.A.in1.handled=none:=by simp[I.ok.hd hc]
  by_cases h1:us.length≤i
  ·exact .inl fun h' kk Q E q=>deE (s:={ s with heap:=h' }) hh (j1.at fun o e=>kk i1 o D.i1z e) (de.at fun o e=>kk d o D.l1z e) (by omega) q
  ·have he:es[i]? =some (es[i]'(by omega)):=Array.getElem?_eq_getElem _
   refine .inr ⟨(es[i]'(by omega)).key,fun h=>h.IsKeyIter i1 d (i+1) es.size ep,fun h' kk Q E q=>?_,fun h' kk Q E q=>?_⟩
   ·exact Td (s:={ s with heap:=h' }) (j1.at fun o e=>kk i1 o D.i1z e) (de.at fun o e=>kk d o D.l1z e) he q
   ·exact wpAny_nextOf_list_end (s:={ s with heap:=h' }) hh (j2.at fun o e=>kk i2 o D.i2z D.TOi2.symm D.i12.symm e) (tb.isList.at fun o e=>kk b o D.l2z D.l2TO D.l2i1 e) (Array.getElem?_eq_none (by simp;omega)) q
def MI(K:PySem.W.Frag)(t:TA):TI:=fun σ H R=>t σ H fun vs H1=>∃a b us ys,vs=[.ref a,.ref b]∧H1 a=some (.dU us)∧H1 b=some (.lst ys)∧∀ob,R (Jl K a ob us b) (upd H1 a (.fX ob (.dU us)))
section
variable{X:Cx}{e1 e2 tg:Expr}{p1 p2:Pos}{f:Qm.XA}
theorem Jn{t:TA}(hg:Gl X "zip")(hm:X.mg "zip" =none)(ha:PA X [e1,e2] t)(mR:starEach [e1,e2] X.env=(false,eval e1 X.env)::starEach [e2] X.env:=by rfl)(fA:(backTo p2 (starEach [e2] X.env)).any (·.1)=false:=by rfl):
  PI X tg (.Call (.Name "zip" p1) [e1,e2] [] p2) (MI X.K t):=by
 intro pins s σ H R I h
 refine wpAny_Call_Name_kw (i7 I hg hm (u:=.type "zip") (by decide +kernel) ?_)
 refine PyProof.Rows.callWith_type1 (bZ (ha p2 pins s σ H _ I h) fun us s1 ⟨vs,H1,I1,r1,q1⟩=>?_) mR fA
 obtain⟨a,b,us,ys,rfl,tH,zq,q⟩:=q1
 obtain⟨u1,u2,rfl,ra,rb⟩:=vals2 r1
 cases (show u1=Value.ref a from ra)
 cases (show u2=Value.ref b from rb)
 obtain⟨z,nd,vs,r,o,es,ep,g2,g3,g4,g5⟩:=(show bV X.prog X.w H1 s1.heap a (.dU us)from I1.bh a _ tH)
 have vO:b≠a:=vQ zq tH (fun z=>nomatch z)
 have r3:KU (upd H1 a (.fX o (.dU us))) us vs:=by
  refine Paired.ur r fun p q w=>⟨w.1,w.2.1.more fun c ys ec=>?_,w.2.2⟩
  rw[bg (vQ ec tH (fun z=>nomatch z))]
  exact ec
 have I2:Inv X pins σ (upd H1 a (.fX o (.dU us))) s1:=nS (ob:=.fX o (.dU us)) (t':=s1.toks) (h':=s1.heap) I1 (by rw[tH];exact True.intro) ⟨rfl,fun _ _=>rfl⟩ ⟨o,g2⟩ ⟨g2,z,nd,vs,r3,o,es,ep,g2,g3,g4,g5⟩
 have IU:(upd H1 a (.fX o (.dU us))) b=some (.lst ys):=by rw[bg vO];exact zq
 obtain⟨ib,vb,tb,zb⟩:=I2.list (cy.of IU)
 have la:a<s1.heap.objs.size:=Heap.lt_size g2
 have lb:b<s1.heap.objs.size:=by obtain⟨o,ho,_⟩:=tb.isList;exact Heap.lt_size ho
 refine Gm nd ⟨o,g2,g3,g4⟩ tb.isList fun h2 hz gI gO j1 j2 up=>?_
 refine wpAny_pyIter_zip hz ?_
 have I3:Inv X pins σ (upd H1 a (.fX o (.dU us))) { s1 with heap:=h2 }:=I2.kept (t':=s1.toks) up
 have fr:∀c,s1.heap.objs.size≤c→h_ X pins (upd H1 a (.fX o (.dU us))) c:=fun c hc=>I2.q_ hc (I2.bh.fresh hc)
 have D:=ye la lb
 refine⟨_,_,_,Jl X.K a o us b,_,rfl,I3,Du _ _ _ _ _ a b D us g4,⟨⟨_,_,hz,.inl rfl⟩,gI,⟨_,_,gO⟩,j1,j2⟩,fun c hc=>fr c ?_,q o⟩
 simp only[List.mem_cons,List.not_mem_nil,or_false]at hc
 rcases hc with rfl|rfl|rfl|rfl|rfl<;>first|exact Nat.le_refl _|exact Nat.le_add_right _ _
theorem Jo(hg:Gl X "zip")(hm:X.mg "zip" =none)(ha:QA X [e1,e2] f)(mR:starEach [e1,e2] X.env=(false,eval e1 X.env)::starEach [e2] X.env:=by rfl)(fA:(backTo p2 (starEach [e2] X.env)).any (·.1)=false:=by rfl):
  QI X tg (.Call (.Name "zip" p1) [e1,e2] [] p2) (Qm.rY f):=(Jn hg hm ha mR fA).imp <| by
 rintro σ H R ⟨ρ,env,c,m,c',rs,re,e,k⟩
 obtain⟨p,ea,e⟩:=aG e
 refine⟨ρ,env,c,p.1,p.2,rs,re,ea,fun aR vs H1 n1 r1=>?_⟩
 split at e
 ·rename_i n m' hp
  split at e
  ·rename_i ps U0
   obtain⟨l,e4,e⟩:=aG e
   cases e
   rw[hp]at r1
   obtain⟨v,u,rfl,rx,ry⟩:=r1.uJ
   obtain⟨hv,hn⟩:=rx.kK
   obtain⟨hu,zv⟩:=ry.kK
   subst hv hu
   obtain⟨us,h1,a1⟩:=n1.rs.ok n _ U0
   obtain⟨Rc,Bo,zg,_,IX,a1'⟩:=n1.rs.bj (d:=.ref m') (.ref zv) (show Qm.bj (.ref m') p.2=some (l.1,l.2)from e4)
   have IY:l.1=m':=by cases Rc;rfl
   rw[IY]at Bo IX
   refine⟨_,_,us,zg,rfl,h1,IX,fun ob=>?_⟩
   have n2:=Nx.Rh (o:=ob) n1.rs U0 a1
   refine k aR _ _ (n1.trans n2) fun jj c2 H2 u2 pZ mG=>?_
   have hN:(p.2.set n (.jZ ps)).length=p.2.length:=List.length_set ..
   have h3:=u2.fz _ _ _ (show upd H1 (aR n) (.fX ob (.dU us)) (aR n)=some (.fX ob (.dU us))from dk)
   have a2:=(a1.up n2.up).up u2
   obtain⟨tK,zw,IZ⟩:=pZ.lst (mG (m',.lst l.2) (by simp))
   rw[u2.agree m' (by rw[hN];exact zv)]at zw
   have l1:=a2.length
   have l2':=IZ.length
   have hl:(Qm.fS (ps.map fun q=>Qm.Bp q.1) l.2).length=min ps.length l.2.length:=by simp[Qm.fS]
   refine⟨fun i hi=>?_,⟨tK,h3,cy.of zw,?_⟩,fun i d x H' hd hy=>?_⟩
   ·dsimp only at hi
    have g1:i<us.length:=by omega
    have g2:i<tK.length:=by omega
    exact⟨tK,tK[i],h3,cy.of zw,g1,List.getElem?_eq_getElem g2⟩
   ·show us.length≤(Qm.fS (ps.map fun q=>Qm.Bp q.1) l.2).length∨tK.length≤(Qm.fS (ps.map fun q=>Qm.Bp q.1) l.2).length
    omega
   ·obtain⟨T,rfl,hT,hy⟩:=hy
    obtain⟨kv,y',ka,g1,g2,g3,rfl⟩:=hy tK (cy.of zw)
    obtain⟨dx,dy,f1,f2,rfl⟩:=tJ hd
    rw[List.getElem?_map]at f1
    cases q:ps[i]? with
    |none=>rw[q]at f1;cases f1
    |some p0=>
     rw[q]at f1
     cases f1
     obtain⟨v1,q1,r1⟩:=a2.at_ q
     rw[g1]at q1
     cases q1
     obtain⟨v2,q2,r2⟩:=IZ.get f2
     rw[g2]at q2;cases q2
     have n:=Nx.same pZ (iU (z:=.tup [.ref ka,y']) hT)
     exact⟨n,.tup dk (.cons ((EG g3).up n.up) (.cons (r2.up n.up) .nil))⟩
  ·cases e
 ·cases e
end
end L2
namespace Qm
open PySem
noncomputable section
def EO:G2:=fun x y c=>match x,y with
 |.tup xs,.tup ys=>(nums xs).bind fun ns=>(nums ys).bind fun ms=>some (.bl (iX ms ns),c)
 |_,_=>none
def r_:FN:=one fun x c=>(bj x c).bind fun l=>(nums l.2).bind fun is=>if is.length<64 then some (.ref c.length,c++[.lst ((is.mergeSort fun a b=>decide (a≤b)).map .int)])else none
def wQ:FN:=fun ds c=>match ds with
 |[.int i,.int j,.int k,.int l,.int m,.int n]=>some (.int (max (max (max (max (max i j) k) l) m) n),c)
 |_=>none
end
end Qm
namespace Qm
open PySem
noncomputable section
def oj(o:D):FN:=one fun y c=>(bj o c).bind fun l=>(match y with
 |.tup ys=>if l.2.length+ys.length≤cR then some (D.bF,c.set l.1 (.lst (l.2++ys)))else none
 |_=>none)
end
end Qm
namespace PySem
open Sem (wp)
section
variable{prog:Program}{w:World}{A:Around}{E:Value→Shared→Prop}{s:Shared}
theorem Jp(a b c d e f:Value):argsOk "max" ⟨[a,b,c,d,e,f],[]⟩:=by unfold argsOk;kernel_rfl
theorem mr(g:Nat→Int)(n:Nat):g (argBest (fun i j=>decide (g i > g j)) (n+1))=max (g (argBest (fun i j=>decide (g i > g j)) n)) (g (n+1)):=by
 show g (if decide (g (n+1) > g (argBest (fun i j=>decide (g i > g j)) n))=true then n+1 else argBest (fun i j=>decide (g i > g j)) n)=_
 split
 ·rename_i h
  have:=of_decide_eq_true h
  omega
 ·rename_i h
  have:¬g (n+1) > g (argBest (fun i j=>decide (g i > g j)) n):=fun z=>h (decide_eq_true z)
  omega
theorem Gn{ps:Array (Int×Tok)}(hp:ps.size=6){Q:Value→Shared→Prop}(hh:A.handled=none)
  (h:∀h' tk t,(∀d o,s.heap.get? d=some o→h'.get? d=some o)→Q (.int (max (max (max (max (max (numAt ps 0) (numAt ps 1)) (numAt ps 2)) (numAt ps 3)) (numAt ps 4)) (numAt ps 5)) t) { s with heap:=h',toks:=tk })
  {a b c d e f:Value}(hi:intItems ps= #[a,b,c,d,e,f]):wpAny (model prog w) A (call (.builtin "max") [a,b,c,d,e,f]) Q E s:=by
 have Rq:(toString "max"++toString ".loop":String)= "max.loop":=by decide
 refine call_function_tree F.kind_max F.plain_max F.entry_max (Jp _ _ _ _ _ _) ?_
 show wpAny _ A.in1 (Builtin.Builtins.bindParams "max" ["key","default"] 0 ⟨[],[]⟩ >>= _) _ _ s
 refine wpAny_bind (wpAny_of_eq (show Builtin.Builtins.bindParams "max" ["key","default"] 0 ⟨[],[]⟩=pure [none,none] from rfl) ?_)
 show wpAny _ A.in1 (newTuple [a,b,c,d,e,f] >>= _) _ _ s
 refine wpAny_bind (wpAny_newObj_type ?_)
 have hT:(s.heap.push { cls:=.type "tuple",data:=.seq #[a,b,c,d,e,f] }).IsTuple s.heap.objs.size (intItems ps):=⟨_,Heap.get?_push_size _ rfl,rfl,0,by rw[hi]⟩
 have hsz:(s.heap.push { cls:=.type "tuple",data:=.seq #[a,b,c,d,e,f] }).objs.size=s.heap.objs.size+1:=Heap.size_push ..
 refine wpAny_bind (wpAny_pyIter_tuple hT ?_)
 have hI:s.heap.objs.size≠(s.heap.push { cls:=.type "tuple",data:=.seq #[a,b,c,d,e,f] }).objs.size:=by rw[hsz];exact Nat.ne_of_lt (Nat.lt_succ_self _)
 have W:=Walks.tuple (prog:=prog) (w:=w) (A:=A.in1) hh (s.heap.push { cls:=.type "tuple",data:=.seq #[a,b,c,d,e,f] }).objs.size s.heap.objs.size hI (intItems ps)
 refine wpAny_bind (wpAny_newObj_type ?_)
 rw[Rq]
 have hn:(intItems ps).size=6:=by simp[intItems,hp]
 refine wpAny_pure ⟨plainId_quiet F.plain_max_loop _,codeAny_max_loop_first W (fun i j=>decide (numAt ps i > numAt ps j)) (CmpOf.ints_gt (numAt ps) (fun _ _=>intItems_at)) _ ?_ (by rw[hn];decide) (W.frame _ _ _ ⟨⟨_,Heap.get?_push_size _ rfl,rfl,rfl⟩,hT.push _⟩ fun b _ o e=>Heap.get?_push_of_some _ e) (Heap.get?_push_size _ rfl) fun v h' tk hP hk=>?_⟩
 ·intro hm
  simp only[List.mem_cons,List.not_mem_nil,or_false]at hm
  rcases hm with hm|hm
  ·exact absurd hm (by rw[Heap.size_push];exact Nat.ne_of_gt (Nat.lt_succ_self _))
  ·exact absurd hm (by rw[Heap.size_push,hsz];exact Nat.ne_of_gt (Nat.lt_succ_of_lt (Nat.lt_succ_self _)))
 ·have hold:∀d o,s.heap.get? d=some o→h'.get? d=some o:=fun d o e=>by
   have hd:=Heap.lt_size e
   refine hk d o (fun hm=>?_) ?_ (Heap.get?_push_of_some _ (Heap.get?_push_of_some _ (Heap.get?_push_of_some _ e)))
   ·cases List.mem_singleton.mp hm
    rw[hsz]at hd
    exact Nat.lt_irrefl _ (Nat.lt_of_succ_lt hd)
   ·rw[Heap.size_push,hsz]
    exact Nat.ne_of_lt (Nat.lt_succ_of_lt (Nat.lt_succ_of_lt hd))
  obtain⟨t,rfl⟩:=intItems_at hP
  have e6:(intItems ps).size - 1=0+1+1+1+1+1:=by rw[hn]
  rw[e6,mr (numAt ps),mr (numAt ps),mr (numAt ps),mr (numAt ps),mr (numAt ps)]
  exact h h' tk t hold
end
end PySem
namespace L2
open PySem PySem.Spec PyProof.Rows
section
variable{X:Cx}
theorem Dv(hc:X.calm=true):gK X (.builtin "max") (fun xs H Q=>∃i j k l m n,xs=[.int i,.int j,.int k,.int l,.int m,.int n]∧Q (.int (max (max (max (max (max i j) k) l) m) n)) H):=by
 intro pins s σ H xs us Q I r h
 obtain⟨i,j,k,l,m,n,rfl,q⟩:=h
 cases r with
 |cons r1 r=>
  cases r with
  |cons r2 r=>
   cases r with
   |cons r3 r=>
    cases r with
    |cons r4 r=>
     cases r with
     |cons r5 r=>
      cases r with
      |cons r6 r=>
       cases r
       obtain⟨t1,rfl⟩:=r1
       obtain⟨t2,rfl⟩:=r2
       obtain⟨t3,rfl⟩:=r3
       obtain⟨t4,rfl⟩:=r4
       obtain⟨t5,rfl⟩:=r5
       obtain⟨t6,rfl⟩:=r6
       exact Gn (ps:=#[(i,t1),(j,t2),(k,t3),(l,t4),(m,t5),(n,t6)]) rfl (I.ok.hd hc) (fun h' tk t hk=>⟨.int _,H,I.kept hk,⟨t,rfl⟩,q⟩) (by simp[intItems])
theorem Jq{K:PySem.W.Frag}:qB K (fun xs H Q=>∃i j k l m n,xs=[.int i,.int j,.int k,.int l,.int m,.int n]∧Q (.int (max (max (max (max (max i j) k) l) m) n)) H) Qm.wQ:=by
 intro ρ c H ds d c' vs Q rs ra e k
 unfold Qm.wQ at e
 split at e
 ·cases e
  cases ra with
  |cons r1 ra=>
   cases ra with
   |cons r2 ra=>
    cases ra with
    |cons r3 ra=>
     cases ra with
     |cons r4 ra=>
      obtain⟨v5,v6,rfl,r5,r6⟩:=ra.uJ
      cases r1.eR;cases r2.eR;cases r3.eR;cases r4.eR;cases r5.eR;cases r6.eR
      exact⟨_,_,_,_,_,_,rfl,k ρ _ H (Nx.refl rs) (.int _)⟩
 ·cases e
def OS(K:PySem.W.Frag):R2:=fun x y H Q=>∃p q ns ms,x= .ref p∧y= .ref q∧dj K H p (ns.map V.int)∧dj K H q (ms.map V.int)∧Q (.bl (iX ms ns)) H
theorem MJ(hu:X.A.units+64<cLine):gJ X (compareOp .Lt) (OS X.K):=by
 intro pins s σ H x y v u Q I rx ry h
 obtain⟨p,q,ns,ms,rfl,rfl,h1,h2,k⟩:=h
 cases rx
 cases ry
 obtain⟨xs,r1,t1,_⟩:=I.tuple h1
 obtain⟨ys,r2,t2,_⟩:=I.tuple h2
 exact FW t1 t2 (by simpa using ints_of r1) (by simpa using ints_of r2) (by omega) ⟨.bl _,H,I,rfl,k⟩
theorem MK{K:PySem.W.Frag}:j4 K (OS K) Qm.EO:=by
 intro ρ c H x y d c' v u Q rs rx ry e k
 unfold Qm.EO at e
 split at e
 ·obtain⟨ns,e1,e⟩:=aG e
  obtain⟨ms,e2,e⟩:=aG e
  cases e
  obtain⟨p,vs,rfl,h1,a1⟩:=rx.jG
  obtain⟨q,us,rfl,h2,a2⟩:=ry.jG
  rw[rS a1 e1]at h1
  rw[rS a2 e2]at h2
  exact⟨p,q,ns,ms,rfl,rfl,dj.of h1,dj.of h2,by rw[Ex];exact k ρ _ H (Nx.refl rs) (.bl _)⟩
 ·cases e
theorem ql:∀{us:List Value}{ns:List Int},IntsAre us ns→Vals (ns.map V.int) us
 |_,_,.nil=>.nil
 |_,_,.cons n t r=>.cons ⟨t,rfl⟩ (ql r)
theorem jn:∀{xs ys:List Int},xs.Perm ys→xs.Pairwise (·≤·)→ys.Pairwise (·≤·)→xs=ys
 |[],_,p,_,_=>(List.nil_perm.mp p).symm
 |x::xs,[],p,_,_=>absurd p.length_eq (by simp)
 |x::xs,y::ys,p,h1,h2=>by
  have e:x=y:=by
   have m1:x∈y::ys:=p.subset List.mem_cons_self
   have m2:y∈x::xs:=p.symm.subset List.mem_cons_self
   rcases List.mem_cons.mp m1 with e|m1
   ·exact e
   rcases List.mem_cons.mp m2 with e|m2
   ·exact e.symm
   have a1:=(List.pairwise_cons.mp h1).1 _ m2
   have a2:=(List.pairwise_cons.mp h2).1 _ m1
   omega
  subst e
  rw[jn (List.Perm.cons_inv p) (List.pairwise_cons.mp h1).2 (List.pairwise_cons.mp h2).2]
theorem ML{xs ns:List Int}(p:xs.Perm ns)(h:xs.Pairwise (·≤·)):xs=ns.mergeSort fun a b=>decide (a≤b):=by
 refine jn (p.trans (List.mergeSort_perm ..).symm) h ?_
 have:=List.pairwise_mergeSort (le:=fun a b:Int=>decide (a≤b)) (fun a b c h1 h2=>by simp at *;omega) (fun a b=>by simp;omega) ns
 exact this.imp fun h=>by simpa using h
theorem Bz:gK X (.builtin "sorted") (fun xs H Q=>∃l,∃is:List Int,xs=[.ref l]∧cy X.K H l (is.map V.int)∧is.length<64∧∀D,H D=none→Q (.ref D) (upd H D (.lst ((is.mergeSort fun a b=>decide (a≤b)).map V.int)))):=by
 intro pins s σ H xs us Q I r h
 obtain⟨l,is,rfl,hl,hz,q⟩:=h
 obtain⟨u,rfl,e1⟩:=vals1 r
 cases e1
 obtain⟨its,rv,pl,zl⟩:=I.list hl
 have lv:=rv.length
 rw[List.length_map]at lv zl
 refine sorted_ints pl.isList (ints_of rv) (by omega) fun out ns' a1 a2 a3=>?_
 obtain⟨e,he⟩:=sortedAll_at s.heap its out
 have hn:=ML a2 a3
 refine⟨.ref (s.heap.objs.size+1),_,I.laid (a:=s.heap.objs.size+1) (t':=s.toks) (fun _ _=>sortedAll_old) (Nat.le_succ _) (show bV X.prog X.w _ _ _ (.lst (ns'.map V.int))from⟨by rw[List.length_map,a2.length_eq];exact zl,out.toList,e,ql a1,by simpa using he⟩),rfl,?_⟩
 rw[hn]
 exact q _ (I.bh.fresh (Nat.le_succ _))
theorem Gp{K:PySem.W.Frag}:qB K (fun xs H Q=>∃l,∃is:List Int,xs=[.ref l]∧cy K H l (is.map V.int)∧is.length<64∧∀D,H D=none→Q (.ref D) (upd H D (.lst ((is.mergeSort fun a b=>decide (a≤b)).map V.int)))) Qm.r_:=by
 intro ρ c H ds d c' vs Q rs ra e k
 obtain⟨x,rfl,e⟩:=i_ e
 obtain⟨v,rfl,rx⟩:=ra.jF
 obtain⟨l,e1,e⟩:=aG e
 obtain⟨is,e2,e⟩:=aG e
 split at e
 ·rename_i hz
  cases e
  obtain⟨_,hc,ws,rfl,h1,a1⟩:=rs.bj rx e1
  rw[rS a1 e2]at h1
  refine⟨_,is,rfl,cy.of h1,hz,fun q hq=>?_⟩
  obtain⟨n,r⟩:=Nx.alloc rs hq (oh (is.mergeSort fun a b=>decide (a≤b)))
  exact k _ _ _ n r
 ·cases e
end
end L2
namespace L2
open PySem PySem.Spec PyProof.Rows
theorem Jr{X:Cx}:∀q∈([]:List (Nat×Qm.FN)),EB X q.1 q.2:=fun q h=>nomatch h
theorem yh{X:Cx}{a:Nat}{F:Qm.FN}{l:List (Nat×Qm.FN)}{k:Nat}{fd:FuncData}{ps:List Str}(h:bK X.prog X.w X.K X.mg X.base dm k a fd ps (dG X.K F))(hr:fP k X.A)(hk:PySem.W.keepIn X.K (.ref a)=true)(hb:Binds X.K fd ps [])(r:∀q∈l,EB X q.1 q.2):∀q∈(a,F)::l,EB X q.1 q.2:=fun q m=>by
 rcases List.mem_cons.mp m with rfl|m
 ·exact⟨⟨k,fd,ps,h,hr,hk,hb⟩⟩
 ·exact r q m
def spT(K:PySem.W.Frag)(F:Nat→Nat→Qm.FN):Sp:=fun vs H Q E=>∀x y,x≠y→dG K (F x y) vs H Q E
theorem Gq{c1 c2:Value}{d1 d2:Option Addr}{f1 f2:FuncData}{s1 s2:Array (Option Value)}(h:f1.name≠f2.name)(e:(some ⟨c1,d1,.func f1,s1⟩:Option Obj)=some ⟨c2,d2,.func f2,s2⟩):False:=by
 injection e with e
 injection e with _ _ e _
 injection e with e
 exact h (congrArg FuncData.name e)
end L2
namespace PySem
open Sem (wp)
open AutoSeq1 (wpAny_loadPart')
theorem Js(l b:Addr)(xs ys:Array Value)(n m:Nat)(d2:Option Addr)(sl:Array (Option Value))(h0:¬(!xs.isEmpty&&Builtin.List.listTooLong (xs.size+ys.size))=true)(h1:xs.size≤sizeLine)(h2:xs.size+ys.size≤sizeLine+1):
  Meets (Builtin.«list.extend» ⟨[.ref l,.ref b],[]⟩) (fun _ R s=>s.heap.get? l=some { cls:=.type "list",dict:=none,data:=.seq xs n,slots:=#[] }∧s.heap.get? b=some { cls:=.type "tuple",dict:=d2,data:=.seq ys m,slots:=sl }∧R (.ok (.ret Value.none)) { s with heap:=s.heap.update l (Obj.mapSeq fun x=>x++ys),toks:=s.toks }):=
 .of_wp fun prog w A R s h=>by
  obtain⟨hp,g,d,tk,os⟩:=s
  obtain⟨hl,hb,h⟩:=h
  have f1:=AutoSeq1.idx_int
  have f2:=AutoSeq1.sub_tuple_tuple
  have f3:=AutoSeq1.sub_list_list
  have f4:=AutoSeq1.sub_tuple_list
  have f5:=AutoSeq1.sub_list_tuple
  have hz:(xs++ys).size≤sizeLine+1:=by rw[Array.size_append];exact h2
  wp_walk using(wpAny_updateSeq hl rfl (hz:=h1) (_hz':=hz)),wpAny_loadPart' hl,wpAny_loadPart' hb
  exact⟨_,rfl,h⟩
end PySem
namespace L2
open PySem PySem.Spec PyProof.Rows
def Jt:V→List V→Hp→VK→Prop:=fun x vs H Q=>∃l b xs zs,x= .ref l∧vs=[.ref b]∧H l=some (.lst xs)∧H b=some (.tup zs)∧xs.length+zs.length≤sizeLine∧Q .bF (upd H l (.lst (xs++zs)))
section
variable{X:Cx}
theorem BA:CT X "list.extend" Jt:=by
 intro pins s σ H x vs v us Q I rx rv h
 obtain⟨l,b,xs,zs,rfl,rfl,hH,hB,hz,q⟩:=h
 cases rx
 obtain⟨u,rfl,ru⟩:=rv.one
 cases ru
 obtain⟨z,its,n,r,hl,e⟩:=I.uA hH
 obtain⟨z2,lW,r2,o,e2,c2,n2,d2⟩:=(show bV X.prog X.w H s.heap b (.tup zs)from I.bh b _ hB)
 have u9:=r2.length
 obtain⟨oc,od,US,nQ⟩:=o
 simp only at c2 d2
 subst c2 d2
 have hsz:its.toArray.size+lW.toArray.size≤sizeLine:=by rw[List.size_toArray,List.size_toArray];omega
 have CU:¬(!its.toArray.isEmpty&&Builtin.List.listTooLong (its.toArray.size+lW.toArray.size))=true:=by
  rw[x4 hsz,Bool.and_false]
  exact Bool.false_ne_true
 refine call_meets F.slot_list_extend ⟨_,e,rfl⟩ F.entry_list_extend (F.args_list_extend_2 _ _) (PySem.Js l b its.toArray lW.toArray n n2 od nQ CU (by rw[List.size_toArray];omega) (by omega)) ⟨e,e2,?_⟩
 refine⟨.bF,_,I.AU (its':=its++lW) hH e (by simp) (r.append r2) ?_,rfl,q⟩
 rw[List.length_append]
 omega
theorem BB{K:PySem.W.Frag}:FO K Jt Qm.oj:=by
 intro ρ c H x ds d c' v vs Q rs rx ra e k
 unfold Qm.oj Qm.one at e
 split at e
 ·rename_i y
  obtain⟨l,e1,e⟩:=aG e
  split at e
  ·rename_i ys
   obtain⟨u,rfl,ry⟩:=ra.jF
   split at e
   ·rename_i hz
    cases e
    obtain⟨_,hn,ws,rfl,h,a⟩:=rs.bj rx e1
    obtain⟨b,us,rfl,h2,a2⟩:=ry.jG
    have n:=Nx.put rs hn (a.append a2)
    exact⟨_,_,ws,us,rfl,rfl,h,h2,md (by rw[←a.length,←a2.length];exact hz),k ρ _ _ n .bF⟩
   ·cases e
  ·cases e
 ·cases e
end
end L2
namespace L2
open PySem
section
variable{X:Cx}{b e:Expr}{es:List Expr}{fb:Qm.XE}{pos p:Pos}
theorem qv(i:Nat){x:Str}(hN:X.N[i]? =some x:=by rfl)(hv:Cy X.env.scope x:=by first|exact Or.inl rfl|exact Or.inr (Or.inl rfl)|exact Or.inr (Or.inr rfl))(hd:(x=="__debug__")=false:=by decide)(hc:(x=="__classdict__")=false:=by decide):QE X (.Name x pos) (Qm.eV i):=Mc i (pv i hN hv hd hc)
theorem aZ(i:Nat){x:Str}(hb:QE X b fb)(hN:X.N[i]? =some x:=by rfl)(hv:Cy X.env.scope x:=by first|exact Or.inl rfl|exact Or.inr (Or.inl rfl)|exact Or.inr (Or.inr rfl))(hs:rE b:=by exact fun _ _=>rfl)(hd:(x=="__debug__")=false:=by decide)(hc:(x=="__classdict__")=false:=by decide):QE X (.Subscript (.Name x p) b pos) (Qm.e2 Qm.aw (Qm.eV i) fb):=dB (qv i hN hv hd hc) hb hs
theorem bG{k:Nat}{f:Addr}{fd:FuncData}{ps:List Str}{F:Qm.FN}{x:Str}{fx:Qm.XA}(G:bK X.prog X.w X.K X.mg X.base dm k f fd ps (dG X.K F))(hm:X.mg x=some (.ref f))(hk:PySem.W.keepIn X.K (.ref f)=true)(hb:Binds X.K fd ps [])(hr:fP k X.A)(ha:QA X (e::es) fx)
  (hg:Gl X x:=by rfl)(hd:(x=="__debug__")=false:=by decide)(he:starEach (e::es) X.env=(false,eval e X.env)::starEach es X.env:=by rfl)(hp:(backTo pos (starEach es X.env)).any (·.1)=false:=by rfl):QE X (.Call (.Name x p) (e::es) [] pos) (Qm.aq F [] fx):=Iu [] G hr hg hm hk hb .nil (fun _ _ _=>.nil) ha hd he hp
end
end L2
namespace My
abbrev T3:=Int×Int×Int
def bB(p:T3):Prop:=A9 p.1 p.2.1 p.2.2
def aU(p q:T3):Bool:=mJ p.1 p.2.1 p.2.2 q.1 q.2.1 q.2.2
theorem Ju{a b c d e f:Int}(hb: 0<b)(hd: 0<d)(hf: 0<f)(h1:a*d<c*b)(h2:c*f<e*d):a*f<e*b:=by
 have a1:a*d*f<c*b*f:=Int.mul_lt_mul_of_pos_right h1 hf
 have a2:c*f*b<e*d*b:=Int.mul_lt_mul_of_pos_right h2 hb
 have e1:a*d*f=(a*f)*d:=by grind
 have e2:c*b*f=c*f*b:=by grind
 have e3:e*d*b=(e*b)*d:=by grind
 have:(a*f)*d<(e*b)*d:=by omega
 exact Int.lt_of_mul_lt_mul_right this (Int.le_of_lt hd)
theorem Rr{a b c d e f:Int}(hd: 0<d)(h1:a*d=c*b)(h2:c*f=e*d):a*f=e*b:=by
 have:(a*f)*d=(e*b)*d:=by grind
 exact Int.eq_of_mul_eq_mul_right (by omega) this
theorem MM{a b c d e f:Int}(hb: 0<b)(hd: 0<d)(hf: 0<f)(h1:a*d<c*b)(h2:c*f=e*d):a*f<e*b:=by
 have a1:a*d*f<c*b*f:=Int.mul_lt_mul_of_pos_right h1 hf
 have e1:a*d*f=(a*f)*d:=by grind
 have e2:c*b*f=(e*b)*d:=by
  rw[show c*b*f=(c*f)*b by grind,h2];grind
 have:(a*f)*d<(e*b)*d:=by omega
 exact Int.lt_of_mul_lt_mul_right this (Int.le_of_lt hd)
theorem MN{a b c d e f:Int}(hb: 0<b)(hd: 0<d)(h1:a*d=c*b)(h2:c*f<e*d):a*f<e*b:=by
 have a1:c*f*b<e*d*b:=Int.mul_lt_mul_of_pos_right h2 hb
 have e1:c*f*b=(a*f)*d:=by
  rw[show c*f*b=(c*b)*f by grind,←h1];grind
 have e2:e*d*b=(e*b)*d:=by grind
 have:(a*f)*d<(e*b)*d:=by omega
 exact Int.lt_of_mul_lt_mul_right this (Int.le_of_lt hd)
theorem jo{p q:T3}:aU p q=true↔p.1*q.2.2<q.1*p.2.2∨(p.1*q.2.2=q.1*p.2.2∧p.2.1*q.2.2<q.2.1*p.2.2):=by
 unfold aU mJ
 split
 ·rename_i h
  simp only[decide_eq_true_eq]
  constructor
  ·exact fun z=>.inr ⟨h,z⟩
  ·rintro(z|z)
   ·omega
   ·exact z.2
 ·rename_i h
  simp only[decide_eq_true_eq]
  constructor
  ·exact fun z=>.inl z
  ·rintro(z|z)
   ·exact z
   ·exact absurd z.1 h
theorem BC(p:T3):aU p p=false:=by
 cases h:aU p p with
 |false=>rfl
 |true=>
  rcases jo.mp h with z|z
  ·omega
  ·omega
theorem mU{p q r:T3}(hp:bB p)(hq:bB q)(hr:bB r)(h1:aU p q=true)(h2:aU q r=true):aU p r=true:=by
 have p0:=hp.pos;have q0:=hq.pos;have r0:=hr.pos
 rw[jo]at h1 h2 ⊢
 rcases h1 with h1|⟨e1,h1⟩<;>rcases h2 with h2|⟨e2,h2⟩
 ·exact .inl (Ju p0 q0 r0 h1 h2)
 ·exact .inl (MM p0 q0 r0 h1 e2)
 ·exact .inl (MN p0 q0 e1 h2)
 ·exact .inr ⟨Rr q0 e1 e2,Ju p0 q0 r0 h1 h2⟩
theorem dq{p q:T3}(h:aU p q=true):aU q p=false:=by
 cases h2:aU q p with
 |false=>rfl
 |true=>
  rw[jo]at h h2
  rcases h with h|h<;>rcases h2 with h2|h2<;>omega
theorem wR{p q:T3}(hp:bB p)(hq:bB q)(h1:aU p q=false)(h2:aU q p=false):p=q:=by
 have n1:¬(aU p q=true):=by rw[h1];decide
 have n2:¬(aU q p=true):=by rw[h2];decide
 rw[jo]at n1 n2
 have e1:p.1*q.2.2=q.1*p.2.2:=by omega
 have e2:p.2.1*q.2.2=q.2.1*p.2.2:=by omega
 obtain⟨a,b,c⟩:=uD hp hq e1 e2
 obtain⟨x,y,w⟩:=p
 obtain⟨x',y',w'⟩:=q
 dsimp only at a b c
 subst a b c
 rfl
def U1(l:List T3)(k:Nat):List T3:=l.drop k++l.take k
end My
namespace My
abbrev P2:=Int×Int
def cr(a b:P2):Int:=a.1*b.2 - b.1*a.2
def ch:List P2→Int
 |a::b::l=>cr a b+ch (b::l)
 |_=>0
def cz:List (P2×P2)→Int
 |[]=>0
 |z::l=>cr z.1 z.2+cz l
end My
set_option maxHeartbeats 2000000
namespace My
def cV(p q:T3):P2:=(q.1*p.2.2 - p.1*q.2.2,q.2.1*p.2.2 - p.2.1*q.2.2)
def tN(a b:P2):Int:=a.1*b.2 - a.2*b.1
def Gr(a b:P2):Bool:=decide (tN a b=0)&&(decide (a.1*b.1≤0)&&decide (a.2*b.2≤0))
def rI(y v k:Int):Int:=if decide (y<0)=decide (v<0)then 0 else if 0<k then(if y<0 then 1 else 0)else(if y<0 then 0 else -1)
def rby(a b:P2):Int:=rI a.2 b.2 (tN a b)
structure Sg(x y z:Int):Prop where
 pp: 0<x→0<y→0<z
 nn:x<0→y<0→0<z
 pn: 0<x→y<0→z<0
 np:x<0→0<y→z<0
 z1:x=0→z=0
 z2:y=0→z=0
theorem Jv(x y:Int):Sg x y (x*y):=⟨Int.mul_pos,Int.mul_pos_of_neg_of_neg,Int.mul_neg_of_pos_of_neg,Int.mul_neg_of_neg_of_pos,fun h=>by rw[h,Int.zero_mul],fun h=>by rw[h,Int.mul_zero]⟩
theorem wU{a b:P2}:Gr a b=true↔tN a b=0∧a.1*b.1≤0∧a.2*b.2≤0:=by
 unfold Gr
 simp only[Bool.and_eq_true,decide_eq_true_eq]
theorem qm(z:Int): 0<z∨z=0∨z<0:=by omega
theorem Jw(p a b:T3):tN (cV p a) (cV p b)=p.2.2*det a.1 a.2.1 a.2.2 b.1 b.2.1 b.2.2 p.1 p.2.1 p.2.2:=by
 obtain⟨p0,p1,p2⟩:=p
 obtain⟨a0,a1,a2⟩:=a
 obtain⟨b0,b1,b2⟩:=b
 simp only[tN,cV,det];grind
theorem om{p0 p1 p2 q0 q1 q2:Int}:mJ p0 p1 p2 q0 q1 q2=true↔p0*q2<q0*p2∨(p0*q2=q0*p2∧p1*q2<q1*p2):=jo (p:=(p0,p1,p2)) (q:=(q0,q1,q2))
theorem ja{p s e:Int}(hp: 0<p)(h:p*s=e):(0<s→0<e)∧(s=0→e=0)∧(s<0→e<0):=by
 subst h
 exact⟨Int.mul_pos hp,fun h=>by rw[h,Int.mul_zero],Int.mul_neg_of_pos_of_neg hp⟩
theorem onI{x y u v k1 k2 k3 k4 m1 m2 n1 n2 s t:Int}(s1:Sg x u k1)(s2:Sg y v k2)(s3:Sg x v k3)(s4:Sg y u k4)(c:k3 - k4=0)(e1:(0<x→0<m1)∧(x=0→m1=0)∧(x<0→m1<0))(e2:(0<u→0<m2)∧(u=0→m2=0)∧(u<0→m2<0))(e3:(0<y→0<n1)∧(y=0→n1=0)∧(y<0→n1<0))(e4:(0<v→0<n2)∧(v=0→n2=0)∧(v<0→n2<0))
  (f1:(0<s→0<m1 - m2)∧(s=0→m1 - m2=0)∧(s<0→m1 - m2<0))(f2:(0<t→0<n1 - n2)∧(t=0→n1 - n2=0)∧(t<0→n1 - n2<0)):
  (if s<0∨(s=0∧t<0)then ¬(0<x∨(x=0∧0<y))∧¬(u<0∨(u=0∧v<0))else ¬(0<u∨(u=0∧0<v))∧¬(x<0∨(x=0∧y<0)))↔k1≤0∧k2≤0:=by
 obtain⟨e1,Dw,yi⟩:=e1
 obtain⟨e2,jY,Jx⟩:=e2
 obtain⟨e3,Rt,Jy⟩:=e3
 obtain⟨e4,Ru,Jz⟩:=e4
 rcases qm x with hx|hx|hx<;>rcases qm y with hy|hy|hy<;>rcases qm u with hu|hu|hu<;>rcases qm v with hv|hv|hv<;>(first|replace s1:=Sg.pp s1 hx hu|replace s1:=Sg.nn s1 hx hu|replace s1:=Sg.pn s1 hx hu|replace s1:=Sg.np s1 hx hu|replace s1:=Sg.z1 s1 hx|replace s1:=Sg.z2 s1 hu)<;>(first|replace s2:=Sg.pp s2 hy hv|replace s2:=Sg.nn s2 hy hv|replace s2:=Sg.pn s2 hy hv|replace s2:=Sg.np s2 hy hv|replace s2:=Sg.z1 s2 hy|replace s2:=Sg.z2 s2 hv)<;>(first|replace s3:=Sg.pp s3 hx hv|replace s3:=Sg.nn s3 hx hv|replace s3:=Sg.pn s3 hx hv|replace s3:=Sg.np s3 hx hv|replace s3:=Sg.z1 s3 hx|replace s3:=Sg.z2 s3 hv)<;>(first|replace s4:=Sg.pp s4 hy hu|replace s4:=Sg.nn s4 hy hu|replace s4:=Sg.pn s4 hy hu|replace s4:=Sg.np s4 hy hu|replace s4:=Sg.z1 s4 hy|replace s4:=Sg.z2 s4 hu)<;>(first|(exfalso;clear e1 Dw yi e2 jY Jx e3 Rt Jy e4 Ru Jz f1 f2;omega)|((first|replace e1:=e1 hx|replace e1:=Dw hx|replace e1:=yi hx)<;>(first|replace e2:=e2 hu|replace e2:=jY hu|replace e2:=Jx hu)<;>(first|replace e3:=e3 hy|replace e3:=Rt hy|replace e3:=Jy hy)<;>(first|replace e4:=e4 hv|replace e4:=Ru hv|replace e4:=Jz hv)<;>clear Dw yi jY Jx Rt Jy Ru Jz<;>split<;>omega))
theorem BD{p a b:T3}(hp: 0<p.2.2)(ha: 0<a.2.2)(hb: 0<b.2.2):wm p.1 p.2.1 p.2.2 a.1 a.2.1 a.2.2 b.1 b.2.1 b.2.2=Gr (cV p a) (cV p b):=by
 have cd:=Jw p a b
 obtain⟨p0,p1,p2⟩:=p
 obtain⟨a0,a1,a2⟩:=a
 obtain⟨b0,b1,b2⟩:=b
 dsimp only at*
 have hd:det a0 a1 a2 b0 b1 b2 p0 p1 p2=0↔tN (cV (p0,p1,p2) (a0,a1,a2)) (cV (p0,p1,p2) (b0,b1,b2))=0:=by
  rw[cd]
  exact⟨fun h=>by rw[h,Int.mul_zero],fun h=>(Int.mul_eq_zero.mp h).resolve_left (by omega)⟩
 have key:wm p0 p1 p2 a0 a1 a2 b0 b1 b2=true↔Gr (cV (p0,p1,p2) (a0,a1,a2)) (cV (p0,p1,p2) (b0,b1,b2))=true:=by
  rw[wU]
  unfold wm
  by_cases h:det a0 a1 a2 b0 b1 b2 p0 p1 p2=0
  ·rw[if_pos h,←hd]
   simp only[h,true_and]
   have h':=hd.mp h
   have e:∀x y:Bool,(!x&&!y)=true↔¬x=true∧¬y=true:=by decide
   have k:=onI (x:=a0*p2 - p0*a2) (y:=a1*p2 - p1*a2) (u:=b0*p2 - p0*b2) (v:=b1*p2 - p1*b2) (s:=a0*b2 - b0*a2) (t:=a1*b2 - b1*a2) (m1:=b2*(a0*p2 - p0*a2)) (m2:=a2*(b0*p2 - p0*b2)) (n1:=b2*(a1*p2 - p1*a2)) (n2:=a2*(b1*p2 - p1*b2)) (Jv _ _) (Jv _ _) (Jv _ _) (Jv _ _) h' (ja hb rfl) (ja ha rfl) (ja hb rfl) (ja ha rfl) (ja hp (by grind)) (ja hp (by grind))
   simp only[cV]
   rw[←k]
   have w1:mJ a0 a1 a2 b0 b1 b2=true↔a0*b2 - b0*a2<0∨(a0*b2 - b0*a2=0∧a1*b2 - b1*a2<0):=by rw[om];omega
   have w2:mJ p0 p1 p2 a0 a1 a2=true↔0<a0*p2 - p0*a2∨(a0*p2 - p0*a2=0∧0<a1*p2 - p1*a2):=by rw[om];omega
   have w3:mJ b0 b1 b2 p0 p1 p2=true↔b0*p2 - p0*b2<0∨(b0*p2 - p0*b2=0∧b1*p2 - p1*b2<0):=by rw[om];omega
   have w4:mJ p0 p1 p2 b0 b1 b2=true↔0<b0*p2 - p0*b2∨(b0*p2 - p0*b2=0∧0<b1*p2 - p1*b2):=by rw[om];omega
   have w5:mJ a0 a1 a2 p0 p1 p2=true↔a0*p2 - p0*a2<0∨(a0*p2 - p0*a2=0∧a1*p2 - p1*a2<0):=by rw[om];omega
   by_cases hw:mJ a0 a1 a2 b0 b1 b2=true
   ·rw[if_pos hw,if_pos (w1.mp hw),←w2,←w3];exact e _ _
   ·rw[if_neg hw,if_neg (fun g=>hw (w1.mpr g)),←w4,←w5];exact e _ _
  ·rw[if_neg h]
   simp only[Bool.false_eq_true,false_iff,not_and]
   exact fun h2=>absurd (hd.mpr h2) h
 cases h1:wm p0 p1 p2 a0 a1 a2 b0 b1 b2<;>cases h2:Gr (cV (p0,p1,p2) (a0,a1,a2)) (cV (p0,p1,p2) (b0,b1,b2))<;>simp_all
def sm(f:T3→T3→Int):List (T3×T3)→Int
 |[]=>0
 |z::zs=>f z.1 z.2+sm f zs
def an(f:T3→T3→Bool)(zs:List (T3×T3)):Bool:=zs.any fun z=>f z.1 z.2
def U2(p a b:T3):Bool:=Gr (cV p a) (cV p b)
def U3(p a b:T3):Int:=rby (cV p a) (cV p b)
def wh(l:List T3)(p:T3):Int:=if an (U2 p) (l.zip (U1 l 1))=true then 0 else if sm (U3 p) (l.zip (U1 l 1))=0 then -1 else 1
end My
set_option maxHeartbeats 2000000
namespace My
inductive Dx where
 |none|mv(p:T3)|gh(p q:T3)
 deriving DecidableEq
def aO(a b c:T3):Int:=det a.1 a.2.1 a.2.2 b.1 b.2.1 b.2.2 c.1 c.2.1 c.2.2
def ei(p a b:T3):Bool:=wm p.1 p.2.1 p.2.2 a.1 a.2.1 a.2.2 b.1 b.2.1 b.2.2
def fw(a b:T3):T3×T3:=if aU a b=true then(a,b)else(b,a)
def jH(l r:T3×T3):Dx:=
 let p:=if aU l.1 r.1=true then r.1 else l.1
 let q:=if aU l.2 r.2=true then l.2 else r.2
 if p=q then .mv p else if aU p q=true then .gh p q else .none
def mX(a b c d:T3):Int:=m0 a.1 a.2.1 a.2.2 b.1 b.2.1 b.2.2 c.1 c.2.1 c.2.2 d.1 d.2.1 d.2.2
def mY(a b c d:T3):Int:=m1 a.1 a.2.1 a.2.2 b.1 b.2.1 b.2.2 c.1 c.2.1 c.2.2 d.1 d.2.1 d.2.2
def mW(a b c d:T3):Int:=m2 a.1 a.2.1 a.2.2 b.1 b.2.1 b.2.2 c.1 c.2.1 c.2.2 d.1 d.2.1 d.2.2
def spT(x y w:Int):T3:=(sx x y w,sy x y w,sw x y w)
def cm(a b c d:T3):Dx:=
 if sgn (aO a b c)=0∧sgn (aO a b d)=0 then jH (fw a b) (fw c d)
 else if 0<sgn (aO a b c)*sgn (aO a b d)∨0<sgn (aO c d a)*sgn (aO c d b)then .none
 else .mv (spT (mX a b c d) (mY a b c d) (mW a b c d))
theorem jA{p q:T3}(hp:bB p)(hq:bB q):aU p q=true∨p=q∨aU q p=true:=by
 cases h1:aU p q
 ·cases h2:aU q p
  ·exact .inr (.inl (wR hp hq h1 h2))
  ·exact .inr (.inr rfl)
 ·exact .inl rfl
theorem JA{a b:T3}(ha:bB a)(hb:bB b)(h:a≠b):fw b a=fw a b:=by
 unfold fw
 rcases jA ha hb with h1|h1|h1
 ·rw[if_pos h1,if_neg (by rw[dq h1];decide)]
 ·exact absurd h1 h
 ·rw[if_pos h1,if_neg (by rw[dq h1];decide)]
theorem ir{a b:T3}(ha:bB a)(hb:bB b):bB (fw a b).1∧bB (fw a b).2:=by
 unfold fw;split
 ·exact⟨ha,hb⟩
 ·exact⟨hb,ha⟩
theorem Dy{l r:T3×T3}(l1:bB l.1)(l2:bB l.2)(r1:bB r.1)(r2:bB r.2):jH r l=jH l r:=by
 have e1:(if aU r.1 l.1=true then l.1 else r.1)=(if aU l.1 r.1=true then r.1 else l.1):=by
  rcases jA l1 r1 with h|h|h
  ·rw[if_pos h,if_neg (by rw[dq h];decide)]
  ·rw[h]
  ·rw[if_pos h,if_neg (by rw[dq h];decide)]
 have e2:(if aU r.2 l.2=true then r.2 else l.2)=(if aU l.2 r.2=true then l.2 else r.2):=by
  rcases jA l2 r2 with h|h|h
  ·rw[if_pos h,if_neg (by rw[dq h];decide)]
  ·rw[h]
  ·rw[if_pos h,if_neg (by rw[dq h];decide)]
 unfold jH
 dsimp only
 rw[e1,e2]
theorem j7{n:Int}:sgn n=0↔n=0:=⟨jS,fun h=>by rw[h];rfl⟩
theorem JB(n:Int):(0<n∧sgn n=1)∨(n=0∧sgn n=0)∨(n<0∧sgn n= -1):=by
 unfold sgn
 split
 ·omega
 ·split<;>omega
theorem iw(x y:Int): 0<sgn x*sgn y↔(0<x∧0<y)∨(x<0∧y<0):=by
 rcases JB x with⟨h1,e1⟩|⟨h1,e1⟩|⟨h1,e1⟩<;>rcases JB y with⟨h2,e2⟩|⟨h2,e2⟩|⟨h2,e2⟩<;>rw[e1,e2]<;>omega
theorem tQ(a b c d:T3):c.2.2*aO a b d - d.2.2*aO a b c=mW a b c d:=QJ ..
theorem bQ(a b c d:T3):b.2.2*aO c d a - a.2.2*aO c d b=mW a b c d:=QK ..
theorem se(a b c:T3):aO b a c= - aO a b c:=FI ..
theorem BE(a b c d:T3):mX c d a b= - mX a b c d∧mY c d a b= - mY a b c d∧mW c d a b= - mW a b c d:=L0 ..
theorem pH{a b c d:T3}(ha: 0<a.2.2)(hb: 0<b.2.2)(fH:(cV a b).1≠0∨(cV a b).2≠0)(h1:aO a b c=0)(h2:aO a b d=0):aO c d a=0∧aO c d b=0:=by
 have e:mW a b c d=0:=by rw[←tQ,h1,h2];omega
 have k:=bQ a b c d
 rw[e]at k
 -- det(c,d,a) times AH way from a to b
 have z1:aO c d a*(cV a b).1=0:=by
  have:aO c d a*(cV a b).1=aO a b c*(a.1*d.2.2 - d.1*a.2.2)*1+aO a b d*(c.1*a.2.2 - a.1*c.2.2):=by
   unfold aO det cV;dsimp only;grind
  rw[this,h1,h2];omega
 have z2:aO c d a*(cV a b).2=0:=by
  have:aO c d a*(cV a b).2=aO a b c*(a.2.1*d.2.2 - d.2.1*a.2.2)+aO a b d*(c.2.1*a.2.2 - a.2.1*c.2.2):=by
   unfold aO det cV;dsimp only;grind
  rw[this,h1,h2];omega
 have r0:aO c d a=0:=by
  rcases fH with g|g
  ·exact(Int.mul_eq_zero.mp z1).resolve_right g
  ·exact(Int.mul_eq_zero.mp z2).resolve_right g
 refine⟨r0,?_⟩
 rw[r0]at k
 have:a.2.2*aO c d b=0:=by omega
 exact(Int.mul_eq_zero.mp this).resolve_left (by omega)
theorem vF{a b:T3}(ha:bB a)(hb:bB b)(h:a≠b):(cV a b).1≠0∨(cV a b).2≠0:=by
 by_cases h1:(cV a b).1=0
 ·by_cases h2:(cV a b).2=0
  ·exfalso
   refine h (wR ha hb ?_ ?_)
   ·rw[←Bool.not_eq_true,jo]
    simp only[cV]at h1 h2;omega
   ·rw[←Bool.not_eq_true,jo]
    simp only[cV]at h1 h2;omega
  ·exact .inr h2
 ·exact .inl h1
theorem JC{c d P Q M:Int}(hc: 0<c)(hd: 0<d)(e:c*Q - d*P=M):(M=0→¬((0<P∧0<Q)∨(P<0∧Q<0))→P=0∧Q=0)∧(0<M→¬((0<P∧0<Q)∨(P<0∧Q<0))→P≤0∧0≤Q)∧(M<0→¬((0<P∧0<Q)∨(P<0∧Q<0))→0≤P∧Q≤0):=by
 have s1:=ja (s:=Q) hc rfl
 have s2:=ja (s:=P) hd rfl
 generalize c*Q=x at*
 generalize d*P=y at*
 rcases qm P with h1|h1|h1<;>rcases qm Q with h2|h2|h2<;>refine⟨fun _ _=>?_,fun _ _=>?_,fun _ _=>?_⟩<;>omega
theorem tO{a b c d:T3}(hc: 0<c.2.2)(hd: 0<d.2.2)(h1:¬(sgn (aO a b c)=0∧sgn (aO a b d)=0))(h2:¬0<sgn (aO a b c)*sgn (aO a b d)):mW a b c d≠0:=by
 intro e
 rw[iw]at h2
 rw[j7,j7]at h1
 exact h1 ((JC hc hd (tQ a b c d)).1 e h2)
theorem BF{x y w:Int}(h:w≠0):spT (-x) (-y) (-w)=spT x y w:=by
 obtain⟨e1,e2,e3⟩:=FJ (x:=x) (y:=y) h
 unfold spT;rw[e1,e2,e3]
theorem JD{a b c d:T3}(ha:bB a)(hb:bB b)(hc:bB c)(hd:bB d)(h1:a≠b)(h2:c≠d):cm c d a b=cm a b c d:=by
 have U4:(sgn (aO c d a)=0∧sgn (aO c d b)=0)↔(sgn (aO a b c)=0∧sgn (aO a b d)=0):=by
  simp only[j7]
  exact⟨fun h=>pH hc.pos hd.pos (vF hc hd h2) h.1 h.2,fun h=>pH ha.pos hb.pos (vF ha hb h1) h.1 h.2⟩
 unfold cm
 by_cases g:sgn (aO a b c)=0∧sgn (aO a b d)=0
 ·rw[if_pos g,if_pos (U4.mpr g)]
  exact Dy (ir ha hb).1 (ir ha hb).2 (ir hc hd).1 (ir hc hd).2
 ·rw[if_neg g,if_neg (fun z=>g (U4.mp z))]
  by_cases k: 0<sgn (aO a b c)*sgn (aO a b d)∨0<sgn (aO c d a)*sgn (aO c d b)
  ·rw[if_pos k,if_pos (Or.comm.mp k)]
  ·rw[if_neg k,if_neg (fun z=>k (Or.comm.mp z))]
   obtain⟨e1,e2,e3⟩:=BE a b c d
   rw[e1,e2,e3,BF (tO hc.pos hd.pos g (fun z=>k (.inl z)))]
theorem yj{a b c d:T3}(ha: 0<a.2.2)(hb: 0<b.2.2)(hm:mW a b c d≠0)(hR:¬((0<aO c d a∧0<aO c d b)∨(aO c d a<0∧aO c d b<0))):ei (spT (mX a b c d) (mY a b c d) (mW a b c d)) a b=true:=by
 have pw:=sw_pos (x:=mX a b c d) (y:=mY a b c d) hm
 unfold ei
 rw[BD (p:=spT (mX a b c d) (mY a b c d) (mW a b c d)) pw ha hb]
 -- in adQ of AH turns
 have x1:=vq (mX a b c d) (mY a b c d) (mW a b c d)
 have x2:=vt (mX a b c d) (mY a b c d) (mW a b c d)
 have x3:=pB (mX a b c d) (mY a b c d) (mW a b c d)
 have g0:=rG (x:=mX a b c d) (y:=mY a b c d) hm
 have cx:mX a b c d=aO c d a*b.1 - aO c d b*a.1:=(H_ ..).symm
 have cy':mY a b c d=aO c d a*b.2.1 - aO c d b*a.2.1:=(Ia ..).symm
 have cw:mW a b c d=aO c d a*b.2.2 - aO c d b*a.2.2:=(Ib ..).symm
 unfold spT
 generalize sx (mX a b c d) (mY a b c d) (mW a b c d)=X at*
 generalize sy (mX a b c d) (mY a b c d) (mW a b c d)=Y at*
 generalize sw (mX a b c d) (mY a b c d) (mW a b c d)=W at*
 generalize jx (mX a b c d) (mY a b c d) (mW a b c d)=g at*
 rw[cx]at x1
 rw[cy']at x2
 rw[cw]at x3 hm
 generalize aO c d a=R at*
 generalize aO c d b=S at*
 rw[wU]
 obtain⟨a0,a1,A⟩:=a
 obtain⟨b0,b1,B⟩:=b
 dsimp only[cV]at*
 -- times g
 have u0:g*(a0*W - X*A)=R*(a0*B - b0*A):=by
  have:g*(a0*W - X*A)=a0*(g*W) - (g*X)*A:=by grind
  rw[this,x1,x3];grind
 have u1:g*(a1*W - Y*A)=R*(a1*B - b1*A):=by
  have:g*(a1*W - Y*A)=a1*(g*W) - (g*Y)*A:=by grind
  rw[this,x2,x3];grind
 have v0:g*(b0*W - X*B)=S*(a0*B - b0*A):=by
  have:g*(b0*W - X*B)=b0*(g*W) - (g*X)*B:=by grind
  rw[this,x1,x3];grind
 have v1:g*(b1*W - Y*B)=S*(a1*B - b1*A):=by
  have:g*(b1*W - Y*B)=b1*(g*W) - (g*Y)*B:=by grind
  rw[this,x2,x3];grind
 have gg: 0<g*g:=by
  rcases qm g with h|h|h
  ·exact Int.mul_pos h h
  ·exact absurd h g0
  ·exact Int.mul_pos_of_neg_of_neg h h
 have rs:R*S≤0:=by
  have:=Jv R S
  obtain⟨p1,p2,p3,p4,p5,p6⟩:=this
  rcases qm R with h|h|h<;>rcases qm S with h'|h'|h'<;>first|omega|(have:=p3 h h';omega)|(have:=p4 h h';omega)|(have:=p5 h;omega)|(have:=p6 h';omega)
 have U5:∀z:Int,0≤z*z:=fun z=>by
  rcases qm z with h|h|h
  ·exact Int.le_of_lt (Int.mul_pos h h)
  ·rw[h];decide
  ·exact Int.le_of_lt (Int.mul_pos_of_neg_of_neg h h)
 refine⟨?_,?_,?_⟩
 ·have e:g*g*tN (a0*W - X*A,a1*W - Y*A) (b0*W - X*B,b1*W - Y*B)=0:=by
   have:g*g*tN (a0*W - X*A,a1*W - Y*A) (b0*W - X*B,b1*W - Y*B)=(g*(a0*W - X*A))*(g*(b1*W - Y*B)) - (g*(a1*W - Y*A))*(g*(b0*W - X*B)):=by unfold tN;grind
   rw[this,u0,u1,v0,v1];grind
  exact(Int.mul_eq_zero.mp e).resolve_left (by omega)
 ·have e:g*g*((a0*W - X*A)*(b0*W - X*B))=R*S*((a0*B - b0*A)*(a0*B - b0*A)):=by
   have:g*g*((a0*W - X*A)*(b0*W - X*B))=(g*(a0*W - X*A))*(g*(b0*W - X*B)):=by grind
   rw[this,u0,v0];grind
  have n:R*S*((a0*B - b0*A)*(a0*B - b0*A))≤0:=Int.mul_nonpos_of_nonpos_of_nonneg rs (U5 _)
  have z:=ja (s:=(a0*W - X*A)*(b0*W - X*B)) gg e
  omega
 ·have e:g*g*((a1*W - Y*A)*(b1*W - Y*B))=R*S*((a1*B - b1*A)*(a1*B - b1*A)):=by
   have:g*g*((a1*W - Y*A)*(b1*W - Y*B))=(g*(a1*W - Y*A))*(g*(b1*W - Y*B)):=by grind
   rw[this,u1,v1];grind
  have n:R*S*((a1*B - b1*A)*(a1*B - b1*A))≤0:=Int.mul_nonpos_of_nonpos_of_nonneg rs (U5 _)
  have z:=ja (s:=(a1*W - Y*A)*(b1*W - Y*B)) gg e
  omega
theorem zK(a b:T3):aO a b a=0:=by unfold aO det;grind
theorem zL(a b:T3):aO a b b=0:=by unfold aO det;grind
def le(p q:T3):Prop:=aU q p=false
theorem le_trans{p q r:T3}(hp:bB p)(hq:bB q)(hr:bB r)(h1:le p q)(h2:le q r):le p r:=by
 unfold le at*
 cases h:aU r p
 ·rfl
 ·rcases jA hq hr with g|g|g
  ·have:=mU hq hr hp g h;rw[h1]at this;cases this
  ·rw[g]at h1;rw[h1]at h;cases h
  ·rw[h2]at g;cases g
theorem jU{p q:T3}(h:aU p q=true):le p q:=dq h
theorem le_refl(p:T3):le p p:=BC p
theorem dM{p a b:T3}(h:aO a b p=0):ei p a b=true↔le (fw a b).1 p∧le p (fw a b).2:=by
 have h':det a.1 a.2.1 a.2.2 b.1 b.2.1 b.2.2 p.1 p.2.1 p.2.2=0:=h
 unfold ei wm
 rw[if_pos h']
 unfold fw le
 have e:∀x y:Bool,(!x&&!y)=true↔x=false∧y=false:=by decide
 by_cases g:aU a b=true
 ·rw[if_pos g,if_pos (show mJ a.1 a.2.1 a.2.2 b.1 b.2.1 b.2.2=true from g)];exact e _ _
 ·rw[if_neg g,if_neg (show ¬mJ a.1 a.2.1 a.2.2 b.1 b.2.1 b.2.2=true from g)];exact e _ _
theorem U6{l r:T3}(hl:bB l)(hr:bB r):le l (if aU l r=true then r else l)∧le r (if aU l r=true then r else l)∧((if aU l r=true then r else l)=l∨(if aU l r=true then r else l)=r):=by
 by_cases h:aU l r=true
 ·rw[if_pos h];exact⟨jU h,le_refl _,.inr rfl⟩
 ·rw[if_neg h];exact⟨le_refl _,by unfold le;simpa using h,.inl rfl⟩
theorem U7{l r:T3}(hl:bB l)(hr:bB r):le (if aU l r=true then l else r) l∧le (if aU l r=true then l else r) r∧((if aU l r=true then l else r)=l∨(if aU l r=true then l else r)=r):=by
 by_cases h:aU l r=true
 ·rw[if_pos h];exact⟨le_refl _,jU h,.inl rfl⟩
 ·rw[if_neg h];exact⟨by unfold le;simpa using h,le_refl _,.inr rfl⟩
theorem vG(a b:T3):((fw a b).1=a∨(fw a b).1=b)∧((fw a b).2=a∨(fw a b).2=b):=by
 unfold fw;split
 ·exact⟨.inl rfl,.inr rfl⟩
 ·exact⟨.inr rfl,.inl rfl⟩
def Told(a b c d p:T3):Prop:=bB p∧ei p a b=true∧ei p c d=true
theorem Gs{a b c d:T3}(ha:bB a)(hb:bB b)(hc:bB c)(hd:bB d)(h1:a≠b)(h2:c≠d)(g1:aO a b c=0)(g2:aO a b d=0):
  (∀p,jH (fw a b) (fw c d)= .mv p→Told a b c d p)∧(∀p q,jH (fw a b) (fw c d)= .gh p q→Told a b c d p∧Told a b c d q):=by
 obtain⟨g3,g4⟩:=pH ha.pos hb.pos (vF ha hb h1) g1 g2
 obtain⟨l1,l2⟩:=ir ha hb
 obtain⟨r1,r2⟩:=ir hc hd
 obtain⟨m1,m2,m3⟩:=U6 l1 r1
 obtain⟨n1,n2,n3⟩:=U7 l2 r2
 obtain⟨f1,f2⟩:=vG a b
 obtain⟨e1,e2⟩:=vG c d
 have rowOf:∀p,(p=a∨p=b)∨(p=c∨p=d)→aO a b p=0∧aO c d p=0∧bB p:=by
  rintro p ((rfl|rfl)|(rfl|rfl))
  ·exact⟨zK _ _,g3,ha⟩
  ·exact⟨zL _ _,g4,hb⟩
  ·exact⟨g1,zK _ _,hc⟩
  ·exact⟨g2,zL _ _,hd⟩
 unfold jH
 dsimp only
 generalize (if aU (fw a b).1 (fw c d).1=true then(fw c d).1 else(fw a b).1)=P at*
 generalize (if aU (fw a b).2 (fw c d).2=true then(fw a b).2 else(fw c d).2)=Q at*
 have rp:=rowOf P (by rcases m3 with z|z<;>rw[z];exact .inl f1;exact .inr e1)
 have rq:=rowOf Q (by rcases n3 with z|z<;>rw[z];exact .inl f2;exact .inr e2)
 have key:le P Q→Told a b c d P∧Told a b c d Q:=fun h=>by
  refine⟨⟨rp.2.2,(dM rp.1).mpr ⟨m1,le_trans rp.2.2 rq.2.2 l2 h n1⟩,(dM rp.2.1).mpr ⟨m2,le_trans rp.2.2 rq.2.2 r2 h n2⟩⟩,⟨rq.2.2,(dM rq.1).mpr ⟨le_trans l1 rp.2.2 rq.2.2 m1 h,n1⟩,(dM rq.2.1).mpr ⟨le_trans r1 rp.2.2 rq.2.2 m2 h,n2⟩⟩⟩
 refine⟨fun p hp=>?_,fun p q hp=>?_⟩
 ·split at hp
  ·rename_i h
   cases hp
   exact(key (by rw[h];exact le_refl _)).1
  ·split at hp<;>cases hp
 ·split at hp
  ·cases hp
  ·split at hp
   ·rename_i h
    cases hp
    exact key (jU h)
   ·cases hp
theorem JE{a b c d:T3}(ha:bB a)(hb:bB b)(hc:bB c)(hd:bB d)(h1:a≠b)(h2:c≠d):
  (∀p,cm a b c d= .mv p→Told a b c d p)∧(∀p q,cm a b c d= .gh p q→Told a b c d p∧Told a b c d q):=by
 unfold cm
 by_cases g:sgn (aO a b c)=0∧sgn (aO a b d)=0
 ·rw[if_pos g]
  exact Gs ha hb hc hd h1 h2 (jS g.1) (jS g.2)
 ·rw[if_neg g]
  by_cases k: 0<sgn (aO a b c)*sgn (aO a b d)∨0<sgn (aO c d a)*sgn (aO c d b)
  ·rw[if_pos k]
   exact⟨fun p h=>(by cases h),fun p q h=>(by cases h)⟩
  ·rw[if_neg k]
   have nz:=tO hc.pos hd.pos g (fun z=>k (.inl z))
   refine⟨fun p h=>?_,fun p q h=>by cases h⟩
   cases h
   refine⟨pC nz,yj ha.pos hb.pos nz (fun z=>k (.inr ((iw _ _).mpr z))),?_⟩
   obtain⟨e1,e2,e3⟩:=BE a b c d
   have:=yj (a:=c) (b:=d) (c:=a) (d:=b) hc.pos hd.pos (by rw[e3];omega) (fun z=>k (.inl ((iw _ _).mpr z)))
   rw[e1,e2,e3,BF nz]at this
   exact this
end My
set_option maxHeartbeats 2000000
namespace My
theorem ER{a b c d e:T3}(fH:(cV a b).1≠0∨(cV a b).2≠0)(h1:aO a b c=0)(h2:aO a b d=0)(h3:aO a b e=0):aO c d e=0:=by
 have z1:aO c d e*(cV a b).1=aO a b c*(d.2.2*e.1 - d.1*e.2.2)+aO a b d*(e.2.2*c.1 - e.1*c.2.2)+aO a b e*(c.2.2*d.1 - c.1*d.2.2):=by
  unfold aO det cV;dsimp only;grind
 have z2:aO c d e*(cV a b).2=aO a b c*(d.2.2*e.2.1 - d.2.1*e.2.2)+aO a b d*(e.2.2*c.2.1 - e.2.1*c.2.2)+aO a b e*(c.2.2*d.2.1 - c.2.1*d.2.2):=by
  unfold aO det cV;dsimp only;grind
 rw[h1,h2,h3]at z1 z2
 rcases fH with g|g
 ·exact(Int.mul_eq_zero.mp (show aO c d e*(cV a b).1=0 by omega)).resolve_right g
 ·exact(Int.mul_eq_zero.mp (show aO c d e*(cV a b).2=0 by omega)).resolve_right g
theorem MO{u1 u2 v1 v2 w1 w2:Int}(h0:v1*w2 - v2*w1=0)(h1:v1*w1≤0)(h2:v2*w2≤0):(u1*v2 - u2*v1)*(u1*w2 - u2*w1)≤0:=by
 have hk:v1*w2=v2*w1:=by omega
 have e:(u1*v2 - u2*v1)*(u1*w2 - u2*w1)=u1*u1*(v2*w2)+u2*u2*(v1*w1) - 2*(u1*u2)*(v1*w2):=by grind
 have ek:(v1*w2)*(v1*w2)=(v1*w1)*(v2*w2):=by
  have:(v1*w2)*(v1*w2)=(v1*w2)*(v2*w1):=by rw[←hk]
  rw[this];grind
 rw[e]
 generalize v1*w2=k at*
 generalize v1*w1=A at*
 generalize v2*w2=B at*
 rcases Int.lt_or_eq_of_le h2 with hB|hB
 ·have hs:B*(u1*u1*B+u2*u2*A - 2*(u1*u2)*k)=(u1*B - u2*k)*(u1*B - u2*k):=by
   have:(u1*B - u2*k)*(u1*B - u2*k)=u1*u1*B*B - 2*(u1*u2)*k*B+u2*u2*(k*k):=by grind
   rw[this,ek];grind
  have hq: 0≤(u1*B - u2*k)*(u1*B - u2*k):=by
   rcases Int.le_total 0 (u1*B - u2*k)with h|h
   ·exact Int.mul_nonneg h h
   ·exact Int.mul_nonneg_of_nonpos_of_nonpos h h
  rw[←hs]at hq
  rcases Int.lt_or_le 0 (u1*u1*B+u2*u2*A - 2*(u1*u2)*k)with h|h
  ·have:=Int.mul_neg_of_neg_of_pos hB h
   omega
  ·exact h
 ·subst hB
  have hk0:k=0:=by
   have:k*k=0:=by rw[ek];omega
   rcases Int.mul_eq_zero.mp this with h|h<;>exact h
  subst hk0
  have: 0≤u2*u2:=by
   rcases Int.le_total 0 u2 with h|h
   ·exact Int.mul_nonneg h h
   ·exact Int.mul_nonneg_of_nonpos_of_nonpos h h
  have:=Int.mul_nonpos_of_nonneg_of_nonpos this h1
  omega
theorem ES(c d r a:T3):r.2.2*aO c d a - a.2.2*aO c d r=tN (cV c d) (cV r a):=by
 unfold aO det tN cV;dsimp only;grind
theorem yk{a b c d r:T3}(ha: 0<a.2.2)(hb: 0<b.2.2)(hr: 0<r.2.2)(h:ei r a b=true)(h0:aO c d r=0):¬((0<aO c d a∧0<aO c d b)∨(aO c d a<0∧aO c d b<0)):=by
 unfold ei at h
 rw[BD hr ha hb,wU]at h
 obtain⟨k0,k1,k2⟩:=h
 have hle:=MO (u1:=(cV c d).1) (u2:=(cV c d).2) (show(cV r a).1*(cV r b).2 - (cV r a).2*(cV r b).1=0 from k0) k1 k2
 have e1:=ES c d r a
 have e2:=ES c d r b
 rw[h0]at e1 e2
 have Dw:r.2.2*aO c d a=tN (cV c d) (cV r a):=by omega
 have jY:r.2.2*aO c d b=tN (cV c d) (cV r b):=by omega
 have agB:(r.2.2*aO c d a)*(r.2.2*aO c d b)≤0:=by rw[Dw,jY];exact hle
 rintro(⟨p,q⟩|⟨p,q⟩)
 ·have:=Int.mul_pos (Int.mul_pos hr p) (Int.mul_pos hr q)
  omega
 ·have:=Int.mul_pos_of_neg_of_neg (Int.mul_neg_of_pos_of_neg hr p) (Int.mul_neg_of_pos_of_neg hr q)
  omega
def oo(s t:T3×T3):Prop:=aO s.1 s.2 t.1=0∧aO s.1 s.2 t.2=0
structure Sd(s:T3×T3):Prop where
 l1:bB s.1
 l2:bB s.2
 ne:s.1≠s.2
def On(p:T3)(s:T3×T3):Prop:=bB p∧ei p s.1 s.2=true
theorem On.dt{p:T3}{s:T3×T3}(h:On p s):aO s.1 s.2 p=0:=by
 have:=h.2
 unfold ei wm at this
 by_cases g:det s.1.1 s.1.2.1 s.1.2.2 s.2.1 s.2.2.1 s.2.2.2 p.1 p.2.1 p.2.2=0
 ·exact g
 ·rw[if_neg g]at this
  cases this
theorem Sd.cV{s:T3×T3}(h:Sd s):(cV s.1 s.2).1≠0∨(My.cV s.1 s.2).2≠0:=vF h.l1 h.l2 h.ne
theorem oo.symm{s t:T3×T3}(hs:Sd s)(h:oo s t):oo t s:=pH hs.l1.pos hs.l2.pos hs.cV h.1 h.2
theorem oo.trans{s t u:T3×T3}(hs:Sd s)(ht:Sd t)(h:oo s t)(k:oo t u):oo s u:=by
 have h':=h.symm hs
 exact⟨ER ht.cV h'.1 h'.2 k.1,ER ht.cV h'.1 h'.2 k.2⟩
def gA(s t:T3×T3):Dx:=cm s.1 s.2 t.1 t.2
def cs:Dx→List T3
 |.none=>[]
 |.mv p=>[p]
 |.gh p q=>[p,q]
theorem Dz{s t:T3×T3}(hs:Sd s)(ht:Sd t){p:T3}(h:p∈cs (gA s t)):On p s∧On p t:=by
 obtain⟨h1,h2⟩:=JE hs.l1 hs.l2 ht.l1 ht.l2 hs.ne ht.ne
 unfold gA at h
 cases e:cm s.1 s.2 t.1 t.2 with
 |none=>rw[e]at h;cases h
 |mv q=>
  rw[e]at h
  cases List.mem_singleton.mp h
  obtain⟨l,a,b⟩:=h1 p e
  exact⟨⟨l,a⟩,⟨l,b⟩⟩
 |gh q r=>
  rw[e]at h
  obtain⟨⟨l,a,b⟩,⟨l',a',b'⟩⟩:=h2 q r e
  rcases List.mem_cons.mp h with rfl|h
  ·exact⟨⟨l,a⟩,⟨l,b⟩⟩
  ·cases List.mem_singleton.mp h
   exact⟨⟨l',a'⟩,⟨l',b'⟩⟩
theorem ET{s t:T3×T3}(hs:Sd s)(ht:Sd t):gA t s=gA s t:=JD hs.l1 hs.l2 ht.l1 ht.l2 hs.ne ht.ne
theorem ym{s t:T3×T3}(hs:Sd s)(ht:Sd t)(hn:¬oo s t){r:T3}(h1:On r s)(h2:On r t):r∈cs (gA s t):=by
 have g:¬(sgn (aO s.1 s.2 t.1)=0∧sgn (aO s.1 s.2 t.2)=0):=fun z=>hn ⟨jS z.1,jS z.2⟩
 have k1:=yk ht.l1.pos ht.l2.pos h1.1.pos h2.2 h1.dt
 have k2:=yk hs.l1.pos hs.l2.pos h1.1.pos h1.2 h2.dt
 have k:¬(0<sgn (aO s.1 s.2 t.1)*sgn (aO s.1 s.2 t.2)∨0<sgn (aO t.1 t.2 s.1)*sgn (aO t.1 t.2 s.2)):=by
  rw[iw,iw]
  rintro(z|z)
  ·exact k1 z
  ·exact k2 z
 have e:gA s t= .mv (spT (mX s.1 s.2 t.1 t.2) (mY s.1 s.2 t.1 t.2) (mW s.1 s.2 t.1 t.2)):=by
  unfold gA cm
  rw[if_neg g,if_neg k]
 have ho:=Dz hs ht (p:=spT (mX s.1 s.2 t.1 t.2) (mY s.1 s.2 t.1 t.2) (mW s.1 s.2 t.1 t.2)) (by rw[e];exact List.mem_singleton_self _)
 rw[e]
 generalize spT (mX s.1 s.2 t.1 t.2) (mY s.1 s.2 t.1 t.2) (mW s.1 s.2 t.1 t.2)=q at*
 obtain⟨o1,o2⟩:=ho
 rcases Decidable.em (r=q)with h|h
 ·rw[h];exact List.mem_singleton_self _
 ·exfalso
  have hrq:Sd (r,q):=⟨h1.1,o1.1,h⟩
  have a1:oo s (r,q):=⟨h1.dt,o1.dt⟩
  have a2:oo t (r,q):=⟨h2.dt,o2.dt⟩
  exact hn (a1.trans hs hrq (a2.symm ht))
theorem mw(a b:T3){r:T3}(h:r=a∨r=b):r=(fw a b).1∨r=(fw a b).2:=by
 unfold fw
 split
 ·exact h
 ·exact h.symm
theorem sf{p q:T3}(hp:bB p)(hq:bB q)(h1:le p q)(h2:le q p):p=q:=wR hp hq h2 h1
theorem JF{P Q:T3}(hP:bB P)(hQ:bB Q)(h:le P Q):∀r,(r=P∨r=Q)→r∈cs (if P=Q then .mv P else if aU P Q=true then .gh P Q else .none):=by
 intro r hr
 by_cases e:P=Q
 ·rw[if_pos e]
  subst e
  rcases hr with rfl|rfl<;>exact List.mem_singleton_self _
 ·rw[if_neg e]
  have:aU P Q=true:=by
   rcases jA hP hQ with g|g|g
   ·exact g
   ·exact absurd g e
   ·unfold le at h;rw[h]at g;cases g
  rw[if_pos this]
  rcases hr with rfl|rfl
  ·exact List.mem_cons_self
  ·exact List.mem_cons_of_mem _ (List.mem_singleton_self _)
theorem EU{s t:T3×T3}(hs:Sd s)(ht:Sd t)(hc:oo s t){r:T3}(h1:On r s)(h2:On r t)(he:r=s.1∨r=s.2∨r=t.1∨r=t.2):r∈cs (gA s t):=by
 have e:gA s t=jH (fw s.1 s.2) (fw t.1 t.2):=by
  unfold gA cm
  rw[if_pos ⟨j7.mpr hc.1,j7.mpr hc.2⟩]
 obtain⟨a1,a2⟩:=(dM h1.dt).mp h1.2
 obtain⟨b1,b2⟩:=(dM h2.dt).mp h2.2
 obtain⟨l1,l2⟩:=ir hs.l1 hs.l2
 obtain⟨r1,r2⟩:=ir ht.l1 ht.l2
 obtain⟨m1,m2,m3⟩:=U6 l1 r1
 obtain⟨n1,n2,n3⟩:=U7 l2 r2
 have hr:(r=(fw s.1 s.2).1∨r=(fw s.1 s.2).2)∨(r=(fw t.1 t.2).1∨r=(fw t.1 t.2).2):=by
  rcases he with h|h|h|h
  ·exact .inl (mw _ _ (.inl h))
  ·exact .inl (mw _ _ (.inr h))
  ·exact .inr (mw _ _ (.inl h))
  ·exact .inr (mw _ _ (.inr h))
 rw[e]
 unfold jH
 dsimp only
 generalize (if aU (fw s.1 s.2).1 (fw t.1 t.2).1=true then(fw t.1 t.2).1 else(fw s.1 s.2).1)=P at*
 generalize (if aU (fw s.1 s.2).2 (fw t.1 t.2).2=true then(fw s.1 s.2).2 else(fw t.1 t.2).2)=Q at*
 have hP:bB P:=by rcases m3 with h|h<;>rw[h]<;>assumption
 have hQ:bB Q:=by rcases n3 with h|h<;>rw[h]<;>assumption
 have pr:le P r:=by rcases m3 with h|h<;>rw[h]<;>assumption
 have rq:le r Q:=by rcases n3 with h|h<;>rw[h]<;>assumption
 refine JF hP hQ (le_trans hP h1.1 hQ pr rq) r ?_
 rcases hr with(h|h)|(h|h)
 ·exact .inl (sf h1.1 hP (by rw[h];exact m1) pr)
 ·exact .inr (sf h1.1 hQ rq (by rw[h];exact n1))
 ·exact .inl (sf h1.1 hP (by rw[h];exact m2) pr)
 ·exact .inr (sf h1.1 hQ rq (by rw[h];exact n2))
theorem JG{s t:T3×T3}(hc:oo s t){r:T3}(h:r∈cs (gA s t)):r=s.1∨r=s.2∨r=t.1∨r=t.2:=by
 have e:gA s t=jH (fw s.1 s.2) (fw t.1 t.2):=by
  unfold gA cm
  rw[if_pos ⟨j7.mpr hc.1,j7.mpr hc.2⟩]
 rw[e]at h
 obtain⟨f1,f2⟩:=vG s.1 s.2
 obtain⟨g1,g2⟩:=vG t.1 t.2
 have hP:(fun x=>x=s.1∨x=s.2∨x=t.1∨x=t.2) (if aU (fw s.1 s.2).1 (fw t.1 t.2).1=true then(fw t.1 t.2).1 else(fw s.1 s.2).1):=by
  dsimp only
  split
  ·exact .inr (.inr g1)
  ·rcases f1 with h|h
   ·exact .inl h
   ·exact .inr (.inl h)
 have hQ:(fun x=>x=s.1∨x=s.2∨x=t.1∨x=t.2) (if aU (fw s.1 s.2).2 (fw t.1 t.2).2=true then(fw s.1 s.2).2 else(fw t.1 t.2).2):=by
  dsimp only
  split
  ·rcases f2 with h|h
   ·exact .inl h
   ·exact .inr (.inl h)
  ·exact .inr (.inr g2)
 unfold jH at h
 dsimp only at h
 generalize (if aU (fw s.1 s.2).1 (fw t.1 t.2).1=true then(fw t.1 t.2).1 else(fw s.1 s.2).1)=P at*
 generalize (if aU (fw s.1 s.2).2 (fw t.1 t.2).2=true then(fw s.1 s.2).2 else(fw t.1 t.2).2)=Q at*
 split at h
 ·cases List.mem_singleton.mp h
  exact hP
 ·split at h
  ·rcases List.mem_cons.mp h with rfl|h
   ·exact hP
   ·cases List.mem_singleton.mp h
    exact hQ
  ·cases h
def mz(S:List (T3×T3))(s:T3×T3)(p:T3):Prop:=p=s.1∨p=s.2∨∃t∈S,t≠s∧p∈cs (gA s t)
theorem EV{s:T3×T3}(hs:Sd s){p:T3}(h:p=s.1∨p=s.2):On p s:=by
 have l1:=(ir hs.l1 hs.l2).1
 have l2:=(ir hs.l1 hs.l2).2
 have hle:le (fw s.1 s.2).1 (fw s.1 s.2).2:=by
  unfold fw
  split
  ·rename_i h;exact jU h
  ·rename_i h;unfold le;simpa using h
 rcases h with rfl|rfl
 ·refine⟨hs.l1,(dM (zK _ _)).mpr ?_⟩
  rcases mw s.1 s.2 (.inl rfl)with h|h
  ·rw[←h]at hle ⊢;exact⟨le_refl _,hle⟩
  ·rw[←h]at hle ⊢;exact⟨hle,le_refl _⟩
 ·refine⟨hs.l2,(dM (zL _ _)).mpr ?_⟩
  rcases mw s.1 s.2 (.inr rfl)with h|h
  ·rw[←h]at hle ⊢;exact⟨le_refl _,hle⟩
  ·rw[←h]at hle ⊢;exact⟨hle,le_refl _⟩
theorem mz.on{S:List (T3×T3)}{s:T3×T3}(hS:∀t∈S,Sd t)(hs:Sd s){p:T3}(h:mz S s p):On p s:=by
 rcases h with h|h|⟨t,ht,_,h⟩
 ·exact EV hs (.inl h)
 ·exact EV hs (.inr h)
 ·exact(Dz hs (hS t ht) h).1
theorem mz.move{S:List (T3×T3)}{s t:T3×T3}(hS:∀t∈S,Sd t)(hs:s∈S)(ht:t∈S){p:T3}(h:mz S s p)(ho:On p t):mz S t p:=by
 have ds:=hS s hs
 have dt:=hS t ht
 have hp:=h.on hS ds
 rcases Decidable.em (s=t)with e|ne
 ·rw[←e];exact h
 by_cases hc:oo s t
 ·have bu:=hc.symm ds
  have vH:(p=s.1∨p=s.2)→mz S t p:=fun he=>.inr (.inr ⟨s,hs,ne,EU dt ds bu ho hp (by rcases he with h|h;exact .inr (.inr (.inl h));exact .inr (.inr (.inr h)))⟩)
  rcases h with h|h|⟨u,hu,un,h⟩
  ·exact vH (.inl h)
  ·exact vH (.inr h)
  ·have du:=hS u hu
   have U8:=(Dz ds du h).2
   by_cases Rv:oo s u
   ·rcases JG Rv h with h|h|h
    ·exact vH (.inl h)
    ·exact vH (.inr h)
    ·rcases Decidable.em (u=t)with e|ut
     ·subst e
      rcases h with h|h
      ·exact .inl h
      ·exact .inr (.inl h)
     ·exact .inr (.inr ⟨u,hu,ut,EU dt du (bu.trans dt ds Rv) ho U8 (.inr (.inr h))⟩)
   ·have hn:¬oo t u:=fun z=>Rv (hc.trans ds dt z)
    rcases Decidable.em (u=t)with e|ut
    ·subst e
     exact absurd ⟨zK _ _,zL _ _⟩ hn
    ·exact .inr (.inr ⟨u,hu,ut,ym dt du hn ho U8⟩)
 ·exact .inr (.inr ⟨s,hs,ne,ym dt ds (fun z=>hc (z.symm dt)) ho hp⟩)
end My
namespace Qm
open PySem
section
variable{σ:Env}{c c':Cells}{d:D}{i j:Int}{b:Bool}{xs ys:List D}
@[simp] theorem eC_:eC d σ c=some (d,c):=rfl
@[simp] theorem eV_{k:Nat}:eV k σ c=(σ[k]?.join).bind fun d=>some (d,c):=rfl
@[simp] theorem e1_{g:G1}{a:XE}:e1 g a σ c=(a σ c).bind fun p=>g p.1 p.2:=rfl
@[simp] theorem e2_{g:G2}{a b:XE}:e2 g a b σ c=(a σ c).bind fun p=>(b σ p.2).bind fun q=>g p.1 q.1 q.2:=rfl
@[simp] theorem U9:kC (.bl b)=some b:=rfl
@[simp] theorem U_:rL (.int i)=some i:=rfl
@[simp] theorem Rw{a b:XE}:uH a b σ c=(a σ c).bind fun p=>(kC p.1).bind fun k=>if k=true then b σ p.2 else some (.bl false,p.2):=rfl
@[simp] theorem Va{a b:XE}:eOr a b σ c=(a σ c).bind fun p=>(kC p.1).bind fun k=>if k=true then some (.bl true,p.2)else b σ p.2:=rfl
@[simp] theorem Rx{a:XE}:uI a σ c=(a σ c).bind fun p=>(kC p.1).bind fun k=>some (.bl (!k),p.2):=rfl
@[simp] theorem Vb{t:XT}{a b:XE}:xK t a b σ c=(t σ c).bind fun p=>if p.1=true then a σ p.2 else b σ p.2:=rfl
@[simp] theorem Ry:ag σ c=some ([],c):=rfl
@[simp] theorem EW{a:XE}{r:XA}:ae a r σ c=(a σ c).bind fun p=>(r σ p.2).bind fun q=>some (p.1::q.1,q.2):=rfl
@[simp] theorem Rz{a:XA}:dI a σ c=(a σ c).bind fun p=>if p.1.length≤cR then some (.tup p.1,p.2)else none:=rfl
@[simp] theorem RB{a:XA}:fC a σ c=(a σ c).bind fun p=>if p.1.length≤cR then some (.ref p.2.length,p.2++[.lst p.1])else none:=rfl
@[simp] theorem MP{F:FN}{ds:List D}{a:XA}:aq F ds a σ c=(a σ c).bind fun p=>F (p.1++ds) p.2:=rfl
@[simp] theorem eB_{F:FN}{a:XA}:eB F a σ c=(a σ c).bind fun p=>F p.1 p.2:=rfl
@[simp] theorem eM_{g:D→FN}{o:XE}{a:XA}:eM g o a σ c=(o σ c).bind fun p=>(bj p.1 p.2).bind fun _=>(a σ p.2).bind fun q=>g p.1 q.1 q.2:=rfl
@[simp] theorem MQ:f_ σ c=some (none,c):=rfl
@[simp] theorem Vc{g}{a:XE}{lo hi:XO}:lZ g a lo hi σ c=(a σ c).bind fun p=>(lo σ p.2).bind fun l=>(hi σ l.2).bind fun h=>g p.1 l.1 h.1 h.2:=rfl
@[simp] theorem tV_{a:XE}:tV a σ c=(a σ c).bind fun p=>(kC p.1).bind fun k=>some (k,p.2):=rfl
@[simp] theorem RC{a b:XT}:iN a b σ c=(a σ c).bind fun p=>if p.1=true then b σ p.2 else some (false,p.2):=rfl
@[simp] theorem Vd{a b:XT}:jX a b σ c=(a σ c).bind fun p=>if p.1=true then some (true,p.2)else b σ p.2:=rfl
@[simp] theorem RF{a:XT}:eI a σ c=(a σ c).bind fun p=>some (!p.1,p.2):=rfl
@[simp] theorem RG:fB σ c=some (true,c):=rfl
@[simp] theorem JH{g h:G2}{a b e:XE}:L_ g h a b e σ c=(a σ c).bind fun p=>(b σ p.2).bind fun q=>(g p.1 q.1 q.2).bind fun z=>(kC z.1).bind fun k=>if k=true then(e σ z.2).bind fun u=>h q.1 u.1 u.2 else some (.bl false,z.2):=rfl
@[simp] theorem RH:bA σ c=some (.nx,σ,c):=rfl
@[simp] theorem RI{k:Nat}{e:XE}:aH k e σ c=(e σ c).bind fun p=>some (.nx,σ.set k (some p.1),p.2):=rfl
@[simp] theorem RJ{e:XE}{g:XG}:rK e g σ c=(e σ c).bind fun p=>(g p.1 σ p.2).bind fun q=>some (.nx,q.1,q.2):=rfl
@[simp] theorem RL{is:List Nat}{a:XA}:qg is a σ c=(a σ c).bind fun p=>if p.1.length=is.length then some (.nx,(is.zip p.1).foldl (fun σ q=>σ.set q.1 (some q.2)) σ,p.2)else none:=rfl
@[simp] theorem Ve{t:XT}{a b:XS}:cM t a b σ c=(t σ c).bind fun p=>if p.1=true then a σ p.2 else b σ p.2:=rfl
@[simp] theorem RM{e:XE}:aT e σ c=(e σ c).bind fun p=>some (.rt p.1,σ,p.2):=rfl
@[simp] theorem MR{e:XE}:cC e σ c=(e σ c).bind fun p=>some (.nx,σ,p.2):=rfl
@[simp] theorem EX{k:Nat}:av k d σ c=some (σ.set k (some d),c):=rfl
@[simp] theorem RN:cW [] σ c=some (σ,c):=rfl
@[simp] theorem MS{g:XG}{r:xJ}:aK g r (d::xs) σ c=(g d σ c).bind fun p=>r xs p.1 p.2:=rfl
@[simp] theorem RO{n:Nat}{g:xJ}:cX n g (.tup xs) σ c=if xs.length=n then g xs σ c else none:=rfl
def sq(b:XS)(p:Fl×Env×Cells):Option (Fl×Env×Cells):=match p.1 with
 |.nx=>b p.2.1 p.2.2
 |_=>some p
@[simp] theorem RP{a b:XS}:ay a b σ c=(a σ c).bind (sq b):=rfl
@[simp] theorem RQ{b:XS}:sq b (.nx,σ,c)=b σ c:=rfl
@[simp] theorem RT{b:XS}:sq b (.rt d,σ,c)=some (.rt d,σ,c):=rfl
def fin(p:Fl×Env×Cells):Option (D×Cells):=match p.1 with
 |.rt d=>some (d,p.2.2)
 |.nx=>some (.bF,p.2.2)
 |_=>none
theorem jq{n N:Nat}{b:XS}{ds:List D}:ef n N b ds c=if ds.length=n then(b (ds.map some++List.replicate (N - n) none) c).bind fin else none:=rfl
@[simp] theorem MT:fin (.rt d,σ,c)=some (d,c):=rfl
@[simp] theorem MU:fin (.nx,σ,c)=some (.bF,c):=rfl
theorem Gu{f:Int→Int→Option D}:ii f (.int i) (.int j) c=(f i j).bind fun d=>some (d,c):=rfl
@[simp] theorem RU:fO (.int i) (.int j) c=some (.int (i - j),c):=rfl
@[simp] theorem RV:bH (.int i) (.int j) c=some (.int (i+j),c):=rfl
@[simp] theorem Vf:zd (.int i) (.int j) c=some (.bl (decide (i<j)),c):=rfl
@[simp] theorem Vg:Ma (.int i) (.int j) c=some (.bl (decide (i≤j)),c):=rfl
@[simp] theorem Vh:pX (.int i) (.int j) c=some (.bl (decide (j<i)),c):=rfl
@[simp] theorem Vi:gGe (.int i) (.int j) c=some (.bl (decide (j≤i)),c):=rfl
@[simp] theorem RW:qi (.int i) c=some (.int (-i),c):=rfl
theorem mulL(h:i.natAbs<2 ^ 64):MulOk i j:=Or.inr (Or.inl ⟨h⟩)
theorem mulR(h:j.natAbs<2 ^ 64):MulOk i j:=Or.inr (Or.inr ⟨h⟩)
theorem j8(h:My.Bd 90000 i)(g:My.Bd 90000 j):MulOk i j:=Or.inl ⟨h,g⟩
theorem gi(h:i.natAbs<2 ^ 64):My.Bd 64 i:=⟨h⟩
theorem dh(h:MulOk i j):aP (.int i) (.int j) c=some (.int (i*j),c):=by unfold aP;rw[Gu,if_pos h];rfl
theorem vI(h: 0<j)(hb:My.Bd 8900 j):gZ (.int i) (.int j) c=some (.int (i / j),c):=by
 unfold gZ;rw[Gu,if_pos ⟨by omega,hb⟩,Int.fdiv_eq_ediv_of_nonneg i (Int.le_of_lt h)];rfl
theorem DA(h: 0<j):fR (.int i) (.int j) c=some (.int (i % j),c):=by
 unfold fR;rw[Gu,if_pos (by omega),Int.fmod_eq_emod_of_nonneg i (Int.le_of_lt h)];rfl
@[simp] theorem yn{k:Nat}:data c (k+1) (.int i)=some (.int i):=by simp[data]
theorem BG:ze (.int i) (.int j) c=some (decide (i=j)):=by
 have:ze (.int i) (.int j) c=(data c 6 (.int i)).bind fun d=>(data c 6 (.int j)).bind fun e=>some (@decide (d=e) (Classical.propDecidable _)):=rfl
 rw[this,yn,yn]
 simp
@[simp] theorem JI:hZ (.int i) (.int j) c=some (.bl (decide (i=j)),c):=by unfold hZ;rw[BG];rfl
@[simp] theorem JJ:mL (.int i) (.int j) c=some (.bl (!decide (i=j)),c):=by unfold mL;rw[BG];rfl
@[simp] theorem MV{k:Bool}:hZ (.bl b) (.bl k) c=some (.bl (b==k),c):=rfl
@[simp] theorem MW{k:Bool}:mL (.bl b) (.bl k) c=some (.bl (!(b==k)),c):=rfl
@[simp] theorem DB:cE (.tup xs) c=some xs:=rfl
theorem bq{n:Nat}(h:c[n]? =some (.lst xs)):cE (.ref n) c=some xs:=by simp[cE,h]
theorem yp{n:Nat}(h:c[n]? =some (.ro xs)):cE (.ref n) c=some xs:=by simp[cE,h]
theorem aE{n:Nat}(h:c[n]? =some (.lst xs)):bj (.ref n) c=some (n,xs):=by simp[bj,h]
theorem jr{x:D}:aw x (.int i) c=(cE x c).bind fun xs=>(iV xs i).bind fun d=>some (d,c):=rfl
@[simp] theorem JK:aw (.tup xs) (.int i) c=(iV xs i).bind fun d=>some (d,c):=rfl
@[simp] theorem RX{α:Type}{x:α}{xs:List α}:iV (x::xs) 0=some x:=by simp[iV,zf]
@[simp] theorem RY{α:Type}{x y:α}{xs:List α}:iV (x::y::xs) 1=some y:=by
 have h:(1:Int)<((x::y::xs).length:Int):=by simp only[List.length_cons];omega
 unfold iV zf
 rw[if_pos (by decide),if_pos h];rfl
@[simp] theorem RZ{α:Type}{x y z:α}{xs:List α}:iV (x::y::z::xs) 2=some z:=by
 have h:(2:Int)<((x::y::z::xs).length:Int):=by simp only[List.length_cons];omega
 unfold iV zf
 rw[if_pos (by decide),if_pos h];rfl
theorem BH{α:Type}{xs:List α}{n:Nat}{x:α}(h:xs[n]? =some x):iV xs (n:Int)=some x:=by
 have hl:n<xs.length:=(List.getElem?_eq_some_iff.mp h).1
 unfold iV zf
 rw[if_pos (by omega),if_pos (by omega)]
 simpa using h
theorem Gv{α:Type}{xs:List α}{x:α}:iV (xs++[x]) (-1)=some x:=by
 unfold iV zf
 rw[if_neg (by decide),if_pos (by simp only[List.length_append,List.length_cons,List.length_nil];omega)]
 have:((-1:Int)+((xs++[x]).length:Int)).toNat=xs.length:=by simp only[List.length_append,List.length_cons,List.length_nil];omega
 rw[this]
 simp
@[simp] theorem R1:l_ [.int i] c=some (.int (if i<0 then -i else i),c):=rfl
@[simp] theorem BI:Ep [.bl b] c=some (.int (if b then 1 else 0),c):=rfl
theorem DC{x:D}:cY [x] c=(cE x c).bind fun xs=>some (.int xs.length,c):=rfl
@[simp] theorem MY:QV [.int i,.int j] c=some (.int (if j > i then j else i),c):=rfl
@[simp] theorem MZ:QX [.int i,.int j] c=some (.int (if j<i then j else i),c):=rfl
theorem iy{n:Nat}(h:n≤10000):n≤cR:=Nat.le_trans h (by rw[dR];decide)
@[simp] theorem R4: 1≤cR:=iy (by decide)
@[simp] theorem R5: 2≤cR:=iy (by decide)
@[simp] theorem R6: 3≤cR:=iy (by decide)
@[simp] theorem R7: 4≤cR:=iy (by decide)
@[simp] theorem R8: 5≤cR:=iy (by decide)
@[simp] theorem R9: 6≤cR:=iy (by decide)
@[simp] theorem R_: 7≤cR:=iy (by decide)
@[simp] theorem Sa: 8≤cR:=iy (by decide)
theorem sh{a:XA}(h:a σ c=some ([.int j],c'))(h2:j.natAbs<2 ^ 61):fY a σ c=some (⟨gY 0 j.toNat,[]⟩,c'):=by
 unfold fY
 rw[h,Option.bind_some]
 dsimp only
 rw[if_pos ⟨by omega,by omega⟩]
theorem gj:stays [] c:=fun _ h=>nomatch h
end
theorem cf{ks:List (Nat×Cell)}{g:XG}{body:XS}(P:Nat→Env→Cells→Prop):
  ∀(ds:List D) (k:Nat) (σ:Env) (c:Cells),(∀i σ c,P i σ c→stays ks c)→(∀i d σ c,ds[i]? =some d→P (k+i) σ c→∃pW c1 AG c2,g d σ c=some (pW,c1)∧body pW c1=some (.nx,AG,c2)∧P (k+i+1) AG c2)→
   P k σ c→∃σ' c',ie ks g body ds σ c=some (.nx,σ',c')∧P (k+ds.length) σ' c'
 |[],k,σ,c,hs,_,h=>⟨σ,c,by unfold ie;rw[if_pos (hs k σ c h)],h⟩
 |d::ds,k,σ,c,hs,ht,h=>by
  obtain⟨pW,c1,AG,c2,h1,h2,h3⟩:=ht 0 d σ c rfl h
  obtain⟨σ',c',h4,h5⟩:=cf P ds (k+1) AG c2 hs (fun i d' σ c hd hp=>by
   have:=ht (i+1) d' σ c (by simpa using hd) (by rw[show k+(i+1)=k+1+i by omega];exact hp)
   rwa[show k+(i+1)+1=k+1+i+1 by omega]at this) h3
  refine⟨σ',c',?_,by rw[show k+(d::ds).length=k+1+ds.length by simp only[List.length_cons];omega];exact h5⟩
  unfold ie
  rw[if_pos (hs k σ c h),h1]
  simp only[Option.bind_some,h2,h4]
end Qm
namespace zM
open PySem Qm
noncomputable section
def mV:XS:=(ay (dP (tV (e2 mL (eV 1) (eC (.int 0)))) (ay (aH 2 (e2 fR (eV 0) (eV 1)))
   (ay (aH 0 (eV 1))
   (aH 1 (eV 2)))))
   (aT (eB l_ (ae (eV 0) ag))))
def eZ:FN:=ef 2 3 mV
def si:XS:=(ay (aH 3 (aq eZ [] (ae (aq eZ [] (ae (eV 0) (ae (eV 2) ag))) (ae (eV 1) ag))))
   (ay (cM (tV (e2 zd (eV 2) (eC (.int 0))))
   (aH 3 (e1 qi (eV 3)))
   bA)
   (aT (dI (ae (e2 gZ (eV 0) (eV 3)) (ae (e2 gZ (eV 1) (eV 3)) (ae (e2 gZ (eV 2) (eV 3)) ag)))))))
def kN:FN:=ef 3 4 si
def kO:XS:=(aT (e2 zd (e2 aP (e2 aw (eV 0) (eC (.int 1))) (e2 aw (eV 1) (eC (.int 2)))) (e2 aP (e2 aw (eV 1) (eC (.int 1))) (e2 aw (eV 0) (eC (.int 2))))))
def gk:FN:=ef 2 2 kO
def oq:XS:=(ay (aH 2 (e2 aP (e2 aw (eV 0) (eC (.int 0))) (e2 aw (eV 1) (eC (.int 2)))))
   (ay (aH 3 (e2 aP (e2 aw (eV 1) (eC (.int 0))) (e2 aw (eV 0) (eC (.int 2)))))
   (ay (cM (tV (e2 hZ (eV 2) (eV 3)))
   (aT (aq gk [] (ae (eV 0) (ae (eV 1) ag))))
   bA)
   (aT (e2 zd (eV 2) (eV 3))))))
def br:FN:=ef 2 4 oq
def j9:XS:=(aT (dI (ae (e2 fO (e2 aP (e2 aw (eV 0) (eC (.int 1))) (e2 aw (eV 1) (eC (.int 2)))) (e2 aP (e2 aw (eV 0) (eC (.int 2))) (e2 aw (eV 1) (eC (.int 1))))) (ae (e2 fO (e2 aP (e2 aw (eV 0) (eC (.int 2))) (e2 aw (eV 1) (eC (.int 0)))) (e2 aP (e2 aw (eV 0) (eC (.int 0))) (e2 aw (eV 1) (eC (.int 2))))) (ae (e2 fO (e2 aP (e2 aw (eV 0) (eC (.int 0))) (e2 aw (eV 1) (eC (.int 1)))) (e2 aP (e2 aw (eV 0) (eC (.int 1))) (e2 aw (eV 1) (eC (.int 0))))) ag)))))
def cP:FN:=ef 2 2 j9
def pJ:XS:=(ay (cM (tV (e2 pX (eV 0) (eC (.int 0))))
   (aT (eC (.int 1)))
   bA)
   (ay (cM (tV (e2 zd (eV 0) (eC (.int 0))))
   (aT (e1 qi (eC (.int 1))))
   bA)
   (aT (eC (.int 0)))))
def jO:FN:=ef 1 1 pJ
def vJ:XS:=(ay (aH 3 (aq cP [] (ae (eV 0) (ae (eV 1) ag))))
   (aT (aq jO [] (ae (e2 bH (e2 bH (e2 aP (e2 aw (eV 3) (eC (.int 0))) (e2 aw (eV 2) (eC (.int 0)))) (e2 aP (e2 aw (eV 3) (eC (.int 1))) (e2 aw (eV 2) (eC (.int 1))))) (e2 aP (e2 aw (eV 3) (eC (.int 2))) (e2 aw (eV 2) (eC (.int 2))))) ag))))
def iz:FN:=ef 3 4 vJ
def jb:XS:=(ay (dJ (Bf (ae (eV 0) (ae (eV 1) ag))) (cX 2 (aK (av 2) (aK (av 3) cW)))
   (cM (tV (e2 mL (eV 2) (eV 3)))
   (aT (aq br [] (ae (eV 2) (ae (eV 3) ag))))
   bA))
   (aT (eC (.bl false))))
def dv:FN:=ef 2 4 jb
def pK(fL fM:Nat):XS:=(ay (aH 3 (fC ag))
   (ay (aH 4 (eC (.int 0)))
   (ay (dJ (eK (eV 1)) (av 5)
   (ay (dP (iN (tV (e2 zd (eV 4) (eB cY (ae (eV 0) ag)))) (eI (tV (rW [(fL,br),(fM,dv)] (eV 2) (ae (eV 5) (ae (e2 aw (eV 0) (eV 4)) ag)))))) (ay (cC (eM bM (eV 3) (ae (e2 aw (eV 0) (eV 4)) ag)))
   (aH 4 (e2 bH (eV 4) (eC (.int 1))))))
   (cC (eM bM (eV 3) (ae (eV 5) ag)))))
   (ay (cC (eM fD (eV 3) (ae (lZ eJ (eV 0) (dO (eV 4)) f_) ag)))
   (aT (eV 3))))))
def hJ(fL fM:Nat):FN:=ef 3 6 (pK fL fM)
def fF(fL fM:Nat):XS:=(ay (aH 2 (ed (zx (ae (eC (.int 0)) (ae (e2 fO (eB cY (ae (eV 0) ag)) (eC (.int 1))) (ae (eC (.int 2)) ag)))) [none,some 1,some 0] (av 0) fB (aq (hJ fL fM) [] (ae (e2 aw (eV 2) (eV 0)) (ae (e2 aw (eV 2) (e2 bH (eV 0) (eC (.int 1)))) (ae (eV 1) ag))))))
   (ay (cM (tV (e2 hZ (e2 fR (eB cY (ae (eV 0) ag)) (eC (.int 2))) (eC (.int 1))))
   (cC (eM bM (eV 2) (ae (e2 aw (eV 0) (e1 qi (eC (.int 1)))) ag)))
   bA)
   (aT (eV 2))))
def cN(fL fM:Nat):FN:=ef 2 3 (fF fL fM)
def js(fL fM:Nat):XS:=(ay (aH 2 (ed (eK (eV 0)) [none] (av 0) fB (fC (ae (eV 0) ag))))
   (ay (dP (tV (e2 pX (eB cY (ae (eV 2) ag)) (eC (.int 1)))) (aH 2 (aq (cN fL fM) [] (ae (eV 2) (ae (eV 1) ag)))))
   (aT (xK (tV (e2 hZ (eB cY (ae (eV 2) ag)) (eC (.int 1)))) (e2 aw (eV 2) (eC (.int 0))) (fC ag)))))
def cG(fL fM:Nat):FN:=ef 2 3 (js fL fM)
def j_:XS:=(ay (cM (tV (aq br [] (ae (e2 aw (eV 0) (eC (.int 0))) (ae (e2 aw (eV 0) (eC (.int 1))) ag))))
   (aT (eV 0))
   bA)
   (aT (dI (ae (e2 aw (eV 0) (eC (.int 1))) (ae (e2 aw (eV 0) (eC (.int 0))) ag)))))
def cg:FN:=ef 1 1 j_
def iY:XS:=(ay (cM (tV (e2 mL (aq iz [] (ae (e2 aw (eV 1) (eC (.int 0))) (ae (e2 aw (eV 1) (eC (.int 1))) (ae (eV 0) ag)))) (eC (.int 0))))
   (aT (eC (.bl false)))
   bA)
   (ay (aH 2 (aq cg [] (ae (eV 1) ag)))
   (aT (uH (uI (aq br [] (ae (eV 0) (ae (e2 aw (eV 2) (eC (.int 0))) ag)))) (uI (aq br [] (ae (e2 aw (eV 2) (eC (.int 1))) (ae (eV 0) ag))))))))
def dS:FN:=ef 2 3 iY
def kQ:XS:=(aT (ed (uw (eV 1)) [none,some 0] (av 0) fB (aq iz [] (ae (e2 aw (eV 1) (eC (.int 0))) (ae (e2 aw (eV 1) (eC (.int 1))) (ae (eV 0) ag))))))
def et:FN:=ef 2 2 kQ
def gB:XS:=(ay (aH 2 (aq cg [] (ae (eV 0) ag)))
   (ay (aH 3 (aq cg [] (ae (eV 1) ag)))
   (ay (aH 4 (xK (tV (aq br [] (ae (e2 aw (eV 2) (eC (.int 0))) (ae (e2 aw (eV 3) (eC (.int 0))) ag)))) (e2 aw (eV 3) (eC (.int 0))) (e2 aw (eV 2) (eC (.int 0)))))
   (ay (aH 5 (xK (tV (aq br [] (ae (e2 aw (eV 2) (eC (.int 1))) (ae (e2 aw (eV 3) (eC (.int 1))) ag)))) (e2 aw (eV 2) (eC (.int 1))) (e2 aw (eV 3) (eC (.int 1)))))
   (ay (cM (tV (e2 hZ (eV 4) (eV 5)))
   (aT (dI (ae (eC (.str "spot")) (ae (eV 4) ag))))
   bA)
   (aT (xK (tV (aq br [] (ae (eV 4) (ae (eV 5) ag)))) (dI (ae (eC (.str "stretch")) (ae (eV 4) (ae (eV 5) ag)))) (eC .bF))))))))
def dr:FN:=ef 2 6 gB
def kR:XS:=(ay (aH 2 (aq cP [] (ae (aq cP [] (ae (e2 aw (eV 0) (eC (.int 0))) (ae (e2 aw (eV 0) (eC (.int 1))) ag))) (ae (aq cP [] (ae (e2 aw (eV 1) (eC (.int 0))) (ae (e2 aw (eV 1) (eC (.int 1))) ag))) ag))))
   (aT (aq kN [] (ae (e2 aw (eV 2) (eC (.int 0))) (ae (e2 aw (eV 2) (eC (.int 1))) (ae (e2 aw (eV 2) (eC (.int 2))) ag))))))
def gq:FN:=ef 2 3 kR
def iZ:XS:=(ay (aH 2 (aq et [] (ae (eV 0) (ae (eV 1) ag))))
   (ay (cM (tV (e2 hZ (eV 2) (fC (ae (eC (.int 0)) (ae (eC (.int 0)) ag)))))
   (aT (aq dr [] (ae (eV 0) (ae (eV 1) ag))))
   bA)
   (ay (aH 3 (aq et [] (ae (eV 1) (ae (eV 0) ag))))
   (ay (cM (jX (tV (e2 pX (e2 aP (e2 aw (eV 2) (eC (.int 0))) (e2 aw (eV 2) (eC (.int 1)))) (eC (.int 0)))) (tV (e2 pX (e2 aP (e2 aw (eV 3) (eC (.int 0))) (e2 aw (eV 3) (eC (.int 1)))) (eC (.int 0)))))
   (aT (eC .bF))
   bA)
   (aT (dI (ae (eC (.str "spot")) (ae (aq gq [] (ae (eV 0) (ae (eV 1) ag))) ag))))))))
def el:FN:=ef 2 4 iZ
def sj(fL fM:Nat):XS:=(ay (aH 2 zF)
   (ay (dJ (eK (eV 1)) (av 3)
   (cM (tV (aq dS [] (ae (eV 3) (ae (eV 0) ag))))
   (pG (eV 2) (eV 3) (eC (.bl true)))
   bA))
   (ay (cM (tV (aq br [] (ae (e2 aw (eV 0) (eC (.int 0))) (ae (e2 aw (eV 0) (eC (.int 1))) ag))))
   (aT (aq (cG fL fM) [] (ae (eB n_ (ae (eV 2) ag)) (ae (eC (.adr fL)) ag))))
   bA)
   (aT (aq (cG fL fM) [] (ae (eB n_ (ae (eV 2) ag)) (ae I0 ag)))))))
def iA(fL fM:Nat):FN:=ef 2 4 (sj fL fM)
def jc:XS:=(ay (aH 1 (ed (eK (eV 0)) [none] (av 0) fB (eB qA (ae (eV 0) ag))))
   (ay (dJ (fY (ae (eB cY (ae (eV 0) ag)) ag)) (av 2)
   (dJ (fY (ae (eV 2) ag)) (av 3)
   (ay (aH 4 (aq el [] (ae (e2 aw (eV 0) (eV 3)) (ae (e2 aw (eV 0) (eV 2)) ag))))
   (cM (tV (e2 tq (eV 4) (eC .bF)))
   (ay (cC (eM oj (e2 aw (eV 1) (eV 3)) (ae (lZ eJ (eV 4) (dO (eC (.int 1))) f_) ag)))
   (cC (eM oj (e2 aw (eV 1) (eV 2)) (ae (lZ eJ (eV 4) (dO (eC (.int 1))) f_) ag))))
   bA))))
   (aT (eV 1))))
def eE:FN:=ef 1 5 jc
def e_:XS:=(ay (aH 1 rX)
   (ay (dJ (fY (ae (eB cY (ae (eV 0) ag)) ag)) (av 2)
   (cC (eM bM (fE (eV 1) (aq cg [] (ae (e2 aw (eV 0) (eV 2)) ag))) (ae (eV 2) ag))))
   (aT (eV 1))))
def cQ:FN:=ef 1 3 e_
def zN(fL fM:Nat):XS:=(ay (aH 1 rX)
   (ay (aH 2 (aq cQ [] (ae (eV 0) ag)))
   (ay (aH 3 (aq eE [] (ae (eB jm (ae (eV 2) ag)) ag)))
   (ay (dJ (rY (ae (eV 2) (ae (eV 3) ag))) (cX 2 (aK (av 4) (aK (av 5) cW)))
   (ay (aH 6 (aq (iA fL fM) [] (ae (eV 4) (ae (eV 5) ag))))
   (dJ (lA (ae (eV 6) (ae (lZ eJ (eV 6) (dO (eC (.int 1))) f_) ag))) (av 7)
   (cC (eM fD (fE (eV 1) (eV 7)) (ae (jz (eV 2) (eV 4)) ag))))))
   (aT (eB vC (ae (ed (eK (aq (cG fL fM) [] (ae (eB jm (ae (eV 1) ag)) (ae (eC (.adr fM)) ag)))) [none,some 1] (av 0) fB (dI (ae (eV 0) (ae (eB r_ (ae (jz (eV 1) (eV 0)) ag)) ag)))) ag)))))))
def lD(fL fM:Nat):FN:=ef 1 8 (zN fL fM)
def pL(fL fM:Nat):XS:=(aT (eB jm (ae (aq (lD fL fM) [] (ae (eV 0) ag)) ag)))
def gC(fL fM:Nat):FN:=ef 1 1 (pL fL fM)
def iB(fL fM:Nat):XS:=(aT (zG (aq (lD fL fM) [] (ae (eV 0) ag))))
def c_(fL fM:Nat):FN:=ef 1 1 (iB fL fM)
def jt:XS:=(ay (cM (tV (e2 zd (eV 1) (eB cY (ae (eV 0) ag))))
   (aT (e2 aw (eV 0) (eV 1)))
   bA)
   (aT (eC (.int 0))))
def cS:FN:=ef 2 2 jt
def jP:XS:=(ay (aH 2 (e2 fR (e2 aw (eV 0) (eC (.int 0))) (eV 1)))
   (ay (rK (e2 gZ (e2 aw (eV 0) (eC (.int 0))) (eV 1)) (Ik (eV 0) (eC (.int 0))))
   (aT (eV 2))))
def ar:FN:=ef 2 3 jP
def ju:XS:=(ay (cM (tV (e2 hZ (e2 fR (aq cS [] (ae (eV 0) (ae (eC (.int 0)) ag))) (eC (.int 2))) (eC (.int 1))))
   (aT (fC (ae (eV 1) ag)))
   bA)
   (ay (aH 3 (eC (.int 0)))
   (ay (dJ (fY (ae (eC (.int 16)) ag)) (av 4)
   (ay (aH 1 (e2 fR (e2 bH (e2 bH (e2 aP (eV 1) (eC (.int 48271))) (e2 aP (eC (.int 7919)) (eV 2))) (eV 4)) (eC (.int 2147483629))))
   (aH 3 (e2 bH (e2 aP (eV 3) (eC (.int 2147483587))) (e2 fR (e2 aP (eV 1) (eV 1)) (eC (.int 2147483587)))))))
   (aT (fC (ae (eV 3) ag))))))
def df:FN:=ef 3 5 ju
def jd:XS:=(ay (qg [3,4] (ae (eV 2) (ae (eB l_ (ae (eV 0) ag)) ag)))
   (ay (dP (tV (e2 pX (eV 4) (eC (.int 0)))) (qg [3,4] (ae (eV 4) (ae (e2 fR (eV 3) (eV 4)) ag))))
   (ay (aH 4 (eB l_ (ae (eV 1) ag)))
   (ay (dP (tV (e2 pX (eV 4) (eC (.int 0)))) (qg [3,4] (ae (eV 4) (ae (e2 fR (eV 3) (eV 4)) ag))))
   (aT (dI (ae (e2 gZ (eV 0) (eV 3)) (ae (e2 gZ (eV 1) (eV 3)) (ae (e2 gZ (eV 2) (eV 3)) ag)))))))))
def bE:FN:=ef 3 5 jd
def kT:XS:=(ay (aH 2 (aq ar [] (ae (eV 0) (ae (eC (.int 4)) ag))))
   (ay (cM (iN (tV (e2 hZ (eV 2) (eC (.int 3)))) (tV (e2 pX (eB cY (ae (eV 1) ag)) (eC (.int 0)))))
   (ay (rK (e2 aw (eV 1) (aq ar [] (ae (eV 0) (ae (eB cY (ae (eV 1) ag)) ag)))) (cX 2 (aK (av 3) (aK (av 4) cW))))
   (ay (aH 5 (e2 bH (eC (.int 1)) (aq ar [] (ae (eV 0) (ae (eC (.int 5)) ag)))))
   (ay (aH 6 (e2 fO (aq ar [] (ae (eV 0) (ae (e2 bH (eV 5) (eC (.int 5))) ag))) (eC (.int 2))))
   (cM (tV (e2 Ma (eB wQ (ae (e2 aw (eV 3) (eC (.int 2))) (ae (e2 aw (eV 4) (eC (.int 2))) (ae (eB l_ (ae (e2 aw (eV 3) (eC (.int 0))) ag)) (ae (eB l_ (ae (e2 aw (eV 3) (eC (.int 1))) ag)) (ae (eB l_ (ae (e2 aw (eV 4) (eC (.int 0))) ag)) (ae (eB l_ (ae (e2 aw (eV 4) (eC (.int 1))) ag)) ag))))))) (e2 kI (eC (.int 10)) (eC (.int 14)))))
   (ay (aH 7 (e2 aP (e2 aP (e2 aw (eV 3) (eC (.int 2))) (e2 aw (eV 4) (eC (.int 2)))) (eV 5)))
   (ay (qg [8,9] (ae (e2 aP (e2 fO (eV 5) (eV 6)) (e2 aw (eV 4) (eC (.int 2)))) (ae (e2 aP (eV 6) (e2 aw (eV 3) (eC (.int 2)))) ag)))
   (aT (aq bE [] (ae (e2 bH (e2 aP (e2 aw (eV 3) (eC (.int 0))) (eV 8)) (e2 aP (e2 aw (eV 4) (eC (.int 0))) (eV 9))) (ae (e2 bH (e2 aP (e2 aw (eV 3) (eC (.int 1))) (eV 8)) (e2 aP (e2 aw (eV 4) (eC (.int 1))) (eV 9))) (ae (eV 7) ag)))))))
   bA))))
   bA)
   (ay (cM (tV (e2 hZ (eV 2) (eC (.int 2))))
   (ay (aH 10 (e2 aw (fC (ae (e2 kI (eC (.int 10)) (eC (.int 6))) (ae (e2 kI (eC (.int 10)) (eC (.int 14))) (ae (e2 kI (eC (.int 10)) (eC (.int 18))) ag)))) (aq ar [] (ae (eV 0) (ae (eC (.int 3)) ag)))))
   (ay (aH 11 (e2 fO (aq ar [] (ae (eV 0) (ae (e2 bH (e2 aP (eC (.int 2)) (eV 10)) (eC (.int 1))) ag))) (eV 10)))
   (ay (aH 12 (e2 fO (aq ar [] (ae (eV 0) (ae (e2 bH (e2 aP (eC (.int 2)) (eV 10)) (eC (.int 1))) ag))) (eV 10)))
   (aT (aq bE [] (ae (eV 11) (ae (eV 12) (ae (e2 bH (eC (.int 1)) (aq ar [] (ae (eV 0) (ae (eV 10) ag)))) ag))))))))
   bA)
   (ay (aH 7 (e2 bH (eC (.int 1)) (e2 aP (aq ar [] (ae (eV 0) (ae (eC (.int 6)) ag))) (e2 fR (eV 2) (eC (.int 2))))))
   (aT (aq bE [] (ae (aq ar [] (ae (eV 0) (ae (e2 aP (eC (.int 7)) (eV 7)) ag))) (ae (aq ar [] (ae (eV 0) (ae (e2 aP (eC (.int 7)) (eV 7)) ag))) (ae (eV 7) ag)))))))))
def cH:FN:=ef 2 13 kT
def kU:XS:=(ay (cM (iN (tV (e2 pX (eB cY (ae (eV 1) ag)) (eC (.int 0)))) (tV (e2 hZ (aq ar [] (ae (eV 0) (ae (eC (.int 8)) ag))) (eC (.int 7)))))
   (ay (rK (e2 aw (eV 1) (aq ar [] (ae (eV 0) (ae (eB cY (ae (eV 1) ag)) ag)))) (cX 2 (aK (av 2) (aK (av 3) cW))))
   (aT (e2 aw (fC (ae (dI (ae (eV 2) (ae (eV 3) ag))) (ae (dI (ae (eV 3) (ae (eV 2) ag))) ag))) (aq ar [] (ae (eV 0) (ae (eC (.int 2)) ag))))))
   bA)
   (ay (aH 2 (aq cH [] (ae (eV 0) (ae (eV 1) ag))))
   (ay (aH 3 (aq cH [] (ae (eV 0) (ae (eV 1) ag))))
   (ay (cM (tV (e2 hZ (eV 2) (eV 3)))
   (aH 3 (dI (ae (e2 bH (e2 aw (eV 2) (eC (.int 0))) (e2 aP (e2 aw (fC (ae (eC (.int 1)) (ae (e1 qi (eC (.int 1))) ag))) (eB Ep (ae (e2 pX (e2 aw (eV 2) (eC (.int 0))) (eC (.int 0))) ag))) (e2 aw (eV 2) (eC (.int 2))))) (ae (e2 aw (eV 2) (eC (.int 1))) (ae (e2 aw (eV 2) (eC (.int 2))) ag)))))
   bA)
   (aT (dI (ae (eV 2) (ae (eV 3) ag))))))))
def dC:FN:=ef 2 4 kU
def jQ:XS:=(ay (aH 3 (fC ag))
   (ay (dJ (fK (ae (lZ eJ (eV 0) (dO (eV 1)) (dO (eV 2))) ag)) (cX 2 (aK (av 4) (aK (av 5) cW)))
   (cC (eM bM (eV 3) (ae (aq dC [] (ae (aq df [] (ae (eV 0) (ae (eV 5) (ae (eV 4) ag)))) (ae (eV 3) ag))) ag))))
   (aT (eV 3))))
def dQ:FN:=ef 3 6 jQ
def kW:XS:=(ay (aH 3 (e2 aP (e2 aw (eV 0) (eC (.int 0))) (e2 fO (e2 aP (e2 aw (eV 1) (eC (.int 1))) (e2 aw (eV 2) (eC (.int 2)))) (e2 aP (e2 aw (eV 2) (eC (.int 1))) (e2 aw (eV 1) (eC (.int 2)))))))
   (ay (aH 4 (e2 aP (e2 aw (eV 0) (eC (.int 1))) (e2 fO (e2 aP (e2 aw (eV 1) (eC (.int 0))) (e2 aw (eV 2) (eC (.int 2)))) (e2 aP (e2 aw (eV 2) (eC (.int 0))) (e2 aw (eV 1) (eC (.int 2)))))))
   (aT (e2 bH (e2 fO (eV 3) (eV 4)) (e2 aP (e2 aw (eV 0) (eC (.int 2))) (e2 fO (e2 aP (e2 aw (eV 1) (eC (.int 0))) (e2 aw (eV 2) (eC (.int 1)))) (e2 aP (e2 aw (eV 2) (eC (.int 0))) (e2 aw (eV 1) (eC (.int 1))))))))))
def gr:FN:=ef 3 5 kW
def je:XS:=(aT (e2 EO (dI (ae (e2 aP (e2 aw (eV 0) (eC (.int 0))) (e2 aw (eV 1) (eC (.int 2)))) (ae (e2 aP (e2 aw (eV 0) (eC (.int 1))) (e2 aw (eV 1) (eC (.int 2)))) ag))) (dI (ae (e2 aP (e2 aw (eV 1) (eC (.int 0))) (e2 aw (eV 0) (eC (.int 2)))) (ae (e2 aP (e2 aw (eV 1) (eC (.int 1))) (e2 aw (eV 0) (eC (.int 2)))) ag)))))
def aN:FN:=ef 2 2 je
def i3:XS:=(ay (rK (eV 1) (cX 2 (aK (av 2) (aK (av 3) cW))))
   (ay (cM (tV (aq aN [] (ae (eV 3) (ae (eV 2) ag))))
   (qg [2,3] (ae (eV 3) (ae (eV 2) ag)))
   bA)
   (aT (uH (e2 hZ (aq gr [] (ae (eV 2) (ae (eV 3) (ae (eV 0) ag)))) (eC (.int 0))) (uH (uI (aq aN [] (ae (eV 0) (ae (eV 2) ag)))) (uI (aq aN [] (ae (eV 3) (ae (eV 0) ag)))))))))
def bU:FN:=ef 2 4 i3
def iC:XS:=(ay (cM (jX (eI (tV (eB cq (ae (eV 0) (ae (eC (.ty "tuple")) ag))))) (tV (e2 mL (eB cY (ae (eV 0) ag)) (eC (.int 3)))))
   (aT (eC (.bl false)))
   bA)
   (aT (eB wu (ae (ed (uw (eV 0)) [none] (av 0) fB (uH (eB cq (ae (eV 0) (ae (eC (.ty "int")) ag))) (uI (eB cq (ae (eV 0) (ae (eC (.ty "bool")) ag)))))) ag))))
def bR:FN:=ef 1 1 iC
def fV:XS:=(ay (cM (eI (tV (eB cq (ae (eV 0) (ae (eC (.ty "list")) ag)))))
   (aT (eC (.bl false)))
   bA)
   (ay (dJ (eK (eV 0)) (av 1)
   (ay (cM (jX (eI (tV (eB cq (ae (eV 1) (ae (eC (.ty "tuple")) ag))))) (tV (e2 mL (eB cY (ae (eV 1) ag)) (eC (.int 2)))))
   (aT (eC (.bl false)))
   bA)
   (cM (jX (eI (tV (aq bR [] (ae (e2 aw (eV 1) (eC (.int 0))) ag)))) (jX (eI (tV (aq bR [] (ae (e2 aw (eV 1) (eC (.int 1))) ag)))) (eI (tV (aq aN [] (ae (e2 aw (eV 1) (eC (.int 0))) (ae (e2 aw (eV 1) (eC (.int 1))) ag)))))))
   (aT (eC (.bl false)))
   bA)))
   (ay (dJ (lA (ae (eV 0) (ae (lZ eJ (eV 0) (dO (eC (.int 1))) f_) ag))) (cX 2 (aK (av 2) (aK (av 3) cW)))
   (cM (jX (tV (aq aN [] (ae (e2 aw (eV 3) (eC (.int 0))) (ae (e2 aw (eV 2) (eC (.int 0))) ag)))) (iN (tV (e2 hZ (e2 aw (eV 2) (eC (.int 0))) (e2 aw (eV 3) (eC (.int 0))))) (eI (tV (aq aN [] (ae (e2 aw (eV 2) (eC (.int 1))) (ae (e2 aw (eV 3) (eC (.int 1))) ag)))))))
   (aT (eC (.bl false)))
   bA))
   (aT (eC (.bl true))))))
def dc:FN:=ef 1 4 fV
def gu:XS:=(ay (rK (eV 0) (cX 2 (aK (av 2) (aK (av 3) cW))))
   (ay (cM (tV (aq aN [] (ae (eV 3) (ae (eV 2) ag))))
   (qg [2,3] (ae (eV 3) (ae (eV 2) ag)))
   bA)
   (ay (aH 4 (eV 2))
   (ay (dJ (eK (eV 1)) (av 5)
   (cM (iN (tV (aq bU [] (ae (e2 aw (eV 5) (eC (.int 0))) (ae (eV 0) ag)))) (tV (aq bU [] (ae (e2 aw (eV 5) (eC (.int 1))) (ae (eV 0) ag)))))
   (ay (cM (tV (e2 mL (e2 aw (eV 5) (eC (.int 0))) (eV 4)))
   (aT (eC (.bl false)))
   bA)
   (aH 4 (e2 aw (eV 5) (eC (.int 1)))))
   bA))
   (aT (e2 hZ (eV 4) (eV 3)))))))
def cI:FN:=ef 2 6 gu
def jR:XS:=(ay (aH 2 (fC ag))
   (ay (dJ (eK (eV 0)) (av 3)
   (ay (aH 4 (fC ag))
   (ay (dJ (fK (ae (eV 1) ag)) (cX 2 (aK (av 5) (aK (av 6) cW)))
   (cM (iN (tV (aq bU [] (ae (e2 aw (eV 3) (eC (.int 0))) (ae (eV 6) ag)))) (tV (aq bU [] (ae (e2 aw (eV 3) (eC (.int 1))) (ae (eV 6) ag)))))
   (cC (eM bM (eV 4) (ae (eV 5) ag)))
   bA))
   (cC (eM bM (eV 2) (ae (eV 4) ag))))))
   (aT (eV 2))))
def ff:FN:=ef 2 7 jR
def kX:XS:=(ay (aH 1 (aq df [] (ae (eV 0) (ae (aq cS [] (ae (eV 0) (ae (eC (.int 1)) ag))) (ae (eC (.int 5)) ag)))))
   (ay (aH 2 (fC (ae (dI (ae (dI (ae (eC (.int 0)) (ae (eC (.int 0)) (ae (eC (.int 1)) ag)))) (ae (dI (ae (eC (.int 900)) (ae (e2 bH (eC (.int 1)) (aq ar [] (ae (eV 1) (ae (eC (.int 300)) ag)))) (ae (eC (.int 1)) ag)))) ag))) ag)))
   (ay (dJ (fY (ae (eC (.int 20)) ag)) (av 3)
   (ay (aH 4 (e2 bH (e2 aP (eC (.int 40)) (eV 3)) (aq ar [] (ae (eV 1) (ae (eC (.int 30)) ag)))))
   (cC (eM bM (eV 2) (ae (dI (ae (dI (ae (eV 4) (ae (e1 qi (eC (.int 9))) (ae (eC (.int 1)) ag)))) (ae (dI (ae (e2 bH (eV 4) (aq ar [] (ae (eV 1) (ae (eC (.int 60)) ag)))) (ae (eC (.int 310)) (ae (eC (.int 1)) ag)))) ag))) ag)))))
   (ay (aH 5 (aq ar [] (ae (eV 1) (ae (eC (.int 21)) ag))))
   (aT (e2 bH (lZ eJ (eV 2) (dO (eV 5)) f_) (lZ eJ (eV 2) f_ (dO (eV 5)))))))))
def eS:FN:=ef 1 6 kX
def tP(fL fM:Nat):XS:=(ay (aH 1 (aq dQ [] (ae (eV 0) (ae (eC (.int 1)) (ae (eC (.int 11)) ag)))))
   (ay (cM (tV (e2 hZ (e2 fR (e2 gZ (aq cS [] (ae (eV 0) (ae (eC (.int 0)) ag))) (eC (.int 2))) (eC (.int 8))) (eC (.int 5))))
   (aH 1 (aq eS [] (ae (eV 0) ag)))
   bA)
   (ay (aH 2 (eB qA (ae (eV 1) ag)))
   (ay (aH 3 (aq (gC fL fM) [] (ae (eV 2) ag)))
   (ay (aH 4 (aq (c_ fL fM) [] (ae (eV 2) ag)))
   (ay (cM (jX (eI (tV (aq dc [] (ae (eV 3) ag)))) (jX (eI (tV (eB cq (ae (eV 4) (ae (eC (.ty "list")) ag))))) (tV (e2 yc (eV 2) (eV 1)))))
   (aT (eC (.bl false)))
   bA)
   (ay (dJ (eK (eV 4)) (av 5)
   (cM (jX (eI (tV (eB cq (ae (eV 5) (ae (eC (.ty "list")) ag))))) (tV (eB Be (ae (ed (eK (eV 5)) [none] (av 0) fB (eB cq (ae (eV 0) (ae (eC (.ty "bool")) ag)))) ag))))
   (aT (eC (.bl false)))
   bA))
   (ay (aH 6 (aq ff [] (ae (eV 3) (ae (eV 1) ag))))
   (ay (cM (jX (tV (e2 yc (eV 4) (eV 6))) (eI (tV (eB wu (ae (ed (eK (eV 1)) [none,some 3] (av 0) fB (aq cI [] (ae (eV 0) (ae (eV 1) ag)))) ag)))))
   (aT (eC (.bl false)))
   bA)
   (ay (dJ (fK (ae (eV 4) ag)) (cX 2 (aK (av 7) (aK (av 5) cW)))
   (cC (eM bM (eV 5) (ae (e2 bH (eC (.int 99)) (eV 7)) ag))))
   (ay (cM (tV (e2 yc (eV 4) (ed (fK (ae (eV 6) ag)) [none,none] (cX 2 (aK (av 0) (aK (av 1) cW))) fB (e2 bH (eV 1) (fC (ae (e2 bH (eC (.int 99)) (eV 0)) ag))))))
   (aT (eC (.bl false)))
   bA)
   (ay (cC (eM vw (eV 4) ag))
   (aT (uH (e2 Bn (aq (c_ fL fM) [] (ae (eV 2) ag)) (eV 6)) (e2 Bn (aq (gC fL fM) [] (ae (eV 2) ag)) (eV 3))))))))))))))))
def qF(fL fM:Nat):FN:=ef 1 8 (tP fL fM)
end
end zM
namespace zM
open PySem Qm PyProof.Rows
local macro_rules|`(tactic|walk_at "bd")=>`(tactic|first|assumption|((with_reducible show My.Bd _ (_*_));refine' My.Bd.mul ?_ ?_<;>walk_at "bd")|((with_reducible show My.Bd _ (_+_));refine' My.Bd.add ?_ ?_<;>walk_at "bd")|((with_reducible show My.Bd _ (_ - _));refine' My.Bd.sub ?_ ?_<;>walk_at "bd")|((with_reducible show My.Bd _ (- _));refine' My.Bd.neg ?_<;>walk_at "bd")|(refine' gi ?_;omega))
local macro_rules|`(tactic|walk_at "bdm")=>`(tactic|first|assumption|(refine' My.Bd.mono ?b1 ?b2;(case b1=>walk_at "bd");(case b2=>decide)))
local macro_rules|`(tactic|walk_at "mo")=>`(tactic|first|(refine mulL ?_;omega)|(refine mulR ?_;omega)|(refine j8 ?_ ?_<;>walk_at "bdm"))
local macro_rules|`(tactic|walk_at "dis")=>`(tactic|first|assumption|omega|walk_at "mo"|walk_at "bdm")
local macro_rules|`(tactic|erw[$[$t:term],*])=>`(tactic|simp (disch:=walk_at "dis") only[jq,RP,RI,RJ,RL,Ve,RM,MR,RH,eC_,eV_,e1_,e2_,U9,U_,Rw,Va,Rx,Vb,Ry,EW,Rz,RB,MP,eB_,eM_,MQ,Vc,tV_,RC,Vd,RF,RG,JH,EX,RN,MS,RO,RQ,RT,MT,MU,RU,RV,Vf,Vg,Vh,Vi,RW,dh,vI,DA,JI,JJ,MV,MW,DB,JK,RX,RY,RZ,R1,BI,MY,MZ,R4,R5,R6,R7,R8,R9,R_,Sa,List.getElem?_cons_succ,List.getElem?_cons_zero,Option.join_some,Option.join_none,Option.bind_some,Option.bind_none,List.set_cons_succ,List.set_cons_zero,List.map_cons,List.map_nil,List.length_cons,List.length_nil,List.append_nil,List.nil_append,List.cons_append,List.replicate_succ,List.replicate_zero,Nat.reduceAdd,Nat.reduceSub,Nat.reduceEqDiff,if_true,if_false,Bool.false_eq_true,decide_true,decide_false,Bool.not_true,Bool.not_false,eq_self_iff_true,reduceIte,List.zip_cons_cons,List.zip_nil_right,List.zip_nil_left,List.foldl_cons,List.foldl_nil,Int.reduceLT,Int.reduceEq,Int.reduceLE,$[$t:term],*])
theorem bp{i:Nat}{c:Cells}{z:Cell}(h:c[i]? =some z):i<c.length:=(List.getElem?_eq_some_iff.mp h).1
theorem aY{i:Nat}{c zs:Cells}{z:Cell}(h:c[i]? =some z):(c++zs)[i]? =some z:=by rw[List.getElem?_append_left (bp h)];exact h
theorem aA{c c':Cells}{i:Nat}{z:Cell}(h:c <+:c')(e:c[i]? =some z):c'[i]? =some z:=by
 obtain⟨zs,rfl⟩:=h
 exact aY e
theorem eP{c c':Cells}(h:c <+:c'):c.length≤c'.length:=h.length_le
theorem mB{c c':Cells}{n:Nat}{z:Cell}(h:c <+:c')(hn:c.length≤n):c <+:c'.set n z:=by
 obtain⟨zs,rfl⟩:=h
 refine⟨zs.set (n - c.length) z,?_⟩
 rw[List.set_append_right _ _ hn]
theorem pre_app{c c' zs:Cells}(h:c <+:c'):c <+:c'++zs:=h.trans ⟨zs,rfl⟩
theorem cc{c:Cells}{n i:Nat}{z y:Cell}(h:c[i]? =some y)(hn:i≠n):(c.set n z)[i]? =some y:=by rw[List.getElem?_set,if_neg (Ne.symm hn)];exact h
theorem iD{c:Cells}{n:Nat}{z:Cell}(h:n<c.length):(c.set n z)[n]? =some z:=by rw[List.getElem?_set,if_pos rfl,if_pos h]
theorem fN{it:XI}{g:XG}{b:XS}{σ:Qm.Env}{c c1:Cells}{I:Itm}(h:it σ c=some (I,c1)):dJ it g b σ c=ie I.ks g b I.ds σ c1:=by
 unfold dJ
 rw[h]
 rfl
theorem lE{a:XE}{σ:Qm.Env}{c:Cells}{m:Nat}{xs:List D}(ha:a σ c=some (.ref m,c))(h:c[m]? =some (.lst xs)):eK a σ c=some (⟨xs,[(m,.lst xs)]⟩,c):=by
 unfold eK
 rw[ha]
 simp[h,bq h]
theorem pM{a:XE}{σ:Qm.Env}{c:Cells}:dO a σ c=(a σ c).bind fun p=>(rL p.1).bind fun i=>some (some i,p.2):=by
 unfold dO
 cases a σ c with
 |none=>rfl
 |some p=>obtain⟨d,c⟩:=p;cases d<;>rfl
def Fr(L:Nat)(c c':Cells):Prop:=∀j z,j≠L→c[j]? =some z→c'[j]? =some z
theorem Fr.trans{L:Nat}{c c1 c2:Cells}(a:Fr L c c1)(b:Fr L c1 c2):Fr L c c2:=fun j z h e=>b j z h (a j z h e)
theorem Fr.app{L:Nat}{c zs:Cells}:Fr L c (c++zs):=fun _ _ _ e=>aY e
theorem Fr.set{L:Nat}{c:Cells}{z:Cell}:Fr L c (c.set L z):=fun _ _ h e=>cc e h
theorem yq{ks:List (Nat×Cell)}{g:XG}{te:XE}{E:Qm.Env→Prop}{Rel:Nat→D→Cells→Prop}{I:Nat→Cells→Prop}{c:Cells}(hs:stays ks c)(hI:∀i u z,I i u→I i (u.set c.length z))(hR:∀i v c1 c2,Rel i v c1→Fr c.length c1 c2→Rel i v c2):∀(ds acc:List D) (zs:List Cell) (τ:Qm.Env) (k:Nat),k=acc.length→E τ→I k (c++.lst acc::zs)→
  (∀(i:Nat) d,ds[i]? =some d→∀τ c',E τ→c <+:c'→c.length<c'.length→I (k+i) c'→∃lY v ws,g d τ c'=some (lY,c')∧te lY c'=some (v,c'++ws)∧E lY∧Rel (k+i) v (c'++ws)∧I (k+i+1) (c'++ws))→acc.length+ds.length≤9000000→(∀i v,acc[i]? =some v→Rel i v (c++.lst acc::zs))→
  ∃vs BJ,gz c.length ks g fB te ds τ (c++.lst acc::zs)=some (c++.lst (acc++vs)::BJ)∧vs.length=ds.length∧∀i v,(acc++vs)[i]? =some v→Rel i v (c++.lst (acc++vs)::BJ)
 |[],acc,zs,τ,k,_,_,_,_,_,ha=>by
  have st:stays ks (c++.lst acc::zs):=fun p hp=>aA ⟨_,rfl⟩ (hs p hp)
  refine⟨[],zs,?_,rfl,by simpa using ha⟩
  unfold gz
  rw[if_pos st]
  simp
 |d::ds,acc,zs,τ,k,hk,hE,hi0,hv,hn,ha=>by
  have st:stays ks (c++.lst acc::zs):=fun p hp=>aA ⟨_,rfl⟩ (hs p hp)
  rw[List.length_cons]at hn
  obtain⟨lY,v,ws,f1,f2,Sb,hr,PK⟩:=hv 0 d rfl τ (c++.lst acc::zs) hE ⟨_,rfl⟩ (by simp) (by simpa using hi0)
  have f3:(c++.lst acc::zs++ws)[c.length]? =some (.lst acc):=by simp
  have f4:(c++.lst acc::zs++ws).set c.length (.lst (acc++[v]))=c++.lst (acc++[v])::(zs++ws):=by simp
  have fr:Fr c.length (c++.lst acc::zs++ws) (c++.lst (acc++[v])::(zs++ws)):=by rw[←f4];exact Fr.set
  obtain⟨vs,BJ,f5,f6,f7⟩:=yq hs hI hR ds (acc++[v]) (zs++ws) lY (k+1) (by simp[hk]) Sb (by rw[←f4];exact hI _ _ _ (by simpa using PK)) (fun i d' h1=>by
   have:=hv (i+1) d' (by simpa using h1)
   rwa[show k+(i+1)=k+1+i by omega]at this) (by simp only[List.length_append,List.length_cons,List.length_nil];omega) (fun i u hu=>by
   rcases Nat.lt_or_ge i acc.length with hi|hi
   ·rw[List.getElem?_append_left hi]at hu
    exact hR _ _ _ _ (hR _ _ _ _ (ha i u hu) Fr.app) fr
   ·have:i=acc.length:=by
     have:=(List.getElem?_eq_some_iff.mp hu).1
     simp at this
     omega
    subst this
    rw[List.getElem?_append_right (Nat.le_refl _),Nat.sub_self]at hu
    cases hu
    rw[←hk]
    exact hR _ _ _ _ (by simpa using hr) fr)
  refine⟨v::vs,BJ,?_,by simp[f6],by simpa using f7⟩
  unfold gz
  rw[if_pos st]
  have f0:fB lY (c++.lst acc::zs)=some (true,c++.lst acc::zs):=rfl
  simp only[f1,Option.bind_some,f0,if_true,f2,f3,f4]
  rw[if_pos (show acc.length<cR by rw[dR];omega),f5]
  simp
theorem JL{it:XI}{cap:List (Option Nat)}{g:XG}{te:XE}{σ:Qm.Env}{c0 c:Cells}{ds:List D}{ks:List (Nat×Cell)}(E:Qm.Env→Prop)(Rel:Nat→D→Cells→Prop)(I:Nat→Cells→Prop)(hI:∀i u z,I i u→I i (u.set c.length z))(hI0:I 0 (c++[.lst []]))(hi:it σ c0=some (⟨ds,ks⟩,c))(hs:stays ks c)(hE:E (qh σ cap))(hR:∀i v c1 c2,Rel i v c1→Fr c.length c1 c2→Rel i v c2)
  (hv:∀(i:Nat) d,ds[i]? =some d→∀τ c',E τ→c <+:c'→c.length<c'.length→I i c'→∃lY v ws,g d τ c'=some (lY,c')∧te lY c'=some (v,c'++ws)∧E lY∧Rel i v (c'++ws)∧I (i+1) (c'++ws))(hn:ds.length≤9000000):
  ∃vs c',ed it cap g fB te σ c0=some (.ref c.length,c')∧c <+:c'∧c'[c.length]? =some (.lst vs)∧vs.length=ds.length∧∀i v,vs[i]? =some v→Rel i v c':=by
 obtain⟨vs,zs,e,e2,e3⟩:=yq (te:=te) (g:=g) (E:=E) (Rel:=Rel) (I:=I) (ks:=ks) (c:=c) hs hI hR ds [] [] (qh σ cap) 0 rfl hE hI0 (fun i d h=>by rw[Nat.zero_add];exact hv i d h) (by simp;omega) (fun i v h=>by cases h)
 refine⟨vs,c++.lst vs::zs,?_,⟨_,rfl⟩,by simp,e2,by simpa using e3⟩
 unfold ed
 rw[hi,Option.bind_some]
 dsimp only
 rw[show c++[Cell.lst []]=c++.lst []::[] from rfl,e]
 rfl
theorem tR{it:XI}{cap:List (Option Nat)}{g:XG}{te:XE}{σ:Qm.Env}{c0 c:Cells}{ds:List D}{ks:List (Nat×Cell)}(E:Qm.Env→Prop)(Rel:Nat→D→Cells→Prop)(hi:it σ c0=some (⟨ds,ks⟩,c))(hs:stays ks c)(hE:E (qh σ cap))(hR:∀i v c1 c2,Rel i v c1→Fr c.length c1 c2→Rel i v c2)
  (hv:∀(i:Nat) d,ds[i]? =some d→∀τ c',E τ→c <+:c'→c.length<c'.length→∃lY v ws,g d τ c'=some (lY,c')∧te lY c'=some (v,c'++ws)∧E lY∧Rel i v (c'++ws))(hn:ds.length≤9000000):
  ∃vs c',ed it cap g fB te σ c0=some (.ref c.length,c')∧c <+:c'∧c'[c.length]? =some (.lst vs)∧vs.length=ds.length∧∀i v,vs[i]? =some v→Rel i v c':=
 JL E Rel (fun _ _=>True) (fun _ _ _ _=>trivial) trivial hi hs hE hR (fun i d h τ c' h1 h2 h3 _=>let ⟨a,b,d,e,f,g,h⟩:=hv i d h τ c' h1 h2 h3;⟨a,b,d,e,f,g,h,trivial⟩) hn
section
variable{α:Type}(lt:α→α→Bool)
def ke:List α→List α→List α
 |l,[]=>l
 |l,y::r=>l.takeWhile (fun x=>!lt y x)++y::ke (l.dropWhile fun x=>!lt y x) r
def jv:List α→Prop
 |x::y::l=>lt y x=false∧jv (y::l)
 |_=>True
variable{lt}
theorem pN:∀(r l:List α),(ke lt l r).Perm (l++r)
 |[],l=>by simp[ke]
 |y::r,l=>by
  have h:=pN r (l.dropWhile fun x=>!lt y x)
  have e:l++y::r=l.takeWhile (fun x=>!lt y x)++(l.dropWhile (fun x=>!lt y x)++y::r):=by rw[←List.append_assoc,List.takeWhile_append_dropWhile]
  rw[e]
  refine List.Perm.append_left _ ?_
  exact(List.Perm.cons y h).trans List.perm_middle.symm
theorem mC{x:α}{l:List α}(h:jv lt (x::l)):jv lt l:=by
 cases l with
 |nil=>trivial
 |cons y l=>exact h.2
theorem tS{x:α}{l:List α}(h:jv lt l)(h2:∀y,l.head?=some y→lt y x=false):jv lt (x::l):=by
 cases l with
 |nil=>trivial
 |cons y l=>exact⟨h2 y rfl,h⟩
theorem BK:∀{l m:List α},jv lt l→jv lt m→(∀x y,l.getLast?=some x→m.head?=some y→lt y x=false)→jv lt (l++m)
 |[],m,_,h,_=>h
 |[x],m,_,h,h2=>tS h fun y hy=>h2 x y rfl hy
 |x::z::l,m,h,hm,h2=>⟨h.1,BK (l:=z::l) h.2 hm fun a b ha hb=>h2 a b (by simpa using ha) hb⟩
theorem yr{p:α→Bool}:∀{l:List α},jv lt l→jv lt (l.takeWhile p)
 |[],_=>trivial
 |x::l,h=>by
  rw[List.takeWhile_cons]
  split
  ·refine tS (yr (mC h)) fun y hy=>?_
   cases l with
   |nil=>cases hy
   |cons z l=>
    rw[List.takeWhile_cons]at hy
    split at hy
    ·cases hy;exact h.1
    ·cases hy
  ·trivial
theorem yt{p:α→Bool}:∀{l:List α},jv lt l→jv lt (l.dropWhile p)
 |[],_=>trivial
 |x::l,h=>by
  rw[List.dropWhile_cons]
  split
  ·exact yt (mC h)
  ·exact h
theorem Gw:∀(r l:List α) {y:α},(ke lt l r).head?=some y→l.head?=some y∨r.head?=some y
 |[],l,y,h=>.inl h
 |z::r,l,y,h=>by
  unfold ke at h
  cases l with
  |nil=>exact .inr h
  |cons x l=>
   rw[List.takeWhile_cons]at h
   split at h
   ·exact .inl h
   ·exact .inr h
theorem yu{p:α→Bool}:∀{l:List α}{x:α},x∈l.takeWhile p→p x=true
 |[],x,h=>by cases h
 |z::l,x,h=>by
  rw[List.takeWhile_cons]at h
  split at h
  ·rename_i hz
   rcases List.mem_cons.mp h with rfl|h
   ·exact hz
   ·exact yu h
  ·cases h
theorem DE{p:α→Bool}{l:List α}{x:α}(h:(l.takeWhile p).getLast?=some x):p x=true:=yu (List.mem_of_getLast? h)
theorem wV{p:α→Bool}:∀{l:List α}{x:α},(l.dropWhile p).head?=some x→p x=false
 |[],x,h=>by cases h
 |z::l,x,h=>by
  rw[List.dropWhile_cons]at h
  split at h
  ·exact wV h
  ·rename_i hz
   cases h
   simpa using hz
theorem wW(Gx:∀x y,lt x y=true→lt y x=false):∀(r l:List α),jv lt l→jv lt r→jv lt (ke lt l r)
 |[],l,h,_=>h
 |y::r,l,h,hr=>by
  unfold ke
  refine BK (yr h) (tS (wW Gx r _ (yt h) (mC hr)) fun z hz=>?_) fun a b ha hb=>?_
  ·rcases Gw r _ hz with hz|hz
   ·have:=wV hz
    exact Gx y z (by simpa using this)
   ·cases r with
    |nil=>cases hz
    |cons z' r=>cases hz;exact hr.1
  ·cases hb
   have:=DE ha
   simpa using this
end
section
variable{α:Type}{e:α→D}{lt:α→α→Bool}{x0 x1 f:Nat}{F:FN}
noncomputable abbrev JM(x0 x1:Nat):List (Nat×FN):=[(x0,br),(x1,dv)]
structure Look(x0 x1 f:Nat)(e:α→D)(lt:α→α→Bool)(ok:α→Prop):Prop where
 at_:∃F,(JM x0 x1).lookup f=some F∧∀x y c,ok x→ok y→F [e x,e y] c=some (.bl (lt x y),c)
theorem sk{e:α→D}{l:List α}{k:Nat}{x:α}(h:l[k]? =some x):iV (l.map e) (k:Int)=some (e x):=BH (by rw[List.getElem?_map,h];rfl)
theorem ot{e:α→D}{a:Nat}{l:List α}{c:Cells}(h:c[a]? =some (.lst (l.map e))):cY [.ref a] c=some (.int l.length,c):=by
 rw[DC,bq h]
 simp
theorem sr{e:α→D}{a:Nat}{l:List α}{x:α}{c:Cells}(h:c[a]? =some (.lst (l.map e)))(hn:l.length<9000000):bM (.ref a) [e x] c=some (.bF,c.set a (.lst ((l++[x]).map e))):=by
 unfold bM one
 simp only[aE h,Option.bind_some,List.length_map]
 rw[if_pos (show l.length<cR by rw[dR];omega)]
 simp
theorem tT{c:Cells}{z y:Cell}:(c++[z]).set c.length y=c++[y]:=by simp
theorem aI{c:Cells}{z:Cell}:(c++[z])[c.length]? =some z:=by simp
noncomputable abbrev wT(x0 x1:Nat):XT:=iN (tV (e2 zd (eV 4) (eB cY (ae (eV 0) ag)))) (eI (tV (rW (JM x0 x1) (eV 2) (ae (eV 5) (ae (e2 aw (eV 0) (eV 4)) ag)))))
noncomputable abbrev wB:XS:=ay (cC (eM bM (eV 3) (ae (e2 aw (eV 0) (eV 4)) ag))) (aH 4 (e2 bH (eV 4) (eC (.int 1))))
theorem M3{ok:α→Prop}(Lk:Look x0 x1 f e lt ok){l:List α}{y:α}{a:Nat}{c:Cells}{w1:Option D}(bh:∀x∈l,ok x)(hy:ok y)(ha:c[a]? =some (.lst (l.map e)))(hl:l.length≤1000000):∀(n k:Nat) (row:List α),l.length - k=n→k≤l.length→row.length≤2000000+k→
  dP (wT x0 x1) wB [some (.ref a),w1,some (.adr f),some (.ref c.length),some (.int k),some (e y)] (c++[.lst (row.map e)])=some (.nx,[some (.ref a),w1,some (.adr f),some (.ref c.length),some (.int (k+((l.drop k).takeWhile fun x=>!lt y x).length:Nat)),some (e y)],c++[.lst ((row++(l.drop k).takeWhile fun x=>!lt y x).map e)]):=by
 obtain⟨F,hF,hc⟩:=Lk.at_
 have wK:∀row:List α,(c++[.lst (row.map e)])[a]? =some (.lst (l.map e)):=fun row=>aY ha
 intro n
 induction n with
 |zero=>
  intro k row hk hle hr
  have Gy:k=l.length:=by omega
  have b1:=ot (wK row)
  have d0:l.drop k=[]:=List.drop_eq_nil_of_le (by omega)
  rw[d0]
  simp only[List.takeWhile_nil,List.length_nil,Nat.add_zero,List.append_nil]
  refine ig ?_
  have fZ:decide ((k:Int)<(l.length:Int))=false:=decide_eq_false (by omega)
  erw[b1,fZ]
 |succ n ih=>
  intro k row hk hle hr
  have Gy:k<l.length:=by omega
  have b1:=ot (wK row)
  have fZ:decide ((k:Int)<(l.length:Int))=true:=decide_eq_true (by omega)
  obtain⟨x,hx⟩:∃x,l[k]? =some x:=⟨_,List.getElem?_eq_getElem Gy⟩
  have Se:x∈l:=List.mem_of_getElem? hx
  have d0:l.drop k=x::l.drop (k+1):=by
   rw[List.drop_eq_getElem_cons Gy]
   rw[List.getElem?_eq_getElem Gy]at hx
   rw[Option.some.inj hx]
  have s1:=bq (wK row)
  have a1:=sk (e:=e) hx
  have c1:=hc y x (c++[.lst (row.map e)]) hy (bh x Se)
  have M4:wT x0 x1 [some (.ref a),w1,some (.adr f),some (.ref c.length),some (.int k),some (e y)] (c++[.lst (row.map e)])=some (!lt y x,c++[.lst (row.map e)]):=by
   have cv:rW (JM x0 x1) (eV 2) (ae (eV 5) (ae (e2 aw (eV 0) (eV 4)) ag)) [some (.ref a),w1,some (.adr f),some (.ref c.length),some (.int k),some (e y)] (c++[.lst (row.map e)])=some (.bl (lt y x),c++[.lst (row.map e)]):=by
    unfold rW
    erw[jr,s1,a1,hF,c1]
   erw[b1,fZ,cv]
  cases Cr:lt y x with
  |true=>
   rw[Cr]at M4
   rw[d0,List.takeWhile_cons]
   simp only[Cr,Bool.not_true,Bool.false_eq_true,if_false,List.length_nil,Nat.add_zero,List.append_nil]
   exact ig M4
  |false=>
   rw[Cr]at M4
   rw[d0,List.takeWhile_cons]
   simp only[Cr,Bool.not_false,if_true,List.length_cons]
   have ap:=sr (e:=e) (x:=x) (aI (c:=c) (z:=.lst (row.map e))) (by omega)
   rw[tT]at ap
   have bd:wB [some (.ref a),w1,some (.adr f),some (.ref c.length),some (.int k),some (e y)] (c++[.lst (row.map e)])=some (.nx,[some (.ref a),w1,some (.adr f),some (.ref c.length),some (.int ((k+1:Nat):Int)),some (e y)],c++[.lst ((row++[x]).map e)]):=by
    have s2:=aE (aI (c:=c) (z:=.lst (row.map e)))
    erw[jr,s1,a1,s2,ap]
    rfl
   have r:=ih (k+1) (row++[x]) (by omega) (by omega) (by simp;omega)
   rw[show k+1+((l.drop (k+1)).takeWhile fun x=>!lt y x).length=k+(((l.drop (k+1)).takeWhile fun x=>!lt y x).length+1)by omega,List.append_assoc]at r
   exact mN M4 bd r
theorem zO{e:α→D}{l:List α}{k:Nat}(h:k≤l.length):Qm.cutD (l.map e) (some (k:Int)) none=(l.drop k).map e:=by
 have h1:Qm.wt (l.map e).length 0 (some (k:Int))=k:=by
  show(if (k:Int)<0 then((k:Int)+(l.map e).length).toNat else min (k:Int).toNat (l.map e).length)=k
  rw[if_neg (by omega),List.length_map,Int.toNat_natCast]
  omega
 have h2:Qm.wt (l.map e).length (l.map e).length none=l.length:=by simp[Qm.wt]
 unfold Qm.cutD
 rw[h1,h2,List.take_of_length_le (by simp)]
 simp
theorem JN{ok:α→Prop}(Lk:Look x0 x1 f e lt ok){l r:List α}{a b:Nat}{c:Cells}(hl:∀x∈l,ok x)(hr:∀x∈r,ok x)(ha:c[a]? =some (.lst (l.map e)))(hb:c[b]? =some (.lst (r.map e)))(nl:l.length≤1000000)(nr:r.length≤1000000):
  ∃ws,hJ x0 x1 [.ref a,.ref b,.adr f] c=some (.ref c.length,c++.lst ((ke lt l r).map e)::ws):=by
 have lk:∀z,(c++[z])[b]? =some (.lst (r.map e)):=fun z=>aY hb
 have it:eK (eV 1) [some (.ref a),some (.ref b),some (.adr f),some (.ref c.length),some (.int 0),none] (c++[.lst []])=some (⟨r.map e,[(b,.lst (r.map e))]⟩,c++[.lst []]):=lE rfl (lk _)
 obtain⟨σ',c',e1,row,k,z,rfl,rfl,h1,h2,h3⟩:=cf (ks:=[(b,.lst (r.map e))]) (g:=av 5) (body:=ay (dP (wT x0 x1) wB) (cC (eM bM (eV 3) (ae (eV 5) ag))))
  (fun i σ c'=>∃row k z,σ=[some (.ref a),some (.ref b),some (.adr f),some (.ref c.length),some (.int ((k:Nat):Int)),z]∧c'=c++[.lst (row.map e)]∧ke lt l r=row++ke lt (l.drop k) (r.drop i)∧k≤l.length∧row.length=k+i)
  (r.map e) 0 [some (.ref a),some (.ref b),some (.adr f),some (.ref c.length),some (.int 0),none] (c++[.lst []])
  (by
   rintro i σ c' ⟨row,k,z,fm,bu,_⟩ p hp
   subst bu
   cases List.mem_singleton.mp hp
   exact lk _)
  (by
   rintro i d σ c' hd ⟨row,k,z,fm,bu,h1,h2,h3⟩
   subst fm bu
   rw[List.getElem?_map]at hd
   obtain⟨y,hy,rfl⟩:=Option.map_eq_some_iff.mp hd
   have DF:y∈r:=List.mem_of_getElem? hy
   have kf:i<r.length:=(List.getElem?_eq_some_iff.mp hy).1
   have w:=M3 Lk (y:=y) (w1:=some (.ref b)) hl (hr y DF) ha nl _ k row rfl h2 (by omega)
   generalize Fv:(l.drop k).takeWhile (fun x=>!lt y x)=tk at w
   have hdw:(l.drop k).dropWhile (fun x=>!lt y x)=l.drop (k+tk.length):=by
    have h:=List.takeWhile_append_dropWhile (p:=fun x=>!lt y x) (l:=l.drop k)
    rw[Fv]at h
    have h4:=congrArg (List.drop tk.length) h
    rw[List.drop_left]at h4
    rw[←List.drop_drop]
    exact h4
   have htl:k+tk.length≤l.length:=by
    have:tk.length≤(l.drop k).length:=by rw[←Fv];exact(List.takeWhile_sublist _).length_le
    rw[List.length_drop]at this
    omega
   have ap:=sr (e:=e) (x:=y) (aI (c:=c) (z:=.lst ((row++tk).map e))) (by simp;omega)
   rw[tT]at ap
   have s2:=aE (aI (c:=c) (z:=.lst ((row++tk).map e)))
   refine⟨_,_,[some (.ref a),some (.ref b),some (.adr f),some (.ref c.length),some (.int ((k+tk.length:Nat):Int)),some (e y)],c++[.lst ((row++tk++[y]).map e)],rfl,?_,row++tk++[y],k+tk.length,some (e y),rfl,rfl,?_,htl,by simp;omega⟩
   ·erw[w,s2,ap]
   ·rw[h1,show 0+i+1=i+1 from by omega,show 0+i=i from by omega]
    rw[List.drop_eq_getElem_cons kf]
    have:r[i]=y:=by
     rw[List.getElem?_eq_getElem kf]at hy
     exact Option.some.inj hy
    rw[this,ke,Fv,hdw]
    simp)
  ⟨[],0,none,rfl,rfl,rfl,Nat.zero_le _,rfl⟩
 have s0:=bq (aY (zs:=[.lst (row.map e)]) ha)
 have e2:=fN (g:=av 5) (b:=ay (dP (wT x0 x1) wB) (cC (eM bM (eV 3) (ae (eV 5) ag)))) it
 rw[e1]at e2
 have e3:r.drop (0+(r.map e).length)=[]:=List.drop_eq_nil_of_le (by simp)
 rw[e3,ke]at h1
 have s2:bj (.ref c.length) (c++[.lst (row.map e)]++[.lst ((l.drop k).map e)])=some (c.length,row.map e):=aE (aY aI)
 have s2':bj (.ref c.length) (c++[.lst (row.map e)])=some (c.length,row.map e):=aE aI
 have s3:bj (.ref (c++[Cell.lst (row.map e)]).length) (c++[.lst (row.map e)]++[.lst ((l.drop k).map e)])=some ((c++[Cell.lst (row.map e)]).length,(l.drop k).map e):=aE aI
 have mx:fD (.ref c.length) [.ref (c++[Cell.lst (row.map e)]).length] (c++[.lst (row.map e)]++[.lst ((l.drop k).map e)])=some (.bF,c++.lst ((ke lt l r).map e)::[.lst ((l.drop k).map e)]):=by
  unfold fD one
  simp only[s2,s3,Option.bind_some,List.length_map]
  rw[if_pos (show row.length+(l.drop k).length≤cR by rw[dR,List.length_drop,h3];simp;omega)]
  rw[h1]
  simp
 refine⟨[.lst ((l.drop k).map e)],?_⟩
 have ct:eJ (.ref a) (some (k:Int)) none (c++[.lst (row.map e)])=some (.ref (c++[Cell.lst (row.map e)]).length,c++[.lst (row.map e)]++[.lst ((l.drop k).map e)]):=by
  show((cE (.ref a) (c++[.lst (row.map e)])).bind _)=_
  rw[s0,Option.bind_some,zO h2]
 rw[hJ,jq,pK]
 erw[e2,s2',pM,ct,mx,Nat.zero_le]
end
section
variable{α:Type}{e:α→D}{lt:α→α→Bool}{x0 x1 f:Nat}
structure Runs(e:α→D)(c:Cells)(ids:List Nat)(rows:List (List α)):Prop where
 len:ids.length=rows.length
 at_:∀(i n:Nat) l,ids[i]? =some n→rows[i]? =some l→c[n]? =some (.lst (l.map e))
theorem Runs.up{c c':Cells}{ids:List Nat}{rows:List (List α)}(h:Runs e c ids rows)(k:c <+:c'):Runs e c' ids rows:=⟨h.len,fun i n l h1 h2=>aA k (h.at_ i n l h1 h2)⟩
theorem Runs.get{c:Cells}{ids:List Nat}{rows:List (List α)}(h:Runs e c ids rows){i:Nat}{l:List α}(hl:rows[i]? =some l):∃n,ids[i]? =some n∧c[n]? =some (.lst (l.map e)):=by
 have hi:=(List.getElem?_eq_some_iff.mp hl).1
 rw[←h.len]at hi
 exact⟨ids[i],List.getElem?_eq_getElem hi,h.at_ i _ l (List.getElem?_eq_getElem hi) hl⟩
def su(lt:α→α→Bool):List (List α)→List (List α)
 |a::b::r=>ke lt a b::su lt r
 |r=>r
theorem wX:∀(rows:List (List α)),(su lt rows).length=(rows.length+1) / 2
 |[]=>by simp[su]
 |[_]=>by simp[su]
 |a::b::r=>by
  have:=wX r
  simp only[su,List.length_cons,this]
  omega
theorem zP:∀(rows:List (List α)) (i:Nat) (a b:List α),rows[2*i]? =some a→rows[2*i+1]? =some b→(su lt rows)[i]? =some (ke lt a b)
 |[],i,a,b,h,_=>by simp at h
 |[_],i,a,b,h,g=>by simp at g
 |x::y::r,0,a,b,h,g=>by
  simp at h g
  subst h g
  rfl
 |x::y::r,i+1,a,b,h,g=>by
  rw[show 2*(i+1)=2*i+1+1 by omega]at h
  rw[show 2*(i+1)+1=2*i+1+1+1 by omega]at g
  exact zP r i a b (by simpa using h) (by simpa using g)
theorem BL:∀(rows:List (List α)) (a:List α),rows.length % 2=1→rows[rows.length - 1]? =some a→(su lt rows)[rows.length / 2]? =some a
 |[],a,h,_=>by simp at h
 |[x],a,_,h=>by simpa[su]using h
 |x::y::r,a,h,g=>by
  have hr:r.length % 2=1:=by simp at h;omega
  have h1:(x::y::r).length - 1=(r.length - 1)+1+1:=by simp;omega
  have h2:(x::y::r).length / 2=r.length / 2+1:=by simp;omega
  rw[h1]at g
  rw[h2]
  exact BL r a hr (by simpa using g)
theorem yw:∀(rows:List (List α)),(su lt rows).flatten.Perm rows.flatten
 |[]=>.refl _
 |[_]=>.refl _
 |a::b::r=>by
  simp only[su,List.flatten_cons]
  exact((pN b a).append (yw r)).trans (by rw[List.append_assoc])
theorem wY{P:List α→Prop}(hP:∀a b,P a→P b→P (ke lt a b)):∀(rows:List (List α)),(∀l∈rows,P l)→∀l∈su lt rows,P l
 |[],h=>h
 |[_],h=>h
 |a::b::r,h=>by
  intro l hl
  rcases List.mem_cons.mp hl with rfl|hl
  ·exact hP _ _ (h a (by simp)) (h b (by simp))
  ·exact wY hP r (fun l hl=>h l (by simp[hl])) l hl
theorem ou{ids:List Nat}{i n:Nat}(h:ids[i]? =some n):iV (ids.map D.ref) (i:Int)=some (.ref n):=sk (e:=D.ref) h
theorem JO{lo:Int}{n i:Nat}{d:D}(h:(nZ lo n)[i]? =some d):i<n∧d= .int (lo+i*2):=by
 unfold nZ at h
 rw[List.getElem?_map]at h
 obtain⟨j,hj,rfl⟩:=Option.map_eq_some_iff.mp h
 obtain⟨h1,h2⟩:=List.getElem?_eq_some_iff.mp hj
 simp at h1 h2
 subst h2
 exact⟨h1,rfl⟩
theorem wZ{ok:α→Prop}(Lk:Look x0 x1 f e lt ok){ids:List Nat}{rows:List (List α)}{R:Nat}{c:Cells}(hR:c[R]? =some (.lst (ids.map D.ref)))(hr:Runs e c ids rows)(bh:∀l∈rows,∀x∈l,ok x)(hn:∀l∈rows,l.length≤1000000)(h2: 2≤rows.length)(h3:rows.length≤1000000):
  ∃sv c',cN x0 x1 [.ref R,.adr f] c=some (.ref c.length,c')∧c <+:c'∧c'[c.length]? =some (.lst (sv.map D.ref))∧Runs e c' sv (su lt rows)∧∀m∈sv,m∈ids∨c.length≤m:=by
 have w6:=hr.len
 have bl:cY [.ref R] c=some (.int ids.length,c):=ot (e:=D.ref) hR
 have hi:zx (ae (eC (.int 0)) (ae (e2 fO (eB cY (ae (eV 0) ag)) (eC (.int 1))) (ae (eC (.int 2)) ag))) [some (.ref R),some (.adr f),none] c=some (⟨nZ 0 (rows.length / 2),[]⟩,c):=by
  unfold zx
  have ha:ae (eC (.int 0)) (ae (e2 fO (eB cY (ae (eV 0) ag)) (eC (.int 1))) (ae (eC (.int 2)) ag)) [some (.ref R),some (.adr f),none] c=some ([.int 0,.int (ids.length - 1),.int 2],c):=by erw[bl]
  rw[ha,Option.bind_some]
  dsimp only
  rw[if_pos ⟨rfl,⟨by omega,by omega⟩,⟨by omega,by omega⟩⟩]
  rw[show((ids.length:Int) - 1 - 0+1) / 2=((rows.length / 2:Nat):Int)by omega]
  rfl
 obtain⟨vs,c1,e1,p1,g1,l1,r1⟩:=tR (te:=aq (hJ x0 x1) [] (ae (e2 aw (eV 2) (eV 0)) (ae (e2 aw (eV 2) (e2 bH (eV 0) (eC (.int 1)))) (ae (eV 1) ag)))) (g:=av 0) (cap:=[none,some 1,some 0])
  (fun τ=>∃z,τ=[z,some (.adr f),some (.ref R)]) (fun i v c'=>∃n a b,v= .ref n∧c.length<n∧rows[2*i]? =some a∧rows[2*i+1]? =some b∧c'[n]? =some (.lst ((ke lt a b).map e))) hi gj ⟨none,rfl⟩
  (fun i v c1 c2 ⟨n,a,b,h1,h2,h3,h4,h5⟩ fr=>⟨n,a,b,h1,h2,h3,h4,fr n _ (by omega) h5⟩)
  (by
   rintro i d hd τ c' ⟨z,tU⟩ pc lc
   subst tU
   obtain⟨S_,rfl⟩:=JO hd
   obtain⟨a,ha⟩:∃a,rows[2*i]? =some a:=⟨_,List.getElem?_eq_getElem (by omega)⟩
   obtain⟨b,hb⟩:∃b,rows[2*i+1]? =some b:=⟨_,List.getElem?_eq_getElem (by omega)⟩
   obtain⟨na,ga,ca⟩:=hr.get ha
   obtain⟨nb,gb,cb⟩:=hr.get hb
   have ma:=List.mem_of_getElem? ha
   have mb:=List.mem_of_getElem? hb
   obtain⟨ws,em⟩:=JN Lk (bh a ma) (bh b mb) (aA pc ca) (aA pc cb) (hn a ma) (hn b mb)
   have s0:=bq (aA pc hR)
   have t1:=ou ga
   have t2:=ou gb
   rw[show(((2*i:Nat)):Int)=0+(i:Int)*2 by omega]at t1
   rw[show(((2*i+1:Nat)):Int)=0+(i:Int)*2+1 by omega]at t2
   refine⟨[some (.int (0+i*2)),some (.adr f),some (.ref R)],.ref c'.length,.lst ((ke lt a b).map e)::ws,rfl,?_,⟨_,rfl⟩,c'.length,a,b,rfl,by omega,ha,hb,by simp⟩
   erw[jr,s0,t1,t2,em])
  (by simp[nZ];omega)
 have Sf:vs.length=rows.length / 2:=by rw[l1];simp[nZ]
 have ref:∃ns:List Nat,vs=ns.map D.ref∧ns.length=vs.length∧∀(i n:Nat),ns[i]? =some n→c.length<n∧∃a b,rows[2*i]? =some a∧rows[2*i+1]? =some b∧c1[n]? =some (.lst ((ke lt a b).map e)):=by
  clear e1 g1 l1 Sf
  have:∀(vs:List D) (k:Nat),(∀i v,vs[i]? =some v→∃n a b,v=D.ref n∧c.length<n∧rows[2*(k+i)]? =some a∧rows[2*(k+i)+1]? =some b∧c1[n]? =some (.lst ((ke lt a b).map e)))→∃ns:List Nat,vs=ns.map D.ref∧ns.length=vs.length∧∀(i n:Nat),ns[i]? =some n→c.length<n∧∃a b,rows[2*(k+i)]? =some a∧rows[2*(k+i)+1]? =some b∧c1[n]? =some (.lst ((ke lt a b).map e)):=by
   intro vs
   induction vs with
   |nil=>exact fun k _=>⟨[],rfl,rfl,fun i n h=>by cases h⟩
   |cons v vs ih=>
    intro k h
    obtain⟨n,a,b,rfl,h0,h1,h2,h3⟩:=h 0 v rfl
    obtain⟨ns,rfl,h4,h5⟩:=ih (k+1) fun i v hv=>by
     have:=h (i+1) v (by simpa using hv)
     rwa[show k+(i+1)=k+1+i by omega]at this
    refine⟨n::ns,rfl,by simp,fun i m hm=>?_⟩
    cases i with
    |zero=>
     cases hm
     exact⟨h0,a,b,h1,h2,h3⟩
    |succ i=>
     have:=h5 i m (by simpa using hm)
     rwa[show k+1+i=k+(i+1)by omega]at this
  obtain⟨ns,h1,h2,h3⟩:=this vs 0 fun i v hv=>by rw[Nat.zero_add];exact r1 i v hv
  exact⟨ns,h1,h2,fun i n hn=>by have:=h3 i n hn;rwa[Nat.zero_add]at this⟩
 obtain⟨ns,rfl,ln,yZ⟩:=ref
 have M5:cY [.ref R] c1=some (.int ids.length,c1):=ot (e:=D.ref) (aA p1 hR)
 have fA:=wX (lt:=lt) rows
 rw[←ln]at Sf
 by_cases Vj:rows.length % 2=1
 ·obtain⟨a,ha⟩:∃a,rows[rows.length - 1]? =some a:=⟨_,List.getElem?_eq_getElem (by omega)⟩
  obtain⟨m,gm,cm⟩:=hr.get ha
  have hm:decide ((ids.length:Int) % 2=1)=true:=decide_eq_true (by omega)
  have s0:=bq (aA p1 hR)
  have t1:iV (ids.map D.ref) (-1)=some (.ref m):=by
   have fH:ids≠[]:=fun h=>by rw[h]at w6;simp at w6;omega
   have:ids=ids.dropLast++[m]:=by
    have h4:=List.dropLast_concat_getLast fH
    rw[List.getLast_eq_getElem]at h4
    have h5:ids[ids.length - 1]'(by omega)=m:=by
     rw[←w6,List.getElem?_eq_getElem (by omega)]at gm
     exact Option.some.inj gm
    rw[h5]at h4
    exact h4.symm
   rw[this,List.map_append]
   exact Gv
  have hmL:m≠c.length:=by have:=bp cm;omega
  have s2:=aE g1
  have ap:=sr (e:=D.ref) (x:=m) g1 (by omega)
  refine⟨ns++[m],c1.set c.length (.lst ((ns++[m]).map D.ref)),?_,mB p1 (Nat.le_refl _),iD (bp g1),⟨by rw[fA];simp;omega,fun i n l h1 h2=>?_⟩,fun q hq=>?_⟩
  ·rw[cN,jq,fF]
   erw[e1,M5,hm,jr,s0,t1,s2,ap]
  ·rcases Nat.lt_or_ge i ns.length with Gz|Gz
   ·rw[List.getElem?_append_left Gz]at h1
    obtain⟨q1,a',b',q2,q3,q4⟩:=yZ i n h1
    rw[zP rows i a' b' q2 q3]at h2
    cases h2
    exact cc q4 (by omega)
   ·have:i=ns.length:=by
     have:=(List.getElem?_eq_some_iff.mp h1).1
     simp at this
     omega
    subst this
    rw[List.getElem?_append_right (Nat.le_refl _),Nat.sub_self]at h1
    cases h1
    rw[Sf,BL rows a Vj ha]at h2
    cases h2
    exact cc (aA p1 cm) hmL
  ·rcases List.mem_append.mp hq with hq|hq
   ·obtain⟨i,Gz⟩:=List.getElem?_of_mem hq
    exact .inr (Nat.le_of_lt (yZ i q Gz).1)
   ·cases List.mem_singleton.mp hq
    exact .inl (List.mem_of_getElem? gm)
 ·have hm:decide ((ids.length:Int) % 2=1)=false:=decide_eq_false (by omega)
  refine⟨ns,c1,?_,p1,g1,⟨by rw[fA];omega,fun i n l h1 h2=>?_⟩,fun q hq=>?_⟩
  ·rw[cN,jq,fF]
   erw[e1,M5,hm]
  ·obtain⟨q1,a',b',q2,q3,q4⟩:=yZ i n h1
   rw[zP rows i a' b' q2 q3]at h2
   cases h2
   exact q4
  ·obtain⟨i,Gz⟩:=List.getElem?_of_mem hq
   exact .inr (Nat.le_of_lt (yZ i q Gz).1)
theorem JP{a b:List α}{x:α}:x∈ke lt a b↔x∈a∨x∈b:=by rw[(pN b a).mem_iff,List.mem_append]
theorem JQ{ok:α→Prop}(Lk:Look x0 x1 f e lt ok)(Gx:∀x y,lt x y=true→lt y x=false){A:Option D}{c0:Cells}:∀(n:Nat) (ids:List Nat) (rows:List (List α)) (R:Nat) (c:Cells),rows.length=n→c[R]? =some (.lst (ids.map D.ref))→Runs e c ids rows→(∀l∈rows,jv lt l)→(∀l∈rows,∀x∈l,ok x)→rows.flatten.length≤1000000→n≤1000000→c0 <+:c→(∀m∈ids,c0.length≤m)→
  ∃sv lF R' c',dP (tV (e2 pX (eB cY (ae (eV 2) ag)) (eC (.int 1)))) (aH 2 (aq (cN x0 x1) [] (ae (eV 2) (ae (eV 1) ag)))) [A,some (.adr f),some (.ref R)] c=some (.nx,[A,some (.adr f),some (.ref R')],c')∧c0 <+:c'∧c'[R']? =some (.lst (sv.map D.ref))∧Runs e c' sv lF∧lF.length≤1∧lF.flatten.Perm rows.flatten∧(∀l∈lF,jv lt l)∧(rows.length=0→lF.length=0)∧(∀m∈sv,c0.length≤m):=by
 intro n
 induction n using Nat.strongRecOn with
 |_ n ih=>
  intro ids rows R c hn hR hr iQ bh M6 hnn hp JR
  have bl:cY [.ref R] c=some (.int ids.length,c):=ot (e:=D.ref) hR
  have w6:=hr.len
  by_cases h1:rows.length≤1
  ·have hm:decide ((ids.length:Int) > 1)=false:=decide_eq_false (by omega)
   exact⟨ids,rows,R,c,ig (by erw[bl,hm]),hp,hR,hr,h1,.refl _,iQ,id,JR⟩
  ·have hm:decide ((ids.length:Int) > 1)=true:=decide_eq_true (by omega)
   have hsz:∀l∈rows,l.length≤1000000:=fun l hl=>by
    have:=(List.sublist_flatten_of_mem hl).length_le
    omega
   obtain⟨sv,c',e1,p1,g1,r1,m1⟩:=wZ Lk hR hr bh hsz (by omega) (by omega)
   have fA:=wX (lt:=lt) rows
   have Vk:=yw (lt:=lt) rows
   have hc0:=eP hp
   obtain⟨Vl,DG,R2,c2,f1,f2,f3,f4,f5,f6,f7,f8,f9⟩:=ih (su lt rows).length (by omega) sv (su lt rows) c.length c' rfl g1 r1 (wY (P:=jv lt) (fun a b ha hb=>wW Gx b a ha hb) rows iQ) (wY (P:=fun l=>∀x∈l,ok x) (fun a b ha hb x hx=>(JP.mp hx).elim (ha x) (hb x)) rows bh) (by rw[Vk.length_eq];exact M6) (by omega) (hp.trans p1) (fun m hm=>(m1 m hm).elim (JR m) fun h=>Nat.le_trans hc0 h)
   refine⟨Vl,DG,R2,c2,mN (c':=c) (c2:=c') (σ':=[A,some (.adr f),some (.ref c.length)]) (by erw[bl,hm]) (by erw[e1]) f1,f2,f3,f4,f5,f6.trans Vk,f7,fun h=>by omega,f9⟩
theorem single:∀(xs:List α),(xs.map fun x=>[x]).flatten=xs
 |[]=>rfl
 |x::xs=>by
  rw[List.map_cons,List.flatten_cons,single xs]
  rfl
theorem w9{ok:α→Prop}(Lk:Look x0 x1 f e lt ok)(Gx:∀x y,lt x y=true→lt y x=false){xs:List α}{a:Nat}{c:Cells}(ha:c[a]? =some (.lst (xs.map e)))(bh:∀x∈xs,ok x)(hn:xs.length≤1000000):
  ∃n ys c',cG x0 x1 [.ref a,.adr f] c=some (.ref n,c')∧c <+:c'∧c.length≤n∧c'[n]? =some (.lst (ys.map e))∧ys.Perm xs∧jv lt ys:=by
 have hi:eK (eV 0) [some (.ref a),some (.adr f),none] c=some (⟨xs.map e,[(a,.lst (xs.map e))]⟩,c):=lE rfl ha
 obtain⟨vs,c1,e1,p1,g1,l1,r1⟩:=tR (te:=fC (ae (eV 0) ag)) (g:=av 0) (cap:=[none]) (fun τ=>∃z,τ=[z]) (fun i v c'=>∃n x,v= .ref n∧c.length<n∧xs[i]? =some x∧c'[n]? =some (.lst ([x].map e))) hi (fun p hp=>by cases List.mem_singleton.mp hp;exact ha) ⟨none,rfl⟩
  (fun i v c1 c2 ⟨n,x,h1,h2,h3,h4⟩ fr=>⟨n,x,h1,h2,h3,fr n _ (by omega) h4⟩)
  (by
   rintro i d hd τ c' ⟨z,tU⟩ pc lc
   subst tU
   rw[List.getElem?_map]at hd
   obtain⟨x,hx,rfl⟩:=Option.map_eq_some_iff.mp hd
   refine⟨[some (e x)],.ref c'.length,[.lst [e x]],rfl,?_,⟨_,rfl⟩,c'.length,x,rfl,lc,hx,by simp⟩
   erw[])
  (by simp;omega)
 have ref:∃ns:List Nat,vs=ns.map D.ref∧Runs e c1 ns (xs.map fun x=>[x])∧∀m∈ns,c.length≤m:=by
  clear e1 g1
  rw[List.length_map]at l1
  have:∀(vs:List D) (xs:List α),vs.length=xs.length→(∀(i:Nat) v,vs[i]? =some v→∃n x,v=D.ref n∧c.length<n∧xs[i]? =some x∧c1[n]? =some (.lst ([x].map e)))→∃ns:List Nat,vs=ns.map D.ref∧Runs e c1 ns (xs.map fun x=>[x])∧∀m∈ns,c.length≤m:=by
   intro vs
   induction vs with
   |nil=>
    intro xs hl _
    cases xs with
    |nil=>exact⟨[],rfl,⟨rfl,fun i n l h=>by cases h⟩,fun m h=>nomatch h⟩
    |cons _ _=>simp at hl
   |cons v vs ih=>
    intro xs hl h
    cases xs with
    |nil=>simp at hl
    |cons x xs=>
     obtain⟨n,x',rfl,h0,h1,h2⟩:=h 0 v rfl
     cases h1
     obtain⟨ns,rfl,h4,h5⟩:=ih xs (by simpa using hl) fun i v hv=>by
      have:=h (i+1) v (by simpa using hv)
      simpa using this
     refine⟨n::ns,rfl,⟨by simpa using h4.len,fun i m l h6 h7=>?_⟩,fun m hm=>?_⟩
     ·cases i with
      |zero=>
       cases h6
       cases h7
       exact h2
      |succ i=>exact h4.at_ i m l (by simpa using h6) (by simpa using h7)
     ·rcases List.mem_cons.mp hm with rfl|hm
      ·exact Nat.le_of_lt h0
      ·exact h5 m hm
  exact this vs xs l1 r1
 obtain⟨ns,rfl,hr,hm⟩:=ref
 have M6:(xs.map fun x=>[x]).flatten=xs:=single xs
 obtain⟨ids,rows,R,c2,f1,f2,f3,f4,f5,f6,f7,f8,f9⟩:=JQ Lk Gx (A:=some (.ref a)) (c0:=c) _ ns (xs.map fun x=>[x]) c.length c1 rfl g1 hr (fun l hl=>by
  obtain⟨x,_,rfl⟩:=List.mem_map.mp hl
  trivial) (fun l hl y hy=>by
  obtain⟨x,hx,rfl⟩:=List.mem_map.mp hl
  cases List.mem_singleton.mp hy
  exact bh _ hx) (by rw[M6];exact hn) (by simpa using hn) p1 hm
 rw[M6]at f6
 have w6:=f4.len
 have bl:cY [.ref R] c2=some (.int ids.length,c2):=ot (e:=D.ref) f3
 cases Vm:rows with
 |nil=>
  subst Vm
  have hl0:ids.length=0:=w6
  have hm:decide ((ids.length:Int)=1)=false:=decide_eq_false (by omega)
  refine⟨c2.length,[],c2++[.lst []],?_,pre_app f2,eP f2,by simp,by simpa using f6,trivial⟩
  rw[cG,jq,js]
  erw[e1,f1,bl,hm,Nat.zero_le]
 |cons l rest=>
  subst Vm
  have hre:rest=[]:=by
   cases rest with
   |nil=>rfl
   |cons _ _=>simp at f5
  subst hre
  obtain⟨n,gn,cn⟩:=f4.get (i:=0) (l:=l) rfl
  have hl0:ids.length=1:=w6
  have hm:decide ((ids.length:Int)=1)=true:=decide_eq_true (by omega)
  have s0:=bq f3
  have t1:iV (ids.map D.ref) 0=some (.ref n):=ou gn
  refine⟨n,l,c2,?_,f2,f9 n (List.mem_of_getElem? gn),cn,by simpa using f6,f7 l (by simp)⟩
  rw[cG,jq,js]
  erw[e1,f1,bl,hm,jr,s0,t1]
end
def sp(x y w:Int):D:=.tup [.int x,.int y,.int w]
structure Sp(k:Nat)(x y w:Int):Prop where
 low:My.A9 x y w
 bx:My.Bd k x
 jw:My.Bd k y
 bw:My.Bd k w
theorem Sp.pos{k:Nat}{x y w:Int}(h:Sp k x y w): 0<w:=h.low.pos
theorem Sp.mono{j k:Nat}{x y w:Int}(h:Sp j x y w)(e:j≤k):Sp k x y w:=⟨h.low,h.bx.mono e,h.jw.mono e,h.bw.mono e⟩
theorem Sp.mk'{k:Nat}{x y w:Int}(hw:w≠0)(bx:My.Bd k x)(jw:My.Bd k y)(bw:My.Bd k w):Sp k (My.sx x y w) (My.sy x y w) (My.sw x y w):=
 ⟨My.pC hw,My.Bd.of_le bx (My.QC hw),My.Bd.of_le jw (My.QD hw),My.Bd.of_le bw (My.QF hw)⟩
abbrev T3:=My.T3
def sd(p:T3):D:=sp p.1 p.2.1 p.2.2
abbrev Ok(k:Nat)(p:T3):Prop:=Sp k p.1 p.2.1 p.2.2
theorem Ok.dZ{k:Nat}{p:T3}(h:Ok k p):My.bB p:=h.low
theorem sA{x y w i:Int}{c:Cells}:aw (sp x y w) (.int i) c=(iV [D.int x,.int y,.int w] i).bind fun d=>some (d,c):=rfl
theorem Vn{p q:T3}{c:Cells}(hp:Ok 1000 p)(hq:Ok 1000 q):gk [sd p,sd q] c=some (.bl (decide (p.2.1*q.2.2<q.2.1*p.2.2)),c):=by
 have a1:=hp.bx;have a2:=hp.jw;have a3:=hp.bw;have b1:=hq.bx;have b2:=hq.jw;have b3:=hq.bw
 erw[gk,kO,sd,sA]
theorem gX{p q:T3}{c:Cells}(hp:Ok 1000 p)(hq:Ok 1000 q):br [sd p,sd q] c=some (.bl (My.aU p q),c):=by
 have a1:=hp.bx;have a2:=hp.jw;have a3:=hp.bw;have b1:=hq.bx;have b2:=hq.jw;have b3:=hq.bw
 have e:=Vn (c:=c) hp hq
 unfold sd at e ⊢
 unfold My.aU My.mJ
 by_cases h:p.1*q.2.2=q.1*p.2.2
 ·rw[if_pos h]
  erw[br,oq,sA,decide_eq_true h,e]
 ·rw[if_neg h]
  erw[br,oq,sA,decide_eq_false h]
def pd(p:T3):PyData:=.tuple [.int p.1,.int p.2.1,.int p.2.2]
theorem M7{p q:T3}:pd p=pd q↔p=q:=by
 obtain⟨a,b,c⟩:=p
 obtain⟨x,y,z⟩:=q
 simp[pd]
theorem BM{c:Cells}{k:Nat}{p:T3}:data c (k+2) (sd p)=some (pd p):=rfl
theorem EY{p q:T3}{c:Cells}:ze (sd p) (sd q) c=some (decide (p=q)):=by
 have e:ze (sd p) (sd q) c=(data c 6 (sd p)).bind fun d=>(data c 6 (sd q)).bind fun e=>some (@decide (d=e) (Classical.propDecidable _)):=rfl
 rw[e,BM,BM,Option.bind_some,Option.bind_some]
 congr 1
 rw[Bool.eq_iff_iff];simp only[decide_eq_true_eq]
 exact M7
theorem pO{p q:T3}{c:Cells}:hZ (sd p) (sd q) c=some (.bl (decide (p=q)),c):=by unfold hZ;rw[EY];rfl
theorem zQ{p q:T3}{c:Cells}:mL (sd p) (sd q) c=some (.bl (!decide (p=q)),c):=by unfold mL;rw[EY];rfl
theorem M8{p q:T3}:sd p=sd q↔p=q:=by
 obtain⟨a,b,c⟩:=p
 obtain⟨x,y,z⟩:=q
 simp[sd,sp]
def side(p q:T3):D:=.tup [sd p,sd q]
theorem M9(r:T3)(c:Cells):aw (sd r) (.int 0) c=some (.int r.1,c):=rfl
theorem M_(r:T3)(c:Cells):aw (sd r) (.int 1) c=some (.int r.2.1,c):=rfl
theorem Na(r:T3)(c:Cells):aw (sd r) (.int 2) c=some (.int r.2.2,c):=rfl
theorem qo(a b:T3)(c:Cells):aw (side a b) (.int 0) c=some (sd a,c):=rfl
theorem qp(a b:T3)(c:Cells):aw (side a b) (.int 1) c=some (sd b,c):=rfl
theorem Sh{n:Int}{c:Cells}:jO [.int n] c=some (.int (My.sgn n),c):=by
 unfold My.sgn
 by_cases h: 0<n
 ·rw[if_pos h];erw[jO,pJ,decide_eq_true h]
 ·rw[if_neg h]
  by_cases h2:n<0
  ·rw[if_pos h2];erw[jO,pJ,decide_eq_false h,decide_eq_true h2]
  ·rw[if_neg h2];erw[jO,pJ,decide_eq_false h,decide_eq_false h2]
def dt(a b p:T3):Int:=My.det a.1 a.2.1 a.2.2 b.1 b.2.1 b.2.2 p.1 p.2.1 p.2.2
theorem tW{p q:T3}{c:Cells}(hp:Ok 1000 p)(hq:Ok 1000 q):cP [sd p,sd q] c=some (sd (p.2.1*q.2.2 - p.2.2*q.2.1,p.2.2*q.1 - p.1*q.2.2,p.1*q.2.1 - p.2.1*q.1),c):=by
 have a1:=hp.bx;have a2:=hp.jw;have a3:=hp.bw;have b1:=hq.bx;have b2:=hq.jw;have b3:=hq.bw
 erw[cP,j9,M9,M_,Na]
 rfl
theorem DH{a b p:T3}{c:Cells}(ha:Ok 1000 a)(hb:Ok 1000 b)(hp:Ok 1000 p):iz [sd a,sd b,sd p] c=some (.int (My.sgn (dt a b p)),c):=by
 have a1:=ha.bx;have a2:=ha.jw;have a3:=ha.bw;have b1:=hb.bx;have b2:=hb.jw;have b3:=hb.bw;have p1:=hp.bx;have p2:=hp.jw;have p3:=hp.bw
 have e:=tW (c:=c) ha hb
 have k0:My.Bd 90000 (a.2.1*b.2.2 - a.2.2*b.2.1):=(My.Bd.sub (a2.mul b3) (a3.mul b2)).mono (by decide)
 have k1:My.Bd 90000 (a.2.2*b.1 - a.1*b.2.2):=(My.Bd.sub (a3.mul b1) (a1.mul b3)).mono (by decide)
 have k2:My.Bd 90000 (a.1*b.2.1 - a.2.1*b.1):=(My.Bd.sub (a1.mul b2) (a2.mul b1)).mono (by decide)
 have q1:=p1.mono (k:=90000) (by decide);have q2:=p2.mono (k:=90000) (by decide);have q3:=p3.mono (k:=90000) (by decide)
 have s:=Sh (n:=dt a b p) (c:=c)
 unfold dt My.det at s ⊢
 erw[iz,vJ,e,M9,M_,Na,dh (j8 k0 q1),dh (j8 k1 q2),dh (j8 k2 q3),s]
theorem pP{a b:T3}{c:Cells}(ha:Ok 1000 a)(hb:Ok 1000 b):cg [side a b] c=some (if My.aU a b=true then side a b else side b a,c):=by
 have e:=gX (c:=c) ha hb
 cases h:My.aU a b
 ·rw[h]at e
  erw[cg,j_,qo,qp,e]
  rfl
 ·rw[h]at e
  erw[cg,j_,qo,qp,e]
def BN(p a b:T3):Bool:=My.wm p.1 p.2.1 p.2.2 a.1 a.2.1 a.2.2 b.1 b.2.1 b.2.2
theorem GA{p a b:T3}{c:Cells}(hp:Ok 1000 p)(ha:Ok 1000 a)(hb:Ok 1000 b):dS [sd p,side a b] c=some (.bl (BN p a b),c):=by
 have e:=DH (c:=c) ha hb hp
 have f:=pP (c:=c) ha hb
 unfold BN My.wm
 by_cases h:dt a b p=0
 ·have hs:My.sgn (dt a b p)=0:=by rw[h];rfl
  unfold dt at h
  rw[if_pos h]
  rw[hs]at e
  by_cases zR:My.aU a b=true
  ·rw[if_pos zR]at f
   have wK:My.mJ a.1 a.2.1 a.2.2 b.1 b.2.1 b.2.2=true:=zR
   rw[if_pos wK]
   have g1:=gX (c:=c) hp ha
   have g2:=gX (c:=c) hb hp
   change _=some (D.bl (!My.aU p a&&!My.aU b p),c)
   cases h1:My.aU p a<;>cases h2:My.aU b p<;>rw[h1]at g1<;>rw[h2]at g2<;>erw[dS,iY,qo,qp,e,f,g1,g2]<;>rfl
  ·rw[if_neg zR]at f
   have wK:¬My.mJ a.1 a.2.1 a.2.2 b.1 b.2.1 b.2.2=true:=zR
   rw[if_neg wK]
   have g1:=gX (c:=c) hp hb
   have g2:=gX (c:=c) ha hp
   change _=some (D.bl (!My.aU p b&&!My.aU a p),c)
   cases h1:My.aU p b<;>cases h2:My.aU a p<;>rw[h1]at g1<;>rw[h2]at g2<;>erw[dS,iY,qo,qp,e,f,g1,g2]<;>rfl
 ·have hs:¬My.sgn (dt a b p)=0:=fun g=>h (My.jS g)
  unfold dt at h
  rw[if_neg h]
  erw[dS,iY,qo,qp,e,decide_eq_false hs]
theorem Nb{i j:Int}{c:Cells}(h:j≠0):fR (.int i) (.int j) c=some (.int (i.fmod j),c):=by
 unfold fR;rw[Gu,if_pos h];rfl
theorem BO{i j:Int}{c:Cells}(h:j≠0)(hb:My.Bd 8900 j):gZ (.int i) (.int j) c=some (.int (i.fdiv j),c):=by
 unfold gZ;rw[Gu,if_pos ⟨h,hb⟩];rfl
theorem yx{n m:Int}{c:Cells}:eZ [.int n,.int m] c=some (.int (Int.gcd n m),c):=by
 have loop:∀(k:Nat) (x y:Int) (z:Option D),y.natAbs=k→∃g z',dP (tV (e2 mL (eV 1) (eC (.int 0)))) (ay (aH 2 (e2 fR (eV 0) (eV 1))) (ay (aH 0 (eV 1)) (aH 1 (eV 2)))) [some (.int x),some (.int y),z] c=some (.nx,[some (.int g),some (.int 0),z'],c)∧(if g<0 then -g else g)=(Int.gcd x y:Int):=by
  intro k
  induction k using Nat.strongRecOn with
  |_ k ih=>
   intro x y z hk
   by_cases h:y=0
   ·subst h
    exact⟨x,z,ig (by erw[]),(My.gcd_zero x).symm⟩
   ·have lt:=My.u_ x h
    obtain⟨g,z',e,r⟩:=ih (x.fmod y).natAbs (by omega) y (x.fmod y) (some (.int (x.fmod y))) rfl
    rw[My.x8]at r
    exact⟨g,z',mN (c':=c) (c2:=c) (by erw[decide_eq_false h]) (by erw[Nb h]) e,r⟩
 obtain⟨g,z',e,r⟩:=loop _ n m none rfl
 erw[eZ,mV,e,r]
theorem Nc{x y w:Int}{c:Cells}(hw:w≠0)(hb:My.Bd 8900 w):kN [.int x,.int y,.int w] c=some (sd (My.spT x y w),c):=by
 have d1:=yx (n:=x) (m:=w) (c:=c)
 have d2:=yx (n:=(Int.gcd x w:Int)) (m:=y) (c:=c)
 have n0:=My.rG (x:=x) (y:=y) hw
 have nb:My.Bd 8900 (My.jx x y w):=My.Bd.of_le hb (My.LZ hw)
 unfold My.spT My.sx My.sy My.sw
 by_cases h:w<0
 ·have es:My.jx x y w= -(Int.gcd (Int.gcd x w:Int) y:Int):=by unfold My.jx;rw[if_pos h]
  rw[es]at n0 nb ⊢
  erw[kN,si,d1,d2,h,BO n0 nb]
  rfl
 ·have es:My.jx x y w=(Int.gcd (Int.gcd x w:Int) y:Int):=by unfold My.jx;rw[if_neg h]
  rw[es]at n0 nb ⊢
  erw[kN,si,d1,d2,h,BO n0 nb]
  rfl
theorem GB{p q:T3}{c:Cells}(a1:My.Bd 1000 p.1)(a2:My.Bd 1000 p.2.1)(a3:My.Bd 1000 p.2.2)(b1:My.Bd 1000 q.1)(b2:My.Bd 1000 q.2.1)(b3:My.Bd 1000 q.2.2):cP [sd p,sd q] c=some (sd (p.2.1*q.2.2 - p.2.2*q.2.1,p.2.2*q.1 - p.1*q.2.2,p.1*q.2.1 - p.2.1*q.1),c):=by
 erw[cP,j9,M9,M_,Na]
 rfl
theorem DI{a b p q:T3}{c:Cells}(ha:Ok 130 a)(hb:Ok 130 b)(hp:Ok 130 p)(hq:Ok 130 q)(hm:My.mW a b p q≠0):gq [side a b,side p q] c=some (sd (My.spT (My.mX a b p q) (My.mY a b p q) (My.mW a b p q)),c)∧Ok 530 (My.spT (My.mX a b p q) (My.mY a b p q) (My.mW a b p q)):=by
 have e1:=tW (c:=c) (ha.mono (k:=1000) (by decide)) (hb.mono (k:=1000) (by decide))
 have e2:=tW (c:=c) (hp.mono (k:=1000) (by decide)) (hq.mono (k:=1000) (by decide))
 have r:∀{u v:T3},Ok 130 u→Ok 130 v→My.Bd 261 (u.2.1*v.2.2 - u.2.2*v.2.1)∧My.Bd 261 (u.2.2*v.1 - u.1*v.2.2)∧My.Bd 261 (u.1*v.2.1 - u.2.1*v.1):=fun h1 h2=>⟨(My.Bd.sub (h1.jw.mul h2.bw) (h1.bw.mul h2.jw)).mono (by decide),(My.Bd.sub (h1.bw.mul h2.bx) (h1.bx.mul h2.bw)).mono (by decide),(My.Bd.sub (h1.bx.mul h2.jw) (h1.jw.mul h2.bx)).mono (by decide)⟩
 obtain⟨x1,x2,x3⟩:=r ha hb
 obtain⟨y1,y2,y3⟩:=r hp hq
 have e3:=GB (c:=c) (p:=(a.2.1*b.2.2 - a.2.2*b.2.1,a.2.2*b.1 - a.1*b.2.2,a.1*b.2.1 - a.2.1*b.1)) (q:=(p.2.1*q.2.2 - p.2.2*q.2.1,p.2.2*q.1 - p.1*q.2.2,p.1*q.2.1 - p.2.1*q.1)) (x1.mono (by decide)) (x2.mono (by decide)) (x3.mono (by decide)) (y1.mono (by decide)) (y2.mono (by decide)) (y3.mono (by decide))
 have bX:My.Bd 530 (My.mX a b p q):=by
  unfold My.mX My.m0;exact(My.Bd.sub (x2.mul y3) (x3.mul y2)).mono (by decide)
 have bY:My.Bd 530 (My.mY a b p q):=by
  unfold My.mY My.m1;exact(My.Bd.sub (x3.mul y1) (x1.mul y3)).mono (by decide)
 have bW:My.Bd 530 (My.mW a b p q):=by
  unfold My.mW My.m2;exact(My.Bd.sub (x1.mul y2) (x2.mul y1)).mono (by decide)
 have sp:=Nc (x:=My.mX a b p q) (y:=My.mY a b p q) (c:=c) hm (bW.mono (by decide))
 refine⟨?_,Sp.mk' hm bX bY bW⟩
 dsimp only at e3
 have ee:sd ((a.2.2*b.1 - a.1*b.2.2)*(p.1*q.2.1 - p.2.1*q.1) - (a.1*b.2.1 - a.2.1*b.1)*(p.2.2*q.1 - p.1*q.2.2),(a.1*b.2.1 - a.2.1*b.1)*(p.2.1*q.2.2 - p.2.2*q.2.1) - (a.2.1*b.2.2 - a.2.2*b.2.1)*(p.1*q.2.1 - p.2.1*q.1),(a.2.1*b.2.2 - a.2.2*b.2.1)*(p.2.2*q.1 - p.1*q.2.2) - (a.2.2*b.1 - a.1*b.2.2)*(p.2.1*q.2.2 - p.2.2*q.2.1))=sd (My.mX a b p q,My.mY a b p q,My.mW a b p q):=rfl
 rw[ee]at e3
 generalize My.mX a b p q=X at*
 generalize My.mY a b p q=Y at*
 generalize My.mW a b p q=W at*
 erw[gq,kR,qo,qp,e1,e2,e3,M9,M_,Na,sp]
theorem yy{ks:List (Nat×Cell)}{te:XE}{ρ:Qm.Env}{c:Cells}(hs:stays ks c):∀(ds vs acc:List D) (zs:List Cell) (x:Option D),ds.length=vs.length→(∀(i:Nat) d v,ds[i]? =some d→vs[i]? =some v→∀c',c <+:c'→∃ws,te (some d::ρ) c'=some (v,c'++ws))→acc.length+ds.length≤1000→
  ∃BJ,gz c.length ks (av 0) fB te ds (x::ρ) (c++.lst acc::zs)=some (c++.lst (acc++vs)::BJ)
 |[],vs,acc,zs,x,hl,_,_=>by
  cases vs with
  |nil=>
   have st:stays ks (c++.lst acc::zs):=fun p hp=>aA ⟨_,rfl⟩ (hs p hp)
   refine⟨zs,?_⟩
   unfold gz
   rw[if_pos st]
   simp
  |cons v vs=>simp at hl
 |d::ds,vs,acc,zs,x,hl,hv,hn=>by
  cases vs with
  |nil=>simp at hl
  |cons v vs=>
   have st:stays ks (c++.lst acc::zs):=fun p hp=>aA ⟨_,rfl⟩ (hs p hp)
   rw[List.length_cons]at hn
   obtain⟨ws,f2⟩:=hv 0 d v rfl rfl (c++.lst acc::zs) ⟨_,rfl⟩
   have f3:(c++.lst acc::zs++ws)[c.length]? =some (.lst acc):=by simp
   have f4:(c++.lst acc::zs++ws).set c.length (.lst (acc++[v]))=c++.lst (acc++[v])::(zs++ws):=by simp
   obtain⟨BJ,f5⟩:=yy hs ds vs (acc++[v]) (zs++ws) (some d) (by simpa using hl) (fun i d' v' h1 h2=>hv (i+1) d' v' (by simpa using h1) (by simpa using h2)) (by simp only[List.length_append,List.length_cons,List.length_nil];omega)
   refine⟨BJ,?_⟩
   unfold gz
   rw[if_pos st]
   have f1:fB (some d::ρ) (c++.lst acc::zs)=some (true,c++.lst acc::zs):=rfl
   simp only[EX,List.set_cons_zero,Option.bind_some,f1,if_true,f2,f3,f4]
   rw[if_pos (Nat.lt_of_lt_of_le (show acc.length<10000 by omega) (iy (Nat.le_refl _))),f5]
   simp
theorem JS{it:XI}{cap:List (Option Nat)}{te:XE}{σ ρ:Qm.Env}{x:Option D}{c:Cells}{ds:List D}(vs:List D)(hi:it σ c=some (⟨ds,[]⟩,c))(hc:qh σ cap=x::ρ)(hl:ds.length=vs.length)(hv:∀(i:Nat) d v,ds[i]? =some d→vs[i]? =some v→∀c',c <+:c'→∃ws,te (some d::ρ) c'=some (v,c'++ws))(hn:ds.length≤1000):
  ∃c',ed it cap (av 0) fB te σ c=some (.ref c.length,c')∧c <+:c'∧c'[c.length]? =some (.lst vs):=by
 obtain⟨zs,e⟩:=yy (te:=te) (ρ:=ρ) (ks:=[]) (c:=c) gj ds vs [] [] x hl hv (by simp;omega)
 refine⟨c++.lst vs::zs,?_,⟨_,rfl⟩,by simp⟩
 unfold ed
 rw[hi,Option.bind_some]
 dsimp only
 rw[hc,e]
 rfl
theorem EZ{a b p q:T3}{c:Cells}(ha:Ok 1000 a)(hb:Ok 1000 b)(hp:Ok 1000 p)(hq:Ok 1000 q):∃c',et [side a b,side p q] c=some (.ref c.length,c')∧c <+:c'∧c'[c.length]? =some (.lst [.int (My.sgn (My.aO a b p)),.int (My.sgn (My.aO a b q))]):=by
 have hi:uw (eV 1) [some (side a b),some (side p q)] c=some (⟨[sd p,sd q],[]⟩,c):=rfl
 obtain⟨c',e,h1,h2⟩:=JS (te:=(aq iz [] (ae (e2 aw (eV 1) (eC (.int 0))) (ae (e2 aw (eV 1) (eC (.int 1))) (ae (eV 0) ag))))) (cap:=[none,some 0]) [.int (My.sgn (My.aO a b p)),.int (My.sgn (My.aO a b q))] hi (show qh [some (side a b),some (side p q)] [none,some 0]=none::[some (side a b)] from rfl) rfl (by
  intro i d v g1 g2 c' _
  match i with
  |0=>
   cases g1;cases g2
   exact⟨[],by rw[List.append_nil];have:=DH (c:=c') ha hb hp;erw[qo,qp,this];rfl⟩
  |1=>
   cases g1;cases g2
   exact⟨[],by rw[List.append_nil];have:=DH (c:=c') ha hb hq;erw[qo,qp,this];rfl⟩
  |n+2=>simp at g1) (by simp)
 refine⟨c',?_,h1,h2⟩
 generalize hE:ed (uw (eV 1)) [none,some 0] (av 0) fB (aq iz [] (ae (e2 aw (eV 1) (eC (.int 0))) (ae (e2 aw (eV 1) (eC (.int 1))) (ae (eV 0) ag))))=EE at e
 have Sb:=hE
 rw[et,jq,kQ,Sb]
 erw[e]
def cD:My.Dx→D
 |.none=>.bF
 |.mv p=>.tup [.str "spot",sd p]
 |.gh p q=>.tup [.str "stretch",sd p,sd q]
theorem mG:(("stretch":Str).cps.all (·<1114112))=true:=by decide +kernel
theorem i4{c:Cells}{k m:Nat}{xs:List D}(h:c[m]? =some (.lst xs)):data c (k+1) (.ref m)=(omap (data c k) xs).bind fun ds=>some (.list ds):=by
 show(match c[m]? with|some (.lst xs)=>(omap (data c k) xs).bind fun ds=>some (PyData.list ds)|some (.ro xs)=>(omap (data c k) xs).bind fun ds=>some (.list ds)|_=>none)=_
 rw[h]
theorem Nd{c:Cells}{m n:Nat}{a b:Int}(h1:c[m]? =some (.lst [.int a,.int b]))(h2:c[n]? =some (.lst [.int 0,.int 0])):hZ (.ref m) (.ref n) c=some (.bl (decide (a=0∧b=0)),c):=by
 have d1:∀{m:Nat}{a b:Int},c[m]? =some (.lst [.int a,.int b])→data c 6 (.ref m)=some (.list [.int a,.int b]):=fun {m a b} h=>by
  rw[i4 h];rfl
 have e:ze (.ref m) (.ref n) c=(data c 6 (.ref m)).bind fun d=>(data c 6 (.ref n)).bind fun e=>some (@decide (d=e) (Classical.propDecidable _)):=rfl
 unfold hZ
 rw[e,d1 h1,d1 h2,Option.bind_some,Option.bind_some,Option.bind_some]
 congr 3
 rw[Bool.eq_iff_iff];simp
theorem GC{a b p q:T3}{c:Cells}(ha:Ok 1000 a)(hb:Ok 1000 b)(hp:Ok 1000 p)(hq:Ok 1000 q):dr [side a b,side p q] c=some (cD (My.jH (My.fw a b) (My.fw p q)),c):=by
 have Vo:∀{u v:T3},Ok 1000 u→Ok 1000 v→(if My.aU u v=true then side u v else side v u)=side (My.fw u v).1 (My.fw u v).2∧Ok 1000 (My.fw u v).1∧Ok 1000 (My.fw u v).2:=fun {u v} h1 h2=>by
  unfold My.fw;split
  ·exact⟨rfl,h1,h2⟩
  ·exact⟨rfl,h2,h1⟩
 have f1:=pP (c:=c) ha hb
 have f2:=pP (c:=c) hp hq
 obtain⟨g1,l1,l2⟩:=Vo ha hb
 obtain⟨g2,r1,r2⟩:=Vo hp hq
 rw[g1]at f1
 rw[g2]at f2
 have h1:=gX (c:=c) l1 r1
 have h2:=gX (c:=c) l2 r2
 unfold My.jH
 dsimp only
 have oP:Ok 1000 (if My.aU (My.fw a b).1 (My.fw p q).1=true then(My.fw p q).1 else(My.fw a b).1):=by split<;>assumption
 have oQ:Ok 1000 (if My.aU (My.fw a b).2 (My.fw p q).2=true then(My.fw a b).2 else(My.fw p q).2):=by split<;>assumption
 have w1:(if My.aU (My.fw a b).1 (My.fw p q).1=true then sd (My.fw p q).1 else sd (My.fw a b).1)=sd (if My.aU (My.fw a b).1 (My.fw p q).1=true then(My.fw p q).1 else(My.fw a b).1):=by split<;>rfl
 have w2:(if My.aU (My.fw a b).2 (My.fw p q).2=true then sd (My.fw a b).2 else sd (My.fw p q).2)=sd (if My.aU (My.fw a b).2 (My.fw p q).2=true then(My.fw a b).2 else(My.fw p q).2):=by split<;>rfl
 have i1:∀σ:Qm.Env,σ[2]? =some (some (side (My.fw a b).1 (My.fw a b).2))→σ[3]? =some (some (side (My.fw p q).1 (My.fw p q).2))→xK (tV (aq br [] (ae (e2 aw (eV 2) (eC (.int 0))) (ae (e2 aw (eV 3) (eC (.int 0))) ag)))) (e2 aw (eV 3) (eC (.int 0))) (e2 aw (eV 2) (eC (.int 0))) σ c=some (sd (if My.aU (My.fw a b).1 (My.fw p q).1=true then(My.fw p q).1 else(My.fw a b).1),c):=fun σ s2 s3=>by
  rw[←w1]
  cases hh:My.aU (My.fw a b).1 (My.fw p q).1<;>rw[hh]at h1<;>erw[s2,s3,qo,h1]
 have i2:∀σ:Qm.Env,σ[2]? =some (some (side (My.fw a b).1 (My.fw a b).2))→σ[3]? =some (some (side (My.fw p q).1 (My.fw p q).2))→xK (tV (aq br [] (ae (e2 aw (eV 2) (eC (.int 1))) (ae (e2 aw (eV 3) (eC (.int 1))) ag)))) (e2 aw (eV 2) (eC (.int 1))) (e2 aw (eV 3) (eC (.int 1))) σ c=some (sd (if My.aU (My.fw a b).2 (My.fw p q).2=true then(My.fw a b).2 else(My.fw p q).2),c):=fun σ s2 s3=>by
  rw[←w2]
  cases hh:My.aU (My.fw a b).2 (My.fw p q).2<;>rw[hh]at h2<;>erw[s2,s3,qp,h2]
 have j1:=i1 [some (side a b),some (side p q),some (side (My.fw a b).1 (My.fw a b).2),some (side (My.fw p q).1 (My.fw p q).2),none,none] rfl rfl
 generalize (if My.aU (My.fw a b).1 (My.fw p q).1=true then(My.fw p q).1 else(My.fw a b).1)=P at*
 have j2:=i2 [some (side a b),some (side p q),some (side (My.fw a b).1 (My.fw a b).2),some (side (My.fw p q).1 (My.fw p q).2),some (sd P),none] rfl rfl
 generalize (if My.aU (My.fw a b).2 (My.fw p q).2=true then(My.fw a b).2 else(My.fw p q).2)=Q at*
 have h3:=gX (c:=c) oP oQ
 clear i1 i2
 unfold dr gB
 generalize hE1:xK (tV (aq br [] (ae (e2 aw (eV 2) (eC (.int 0))) (ae (e2 aw (eV 3) (eC (.int 0))) ag)))) (e2 aw (eV 3) (eC (.int 0))) (e2 aw (eV 2) (eC (.int 0)))=E1 at j1 ⊢
 generalize hE2:xK (tV (aq br [] (ae (e2 aw (eV 2) (eC (.int 1))) (ae (e2 aw (eV 3) (eC (.int 1))) ag)))) (e2 aw (eV 2) (eC (.int 1))) (e2 aw (eV 3) (eC (.int 1)))=E2 at j2 ⊢
 by_cases Nf:P=Q
 ·subst Nf
  rw[if_pos rfl]
  erw[f1,f2,j1,j2,pO]
  rfl
 ·rw[if_neg Nf]
  cases hh:My.aU P Q
  ·rw[hh]at h3
   erw[f1,f2,j1,j2,pO,Nf,h3]
   rfl
  ·rw[hh]at h3
   erw[f1,f2,j1,j2,pO,Nf,h3]
   rfl
theorem OT{m:Nat}{x y:D}{c:Cells}(h:c[m]? =some (.lst [x,y])):aw (.ref m) (.int 0) c=some (x,c):=by
 rw[jr,bq h];rfl
theorem OU{m:Nat}{x y:D}{c:Cells}(h:c[m]? =some (.lst [x,y])):aw (.ref m) (.int 1) c=some (y,c):=by
 rw[jr,bq h];rfl
theorem vK(n:Int): -1≤My.sgn n∧My.sgn n≤1:=by
 rcases My.JB n with⟨_,e⟩|⟨_,e⟩|⟨_,e⟩<;>omega
theorem JT{a b p q:T3}{c:Cells}(ha:Ok 130 a)(hb:Ok 130 b)(hp:Ok 130 p)(hq:Ok 130 q):∃c',el [side a b,side p q] c=some (cD (My.cm a b p q),c')∧c <+:c'∧(∀z,My.cm a b p q= .mv z→Ok 1000 z)∧(∀z w,My.cm a b p q= .gh z w→Ok 1000 z∧Ok 1000 w):=by
 have zR:=ha.mono (k:=1000) (by decide);have xP:=hb.mono (k:=1000) (by decide);have Ng:=hp.mono (k:=1000) (by decide);have BP:=hq.mono (k:=1000) (by decide)
 obtain⟨c1,e1,p1,g1⟩:=EZ (c:=c) zR xP Ng BP
 have n1:(c1++[Cell.lst [.int 0,.int 0]])[c1.length]? =some (.lst [.int 0,.int 0]):=List.getElem?_concat_length
 have BR:(c1++[Cell.lst [.int 0,.int 0]])[c.length]? =some (.lst [.int (My.sgn (My.aO a b p)),.int (My.sgn (My.aO a b q))]):=aA ⟨_,rfl⟩ g1
 have q1:=Nd BR n1
 obtain⟨s1,s2⟩:=vK (My.aO a b p)
 obtain⟨s3,s4⟩:=vK (My.aO a b q)
 obtain⟨s5,s6⟩:=vK (My.aO p q a)
 obtain⟨s7,s8⟩:=vK (My.aO p q b)
 have Vp:∀{u v:T3},Ok 1000 u→Ok 1000 v→Ok 1000 (My.fw u v).1∧Ok 1000 (My.fw u v).2:=fun {u v} h1 h2=>by
  unfold My.fw;split
  ·exact⟨h1,h2⟩
  ·exact⟨h2,h1⟩
 have JU:(∀z,My.jH (My.fw a b) (My.fw p q)= .mv z→Ok 1000 z)∧(∀z w,My.jH (My.fw a b) (My.fw p q)= .gh z w→Ok 1000 z∧Ok 1000 w):=by
  obtain⟨l1,l2⟩:=Vp zR xP
  obtain⟨r1,r2⟩:=Vp Ng BP
  have oP:Ok 1000 (if My.aU (My.fw a b).1 (My.fw p q).1=true then(My.fw p q).1 else(My.fw a b).1):=by split<;>assumption
  have oQ:Ok 1000 (if My.aU (My.fw a b).2 (My.fw p q).2=true then(My.fw a b).2 else(My.fw p q).2):=by split<;>assumption
  unfold My.jH
  dsimp only
  generalize (if My.aU (My.fw a b).1 (My.fw p q).1=true then(My.fw p q).1 else(My.fw a b).1)=P at*
  generalize (if My.aU (My.fw a b).2 (My.fw p q).2=true then(My.fw a b).2 else(My.fw p q).2)=Q at*
  refine⟨fun z hz=>?_,fun z w hz=>?_⟩
  ·split at hz
   ·cases hz;exact oP
   ·split at hz<;>cases hz
  ·split at hz
   ·cases hz
   ·split at hz
    ·cases hz;exact⟨oP,oQ⟩
    ·cases hz
 unfold My.cm
 by_cases g:My.sgn (My.aO a b p)=0∧My.sgn (My.aO a b q)=0
 ·rw[if_pos g]
  refine⟨c1++[.lst [.int 0,.int 0]],?_,p1.trans ⟨_,rfl⟩,JU.1,JU.2⟩
  have f:=GC (c:=c1++[.lst [.int 0,.int 0]]) zR xP Ng BP
  rw[decide_eq_true g]at q1
  erw[el,iZ,e1,q1,f]
 ·rw[if_neg g]
  rw[decide_eq_false g]at q1
  obtain⟨c2,e2,p2,g2⟩:=EZ (c:=c1++[.lst [.int 0,.int 0]]) Ng BP zR xP
  have OV:=aA p2 BR
  have t0:=OT OV;have t1:=OU OV;have b0:=OT g2;have b1:=OU g2
  have m1:Qm.MulOk (My.sgn (My.aO a b p)) (My.sgn (My.aO a b q)):=mulL (by omega)
  have m2:Qm.MulOk (My.sgn (My.aO p q a)) (My.sgn (My.aO p q b)):=mulL (by omega)
  have pp:c <+:c2:=p1.trans (List.IsPrefix.trans ⟨_,rfl⟩ p2)
  by_cases k1: 0<My.sgn (My.aO a b p)*My.sgn (My.aO a b q)
  ·rw[if_pos (.inl k1)]
   refine⟨c2,?_,pp,fun z hz=>(by cases hz),fun z w hz=>(by cases hz)⟩
   erw[el,iZ,e1,q1,e2,t0,t1,dh m1,k1]
   rfl
  ·by_cases k2: 0<My.sgn (My.aO p q a)*My.sgn (My.aO p q b)
   ·rw[if_pos (.inr k2)]
    refine⟨c2,?_,pp,fun z hz=>(by cases hz),fun z w hz=>(by cases hz)⟩
    erw[el,iZ,e1,q1,e2,t0,t1,b0,b1,dh m1,dh m2,k1,k2]
    rfl
   ·rw[if_neg (fun z=>z.elim k1 k2)]
    obtain⟨f,o⟩:=DI (c:=c2) ha hb hp hq (My.tO hp.pos hq.pos g k1)
    refine⟨c2,?_,pp,fun z hz=>(by cases hz;exact o.mono (by decide)),fun z w hz=>(by cases hz)⟩
    erw[el,iZ,e1,q1,e2,t0,t1,b0,b1,dh m1,dh m2,k1,k2,f]
    rfl
def kP(p:T3):List Int:=[p.1,p.2.1,p.2.2]
theorem E3{p q:T3}:kP p=kP q↔p=q:=by
 obtain⟨a,b,c⟩:=p
 obtain⟨x,y,z⟩:=q
 simp[kP]
theorem Si(p:T3):k1 (sd p)=some (kP p):=rfl
abbrev S2:=T3×T3
def az(s:S2):D:=side s.1 s.2
def kS(s:S2):List (List Int):=[kP s.1,kP s.2]
theorem zS{s t:S2}:kS s=kS t↔s=t:=by
 obtain⟨a,b⟩:=s
 obtain⟨x,y⟩:=t
 simp[kS,E3]
theorem zT(s:S2):k2 (az s)=some (kS s):=rfl
def ins(acc:List T3)(p:T3):List T3:=if p∈acc then acc else acc++[p]
def cT(acc:List T3):Cell:=.tp (acc.map fun p=>(kP p,D.bl true))
theorem JV(acc:List T3)(p:T3):mq (acc.map fun p=>(kP p,D.bl true)) (kP p) (.bl true)=(ins acc p).map fun p=>(kP p,D.bl true):=by
 have OW:((acc.map fun p=>(kP p,D.bl true)).any fun q=>decide (q.1=kP p))=true↔p∈acc:=by
  rw[List.any_eq_true]
  constructor
  ·rintro⟨q,hq,h⟩
   obtain⟨r,hr,rfl⟩:=List.mem_map.mp hq
   have:=E3.mp (of_decide_eq_true h)
   rw[←this];exact hr
  ·intro h
   exact⟨_,List.mem_map_of_mem h,decide_eq_true rfl⟩
 unfold mq ins
 by_cases h:p∈acc
 ·rw[if_pos (OW.mpr h),if_pos h,List.map_map]
  refine List.map_congr_left fun q _=>?_
  dsimp only[Function.comp]
  split<;>rfl
 ·rw[if_neg (fun z=>h (OW.mp z)),if_neg h,List.map_append]
  rfl
theorem DJ{acc:List T3}{p:T3}(h:acc.Nodup):(ins acc p).Nodup:=by
 unfold ins
 split
 ·exact h
 ·rename_i hp
  rw[List.nodup_append]
  exact⟨h,by simp,fun x hx y hy e=>hp (by rw[←List.mem_singleton.mp hy,←e];exact hx)⟩
theorem JW{acc:List T3}{p x:T3}:x∈ins acc p↔x∈acc∨x=p:=by
 unfold ins
 split
 ·rename_i h
  constructor
  ·exact .inl
  ·rintro(h'|rfl)
   ·exact h'
   ·exact h
 ·simp
theorem BS{acc:List T3}{p:T3}:(ins acc p).length≤acc.length+1:=by
 unfold ins
 split
 ·omega
 ·simp
theorem BU(x0 x1:Nat):Look x0 x1 x0 sd My.aU (Ok 1000):=⟨⟨br,by simp[List.lookup],fun _ _ _ hp hq=>gX hp hq⟩⟩
def uniq(P:T3→Bool):List T3→List T3→List T3
 |acc,[]=>acc
 |acc,p::l=>uniq P (if P p=true then ins acc p else acc) l
theorem tX{P:T3→Bool}:∀{l acc:List T3}{x:T3},x∈uniq P acc l↔x∈acc∨(x∈l∧P x=true)
 |[],acc,x=>by simp[uniq]
 |p::l,acc,x=>by
  unfold uniq
  rw[tX]
  by_cases hp:P p=true
  ·rw[if_pos hp,JW]
   constructor
   ·rintro((h|rfl)|⟨h,h2⟩)
    ·exact .inl h
    ·exact .inr ⟨List.mem_cons_self,hp⟩
    ·exact .inr ⟨List.mem_cons_of_mem _ h,h2⟩
   ·rintro(h|⟨h,h2⟩)
    ·exact .inl (.inl h)
    ·rcases List.mem_cons.mp h with rfl|h
     ·exact .inl (.inr rfl)
     ·exact .inr ⟨h,h2⟩
  ·rw[if_neg hp]
   constructor
   ·rintro(h|⟨h,h2⟩)
    ·exact .inl h
    ·exact .inr ⟨List.mem_cons_of_mem _ h,h2⟩
   ·rintro(h|⟨h,h2⟩)
    ·exact .inl h
    ·rcases List.mem_cons.mp h with rfl|h
     ·exact absurd h2 hp
     ·exact .inr ⟨h,h2⟩
theorem ow{P:T3→Bool}:∀{l acc:List T3},acc.Nodup→(uniq P acc l).Nodup
 |[],acc,h=>h
 |p::l,acc,h=>by
  unfold uniq
  refine ow ?_
  split
  ·exact DJ h
  ·exact h
theorem yz{P:T3→Bool}:∀{l acc:List T3},(uniq P acc l).length≤acc.length+l.length
 |[],acc=>by simp[uniq]
 |p::l,acc=>by
  unfold uniq
  have:=yz (P:=P) (l:=l) (acc:=if P p=true then ins acc p else acc)
  have h2:(if P p=true then ins acc p else acc).length≤acc.length+1:=by
   split
   ·exact BS
   ·omega
  rw[List.length_cons]
  omega
theorem Nh{x0 x1:Nat}{a b:T3}{m:Nat}{ps:List T3}{c:Cells}(ha:Ok 1000 a)(hb:Ok 1000 b)(vO:My.aU a b=true)(hm:c[m]? =some (.lst (ps.map sd)))(hp:∀p∈ps,Ok 1000 p)(hn:ps.length≤100000):
  ∃n ys c',iA x0 x1 [side a b,.ref m] c=some (.ref n,c')∧c <+:c'∧c.length≤n∧c'[n]? =some (.lst (ys.map sd))∧ys.Nodup∧(∀p,p∈ys↔p∈ps∧BN p a b=true)∧jv My.aU ys:=by
 have it:eK (eV 1) [some (side a b),some (.ref m),some (.ref c.length),none] (c++[cT []])=some (⟨ps.map sd,[(m,.lst (ps.map sd))]⟩,c++[cT []]):=lE rfl (aY hm)
 obtain⟨σ',c',e1,acc,z,rfl,rfl,h1⟩:=cf (ks:=[(m,.lst (ps.map sd))]) (g:=av 3) (body:=cM (tV (aq dS [] (ae (eV 3) (ae (eV 0) ag)))) (pG (eV 2) (eV 3) (eC (.bl true))) bA)
  (fun i σ c'=>∃acc z,σ=[some (side a b),some (.ref m),some (.ref c.length),z]∧c'=c++[cT acc]∧uniq (fun p=>BN p a b) [] ps=uniq (fun p=>BN p a b) acc (ps.drop i)∧acc.length≤i)
  (ps.map sd) 0 [some (side a b),some (.ref m),some (.ref c.length),none] (c++[cT []])
  (by
   rintro i σ c' ⟨acc,z,fm,bu,_⟩ p hp
   subst bu
   cases List.mem_singleton.mp hp
   exact aY hm)
  (by
   rintro i d σ c' hd ⟨acc,z,fm,bu,h1,h2⟩
   subst fm bu
   rw[List.getElem?_map]at hd
   obtain⟨y,hy,rfl⟩:=Option.map_eq_some_iff.mp hd
   have DF:y∈ps:=List.mem_of_getElem? hy
   have kf:i<ps.length:=(List.getElem?_eq_some_iff.mp hy).1
   have oy:=GA (c:=c++[cT acc]) (hp y DF) ha hb
   have Ni:ps.drop i=y::ps.drop (i+1):=by
    rw[List.drop_eq_getElem_cons kf]
    rw[List.getElem?_eq_getElem kf]at hy
    rw[Option.some.inj hy]
   rw[show 0+i=i by omega]at h1 h2
   cases BV:BN y a b with
   |true=>
    rw[BV]at oy
    have t1:qk (.ref c.length) (c++[cT acc])=some (c.length,acc.map fun p=>(kP p,D.bl true)):=by
     unfold qk
     simp[cT]
    have pt:pG (eV 2) (eV 3) (eC (.bl true)) [some (side a b),some (.ref m),some (.ref c.length),some (sd y)] (c++[cT acc])=some (.nx,[some (side a b),some (.ref m),some (.ref c.length),some (sd y)],c++[cT (ins acc y)]):=by
     unfold pG
     erw[t1,Si]
     rw[if_pos (show(acc.map fun p=>(kP p,D.bl true)).length<cR by rw[dR,List.length_map];omega),JV]
     simp[cT]
    refine⟨_,_,_,_,rfl,(by erw[oy,pt]),ins acc y,some (sd y),rfl,rfl,?_,?_⟩
    ·rw[h1,Ni,uniq,BV,if_pos rfl,show 0+i+1=i+1 by omega]
    ·have:=BS (acc:=acc) (p:=y)
     omega
   |false=>
    rw[BV]at oy
    refine⟨_,_,_,_,rfl,(by erw[oy]),acc,some (sd y),rfl,rfl,?_,by omega⟩
    rw[h1,Ni,uniq,BV,if_neg (by decide),show 0+i+1=i+1 by omega])
  ⟨[],none,rfl,rfl,rfl,Nat.le_refl _⟩
 obtain⟨h1,h2⟩:=h1
 have e2:=fN (g:=av 3) (b:=cM (tV (aq dS [] (ae (eV 3) (ae (eV 0) ag)))) (pG (eV 2) (eV 3) (eC (.bl true))) bA) it
 rw[e1]at e2
 have e3:ps.drop (0+(ps.map sd).length)=[]:=List.drop_eq_nil_of_le (by simp)
 rw[e3,uniq]at h1
 have OX:∀p,p∈acc↔p∈ps∧BN p a b=true:=fun p=>by rw[←h1,tX];simp
 have JX:acc.Nodup:=by rw[←h1];exact ow .nil
 have hlen:acc.length≤ps.length:=by rw[←h1];have:=yz (P:=fun p=>BN p a b) (l:=ps) (acc:=[]);simpa using this
 have bl:n_ [.ref c.length] (c++[cT acc])=some (.ref (c++[cT acc]).length,c++[cT acc]++[.lst (acc.map sd)]):=by
  unfold n_ one qk
  simp only[aI,cT,Option.bind_some]
  rw[if_pos (show(acc.map fun p=>(kP p,D.bl true)).length≤cR by rw[dR,List.length_map];omega),List.map_map]
  rfl
 obtain⟨n,ys,c2,f1,f2,f3,f4,f5,f6⟩:=w9 (BU x0 x1) (fun x y=>My.dq) (xs:=acc) (a:=(c++[cT acc]).length) (c:=c++[cT acc]++[.lst (acc.map sd)]) aI (fun x hx=>hp x ((OX x).mp hx).1) (by omega)
 have ah:=gX (c:=c++[cT acc]) ha hb
 rw[vO]at ah
 refine⟨n,ys,c2,?_,(show c <+:c++[cT acc]++[.lst (acc.map sd)] from⟨_,(List.append_assoc ..).symm⟩).trans f2,?_,f4,f5.nodup_iff.mpr JX,fun p=>by rw[f5.mem_iff,OX],f6⟩
 ·have nw:zF [some (side a b),some (.ref m),none,none] c=some (.ref c.length,c++[cT []]):=rfl
  rw[iA,jq,sj]
  erw[nw,e2,qo,qp,ah,bl,f1]
 ·simp at f3
  omega
def jB(s t:S2):Bool:=if s.1=t.1 then(if s.2=t.2 then false else My.aU s.2 t.2)else My.aU s.1 t.1
theorem zU{s t:S2}{c:Cells}(a1:Ok 1000 s.1)(a2:Ok 1000 s.2)(b1:Ok 1000 t.1)(b2:Ok 1000 t.2):dv [az s,az t] c=some (.bl (jB s t),c):=by
 have it:Bf (ae (eV 0) (ae (eV 1) ag)) [some (az s),some (az t),none,none] c=some (⟨[.tup [sd s.1,sd t.1],.tup [sd s.2,sd t.2]],[]⟩,c):=rfl
 have n1:=zQ (p:=s.1) (q:=t.1) (c:=c)
 have n2:=zQ (p:=s.2) (q:=t.2) (c:=c)
 have g1:=gX (c:=c) a1 b1
 have g2:=gX (c:=c) a2 b2
 have st:stays [] c:=gj
 rw[dv,jq,jb]
 unfold jB
 have fo:dJ (Bf (ae (eV 0) (ae (eV 1) ag))) (cX 2 (aK (av 2) (aK (av 3) cW))) (cM (tV (e2 mL (eV 2) (eV 3))) (aT (aq br [] (ae (eV 2) (ae (eV 3) ag)))) bA) [some (az s),some (az t),none,none] c=(if s.1=t.1 then(if s.2=t.2 then some (.nx,[some (az s),some (az t),some (sd s.2),some (sd t.2)],c)else some (.rt (.bl (My.aU s.2 t.2)),[some (az s),some (az t),some (sd s.2),some (sd t.2)],c))else some (.rt (.bl (My.aU s.1 t.1)),[some (az s),some (az t),some (sd s.1),some (sd t.1)],c)):=by
  rw[fN it]
  dsimp only
  unfold ie
  rw[if_pos st]
  by_cases h1:s.1=t.1
  ·rw[if_pos h1]
   rw[decide_eq_true h1]at n1
   erw[n1]
   unfold ie
   rw[if_pos st]
   by_cases h2:s.2=t.2
   ·rw[if_pos h2]
    rw[decide_eq_true h2]at n2
    erw[n2]
    unfold ie
    rw[if_pos st]
   ·rw[if_neg h2]
    rw[decide_eq_false h2]at n2
    erw[n2,g2]
  ·rw[if_neg h1]
   rw[decide_eq_false h1]at n1
   erw[n1,g1]
 have DK:dJ (Bf (ae (eV 0) (ae (eV 1) ag))) (cX 2 (aK (av 2) (aK (av 3) cW))) (cM (tV (e2 mL (eV 2) (eV 3))) (aT (aq br [] (ae (eV 2) (ae (eV 3) ag)))) bA) [some (az s),some (az t),none,none] c=_:=fo
 by_cases h1:s.1=t.1
 ·rw[if_pos h1]at DK ⊢
  by_cases h2:s.2=t.2
  ·rw[if_pos h2]at DK ⊢
   erw[DK]
  ·rw[if_neg h2]at DK ⊢
   erw[DK]
 ·rw[if_neg h1]at DK ⊢
  erw[DK]
structure lG(k:Nat)(s:S2):Prop where
 o1:Ok k s.1
 o2:Ok k s.2
theorem DL{x0 x1:Nat}(h:x0≠x1):Look x0 x1 x1 az jB (lG 1000):=⟨⟨dv,by
 simp only[List.lookup]
 have:(x1==x0)=false:=by simpa using Ne.symm h
 rw[this]
 simp,fun _ _ _ hp hq=>zU hp.o1 hp.o2 hq.o1 hq.o2⟩⟩
theorem yA(s t:S2)(h:jB s t=true):jB t s=false:=by
 unfold jB at*
 by_cases h1:s.1=t.1
 ·rw[if_pos h1]at h
  rw[if_pos h1.symm]
  by_cases h2:s.2=t.2
  ·rw[if_pos h2]at h;cases h
  ·rw[if_neg h2]at h
   rw[if_neg (Ne.symm h2)]
   exact My.dq h
 ·rw[if_neg h1]at h
  rw[if_neg (Ne.symm h1)]
  exact My.dq h
def dD(s:S2):S2:=My.fw s.1 s.2
theorem DM{s:S2}{c:Cells}(h:lG 1000 s):cg [az s] c=some (az (dD s),c):=by
 have:=pP (c:=c) h.o1 h.o2
 unfold az dD My.fw
 rw[this]
 split<;>rfl
def Kq(S:List Nat)(c c':Cells):Prop:=∀j z,j∉S→c[j]? =some z→c'[j]? =some z
theorem Kq.refl(S:List Nat)(c:Cells):Kq S c c:=fun _ _ _ h=>h
theorem Kq.pre{S:List Nat}{c c':Cells}(h:c <+:c'):Kq S c c':=fun _ _ _ e=>aA h e
theorem Kq.trans{S T:List Nat}{c c1 c2:Cells}(a:Kq S c c1)(b:Kq T c1 c2)(h:∀x∈T,x∈S∨c.length≤x):Kq S c c2:=fun j z hj e=>b j z (fun hm=>(h j hm).elim hj fun hl=>absurd (bp e) (by omega)) (a j z hj e)
abbrev KV:=List (S2×Nat×List Int)
def kc(ks:KV):Cell:=.gP (ks.map fun k=>(kS k.1,D.ref k.2.1))
def ids(ks:KV):List Nat:=ks.map fun k=>k.2.1
def keys(ks:KV):List S2:=ks.map fun k=>k.1
structure DS(c:Cells)(L:Nat)(ks:KV):Prop where
 at_:c[L]? =some (kc ks)
 cell:∀k∈ks,c[k.2.1]? =some (.lst (k.2.2.map D.int))
 nd:(ids ks).Nodup
 kd:(keys ks).Nodup
 ne:L∉ids ks
theorem DS.keep{c c':Cells}{L:Nat}{ks:KV}(h:DS c L ks){S:List Nat}(k:Kq S c c')(hL:L∉S)(hi:∀n∈ids ks,n∉S):DS c' L ks:=⟨k L _ hL h.at_,fun x hx=>k _ _ (hi _ (List.mem_map_of_mem hx)) (h.cell x hx),h.nd,h.kd,h.ne⟩
theorem DS.up{c c':Cells}{L:Nat}{ks:KV}(h:DS c L ks)(k:c <+:c'):DS c' L ks:=h.keep (S:=[]) (Kq.pre k) (by simp) (by simp)
theorem DS.sC{c:Cells}{L:Nat}{ks:KV}(h:DS c L ks){n:Nat}(hn:n∈ids ks):n<c.length:=by
 obtain⟨k,hk,rfl⟩:=List.mem_map.mp hn
 exact bp (h.cell k hk)
theorem vL:∀{ks:KV}{s:S2},(∃k∈ks,k.1=s)→∃k∈ks,k.1=s∧mS (ks.map fun k=>(kS k.1,D.ref k.2.1)) (kS s)=some (D.ref k.2.1)
 |[],s,h=>by obtain⟨_,hk,_⟩:=h;cases hk
 |k::ks,s,h=>by
  by_cases e:k.1=s
  ·exact⟨k,List.mem_cons_self,e,by simp[mS,e]⟩
  ·obtain⟨k',p_,he⟩:=h
   rcases List.mem_cons.mp p_ with rfl|p_
   ·exact absurd he e
   ·obtain⟨k2,h2,h3,h4⟩:=vL (ks:=ks) ⟨k',p_,he⟩
    refine⟨k2,List.mem_cons_of_mem _ h2,h3,?_⟩
    unfold mS at h4 ⊢
    rw[List.map_cons,List.find?_cons]
    have:decide (kS k.1=kS s)=false:=decide_eq_false fun z=>e (zS.mp z)
    simp only[this]
    exact h4
theorem GD{ks:KV}{s:S2}(h:s∉keys ks):mS (ks.map fun k=>(kS k.1,D.ref k.2.1)) (kS s)=none:=by
 unfold mS
 rw[Option.map_eq_none_iff,List.find?_eq_none]
 intro x hx
 obtain⟨k,hk,rfl⟩:=List.mem_map.mp hx
 simp only[decide_eq_true_eq]
 exact fun z=>h (List.mem_map.mpr ⟨k,hk,zS.mp z⟩)
theorem JY{c:Cells}{L:Nat}{ks:KV}(h:c[L]? =some (kc ks)):nI (.ref L) c=some (L,ks.map fun k=>(kS k.1,D.ref k.2.1)):=by
 unfold nI
 simp[h,kc]
def iP(ks:KV)(n:Nat)(s:S2)(zs:List Int):KV:=if s∈keys ks then ks.map (fun k=>if k.1=s then(k.1,k.2.1,k.2.2++zs)else k)else ks++[(s,n,zs)]
theorem qG{ks:KV}{n:Nat}{s:S2}{zs:List Int}:keys (iP ks n s zs)=if s∈keys ks then keys ks else keys ks++[s]:=by
 unfold iP
 split
 ·unfold keys
  rw[List.map_map]
  refine List.map_congr_left fun k _=>?_
  dsimp only[Function.comp]
  split<;>rfl
 ·simp[keys]
theorem jV{ks:KV}{n:Nat}{s:S2}{zs:List Int}:ids (iP ks n s zs)=if s∈keys ks then ids ks else ids ks++[n]:=by
 unfold iP
 split
 ·unfold ids
  rw[List.map_map]
  refine List.map_congr_left fun k _=>?_
  dsimp only[Function.comp]
  split<;>rfl
 ·simp[ids]
theorem JZ{o k:XE}{σ:Qm.Env}{c:Cells}{L:Nat}{ks:KV}{s:S2}{zs:List Int}(h:DS c L ks)(ho:o σ c=some (.ref L,c))(hk:k σ c=some (az s,c))(hn:ks.length<1000000):
  ∃n c1 row,fE o k σ c=some (.ref n,c1)∧c1[n]? =some (.lst (row.map D.int))∧(row=[]∨∃q∈ks,q.2.2=row)∧c1.length=c.length+1∧DS (c1.set n (.lst ((row++zs).map D.int))) L (iP ks c.length s zs)∧Kq (L::ids ks) c (c1.set n (.lst ((row++zs).map D.int)))∧Kq (L::ids ks) c c1∧(n=c.length∨n∈ids ks):=by
 have t1:=JY h.at_
 have hLl:=bp h.at_
 have ev:fE o k σ c=(match mS (ks.map fun k=>(kS k.1,D.ref k.2.1)) (kS s)with
  |some d=>some (d,c++[Cell.lst []])
  |none=>some (D.ref c.length,(c++[Cell.lst []]).set L (Cell.gP ((ks.map fun k=>(kS k.1,D.ref k.2.1))++[(kS s,D.ref c.length)])))):=by
  unfold fE
  simp only[ho,hk,t1,Option.bind_some,zT]
  rw[if_pos (show(ks.map fun k=>(kS k.1,D.ref k.2.1)).length<cR by rw[dR,List.length_map];omega)]
  all_goals (cases mS (ks.map fun k=>(kS k.1,D.ref k.2.1)) (kS s)<;>rfl)
 by_cases hs:s∈keys ks
 ·obtain⟨q,hq,Nj,ha⟩:=vL (ks:=ks) (s:=s) (by
   obtain⟨q,hq,e⟩:=List.mem_map.mp hs
   exact⟨q,hq,e⟩)
  rw[ha]at ev
  have hqc:=aY (zs:=[Cell.lst []]) (h.cell q hq)
  have hql:=bp (h.cell q hq)
  have Sj:q.2.1∈ids ks:=List.mem_map_of_mem hq
  have hqL:q.2.1≠L:=fun e=>h.ne (by rw[←e];exact Sj)
  refine⟨q.2.1,_,q.2.2,ev,hqc,.inr ⟨q,hq,rfl⟩,by simp,⟨?_,?_,?_,?_,?_⟩,?_,Kq.pre ⟨_,rfl⟩,.inr Sj⟩
  ·rw[cc (aY h.at_) hqL.symm]
   unfold iP kc
   rw[if_pos hs,List.map_map]
   refine congrArg some (congrArg Cell.gP (List.map_congr_left fun k _=>?_))
   dsimp only[Function.comp]
   split<;>rfl
  ·intro x hx
   unfold iP at hx
   rw[if_pos hs]at hx
   obtain⟨k,p_,rfl⟩:=List.mem_map.mp hx
   by_cases e:k.1=s
   ·have hkq:k=q:=by
     have inj:∀{l:KV},(keys l).Nodup→∀x∈l,∀y∈l,x.1=y.1→x=y:=by
      intro l
      induction l with
      |nil=>exact fun _ x hx=>nomatch hx
      |cons a l ih=>
       intro nd x hx y hy w_
       have kg:a.1∉keys l∧(keys l).Nodup:=by simpa[keys]using nd
       rcases List.mem_cons.mp hx with rfl|hV<;>rcases List.mem_cons.mp hy with rfl|kA
       ·rfl
       ·exact absurd (List.mem_map.mpr ⟨y,kA,w_.symm⟩) kg.1
       ·exact absurd (List.mem_map.mpr ⟨x,hV,w_⟩) kg.1
       ·exact ih kg.2 x hV y kA w_
     exact inj h.kd k p_ q hq (e.trans Nj.symm)
    subst hkq
    rw[if_pos e]
    exact iD (by simp;omega)
   ·rw[if_neg e]
    have fH:k.2.1≠q.2.1:=fun z=>by
     have inj:∀{l:KV},(ids l).Nodup→∀x∈l,∀y∈l,x.2.1=y.2.1→x=y:=by
      intro l
      induction l with
      |nil=>exact fun _ x hx=>nomatch hx
      |cons a l ih=>
       intro nd x hx y hy w_
       have kg:a.2.1∉ids l∧(ids l).Nodup:=by simpa[ids]using nd
       rcases List.mem_cons.mp hx with rfl|hV<;>rcases List.mem_cons.mp hy with rfl|kA
       ·rfl
       ·exact absurd (List.mem_map.mpr ⟨y,kA,w_.symm⟩) kg.1
       ·exact absurd (List.mem_map.mpr ⟨x,hV,w_⟩) kg.1
       ·exact ih kg.2 x hV y kA w_
     rw[inj h.nd k p_ q hq z]at e
     exact e Nj
    exact cc (aY (h.cell k p_)) fH
  ·rw[jV,if_pos hs];exact h.nd
  ·rw[qG,if_pos hs];exact h.kd
  ·rw[jV,if_pos hs];exact h.ne
  ·intro j z hj e
   refine cc (aY e) fun z=>hj ?_
   rw[z]
   exact List.mem_cons_of_mem _ Sj
 ·rw[GD hs]at ev
  have Nk:c.length≠L:=by omega
  have zu:((c++[Cell.lst []]).set L (Cell.gP ((ks.map fun k=>(kS k.1,D.ref k.2.1))++[(kS s,D.ref c.length)])))[c.length]? =some (.lst []):=cc aI Nk
  refine⟨c.length,_,[],ev,zu,.inl rfl,by simp,⟨?_,?_,?_,?_,?_⟩,?_,fun j z hj e=>cc (aY e) (fun w=>hj (by rw[w];exact List.mem_cons_self)),.inl rfl⟩
  ·refine cc ?_ Nk.symm
   rw[iD (by simp;omega)]
   unfold iP kc
   rw[if_neg hs]
   simp
  ·intro x hx
   unfold iP at hx
   rw[if_neg hs]at hx
   rcases List.mem_append.mp hx with hx|hx
   ·have Vq:=h.cell x hx
    have hxi:x.2.1∈ids ks:=List.mem_map_of_mem hx
    have:=bp Vq
    exact cc (cc (aY Vq) fun z=>h.ne (by rw[←z];exact hxi)) (by omega)
   ·cases List.mem_singleton.mp hx
    exact iD (by simp)
  ·rw[jV,if_neg hs,List.nodup_append]
   refine⟨h.nd,by simp,fun x hx y hy e=>?_⟩
   have:=h.sC hx
   cases List.mem_singleton.mp hy
   omega
  ·rw[qG,if_neg hs,List.nodup_append]
   exact⟨h.kd,by simp,fun x hx y hy e=>hs (by rw[←List.mem_singleton.mp hy,←e];exact hx)⟩
  ·rw[jV,if_neg hs]
   intro z
   rcases List.mem_append.mp z with z|z
   ·exact h.ne z
   ·exact Nk (List.mem_singleton.mp z).symm
  ·intro j z hj e
   have:=bp e
   exact cc (cc (aY e) fun z=>hj (by rw[z];exact List.mem_cons_self)) (by omega)
theorem pre_of{c c':Cells}(h:∀(j:Nat) z,c[j]? =some z→c'[j]? =some z):c <+:c':=by
 rw[List.prefix_iff_getElem?]
 intro i hi
 exact h i _ (List.getElem?_eq_getElem hi)
theorem Kq.to{S:List Nat}{c0 c c':Cells}(k:Kq S c c')(p:c0 <+:c)(h:∀n∈S,c0.length≤n):c0 <+:c':=pre_of fun j z e=>k j z (fun hj=>by have:=h j hj;have:=bp e;omega) (aA p e)
def num(S:List S2)(s:S2)(i:Nat):List Int:=((List.range i).filter fun k=>decide ((S[k]?).map dD=some s)).map fun(k:Nat)=>(k:Int)
theorem GF(S:List S2)(s:S2)(i:Nat):num S s (i+1)=num S s i++(if (S[i]?).map dD=some s then [(i:Int)] else []):=by
 unfold num
 rw[List.range_succ,List.filter_append,List.map_append]
 congr 1
 by_cases h:(S[i]?).map dD=some s
 ·rw[if_pos h]
  simp[h]
 ·rw[if_neg h]
  simp[h]
structure Nums(S:List S2)(i:Nat)(ks:KV):Prop where
 row:∀q∈ks,q.2.2=num S q.1 i
 key:∀s,s∈keys ks↔∃k,k<i∧(S[k]?).map dD=some s
theorem J3{S:List S2}{s:S2}{i:Nat}(h:¬∃k,k<i∧(S[k]?).map dD=some s):num S s i=[]:=by
 unfold num
 rw[List.map_eq_nil_iff,List.filter_eq_nil_iff]
 intro k hk hd
 exact h ⟨k,List.mem_range.mp hk,of_decide_eq_true hd⟩
theorem Nums.step{S:List S2}{i n:Nat}{ks:KV}{s:S2}(h:Nums S i ks)(hs:(S[i]?).map dD=some s):Nums S (i+1) (iP ks n s [(i:Int)]):=by
 constructor
 ·intro q hq
  rw[GF]
  unfold iP at hq
  by_cases hk:s∈keys ks
  ·rw[if_pos hk]at hq
   obtain⟨k,p_,rfl⟩:=List.mem_map.mp hq
   by_cases e:k.1=s
   ·simp only[if_pos e]
    rw[if_pos (by rw[hs,e]),h.row k p_]
   ·simp only[if_neg e]
    rw[if_neg (by rw[hs];exact fun z=>e (Option.some.inj z).symm),List.append_nil,h.row k p_]
  ·rw[if_neg hk]at hq
   rcases List.mem_append.mp hq with hq|hq
   ·have e:q.1≠s:=fun z=>hk (by rw[←z];exact List.mem_map_of_mem hq)
    rw[if_neg (by rw[hs];exact fun z=>e (Option.some.inj z).symm),List.append_nil,h.row q hq]
   ·cases List.mem_singleton.mp hq
    rw[if_pos hs,J3 (fun z=>hk ((h.key s).mpr z))]
    rfl
 ·intro t
  rw[qG]
  have:(∃k,k<i+1∧(S[k]?).map dD=some t)↔(∃k,k<i∧(S[k]?).map dD=some t)∨t=s:=by
   constructor
   ·rintro⟨k,hk,e⟩
    rcases Nat.lt_or_ge k i with h'|h'
    ·exact .inl ⟨k,h',e⟩
    ·have:k=i:=by omega
     subst this
     rw[hs]at e
     exact .inr (Option.some.inj e).symm
   ·rintro(⟨k,hk,e⟩|rfl)
    ·exact⟨k,by omega,e⟩
    ·exact⟨i,by omega,hs⟩
  rw[this,←h.key t]
  split
  ·rename_i hk
   constructor
   ·exact .inl
   ·rintro(z|rfl)
    ·exact z
    ·exact hk
  ·rw[List.mem_append,List.mem_singleton]
theorem yB{ks:KV}{n:Nat}{s:S2}{zs:List Int}:(iP ks n s zs).length≤ks.length+1:=by
 unfold iP
 split<;>simp
theorem sD{n i:Nat}{lo:Int}{d:D}(h:(gY lo n)[i]? =some d):i<n∧d= .int (lo+(i:Int)):=by
 unfold gY at h
 rw[List.getElem?_map]at h
 obtain⟨j,hj,rfl⟩:=Option.map_eq_some_iff.mp h
 obtain⟨h1,h2⟩:=List.getElem?_eq_some_iff.mp hj
 simp at h1 h2
 subst h2
 exact⟨h1,rfl⟩
theorem GG{m:Nat}{S:List S2}{c:Cells}(hm:c[m]? =some (.lst (S.map az)))(hS:∀s∈S,lG 1000 s)(hn:S.length≤10000):
  ∃ks c',cQ [.ref m] c=some (.ref c.length,c')∧c <+:c'∧DS c' c.length ks∧(∀n∈ids ks,c.length<n)∧Nums S S.length ks∧ks.length≤S.length:=by
 have bl:∀zs,cY [.ref m] (c++zs)=some (.int S.length,c++zs):=fun zs=>ot (aY hm)
 have it:fY (ae (eB cY (ae (eV 0) ag)) ag) [some (.ref m),some (.ref c.length),none] (c++[.gP []])=some (⟨gY 0 S.length,[]⟩,c++[.gP []]):=by
  have:=sh (a:=ae (eB cY (ae (eV 0) ag)) ag) (σ:=[some (.ref m),some (.ref c.length),none]) (c:=c++[.gP []]) (c':=c++[.gP []]) (j:=(S.length:Int)) (by erw[bl]) (by omega)
  rw[this]
  simp
 obtain⟨σ',c',e1,ks,z,rfl,p1,d1,i1,n1,l1⟩:=cf (ks:=[]) (g:=av 2) (body:=cC (eM bM (fE (eV 1) (aq cg [] (ae (e2 aw (eV 0) (eV 2)) ag))) (ae (eV 2) ag)))
  (fun i σ c'=>∃ks z,σ=[some (.ref m),some (.ref c.length),z]∧c <+:c'∧DS c' c.length ks∧(∀n∈ids ks,c.length<n)∧Nums S i ks∧ks.length≤i)
  (gY 0 S.length) 0 [some (.ref m),some (.ref c.length),none] (c++[.gP []]) (fun _ _ _ _=>gj)
  (by
   rintro i d σ c' hd ⟨ks,z,fm,p1,d1,i1,n1,l1⟩
   subst fm
   obtain⟨hi,rfl⟩:=sD hd
   rw[show 0+i=i by omega]at n1 l1
   obtain⟨s,hs⟩:∃s,S[i]? =some s:=⟨_,List.getElem?_eq_getElem hi⟩
   have s0:=bq (aA p1 hm)
   have t1:iV (S.map az) (0+(i:Int))=some (az s):=by rw[Int.zero_add];exact sk hs
   have fw:=DM (c:=c') (hS s (List.mem_of_getElem? hs))
   obtain⟨n,c1,row,f1,f2,f3,f4,f5,f6,_,_⟩:=JZ (o:=eV 1) (k:=aq cg [] (ae (e2 aw (eV 0) (eV 2)) ag)) (σ:=[some (.ref m),some (.ref c.length),some (.int (0+(i:Int)))]) (s:=dD s) (zs:=[(i:Int)]) d1 rfl (by erw[jr,s0,t1,fw]) (by omega)
   have BW:row.length≤1000000:=by
    rcases f3 with rfl|⟨q,hq,rfl⟩
    ·simp
    ·rw[n1.row q hq]
     unfold num
     rw[List.length_map]
     exact Nat.le_trans (List.length_filter_le _ _) (by rw[List.length_range];omega)
   have ap:=sr (e:=D.int) (x:=(i:Int)) f2 (by omega)
   have s2:=aE f2
   refine⟨_,_,[some (.ref m),some (.ref c.length),some (.int (0+(i:Int)))],c1.set n (.lst ((row++[(i:Int)]).map D.int)),rfl,?_,iP ks c'.length (dD s) [(i:Int)],some (.int (0+(i:Int))),rfl,f6.to p1 (fun q hq=>?_),f5,fun q hq=>?_,?_,?_⟩
   ·have e0:D.int (0+(i:Int))=D.int (i:Int):=by rw[Int.zero_add]
    have Sk:bM (.ref n) [.int (0+(i:Int))] c1=some (.bF,c1.set n (.lst ((row++[(i:Int)]).map D.int))):=by rw[e0];exact ap
    erw[f1,s2,Sk]
   ·rcases List.mem_cons.mp hq with rfl|hq
    ·exact Nat.le_refl _
    ·exact Nat.le_of_lt (i1 q hq)
   ·rw[jV]at hq
    split at hq
    ·exact i1 q hq
    ·rcases List.mem_append.mp hq with hq|hq
     ·exact i1 q hq
     ·cases List.mem_singleton.mp hq
      exact bp d1.at_
   ·rw[show 0+i+1=i+1 by omega]
    exact n1.step (by rw[hs];rfl)
   ·have:=yB (ks:=ks) (n:=c'.length) (s:=dD s) (zs:=[(i:Int)])
    omega)
  ⟨[],none,rfl,⟨_,rfl⟩,⟨aI,fun _ h=>(nomatch h),.nil,.nil,(by simp[ids])⟩,fun _ h=>(by simp[ids]at h),⟨fun _ h=>(nomatch h),fun s=>⟨fun h=>(by simp[keys]at h),fun⟨k,hk,_⟩=>absurd hk (by omega)⟩⟩,Nat.le_refl _⟩
 have hl: 0+(gY 0 S.length).length=S.length:=by simp[gY]
 rw[hl]at n1 l1
 refine⟨ks,c',?_,p1,d1,i1,n1,l1⟩
 have e2:=fN (g:=av 2) (b:=cC (eM bM (fE (eV 1) (aq cg [] (ae (e2 aw (eV 0) (eV 2)) ag))) (ae (eV 2) ag))) it
 rw[e1]at e2
 have nw:rX [some (.ref m),none,none] c=some (.ref c.length,c++[.gP []]):=rfl
 rw[cQ,jq,e_]
 erw[nw,e2]
theorem Runs.put{e:T3→D}{c:Cells}{fs:List Nat}{rows:List (List T3)}(h:Runs e c fs rows)(nd:fs.Nodup){i n:Nat}(hi:fs[i]? =some n){row:List T3}:Runs e (c.set n (.lst (row.map e))) fs (rows.set i row):=by
 refine⟨by rw[List.length_set];exact h.len,fun j m l h1 h2=>?_⟩
 by_cases e1:j=i
 ·subst e1
  rw[hi]at h1
  cases h1
  have kf:j<rows.length:=by rw[←h.len];exact(List.getElem?_eq_some_iff.mp hi).1
  rw[List.getElem?_set_self kf]at h2
  cases h2
  obtain⟨r,hr⟩:∃r,rows[j]? =some r:=⟨_,List.getElem?_eq_getElem kf⟩
  exact iD (bp (h.at_ j n r hi hr))
 ·rw[List.getElem?_set_ne (Ne.symm e1)]at h2
  refine cc (h.at_ j m l h1 h2) fun z=>e1 ?_
  subst z
  exact(List.getElem?_inj (List.getElem?_eq_some_iff.mp h1).1 nd).mp (h1.trans hi.symm)
theorem OY(m:My.Dx){c:Cells}(h:m≠.none):tq (cD m) .bF c=some (.bl true,c)∧eJ (cD m) (some 1) none c=some (.tup ((My.cs m).map sd),c):=by
 cases m with
 |none=>exact absurd rfl h
 |mv p=>exact⟨rfl,rfl⟩
 |gh p q=>exact⟨rfl,rfl⟩
theorem OZ{n:Nat}{row ps:List T3}{c:Cells}(h:c[n]? =some (.lst (row.map sd)))(hn:row.length+ps.length≤1000000):oj (.ref n) [.tup (ps.map sd)] c=some (.bF,c.set n (.lst ((row++ps).map sd))):=by
 unfold oj one
 simp only[aE h,Option.bind_some,List.length_map]
 rw[if_pos (show row.length+ps.length≤cR by rw[dR];omega),List.map_append]
def met(S:List S2)(a b:Nat):List T3:=match S[a]?,S[b]? with
 |some s,some t=>My.cs (My.gA s t)
 |_,_=>[]
def Pr(k j a b:Nat):Prop:=a<b∧(b<k∨(b=k∧a<j))
structure kY(S:List S2)(k j:Nat)(rows:List (List T3)):Prop where
 len:rows.length=S.length
 mem:∀(i:Nat) (s:S2) (row:List T3),S[i]? =some s→rows[i]? =some row→∀p,p∈row↔p=s.1∨p=s.2∨∃a b,Pr k j a b∧(i=a∨i=b)∧p∈met S a b
 ok:∀row∈rows,∀p∈row,Ok 1000 p
 sz:∀row∈rows,row.length≤2+2*(k*S.length+j)
theorem Nl(m:My.Dx):(My.cs m).length≤2:=by cases m<;>simp[My.cs]
theorem sE{α:Type}{l:List α}{i:Nat}{x y:α}(h:y∈l.set i x):y∈l∨y=x:=List.mem_or_eq_of_mem_set h
theorem DN{S:List S2}{k j:Nat}{rows:List (List T3)}(h:kY S k j rows)(hm:met S j k=[]):kY S k (j+1) rows:=by
 refine⟨h.len,fun i s row h1 h2 p=>?_,h.ok,fun row hr=>by have:=h.sz row hr;omega⟩
 rw[h.mem i s row h1 h2 p]
 constructor
 ·rintro(z|z|⟨a,b,⟨u,v⟩,w,x⟩)
  ·exact .inl z
  ·exact .inr (.inl z)
  ·exact .inr (.inr ⟨a,b,⟨u,by omega⟩,w,x⟩)
 ·rintro(z|z|⟨a,b,⟨u,v⟩,w,x⟩)
  ·exact .inl z
  ·exact .inr (.inl z)
  ·rcases v with v|⟨v1,v2⟩
   ·exact .inr (.inr ⟨a,b,⟨u,.inl v⟩,w,x⟩)
   ·rcases Nat.lt_or_ge a j with hj|hj
    ·exact .inr (.inr ⟨a,b,⟨u,.inr ⟨v1,hj⟩⟩,w,x⟩)
    ·have:a=j:=by omega
     subst this
     subst v1
     rw[hm]at x
     cases x
theorem DO{S:List S2}{k j:Nat}{rows:List (List T3)}{rj rk:List T3}(h:kY S k j rows)(Sl:j<k)(ej:rows[j]? =some rj)(ek:rows[k]? =some rk)(bh:∀p∈met S j k,Ok 1000 p)(hl:(met S j k).length≤2):
  kY S k (j+1) ((rows.set j (rj++met S j k)).set k (rk++met S j k)):=by
 have Sm:j<rows.length:=(List.getElem?_eq_some_iff.mp ej).1
 have Gy:k<rows.length:=(List.getElem?_eq_some_iff.mp ek).1
 have mj:=List.mem_of_getElem? ej
 have mk:=List.mem_of_getElem? ek
 refine⟨by simp[h.len],fun i s row h1 h2 p=>?_,fun row hr p hp=>?_,fun row hr=>?_⟩
 ·have key:∀(r0:List T3),rows[i]? =some r0→(row=r0∧i≠j∧i≠k)∨(row=r0++met S j k∧(i=j∨i=k)):=by
   intro r0 BX
   by_cases e1:i=k
   ·subst e1
    rw[List.getElem?_set_self (by simp;exact Gy)]at h2
    rw[ek]at BX
    cases h2
    cases BX
    exact .inr ⟨rfl,.inr rfl⟩
   ·rw[List.getElem?_set_ne (Ne.symm e1)]at h2
    by_cases e2:i=j
    ·subst e2
     rw[List.getElem?_set_self Sm]at h2
     rw[ej]at BX
     cases h2
     cases BX
     exact .inr ⟨rfl,.inl rfl⟩
    ·rw[List.getElem?_set_ne (Ne.symm e2),BX]at h2
     cases h2
     exact .inl ⟨rfl,e2,e1⟩
  have kf:i<rows.length:=by
   have:=(List.getElem?_eq_some_iff.mp h2).1
   simpa using this
  obtain⟨r0,BX⟩:∃r0,rows[i]? =some r0:=⟨_,List.getElem?_eq_getElem kf⟩
  have hm:=h.mem i s r0 h1 BX p
  have ext:(∃a b,Pr k (j+1) a b∧(i=a∨i=b)∧p∈met S a b)↔(∃a b,Pr k j a b∧(i=a∨i=b)∧p∈met S a b)∨((i=j∨i=k)∧p∈met S j k):=by
   constructor
   ·rintro⟨a,b,⟨u,v⟩,w,x⟩
    rcases v with v|⟨v1,v2⟩
    ·exact .inl ⟨a,b,⟨u,.inl v⟩,w,x⟩
    ·rcases Nat.lt_or_ge a j with hj|hj
     ·exact .inl ⟨a,b,⟨u,.inr ⟨v1,hj⟩⟩,w,x⟩
     ·have:a=j:=by omega
      subst this
      subst v1
      exact .inr ⟨w,x⟩
   ·rintro(⟨a,b,⟨u,v⟩,w,x⟩|⟨w,x⟩)
    ·exact⟨a,b,⟨u,by omega⟩,w,x⟩
    ·exact⟨j,k,⟨Sl,.inr ⟨rfl,by omega⟩⟩,w,x⟩
  rw[ext]
  rcases key r0 BX with⟨rfl,n1,n2⟩|⟨rfl,hi⟩
  ·rw[hm]
   constructor
   ·rintro(z|z|z)
    ·exact .inl z
    ·exact .inr (.inl z)
    ·exact .inr (.inr (.inl z))
   ·rintro(z|z|z|⟨z,_⟩)
    ·exact .inl z
    ·exact .inr (.inl z)
    ·exact .inr (.inr z)
    ·exact absurd z (by omega)
  ·rw[List.mem_append,hm]
   constructor
   ·rintro((z|z|z)|z)
    ·exact .inl z
    ·exact .inr (.inl z)
    ·exact .inr (.inr (.inl z))
    ·exact .inr (.inr (.inr ⟨hi,z⟩))
   ·rintro(z|z|z|⟨_,z⟩)
    ·exact .inl (.inl z)
    ·exact .inl (.inr (.inl z))
    ·exact .inl (.inr (.inr z))
    ·exact .inr z
 ·rcases sE hr with hr|rfl
  ·rcases sE hr with hr|rfl
   ·exact h.ok row hr p hp
   ·rcases List.mem_append.mp hp with hp|hp
    ·exact h.ok rj mj p hp
    ·exact bh p hp
  ·rcases List.mem_append.mp hp with hp|hp
   ·exact h.ok rk mk p hp
   ·exact bh p hp
 ·rcases sE hr with hr|rfl
  ·rcases sE hr with hr|rfl
   ·have:=h.sz row hr;omega
   ·have:=h.sz rj mj;rw[List.length_append];omega
  ·have:=h.sz rk mk;rw[List.length_append];omega
theorem DP{S:List S2}{k:Nat}{rows:List (List T3)}(h:kY S k k rows)(hk:k<S.length):kY S (k+1) 0 rows:=by
 refine⟨h.len,fun i s row h1 h2 p=>?_,h.ok,fun row hr=>?_⟩
 ·rw[h.mem i s row h1 h2 p]
  have:∀a b,Pr k k a b↔Pr (k+1) 0 a b:=fun a b=>by unfold Pr;omega
  simp only[this]
 ·have:=h.sz row hr
  rw[Nat.add_mul]
  omega
noncomputable abbrev J_:XS:=ay (aH 4 (aq el [] (ae (e2 aw (eV 0) (eV 3)) (ae (e2 aw (eV 0) (eV 2)) ag)))) (cM (tV (e2 tq (eV 4) (eC .bF))) (ay (cC (eM oj (e2 aw (eV 1) (eV 3)) (ae (lZ eJ (eV 4) (dO (eC (.int 1))) f_) ag))) (cC (eM oj (e2 aw (eV 1) (eV 2)) (ae (lZ eJ (eV 4) (dO (eC (.int 1))) f_) ag)))) bA)
theorem Sn{s t:S2}{c:Cells}(hs:lG 130 s)(ht:lG 130 t):∃c',el [az s,az t] c=some (cD (My.gA s t),c')∧c <+:c'∧∀p∈My.cs (My.gA s t),Ok 1000 p:=by
 obtain⟨c',e,p,h1,h2⟩:=JT (c:=c) hs.o1 hs.o2 ht.o1 ht.o2
 refine⟨c',e,p,fun q hq=>?_⟩
 unfold My.gA at hq
 cases hm:My.cm s.1 s.2 t.1 t.2 with
 |none=>rw[hm]at hq;cases hq
 |mv r=>
  rw[hm]at hq
  cases List.mem_singleton.mp hq
  exact h1 q hm
 |gh r u=>
  rw[hm]at hq
  obtain⟨k1,k2⟩:=h2 r u hm
  rcases List.mem_cons.mp hq with rfl|hq
  ·exact k1
  ·cases List.mem_singleton.mp hq
   exact k2
theorem GH{m:Nat}{S:List S2}{c:Cells}(hm:c[m]? =some (.lst (S.map az)))(hS:∀s∈S,lG 130 s)(JX:S.Nodup)(hn:S.length≤100):
  ∃fs rows c',eE [.ref m] c=some (.ref c.length,c')∧c <+:c'∧c'[c.length]? =some (.lst (fs.map D.ref))∧Runs sd c' fs rows∧(∀n∈fs,c.length<n)∧kY S S.length 0 rows:=by
 have hi:eK (eV 0) [some (.ref m),none,none,none,none] c=some (⟨S.map az,[(m,.lst (S.map az))]⟩,c):=lE rfl hm
 obtain⟨vs,c1,e1,p1,g1,l1,r1⟩:=tR (te:=eB qA (ae (eV 0) ag)) (g:=av 0) (cap:=[none]) (fun τ=>∃z,τ=[z]) (fun i v c'=>∃n s,v= .ref n∧c.length<n∧S[i]? =some s∧c'[n]? =some (.lst ([s.1,s.2].map sd))) hi (fun p hp=>by cases List.mem_singleton.mp hp;exact hm) ⟨none,rfl⟩
  (fun i v c1 c2 ⟨n,x,h1,h2,h3,h4⟩ fr=>⟨n,x,h1,h2,h3,fr n _ (by omega) h4⟩)
  (by
   rintro i d hd τ c' ⟨z,tU⟩ pc lc
   subst tU
   rw[List.getElem?_map]at hd
   obtain⟨x,hx,rfl⟩:=Option.map_eq_some_iff.mp hd
   have bt:qA [az x] c'=some (.ref c'.length,c'++[.lst [sd x.1,sd x.2]]):=rfl
   refine⟨[some (az x)],.ref c'.length,[.lst [sd x.1,sd x.2]],rfl,?_,⟨_,rfl⟩,c'.length,x,rfl,lc,hx,by simp⟩
   erw[bt])
  (by simp;omega)
 have ref:∃fs:List Nat,vs=fs.map D.ref∧fs.length=S.length∧∀(i n:Nat),fs[i]? =some n→c.length<n∧∃s,S[i]? =some s∧c1[n]? =some (.lst ([s.1,s.2].map sd)):=by
  rw[List.length_map]at l1
  rw[←l1]
  clear e1 g1 hi l1
  have:∀(vs:List D) (k:Nat),(∀(i:Nat) v,vs[i]? =some v→∃n s,v=D.ref n∧c.length<n∧S[k+i]? =some s∧c1[n]? =some (.lst ([s.1,s.2].map sd)))→∃ns:List Nat,vs=ns.map D.ref∧ns.length=vs.length∧∀(i n:Nat),ns[i]? =some n→c.length<n∧∃s,S[k+i]? =some s∧c1[n]? =some (.lst ([s.1,s.2].map sd)):=by
   intro vs
   induction vs with
   |nil=>exact fun k _=>⟨[],rfl,rfl,fun i n h=>by cases h⟩
   |cons v vs ih=>
    intro k h
    obtain⟨n,s,rfl,h0,h1,h2⟩:=h 0 v rfl
    obtain⟨ns,rfl,h4,h5⟩:=ih (k+1) fun i v hv=>by
     have:=h (i+1) v (by simpa using hv)
     rwa[show k+(i+1)=k+1+i by omega]at this
    refine⟨n::ns,rfl,by simp,fun i q hq=>?_⟩
    cases i with
    |zero=>
     cases hq
     exact⟨h0,s,h1,h2⟩
    |succ i=>
     have:=h5 i q (by simpa using hq)
     rwa[show k+1+i=k+(i+1)by omega]at this
  obtain⟨ns,h1,h2,h3⟩:=this vs 0 fun i v hv=>by rw[Nat.zero_add];exact r1 i v hv
  exact⟨ns,h1,h2,fun i n hn=>by have:=h3 i n hn;rwa[Nat.zero_add]at this⟩
 obtain⟨fs,rfl,lf,Nm⟩:=ref
 have mZ:fs.Nodup:=by
  refine List.pairwise_iff_getElem.mpr fun i j kf hj yT heq=>?_
  obtain⟨_,s,h1,h2⟩:=Nm i fs[i] (List.getElem?_eq_getElem kf)
  obtain⟨_,t,h3,h4⟩:=Nm j fs[j] (List.getElem?_eq_getElem hj)
  rw[heq,h4]at h2
  have h5: [sd t.1,sd t.2]=[sd s.1,sd s.2]:=by simpa using h2
  have e5:t=s:=by
   obtain⟨a,b⟩:=t
   obtain⟨x,y⟩:=s
   simp only[List.cons.injEq,and_true,M8]at h5
   rw[h5.1,h5.2]
  subst e5
  have:=(List.getElem?_inj (List.getElem?_eq_some_iff.mp h1).1 JX).mp (h1.trans h3.symm)
  omega
 have r0:Runs sd c1 fs (S.map fun s=>[s.1,s.2]):=⟨by rw[lf,List.length_map],fun i n l h1 h2=>by
  obtain⟨_,s,h3,h4⟩:=Nm i n h1
  rw[List.getElem?_map,h3]at h2
  cases h2
  exact h4⟩
 have f0:∀n∈fs,c.length<n:=fun n hn=>by
  obtain⟨i,hi⟩:=List.getElem?_of_mem hn
  exact(Nm i n hi).1
 have k0:kY S 0 0 (S.map fun s=>[s.1,s.2]):=by
  refine⟨by simp,fun i s row h1 h2 p=>?_,fun row hr p hp=>?_,fun row hr=>?_⟩
  ·rw[List.getElem?_map,h1]at h2
   cases h2
   simp[Pr]
  ·obtain⟨s,hs,rfl⟩:=List.mem_map.mp hr
   have:=hS s hs
   simp at hp
   rcases hp with rfl|rfl
   ·exact this.o1.mono (by decide)
   ·exact this.o2.mono (by decide)
  ·obtain⟨s,hs,rfl⟩:=List.mem_map.mp hr
   simp
 have s0:∀{c':Cells},c <+:c'→cE (.ref m) c'=some (S.map az):=fun p=>bq (aA p hm)
 have step:∀(k j:Nat) (rows:List (List T3)) (c':Cells) (z3 z4:Option D),j<k→k<S.length→c <+:c'→c'[c.length]? =some (.lst (fs.map D.ref))→Runs sd c' fs rows→kY S k j rows→
   ∃lF So c2,J_ [some (.ref m),some (.ref c.length),some (.int (k:Int)),some (.int (j:Int)),z4] c'=some (.nx,[some (.ref m),some (.ref c.length),some (.int (k:Int)),some (.int (j:Int)),So],c2)∧c <+:c2∧c2[c.length]? =some (.lst (fs.map D.ref))∧Runs sd c2 fs lF∧kY S k (j+1) lF:=by
  intro k j rows c' z3 z4 Sl hk p g R K
  obtain⟨s,hs⟩:∃s,S[j]? =some s:=⟨_,List.getElem?_eq_getElem (by omega)⟩
  obtain⟨t,ht⟩:∃t,S[k]? =some t:=⟨_,List.getElem?_eq_getElem hk⟩
  have E4:met S j k=My.cs (My.gA s t):=by unfold met;rw[hs,ht]
  obtain⟨c2,f1,f2,f3⟩:=Sn (c:=c') (hS s (List.mem_of_getElem? hs)) (hS t (List.mem_of_getElem? ht))
  have t1:iV (S.map az) (j:Int)=some (az s):=sk hs
  have t2:iV (S.map az) (k:Int)=some (az t):=sk ht
  have q0:=s0 p
  by_cases Fy:My.gA s t= .none
  ·rw[Fy]at f1
   have n1:tq (cD .none) .bF c2=some (.bl false,c2):=rfl
   refine⟨rows,some (cD .none),c2,?_,p.trans f2,aA f2 g,R.up f2,DN K (by rw[E4,Fy];rfl)⟩
   erw[jr,q0,t1,t2,f1,n1]
  ·have hrl:rows.length=S.length:=K.len
   obtain⟨rj,ej⟩:∃r,rows[j]? =some r:=⟨_,List.getElem?_eq_getElem (by omega)⟩
   obtain⟨rk,ek⟩:∃r,rows[k]? =some r:=⟨_,List.getElem?_eq_getElem (by omega)⟩
   obtain⟨nj,fj,cj⟩:=R.get ej
   obtain⟨nk,fk,ck⟩:=R.get ek
   have hnj:=f0 nj (List.mem_of_getElem? fj)
   have hnk:=f0 nk (List.mem_of_getElem? fk)
   have fH:nk≠nj:=fun z=>by
    have:=(List.getElem?_inj (List.getElem?_eq_some_iff.mp fk).1 mZ).mp (fk.trans (by rw[z];exact fj.symm))
    omega
   have DQ:=Nl (My.gA s t)
   have szj:=K.sz rj (List.mem_of_getElem? ej)
   have szk:=K.sz rk (List.mem_of_getElem? ek)
   have agC:k*S.length≤10000:=Nat.le_trans (Nat.mul_le_mul (Nat.le_of_lt (Nat.lt_of_lt_of_le hk hn)) hn) (by decide)
   have u1:iV (fs.map D.ref) (j:Int)=some (.ref nj):=ou fj
   have u2:iV (fs.map D.ref) (k:Int)=some (.ref nk):=ou fk
   have v1:=bq (aA f2 g)
   have Vr:=aA f2 cj
   have ck2:=aA f2 ck
   have x1:=OZ (ps:=My.cs (My.gA s t)) Vr (by omega)
   have g3:(c2.set nj (.lst ((rj++My.cs (My.gA s t)).map sd)))[c.length]? =some (.lst (fs.map D.ref)):=cc (aA f2 g) (by omega)
   have v2:=bq g3
   have Vs:(c2.set nj (.lst ((rj++My.cs (My.gA s t)).map sd)))[nk]? =some (.lst (rk.map sd)):=cc ck2 fH
   have x2:=OZ (ps:=My.cs (My.gA s t)) Vs (by omega)
   have w1:=aE Vr
   have w2:=aE Vs
   obtain⟨n1,n2⟩:=OY (My.gA s t) (c:=c2) Fy
   obtain⟨_,n3⟩:=OY (My.gA s t) (c:=c2.set nj (.lst ((rj++My.cs (My.gA s t)).map sd))) Fy
   refine⟨(rows.set j (rj++met S j k)).set k (rk++met S j k),some (cD (My.gA s t)),(c2.set nj (.lst ((rj++My.cs (My.gA s t)).map sd))).set nk (.lst ((rk++My.cs (My.gA s t)).map sd)),?_,mB (mB (p.trans f2) (by omega)) (by omega),cc g3 (by omega),?_,DO K Sl ej ek (by rw[E4];exact f3) (by rw[E4];exact DQ)⟩
   ·erw[jr,q0,t1,t2,f1,n1,v1,u1,w1,pM,n2,x1,v2,u2,w2,n3,x2]
   ·rw[E4]
    exact(Runs.put ((R.up f2).put mZ fj) mZ fk)
 have bl:cY [.ref m] c1=some (.int S.length,c1):=ot (aA p1 hm)
 have it:fY (ae (eB cY (ae (eV 0) ag)) ag) [some (.ref m),some (.ref c.length),none,none,none] c1=some (⟨gY 0 S.length,[]⟩,c1):=by
  have:=sh (a:=ae (eB cY (ae (eV 0) ag)) ag) (σ:=[some (.ref m),some (.ref c.length),none,none,none]) (c:=c1) (c':=c1) (j:=(S.length:Int)) (by erw[bl]) (by omega)
  rw[this]
  simp
 obtain⟨σ',c',e2,rows,z2,z3,z4,rfl,p2,g2,R2,K2⟩:=cf (ks:=[]) (g:=av 2) (body:=dJ (fY (ae (eV 2) ag)) (av 3) J_)
  (fun k σ c'=>∃rows z2 z3 z4,σ=[some (.ref m),some (.ref c.length),z2,z3,z4]∧c <+:c'∧c'[c.length]? =some (.lst (fs.map D.ref))∧Runs sd c' fs rows∧kY S k 0 rows)
  (gY 0 S.length) 0 [some (.ref m),some (.ref c.length),none,none,none] c1 (fun _ _ _ _=>gj)
  (by
   rintro k d σ c' hd ⟨rows,z2,z3,z4,fm,p,g,R,K⟩
   subst fm
   obtain⟨hk,rfl⟩:=sD hd
   rw[Int.zero_add]
   rw[show 0+k=k by omega]at K
   have Sq:fY (ae (eV 2) ag) [some (.ref m),some (.ref c.length),some (.int (k:Int)),z3,z4] c'=some (⟨gY 0 k,[]⟩,c'):=by
    have:=sh (a:=ae (eV 2) ag) (σ:=[some (.ref m),some (.ref c.length),some (.int (k:Int)),z3,z4]) (c:=c') (c':=c') (j:=(k:Int)) (by erw[]) (by omega)
    rw[this]
    simp
   obtain⟨AG,c2,e3,DG,y3,y4,rfl,p3,g3,R3,K3⟩:=cf (ks:=[]) (g:=av 3) (body:=J_)
    (fun j σ c'=>∃rows z3 z4,σ=[some (.ref m),some (.ref c.length),some (.int (k:Int)),z3,z4]∧c <+:c'∧c'[c.length]? =some (.lst (fs.map D.ref))∧Runs sd c' fs rows∧kY S k j rows)
    (gY 0 k) 0 [some (.ref m),some (.ref c.length),some (.int (k:Int)),z3,z4] c' (fun _ _ _ _=>gj)
    (by
     rintro j d σ c' hd ⟨rows,z3,z4,fm,p,g,R,K⟩
     subst fm
     obtain⟨hj,rfl⟩:=sD hd
     rw[Int.zero_add]
     rw[show 0+j=j by omega]at K
     obtain⟨lF,So,c2,h1,h2,h3,h4,h5⟩:=step k j rows c' z3 z4 hj hk p g R K
     exact⟨_,_,_,c2,rfl,h1,lF,some (.int (j:Int)),So,rfl,h2,h3,h4,by rw[show 0+j+1=j+1 by omega];exact h5⟩)
    ⟨rows,z3,z4,rfl,p,g,R,K⟩
   have e4:=fN (g:=av 3) (b:=J_) Sq
   rw[e3]at e4
   have hl: 0+(gY 0 k).length=k:=by simp[gY]
   rw[hl]at K3
   exact⟨_,_,_,c2,rfl,e4,DG,some (.int (k:Int)),y3,y4,rfl,p3,g3,R3,by rw[show 0+k+1=k+1 by omega];exact DP K3 hk⟩)
  ⟨_,none,none,none,rfl,p1,g1,r0,k0⟩
 have e5:=fN (g:=av 2) (b:=dJ (fY (ae (eV 2) ag)) (av 3) J_) it
 rw[e2]at e5
 have hl: 0+(gY 0 S.length).length=S.length:=by simp[gY]
 rw[hl]at K2
 refine⟨fs,rows,c',?_,p2,g2,R2,f0,K2⟩
 rw[eE,jq,jc]
 erw[e1,e5]
theorem BY(p:T3):My.aU p p=false:=My.BC p
abbrev GI(ys:List T3):Prop:=ys.Pairwise fun x y=>My.aU x y=true
theorem zV:∀{ys:List T3},jv My.aU ys→ys.Nodup→(∀p∈ys,My.bB p)→GI ys
 |[],_,_,_=>.nil
 |x::l,h,nd,lo=>by
  have kg:=List.nodup_cons.mp nd
  have ih:=zV (mC h) kg.2 fun p hp=>lo p (List.mem_cons_of_mem _ hp)
  refine List.pairwise_cons.mpr ⟨fun y hy=>?_,ih⟩
  have strict:∀{p q:T3},p∈x::l→q∈x::l→My.aU q p=false→p≠q→My.aU p q=true:=fun {p q} hp hq h1 h2=>by
   rcases My.jA (lo p hp) (lo q hq)with g|g|g
   ·exact g
   ·exact absurd g h2
   ·rw[h1]at g;cases g
  cases l with
  |nil=>cases hy
  |cons z l=>
   have Ka:My.aU x z=true:=strict List.mem_cons_self (by simp) h.1 (fun e=>kg.1 (by rw[e];simp))
   rcases List.mem_cons.mp hy with rfl|hy
   ·exact Ka
   ·exact My.mU (lo x (by simp)) (lo z (by simp)) (lo y (by simp[hy])) Ka ((List.pairwise_cons.mp ih).1 y hy)
def eL(ys:List T3):List S2:=ys.zip ys.tail
theorem BZ:∀{ys:List T3},GI ys→∀p q,(p,q)∈eL ys↔p∈ys∧q∈ys∧My.aU p q=true∧∀r∈ys,¬(My.aU p r=true∧My.aU r q=true)
 |[],_,p,q=>by simp[eL]
 |[x],_,p,q=>by
  simp[eL]
  rintro rfl rfl h
  rw[BY]at h
  cases h
 |x::y::t,h,p,q=>by
  have h1:=List.pairwise_cons.mp h
  have h2:=List.pairwise_cons.mp h1.2
  have ih:=BZ (ys:=y::t) h1.2 p q
  have e:eL (x::y::t)=(x,y)::eL (y::t):=rfl
  rw[e,List.mem_cons]
  have DR:∀{a b:T3},My.aU a b=true→¬My.aU b a=true:=fun h z=>by rw[My.dq h]at z;cases z
  have GJ:∀{a:T3},¬My.aU a a=true:=fun z=>by rw[BY]at z;cases z
  constructor
  ·rintro(z|z)
   ·cases z
    refine⟨by simp,by simp,h1.1 y (by simp),fun r hr ⟨k1,k2⟩=>?_⟩
    rcases List.mem_cons.mp hr with rfl|hr
    ·exact GJ k1
    ·rcases List.mem_cons.mp hr with rfl|hr
     ·exact GJ k2
     ·exact DR (h2.1 r hr) k2
   ·obtain⟨a1,a2,a3,a4⟩:=ih.mp z
    refine⟨List.mem_cons_of_mem _ a1,List.mem_cons_of_mem _ a2,a3,fun r hr k=>?_⟩
    rcases List.mem_cons.mp hr with rfl|hr
    ·exact DR (h1.1 p a1) k.1
    ·exact a4 r hr k
  ·rintro⟨a1,a2,a3,a4⟩
   rcases List.mem_cons.mp a1 with rfl|b1
   ·rcases List.mem_cons.mp a2 with rfl|b2
    ·exact absurd a3 GJ
    ·rcases List.mem_cons.mp b2 with rfl|b3
     ·exact .inl rfl
     ·exact absurd ⟨h1.1 y (by simp),h2.1 q b3⟩ (a4 y (by simp))
   ·rcases List.mem_cons.mp a2 with rfl|b2
    ·exact absurd a3 (DR (h1.1 p b1))
    ·exact .inr (ih.mpr ⟨b1,b2,a3,fun r hr=>a4 r (List.mem_cons_of_mem _ hr)⟩)
structure lV(S:List S2)(s:S2)(z:S2):Prop where
 c1:My.mz S s z.1
 c2:My.mz S s z.2
 lt:My.aU z.1 z.2=true
 no:∀r,My.mz S s r→¬(My.aU z.1 r=true∧My.aU r z.2=true)
theorem B0{S:List S2}{s:S2}{ys:List T3}(h:GI ys)(hm:∀p,p∈ys↔My.mz S s p)(z:S2):z∈eL ys↔lV S s z:=by
 obtain⟨p,q⟩:=z
 rw[BZ h p q]
 constructor
 ·rintro⟨a1,a2,a3,a4⟩
  exact⟨(hm p).mp a1,(hm q).mp a2,a3,fun r hr=>a4 r ((hm r).mpr hr)⟩
 ·rintro⟨a1,a2,a3,a4⟩
  exact⟨(hm p).mpr a1,(hm q).mpr a2,a3,fun r hr=>a4 r ((hm r).mp hr)⟩
theorem lV.move{S:List S2}{s t z:S2}(hS:∀t∈S,My.Sd t)(hs:s∈S)(ht:t∈S)(h:lV S s z)(o1:My.On z.1 t)(o2:My.On z.2 t):lV S t z:=by
 have ds:=hS s hs
 have dt:=hS t ht
 refine⟨h.c1.move hS hs ht o1,h.c2.move hS hs ht o2,h.lt,fun r hr ⟨k1,k2⟩=>?_⟩
 have q1:=h.c1.on hS ds
 have q2:=h.c2.on hS ds
 have rt:=hr.on hS dt
 have hz:My.Sd z:=⟨q1.1,q2.1,fun e=>by have:=h.lt;rw[e,BY]at this;cases this⟩
 have e1:=My.oo.symm ds (show My.oo s z from⟨q1.dt,q2.dt⟩)
 have e2:My.aO z.1 z.2 r=0:=My.ER dt.cV o1.dt o2.dt rt.dt
 have e3:My.aO s.1 s.2 r=0:=My.ER hz.cV e1.1 e1.2 e2
 obtain⟨l1,l2⟩:=My.ir ds.l1 ds.l2
 obtain⟨a1,a2⟩:=(My.dM q1.dt).mp q1.2
 obtain⟨b1,b2⟩:=(My.dM q2.dt).mp q2.2
 have rs:My.On r s:=⟨rt.1,(My.dM e3).mpr ⟨My.le_trans l1 q1.1 rt.1 a1 (My.jU k1),My.le_trans rt.1 q2.1 l2 (My.jU k2) b2⟩⟩
 exact h.no r (hr.move hS ht hs rs) ⟨k1,k2⟩
theorem lV.on{S:List S2}{s z:S2}(hS:∀t∈S,My.Sd t)(hs:s∈S)(h:lV S s z):My.On z.1 s∧My.On z.2 s:=⟨h.c1.on hS (hS s hs),h.c2.on hS (hS s hs)⟩
theorem tY{S:List S2}{rows:List (List T3)}(hS:∀t∈S,My.Sd t)(JX:S.Nodup)(h:kY S S.length 0 rows){i:Nat}{s:S2}{row:List T3}(h1:S[i]? =some s)(h2:rows[i]? =some row)(p:T3):p∈row↔My.mz S s p:=by
 rw[h.mem i s row h1 h2 p]
 have hs:=List.mem_of_getElem? h1
 unfold My.mz
 have:(∃a b,Pr S.length 0 a b∧(i=a∨i=b)∧p∈met S a b)↔∃t∈S,t≠s∧p∈My.cs (My.gA s t):=by
  constructor
  ·rintro⟨a,b,⟨u,v⟩,w,x⟩
   have hb:b<S.length:=by omega
   obtain⟨sa,ha⟩:∃x,S[a]? =some x:=⟨_,List.getElem?_eq_getElem (by omega)⟩
   obtain⟨sb,xP⟩:∃x,S[b]? =some x:=⟨_,List.getElem?_eq_getElem hb⟩
   have ne:sa≠sb:=fun z=>by
    have:=(List.getElem?_inj (List.getElem?_eq_some_iff.mp ha).1 JX).mp (ha.trans (by rw[z];exact xP.symm))
    omega
   unfold met at x
   rw[ha,xP]at x
   rcases w with rfl|rfl
   ·rw[h1]at ha
    cases ha
    exact⟨sb,List.mem_of_getElem? xP,ne.symm,x⟩
   ·rw[h1]at xP
    cases xP
    refine⟨sa,List.mem_of_getElem? ha,ne,?_⟩
    rw[My.ET (hS _ (List.mem_of_getElem? ha)) (hS _ hs)]
    exact x
  ·rintro⟨t,ht,ne,x⟩
   obtain⟨j,hj⟩:=List.getElem?_of_mem ht
   have yT:i≠j:=fun z=>by
    subst z
    rw[h1]at hj
    exact ne (Option.some.inj hj).symm
   have Sm:=(List.getElem?_eq_some_iff.mp hj).1
   have kf:=(List.getElem?_eq_some_iff.mp h1).1
   rcases Nat.lt_or_ge i j with g|g
   ·refine⟨i,j,⟨g,.inl Sm⟩,.inl rfl,?_⟩
    unfold met
    rw[h1,hj]
    exact x
   ·refine⟨j,i,⟨by omega,.inl kf⟩,.inr rfl,?_⟩
    unfold met
    rw[h1,hj]
    show p∈My.cs (My.gA t s)
    rw[My.ET (hS _ hs) (hS _ ht)]
    exact x
 rw[this]
abbrev PV:=List (S2×List Int)
def sF(ks:KV):PV:=ks.map fun k=>(k.1,k.2.2)
def kh(v:PV)(s:S2)(zs:List Int):PV:=if s∈v.map (·.1)then v.map (fun k=>if k.1=s then(k.1,k.2++zs)else k)else v++[(s,zs)]
theorem tZ(ks:KV):(sF ks).map (·.1)=keys ks:=by unfold sF keys;rw[List.map_map];rfl
theorem Kb(ks:KV)(n:Nat)(s:S2)(zs:List Int):sF (iP ks n s zs)=kh (sF ks) s zs:=by
 unfold kh
 rw[tZ]
 unfold iP
 split
 ·unfold sF
  rw[List.map_map,List.map_map]
  refine List.map_congr_left fun k _=>?_
  dsimp only[Function.comp]
  split<;>rfl
 ·simp[sF]
theorem Kc(ys:List T3):fS (ys.map sd) (ys.tail.map sd)=(eL ys).map az:=by
 unfold fS eL
 rw[List.zip_map,List.map_map]
 rfl
structure xa(c:Cells)(L:Nat)(ks:KV):Prop where
 at_:c[L]? =some (.jZ (ks.map fun k=>(kS k.1,D.ref k.2.1)))
 cell:∀k∈ks,c[k.2.1]? =some (.lst (k.2.2.map D.int))
theorem xa.keep{c c':Cells}{L:Nat}{ks:KV}(h:xa c L ks){S:List Nat}(k:Kq S c c')(hL:L∉S)(hi:∀n∈ids ks,n∉S):xa c' L ks:=⟨k L _ hL h.at_,fun x hx=>k _ _ (hi _ (List.mem_map_of_mem hx)) (h.cell x hx)⟩
theorem xa.ix{o k:XE}{σ:Qm.Env}{c:Cells}{L:Nat}{ks:KV}(h:xa c L ks){q:S2×Nat×List Int}(hq:q∈ks)(kd:(keys ks).Nodup)(ho:o σ c=some (.ref L,c))(hk:k σ c=some (az q.1,c)):jz o k σ c=some (.ref q.2.1,c):=by
 obtain⟨q',BP,e,ha⟩:=vL (ks:=ks) (s:=q.1) ⟨q,hq,rfl⟩
 have inj:∀{l:KV},(keys l).Nodup→∀x∈l,∀y∈l,x.1=y.1→x=y:=by
  intro l
  induction l with
  |nil=>exact fun _ x hx=>nomatch hx
  |cons a l ih=>
   intro nd x hx y hy w_
   have kg:a.1∉keys l∧(keys l).Nodup:=by simpa[keys]using nd
   rcases List.mem_cons.mp hx with rfl|hV<;>rcases List.mem_cons.mp hy with rfl|kA
   ·rfl
   ·exact absurd (List.mem_map.mpr ⟨y,kA,w_.symm⟩) kg.1
   ·exact absurd (List.mem_map.mpr ⟨x,hV,w_⟩) kg.1
   ·exact ih kg.2 x hV y kA w_
 cases inj kd q' BP q hq e
 have t1:qC (.ref L) c=some (ks.map fun k=>(kS k.1,D.ref k.2.1)):=by
  unfold qC
  simp[h.at_]
 unfold jz
 simp only[ho,hk,t1,Option.bind_some,zT,ha]
theorem GK{A B C5:Option D}{L1 L2 n6:Nat}{z7:Option D}{ys:List T3}{ls ks:KV}{q:S2×Nat×List Int}{c:Cells}{M:Nat}(dl:DS c L1 ls)(fz:xa c L2 ks)(kd:(keys ks).Nodup)(hq:q∈ks)(h6:c[n6]? =some (.lst (ys.map sd)))
  (a1:L2∉L1::ids ls)(a2:∀n∈ids ks,n∉L1::ids ls)(a3:n6∉L1::ids ls)(hM:∀k∈ls,k.2.2.length≤M)(hb:M+(ys.length+1)*(q.2.2.length+1)≤100000)(hl:ls.length+ys.length<100000):
  ∃mD z c',dJ (lA (ae (eV 6) (ae (lZ eJ (eV 6) (dO (eC (.int 1))) f_) ag))) (av 7) (cC (eM fD (fE (eV 1) (eV 7)) (ae (jz (eV 2) (eV 4)) ag))) [A,some (.ref L1),some (.ref L2),B,some (az q.1),C5,some (.ref n6),z7] c=some (.nx,[A,some (.ref L1),some (.ref L2),B,some (az q.1),C5,some (.ref n6),z],c')∧
   DS c' L1 mD∧Kq (L1::ids ls) c c'∧(∀n∈ids mD,n∈ids ls∨c.length≤n)∧sF mD=(eL ys).foldl (fun v z=>kh v z q.2.2) (sF ls)∧mD.length≤ls.length+ys.length∧∀k∈mD,k.2.2.length≤M+ys.length*q.2.2.length:=by
 have ct:eJ (.ref n6) (some 1) none c=some (.ref c.length,c++[.lst (ys.tail.map sd)]):=by
  show((cE (.ref n6) c).bind _)=_
  rw[bq h6,Option.bind_some]
  have:Qm.cutD (ys.map sd) (some 1) none=ys.tail.map sd:=by
   cases ys with
   |nil=>rfl
   |cons y t=>exact zO (e:=sd) (l:=y::t) (k:=1) (by simp)
  rw[this]
 have l6:=bp h6
 have g6:=aY (zs:=[Cell.lst (ys.tail.map sd)]) h6
 have it:lA (ae (eV 6) (ae (lZ eJ (eV 6) (dO (eC (.int 1))) f_) ag)) [A,some (.ref L1),some (.ref L2),B,some (az q.1),C5,some (.ref n6),z7] c=some (⟨(eL ys).map az,[(n6,.lst (ys.map sd)),(c.length,.lst (ys.tail.map sd))]⟩,c++[.lst (ys.tail.map sd)]):=by
  have ha:ae (eV 6) (ae (lZ eJ (eV 6) (dO (eC (.int 1))) f_) ag) [A,some (.ref L1),some (.ref L2),B,some (az q.1),C5,some (.ref n6),z7] c=some ([.ref n6,.ref c.length],c++[.lst (ys.tail.map sd)]):=by erw[pM,ct]
  unfold lA
  rw[ha,Option.bind_some]
  dsimp only
  rw[g6,aI,aE g6,aE aI,←Kc]
  rfl
 have Ic:(eL ys).length≤ys.length:=by unfold eL;simp
 have JR:∀n∈ids ls,n<c.length:=fun n hn=>dl.sC hn
 have MG:=bp dl.at_
 obtain⟨σ',c',e1,mD,z,rfl,d1,k1,i1,v1,n1,m1⟩:=cf (ks:=[(n6,.lst (ys.map sd)),(c.length,.lst (ys.tail.map sd))]) (g:=av 7) (body:=cC (eM fD (fE (eV 1) (eV 7)) (ae (jz (eV 2) (eV 4)) ag)))
  (fun i σ c'=>∃mD z,σ=[A,some (.ref L1),some (.ref L2),B,some (az q.1),C5,some (.ref n6),z]∧DS c' L1 mD∧Kq (L1::ids ls) (c++[.lst (ys.tail.map sd)]) c'∧(∀n∈ids mD,n∈ids ls∨c.length<n)∧sF mD=((eL ys).take i).foldl (fun v z=>kh v z q.2.2) (sF ls)∧mD.length≤ls.length+i∧∀k∈mD,k.2.2.length≤M+i*q.2.2.length)
  ((eL ys).map az) 0 [A,some (.ref L1),some (.ref L2),B,some (az q.1),C5,some (.ref n6),z7] (c++[.lst (ys.tail.map sd)])
  (by
   rintro i σ c' ⟨mD,z,fm,d1,k1,_⟩ p hp
   rcases List.mem_cons.mp hp with rfl|hp
   ·exact k1 _ _ a3 g6
   ·cases List.mem_singleton.mp hp
    exact k1 _ _ (fun hm=>by
     rcases List.mem_cons.mp hm with e|hm
     ·exact absurd MG (by rw[←e];exact Nat.lt_irrefl _)
     ·exact absurd (JR _ hm) (Nat.lt_irrefl _)) aI)
  (by
   rintro i d σ c' hd ⟨mD,z,fm,d1,k1,i1,v1,n1,m1⟩
   subst fm
   rw[List.getElem?_map]at hd
   obtain⟨pq,Vt,rfl⟩:=Option.map_eq_some_iff.mp hd
   have kf:=(List.getElem?_eq_some_iff.mp Vt).1
   rw[show 0+i=i by omega]at v1 n1 m1
   obtain⟨n,c1,row,f1,f2,f3,f4,f5,f6,f7,f8⟩:=JZ (o:=eV 1) (k:=eV 7) (σ:=[A,some (.ref L1),some (.ref L2),B,some (az q.1),C5,some (.ref n6),some (az pq)]) (s:=pq) (zs:=q.2.2) d1 rfl rfl (by omega)
   have Kd:∀{x:Nat},x∉L1::ids ls→x<c.length→x∉L1::ids mD:=fun {x} hx hxl hm=>by
    rcases List.mem_cons.mp hm with rfl|hm
    ·exact hx List.mem_cons_self
    ·rcases i1 x hm with h|h
     ·exact hx (List.mem_cons_of_mem _ h)
     ·omega
   have fz':xa c' L2 ks:=(show xa (c++[.lst (ys.tail.map sd)]) L2 ks from⟨aY fz.at_,fun x hx=>aY (fz.cell x hx)⟩).keep k1 a1 a2
   have Nn:xa c1 L2 ks:=fz'.keep f7 (Kd a1 (bp fz.at_)) (fun x hx=>Kd (a2 x hx) (by
    obtain⟨k,hk,rfl⟩:=List.mem_map.mp hx
    exact bp (fz.cell k hk)))
   have ix:=Nn.ix (o:=eV 2) (k:=eV 4) (σ:=[A,some (.ref L1),some (.ref L2),B,some (az q.1),C5,some (.ref n6),some (az pq)]) hq kd rfl rfl
   have w1:=aE f2
   have w2:=aE (Nn.cell q hq)
   have BW:row.length≤M+i*q.2.2.length:=by
    rcases f3 with rfl|⟨r,hr,rfl⟩
    ·simp
    ·exact m1 r hr
   have hmul:i*q.2.2.length≤ys.length*q.2.2.length:=Nat.mul_le_mul_right _ (by omega)
   have aeg:(ys.length+1)*(q.2.2.length+1)=ys.length*q.2.2.length+ys.length+q.2.2.length+1:=by rw[Nat.add_mul,Nat.mul_add];omega
   have mx:fD (.ref n) [.ref q.2.1] c1=some (.bF,c1.set n (.lst ((row++q.2.2).map D.int))):=by
    unfold fD one
    simp only[w1,w2,Option.bind_some,List.length_map]
    rw[if_pos (show row.length+q.2.2.length≤cR by rw[dR];omega),List.map_append]
   have DQ:c.length<c'.length:=by
    have:=bp (k1 c.length _ (fun hm=>by
     rcases List.mem_cons.mp hm with e|hm
     ·exact absurd MG (by rw[←e];exact Nat.lt_irrefl _)
     ·exact absurd (JR _ hm) (Nat.lt_irrefl _)) aI)
    exact this
   refine⟨_,_,[A,some (.ref L1),some (.ref L2),B,some (az q.1),C5,some (.ref n6),some (az pq)],c1.set n (.lst ((row++q.2.2).map D.int)),rfl,?_,iP mD c'.length pq q.2.2,some (az pq),rfl,f5,?_,?_,?_,?_,?_⟩
   ·erw[f1,w1,ix,mx]
   ·refine k1.trans f6 fun x hx=>?_
    rcases List.mem_cons.mp hx with rfl|hx
    ·exact .inl List.mem_cons_self
    ·rcases i1 x hx with h|h
     ·exact .inl (List.mem_cons_of_mem _ h)
     ·exact .inr (by simp;omega)
   ·intro x hx
    rw[jV]at hx
    split at hx
    ·exact i1 x hx
    ·rcases List.mem_append.mp hx with hx|hx
     ·exact i1 x hx
     ·cases List.mem_singleton.mp hx
      exact .inr DQ
   ·rw[Kb,v1,show 0+i+1=i+1 by omega,List.take_add_one,Vt]
    simp
   ·have:=yB (ks:=mD) (n:=c'.length) (s:=pq) (zs:=q.2.2)
    omega
   ·intro k hk
    rw[show 0+i+1=i+1 by omega,Nat.add_mul,Nat.one_mul]
    unfold iP at hk
    split at hk
    ·obtain⟨k',p_,rfl⟩:=List.mem_map.mp hk
     have:=m1 k' p_
     split
     ·rw[List.length_append];omega
     ·omega
    ·rcases List.mem_append.mp hk with hk|hk
     ·have:=m1 k hk;omega
     ·cases List.mem_singleton.mp hk
      show q.2.2.length≤_
      omega)
  ⟨ls,z7,rfl,dl.up ⟨_,rfl⟩,Kq.refl _ _,fun n hn=>.inl hn,rfl,Nat.le_refl _,fun k hk=>by have:=hM k hk;omega⟩
 have e2:=fN (g:=av 7) (b:=cC (eM fD (fE (eV 1) (eV 7)) (ae (jz (eV 2) (eV 4)) ag))) it
 rw[e1]at e2
 have hll: 0+((eL ys).map az).length=(eL ys).length:=by simp
 rw[hll]at v1 n1 m1
 rw[List.take_length]at v1
 refine⟨mD,z,c',e2,d1,(Kq.pre (S:=L1::ids ls) (show c <+:c++[.lst (ys.tail.map sd)] from⟨_,rfl⟩)).trans k1 (fun x hx=>.inl hx),fun n hn=>(i1 n hn).imp id Nat.le_of_lt,v1,by omega,fun k hk=>?_⟩
 have:=m1 k hk
 have:=Nat.mul_le_mul_right q.2.2.length Ic
 omega
theorem qH(v:PV)(s:S2)(zs:List Int):(kh v s zs).map (·.1)=if s∈v.map (·.1)then v.map (·.1)else v.map (·.1)++[s]:=by
 unfold kh
 split
 ·rw[List.map_map]
  refine List.map_congr_left fun k _=>?_
  dsimp only[Function.comp]
  split<;>rfl
 ·simp
theorem yC{v:PV}{s:S2}{ns:List Int}{x:S2×List Int}(h:x∈kh v s ns):(x.1=s∧((∃row,(s,row)∈v∧x.2=row++ns)∨(s∉v.map (·.1)∧x.2=ns)))∨(x.1≠s∧x∈v):=by
 unfold kh at h
 split at h
 ·rename_i hs
  obtain⟨k,hk,rfl⟩:=List.mem_map.mp h
  by_cases e:k.1=s
  ·rw[if_pos e]
   exact .inl ⟨e,.inl ⟨k.2,by rw[←e];exact hk,rfl⟩⟩
  ·rw[if_neg e]
   exact .inr ⟨e,hk⟩
 ·rename_i hs
  rcases List.mem_append.mp h with h|h
  ·exact .inr ⟨fun e=>hs (by rw[←e];exact List.mem_map_of_mem h),h⟩
  ·cases List.mem_singleton.mp h
   exact .inl ⟨rfl,.inr ⟨hs,rfl⟩⟩
theorem xb(ns:List Int):∀(zs:List S2) (v:PV),(v.map (·.1)).Nodup→((zs.foldl (fun v z=>kh v z ns) v).map (·.1)).Nodup∧∀z,z∈(zs.foldl (fun v z=>kh v z ns) v).map (·.1)↔z∈v.map (·.1)∨z∈zs
 |[],v,h=>⟨h,fun z=>by simp⟩
 |y::zs,v,h=>by
  have h2:((kh v y ns).map (·.1)).Nodup:=by
   rw[qH]
   split
   ·exact h
   ·rename_i hy
    rw[List.nodup_append]
    exact⟨h,by simp,fun a ha b hb e=>hy (by rw[←List.mem_singleton.mp hb,←e];exact ha)⟩
  obtain⟨k1,k2⟩:=xb ns zs (kh v y ns) h2
  refine⟨k1,fun z=>?_⟩
  rw[List.foldl_cons,k2 z,qH,List.mem_cons]
  split
  ·rename_i hy
   constructor
   ·rintro(a|a)
    ·exact .inl a
    ·exact .inr (.inr a)
   ·rintro(a|rfl|a)
    ·exact .inl a
    ·exact .inl hy
    ·exact .inr a
  ·rw[List.mem_append,List.mem_singleton]
   constructor
   ·rintro((a|a)|a)
    ·exact .inl a
    ·exact .inr (.inl a)
    ·exact .inr (.inr a)
   ·rintro(a|a|a)
    ·exact .inl (.inl a)
    ·exact .inl (.inr a)
    ·exact .inr a
theorem yD(ns:List Int):∀(zs:List S2) (v:PV) (x:S2×List Int),zs.Nodup→x∈zs.foldl (fun v z=>kh v z ns) v→
  (x.1∈zs∧((∃row,(x.1,row)∈v∧x.2=row++ns)∨(x.1∉v.map (·.1)∧x.2=ns)))∨(x.1∉zs∧x∈v)
 |[],v,x,_,h=>.inr ⟨by simp,h⟩
 |y::zs,v,x,nd,h=>by
  have kg:=List.nodup_cons.mp nd
  rcases yD ns zs (kh v y ns) x kg.2 h with⟨h1,h2⟩|⟨h1,h2⟩
  ·have fH:x.1≠y:=fun e=>kg.1 (by rw[←e];exact h1)
   refine .inl ⟨List.mem_cons_of_mem _ h1,?_⟩
   rcases h2 with⟨row,hr,e⟩|⟨hk,e⟩
   ·rcases yC hr with⟨a,_⟩|⟨_,a⟩
    ·exact absurd a fH
    ·exact .inl ⟨row,a,e⟩
   ·refine .inr ⟨fun hm=>hk ?_,e⟩
    rw[qH]
    split
    ·exact hm
    ·exact List.mem_append_left _ hm
  ·rcases yC h2 with⟨a,b⟩|⟨a,b⟩
   ·refine .inl ⟨by rw[a];exact List.mem_cons_self,?_⟩
    rw[a]
    exact b
   ·refine .inr ⟨fun hm=>?_,b⟩
    rcases List.mem_cons.mp hm with e|hm
    ·exact a e
    ·exact h1 hm
structure VS(S:List S2)(nm:S2→List Int)(T:List S2)(v:PV):Prop where
 nd:(v.map (·.1)).Nodup
 key:∀z,z∈v.map (·.1)↔∃s∈T,lV S s z
 row:∀x∈v,x.2.Nodup∧∀k,k∈x.2↔∃s∈T,lV S s x.1∧k∈nm s
theorem VS.step{S:List S2}{nm:S2→List Int}{T:List S2}{v:PV}{s:S2}{zs:List S2}(h:VS S nm T v)(hz:∀z,z∈zs↔lV S s z)(nz:zs.Nodup)(hn:(nm s).Nodup)(hd:∀t∈T,∀k∈nm t,k∉nm s):VS S nm (T++[s]) (zs.foldl (fun v z=>kh v z (nm s)) v):=by
 obtain⟨k1,k2⟩:=xb (nm s) zs v h.nd
 have ex:∀(P:S2→Prop),(∃t∈T++[s],P t)↔(∃t∈T,P t)∨P s:=fun P=>by
  constructor
  ·rintro⟨t,ht,p⟩
   rcases List.mem_append.mp ht with ht|ht
   ·exact .inl ⟨t,ht,p⟩
   ·cases List.mem_singleton.mp ht
    exact .inr p
  ·rintro(⟨t,ht,p⟩|p)
   ·exact⟨t,List.mem_append_left _ ht,p⟩
   ·exact⟨s,by simp,p⟩
 refine⟨k1,fun z=>?_,fun x hx=>?_⟩
 ·rw[k2 z,h.key z,hz z,ex]
 ·have e2:∀k,(∃t∈T++[s],lV S t x.1∧k∈nm t)↔(∃t∈T,lV S t x.1∧k∈nm t)∨(lV S s x.1∧k∈nm s):=fun k=>ex _
  rcases yD (nm s) zs v x nz hx with⟨h1,h2⟩|⟨h1,h2⟩
  ·have cs:=(hz x.1).mp h1
   rcases h2 with⟨row,hr,e⟩|⟨hk,e⟩
   ·obtain⟨r1,r2⟩:=h.row _ hr
    rw[e]
    refine⟨List.nodup_append.mpr ⟨r1,hn,fun a ha b hb eab=>?_⟩,fun k=>?_⟩
    ·obtain⟨t,ht,_,hk⟩:=(r2 a).mp ha
     exact hd t ht a hk (by rw[eab];exact hb)
    ·rw[List.mem_append,r2 k,e2]
     constructor
     ·rintro(a|a)
      ·exact .inl a
      ·exact .inr ⟨cs,a⟩
     ·rintro(a|⟨_,a⟩)
      ·exact .inl a
      ·exact .inr a
   ·rw[e]
    refine⟨hn,fun k=>?_⟩
    rw[e2]
    constructor
    ·exact fun a=>.inr ⟨cs,a⟩
    ·rintro(⟨t,ht,c,_⟩|⟨_,a⟩)
     ·exact absurd ((h.key _).mpr ⟨t,ht,c⟩) hk
     ·exact a
  ·obtain⟨r1,r2⟩:=h.row _ h2
   refine⟨r1,fun k=>?_⟩
   rw[r2 k,e2]
   constructor
   ·exact .inl
   ·rintro(a|⟨c,_⟩)
    ·exact a
    ·exact absurd ((hz x.1).mpr c) h1
theorem uO:∀{ys:List T3},ys.Nodup→(eL ys).Nodup
 |[],_=>.nil
 |[_],_=>by simp[eL]
 |x::y::t,h=>by
  have e:eL (x::y::t)=(x,y)::eL (y::t):=rfl
  rw[e]
  have h':=List.nodup_cons.mp h
  refine List.nodup_cons.mpr ⟨fun hm=>h'.1 ?_,uO h'.2⟩
  exact(List.of_mem_zip hm).1
theorem ki{S:List S2}{s:S2}{i:Nat}{k:Int}:k∈num S s i↔∃j:Nat,j<i∧k=(j:Int)∧(S[j]?).map dD=some s:=by
 unfold num
 rw[List.mem_map]
 constructor
 ·rintro⟨j,hj,rfl⟩
  obtain⟨a,b⟩:=List.mem_filter.mp hj
  exact⟨j,List.mem_range.mp a,rfl,of_decide_eq_true b⟩
 ·rintro⟨j,a,rfl,b⟩
  exact⟨j,List.mem_filter.mpr ⟨List.mem_range.mpr a,decide_eq_true b⟩,rfl⟩
theorem xc{S:List S2}{s:S2}{i:Nat}:(num S s i).Nodup:=by
 unfold num
 exact List.Pairwise.map _ (fun a b (h:a≠b) e=>h (by omega)) (List.Pairwise.filter _ List.nodup_range)
theorem DT{S:List S2}{s t:S2}{i:Nat}(h:t≠s){k:Int}(hk:k∈num S t i):k∉num S s i:=by
 intro hm
 obtain⟨j,_,rfl,a⟩:=ki.mp hk
 obtain⟨j',_,e,b⟩:=ki.mp hm
 have:j=j':=by omega
 subst this
 rw[a]at b
 exact h (Option.some.inj b)
theorem sG:∀(n:Nat) (l:List Int),l.Nodup→(∀k∈l,0≤k∧k<n)→l.length≤n
 |0,l,_,h=>by
  cases l with
  |nil=>simp
  |cons x l=>have:=h x List.mem_cons_self;omega
 |n+1,l,nd,h=>by
  by_cases hm:(n:Int)∈l
  ·have h1:=sG n (l.erase (n:Int)) (nd.erase _) fun k hk=>by
    have h2:=(List.Nodup.mem_erase_iff nd).mp hk
    have:=h k h2.2
    have:=h2.1
    omega
   have:=List.length_erase_of_mem hm
   omega
  ·have:=sG n l nd fun k hk=>by
    have:=h k hk
    have:k≠n:=fun e=>hm (by rw[←e];exact hk)
    omega
   omega
theorem sub_len:∀(l m:List T3),l.Nodup→(∀x∈l,x∈m)→l.length≤m.length
 |l,[],_,h=>by
  cases l with
  |nil=>simp
  |cons x l=>exact absurd (h x List.mem_cons_self) (by simp)
 |l,y::m,nd,h=>by
  rw[List.length_cons]
  by_cases hm:y∈l
  ·have h1:=sub_len (l.erase y) m (nd.erase _) fun x hx=>by
    have h2:=(List.Nodup.mem_erase_iff nd).mp hx
    exact(List.mem_cons.mp (h x h2.2)).resolve_left h2.1
   have:=List.length_erase_of_mem hm
   omega
  ·have:=sub_len l m nd fun x hx=>(List.mem_cons.mp (h x hx)).resolve_left fun e=>hm (by rw[←e];exact hx)
   omega
noncomputable abbrev Ke(x0 x1:Nat):XS:=ay (aH 6 (aq (iA x0 x1) [] (ae (eV 4) (ae (eV 5) ag)))) (dJ (lA (ae (eV 6) (ae (lZ eJ (eV 6) (dO (eC (.int 1))) f_) ag))) (av 7) (cC (eM fD (fE (eV 1) (eV 7)) (ae (jz (eV 2) (eV 4)) ag))))
theorem Sr(ks:List S2)(fs:List Nat):fS (ks.map az) (fs.map D.ref)=(ks.zip fs).map fun x=>D.tup [az x.1,D.ref x.2]:=by
 unfold fS
 rw[List.zip_map,List.map_map]
 rfl
theorem Kf(ks:KV):(ks.map fun k=>(kS k.1,D.ref k.2.1)).map (fun q=>Bp q.1)=(keys ks).map az:=by
 unfold keys
 rw[List.map_map,List.map_map]
 rfl
theorem Ss{x0 x1:Nat}{A:Option D}{c:Cells}{L1 L2 L3:Nat}{ks:KV}{IN:List S2}{fs:List Nat}{rows:List (List T3)}{N:Nat}
  (hN:N≤30)(d1:DS c L1 [])(d2:DS c L2 ks)(h3:c[L3]? =some (.lst (fs.map D.ref)))(R:Runs sd c fs rows)(K:kY (keys ks) (keys ks).length 0 rows)(nm:∀q∈ks,q.2.2=num IN q.1 N)(hk:ks.length≤N)
  (hS:∀s∈keys ks,lG 130 s∧My.Sd s∧My.aU s.1 s.2=true)(n2:L1≠L2)(n3:L1≠L3)(n23:L2≠L3)(i1:L1∉ids ks)(i2:L1∉fs)(j2:L2∉fs)(j3:∀n∈ids ks,n∉fs):
  ∃ls z4 z5 z6 z7 c',dJ (rY (ae (eV 2) (ae (eV 3) ag))) (cX 2 (aK (av 4) (aK (av 5) cW))) (Ke x0 x1) [A,some (.ref L1),some (.ref L2),some (.ref L3),none,none,none,none] c=some (.nx,[A,some (.ref L1),some (.ref L2),some (.ref L3),z4,z5,z6,z7],c')∧
   DS c' L1 ls∧Kq [L1,L2] c c'∧(∀n∈ids ls,c.length≤n)∧VS (keys ks) (fun s=>num IN s N) (keys ks) (sF ls)∧ls.length≤100000:=by
 have kd:=d2.kd
 have Vu:(keys ks).length=ks.length:=by simp[keys]
 have Su:∀t∈keys ks,My.Sd t:=fun t ht=>(hS t ht).2.1
 have lf:fs.length=(keys ks).length:=by rw[R.len,K.len]
 generalize uP:c.set L2 (.jZ (ks.map fun k=>(kS k.1,D.ref k.2.1)))=cst
 have agD:cst.length=c.length:=by rw[←uP];simp
 have kq0:Kq [L1,L2] c cst:=fun j z hj e=>by
  rw[←uP]
  exact cc e fun h=>hj (by rw[h];simp)
 have Sv:xa cst L2 ks:=⟨by rw[←uP];exact iD (bp d2.at_),fun x hx=>by
  rw[←uP]
  exact cc (d2.cell x hx) fun h=>d2.ne (by rw[←h];exact List.mem_map_of_mem hx)⟩
 have g3:cst[L3]? =some (.lst (fs.map D.ref)):=by rw[←uP];exact cc h3 n23.symm
 have R0:Runs sd cst fs rows:=⟨R.len,fun i n l h1 h2=>by rw[←uP];exact cc (R.at_ i n l h1 h2) fun h=>j2 (by rw[←h];exact List.mem_of_getElem? h1)⟩
 have dl0:DS cst L1 []:=⟨by rw[←uP];exact cc d1.at_ n2,fun _ h=>(nomatch h),.nil,.nil,by simp[ids]⟩
 have it:rY (ae (eV 2) (ae (eV 3) ag)) [A,some (.ref L1),some (.ref L2),some (.ref L3),none,none,none,none] c=some (⟨((keys ks).zip fs).map fun x=>D.tup [az x.1,D.ref x.2],[(L2,.jZ (ks.map fun k=>(kS k.1,D.ref k.2.1))),(L3,.lst (fs.map D.ref))]⟩,cst):=by
  have ha:ae (eV 2) (ae (eV 3) ag) [A,some (.ref L1),some (.ref L2),some (.ref L3),none,none,none,none] c=some ([.ref L2,.ref L3],c):=by erw[]
  unfold rY
  rw[ha,Option.bind_some]
  dsimp only
  have e2:c[L2]? =some (.gP (ks.map fun k=>(kS k.1,D.ref k.2.1))):=d2.at_
  rw[e2]
  dsimp only
  rw[aE h3,Option.bind_some]
  dsimp only
  rw[Kf,Sr,uP]
 obtain⟨σ',c',e1,ls,z4,z5,z6,z7,rfl,D1,K1,I1,V1,N1⟩:=cf (ks:=[(L2,.jZ (ks.map fun k=>(kS k.1,D.ref k.2.1))),(L3,.lst (fs.map D.ref))]) (g:=cX 2 (aK (av 4) (aK (av 5) cW))) (body:=Ke x0 x1)
  (fun i σ c'=>∃ls z4 z5 z6 z7,σ=[A,some (.ref L1),some (.ref L2),some (.ref L3),z4,z5,z6,z7]∧DS c' L1 ls∧Kq [L1] cst c'∧(∀n∈ids ls,cst.length≤n)∧VS (keys ks) (fun s=>num IN s N) ((keys ks).take i) (sF ls)∧ls.length≤i*2000)
  (((keys ks).zip fs).map fun x=>D.tup [az x.1,D.ref x.2]) 0 [A,some (.ref L1),some (.ref L2),some (.ref L3),none,none,none,none] cst
  (by
   rintro i σ c' ⟨ls,z4,z5,z6,z7,fm,D1,K1,_⟩ p hp
   rcases List.mem_cons.mp hp with rfl|hp
   ·exact K1 _ _ (by simpa using n2.symm) Sv.at_
   ·cases List.mem_singleton.mp hp
    exact K1 _ _ (by simpa using n3.symm) g3)
  (by
   rintro i d σ c' hd ⟨ls,z4,z5,z6,z7,fm,D1,K1,I1,V1,N1⟩
   subst fm
   rw[show 0+i=i by omega]at V1 N1
   rw[List.getElem?_map]at hd
   obtain⟨⟨s,f⟩,hx,rfl⟩:=Option.map_eq_some_iff.mp hd
   obtain⟨hs,hf⟩:=List.getElem?_zip_eq_some.mp hx
   have kf:i<(keys ks).length:=(List.getElem?_eq_some_iff.mp hs).1
   obtain⟨row,BW⟩:∃r,rows[i]? =some r:=⟨_,List.getElem?_eq_getElem (by rw[K.len];exact kf)⟩
   have Vv:=List.mem_of_getElem? hs
   obtain⟨ok,Vw,fwd⟩:=hS s Vv
   obtain⟨q,hq,Nj⟩:=List.mem_map.mp Vv
   subst Nj
   have hfm:=List.mem_of_getElem? hf
   have hfc:c'[f]? =some (.lst (row.map sd)):=K1 _ _ (by simpa using fun h=>i2 (by rw[←h];exact hfm)) (R0.at_ i f row hf BW)
   have rm:=List.mem_of_getElem? BW
   have sz:=K.sz row rm
   have hkk:(keys ks).length*(keys ks).length≤900:=Nat.le_trans (Nat.mul_le_mul (show(keys ks).length≤30 by omega) (show(keys ks).length≤30 by omega)) (by decide)
   obtain⟨n,ys,c1,f1,f2,f3,f4,f5,f6,f7⟩:=Nh (x0:=x0) (x1:=x1) (c:=c') (ok.o1.mono (by decide)) (ok.o2.mono (by decide)) fwd hfc (K.ok row rm) (by omega)
   have O0:∀p,p∈ys↔My.mz (keys ks) q.1 p:=fun p=>by
    rw[f6 p,tY Su kd K hs BW p]
    constructor
    ·exact fun h=>h.1
    ·exact fun h=>⟨h,(h.on Su Vw).2⟩
   have DU:GI ys:=zV f7 f5 fun p hp=>(((O0 p).mp hp).on Su Vw).1
   have agE:ys.length≤1802:=by
    have:ys.length≤row.length:=by
     have IH:∀p∈ys,p∈row:=fun p hp=>((f6 p).mp hp).1
     exact sub_len ys row f5 IH
    omega
   have hM:∀k∈ls,k.2.2.length≤30:=fun k hk=>by
    obtain⟨r1,r2⟩:=V1.row (k.1,k.2.2) (List.mem_map_of_mem hk)
    have:=sG N k.2.2 r1 fun x hx=>by
     obtain⟨t,_,_,hx⟩:=(r2 x).mp hx
     obtain⟨j,h1,h2,_⟩:=ki.mp hx
     omega
    omega
   have hql:q.2.2.length≤30:=by
    rw[nm q hq]
    have:=sG N (num IN q.1 N) xc fun x hx=>by
     obtain⟨j,h1,h2,_⟩:=ki.mp hx
     omega
    omega
   have Nn:xa c1 L2 ks:=(Sv.keep K1 (by simpa using n2.symm) (fun x hx=>by simpa using fun h=>i1 (by rw[←h];exact hx))).keep (S:=[]) (Kq.pre f2) (by simp) (by simp)
   have old:∀{x:Nat},x<c.length→x≠L1→x∉L1::ids ls:=fun {x} h1 h2 hm=>by
    rcases List.mem_cons.mp hm with e|hm
    ·exact h2 e
    ·have:=I1 x hm;omega
   have DQ:cst.length≤c'.length:=by
    have h1:=K1 L2 _ (by simpa using n2.symm) Sv.at_
    rcases Nat.lt_or_ge c'.length cst.length with h|h
    ·exfalso
     by_cases e:c'.length=L1
     ·have:=bp D1.at_;omega
     ·obtain⟨zz,hz⟩:∃zz,cst[c'.length]? =some zz:=⟨_,List.getElem?_eq_getElem h⟩
      have:=bp (K1 _ _ (by simpa using e) hz)
      omega
    ·exact h
   have hmul:(ys.length+1)*(q.2.2.length+1)≤1803*31:=Nat.mul_le_mul (by omega) (by omega)
   have a3:n∉L1::ids ls:=fun hm=>by
    rcases List.mem_cons.mp hm with e|hm
    ·have:=bp D1.at_;omega
    ·have:=D1.sC hm;omega
   obtain⟨mD,z,c2,g1,g2,g3',g4,g5,g6,g7⟩:=GK (A:=A) (B:=some (.ref L3)) (C5:=some (.ref f)) (z7:=z7) (M:=30) (q:=q) (D1.up f2) Nn kd hq f4 (old (by have:=bp d2.at_;omega) n2.symm) (fun x hx=>old (by
    have:=d2.sC hx
    omega) (fun h=>i1 (by rw[←h];exact hx))) a3 hM (by omega) (by omega)
   refine⟨_,_,[A,some (.ref L1),some (.ref L2),some (.ref L3),some (az q.1),some (.ref f),some (.ref n),z],c2,rfl,?_,mD,some (az q.1),some (.ref f),some (.ref n),z,rfl,g2,?_,?_,?_,?_⟩
   ·have f1':iA x0 x1 [az q.1,.ref f] c'=some (.ref n,c1):=f1
    erw[f1',g1]
   ·refine(K1.trans (Kq.pre (S:=[]) f2) (by simp)).trans g3' fun x hx=>?_
    rcases List.mem_cons.mp hx with rfl|hx
    ·exact .inl (by simp)
    ·exact .inr (I1 x hx)
   ·intro x hx
    rcases g4 x hx with h|h
    ·exact I1 x h
    ·have:=eP f2;omega
   ·rw[show 0+i+1=i+1 by omega,List.take_add_one,hs,g5,nm q hq]
    exact V1.step (fun z=>B0 DU O0 z) (uO f5) xc fun t ht k hk=>DT (fun e=>by
     rw[e]at ht
     obtain⟨j,hj⟩:=List.getElem?_of_mem ht
     rw[List.getElem?_take]at hj
     split at hj
     ·have:=(List.getElem?_inj (List.getElem?_eq_some_iff.mp hj).1 kd).mp (hj.trans hs.symm)
      omega
     ·cases hj) hk
   ·rw[show 0+i+1=i+1 by omega,Nat.add_mul]
    omega)
  ⟨[],none,none,none,none,rfl,dl0,Kq.refl _ _,fun _ h=>(by simp[ids]at h),⟨.nil,fun z=>⟨fun h=>(by simp[sF]at h),fun⟨s,hs,_⟩=>(by simp at hs)⟩,fun _ h=>(by simp[sF]at h)⟩,Nat.le_refl _⟩
 have e2:=fN (g:=cX 2 (aK (av 4) (aK (av 5) cW))) (b:=Ke x0 x1) it
 rw[e1]at e2
 have hl: 0+(((keys ks).zip fs).map fun x=>D.tup [az x.1,D.ref x.2]).length=(keys ks).length:=by simp;omega
 rw[hl]at V1 N1
 rw[List.take_length]at V1
 refine⟨ls,z4,z5,z6,z7,c',e2,D1,kq0.trans K1 (fun x hx=>.inl (by simp at hx;simp[hx])),fun n hn=>by have:=I1 n hn;omega,V1,?_⟩
 have:(keys ks).length≤30:=by omega
 omega
theorem B1{κ α:Type}[DecidableEq κ]:∀(ps acc:List (κ×α)),((acc++ps).map (·.1)).Nodup→ps.foldl (fun a p=>mq a p.1 p.2) acc=acc++ps
 |[],acc,_=>by simp
 |p::ps,acc,h=>by
  have hn:p.1∉acc.map (·.1):=fun hm=>by
   rw[List.map_append,List.map_cons,List.nodup_append]at h
   exact h.2.2 p.1 hm p.1 List.mem_cons_self rfl
  have e:mq acc p.1 p.2=acc++[p]:=by
   unfold mq
   rw[if_neg]
   rw[Bool.not_eq_true,List.any_eq_false]
   intro x hx hd
   exact hn (by rw[←of_decide_eq_true hd];exact List.mem_map_of_mem hx)
  rw[List.foldl_cons,e,B1 ps (acc++[p]) (by simpa using h)]
  simp
theorem DS.ix{o k:XE}{σ:Qm.Env}{c:Cells}{L:Nat}{ks:KV}(h:DS c L ks){s:S2}(hs:s∈keys ks)(ho:o σ c=some (.ref L,c))(hk:k σ c=some (az s,c)):∃q∈ks,q.1=s∧jz o k σ c=some (.ref q.2.1,c):=by
 obtain⟨q,hq,e⟩:=List.mem_map.mp hs
 obtain⟨q',BP,e',ha⟩:=vL (ks:=ks) (s:=s) ⟨q,hq,e⟩
 have t1:qC (.ref L) c=some (ks.map fun k=>(kS k.1,D.ref k.2.1)):=by
  unfold qC
  simp[h.at_,kc]
 refine⟨q',BP,e',?_⟩
 unfold jz
 simp only[ho,hk,t1,Option.bind_some,zT,ha]
theorem xf{c:Cells}{L:Nat}{ks:KV}(h:c[L]? =some (kc ks))(hn:ks.length≤1000000):jm [.ref L] c=some (.ref c.length,c++[.lst ((keys ks).map az)]):=by
 unfold jm one qC
 simp only[h,kc,Option.bind_some]
 rw[if_pos (show(ks.map fun k=>(kS k.1,D.ref k.2.1)).length≤cR by rw[dR,List.length_map];omega),Kf]
def qr(l:List Int):List Int:=l.mergeSort fun a b=>decide (a≤b)
theorem GL(l:List Int):nums (l.map D.int)=some l:=by
 unfold nums
 induction l with
 |nil=>rfl
 |cons x l ih=>
  show((rL (D.int x)).bind fun d=>(omap rL (l.map D.int)).bind fun ds=>some (d::ds))=_
  rw[ih]
  rfl
theorem Sw{c:Cells}{n:Nat}{row:List Int}(h:c[n]? =some (.lst (row.map D.int)))(hn:row.length<64):r_ [.ref n] c=some (.ref c.length,c++[.lst ((qr row).map D.int)]):=by
 unfold r_ one
 simp only[aE h,Option.bind_some,GL]
 rw[if_pos hn]
 rfl
structure Out(S IN:List S2)(w:KV):Prop where
 yE:jv jB (keys w)
 nd:(keys w).Nodup
 key:∀z,z∈keys w↔∃s∈S,lV S s z
 row:∀x∈w,∃r:List Int,r.Nodup∧(∀k,k∈r↔∃s∈S,lV S s x.1∧k∈num IN s IN.length)∧x.2.2=qr r
 ok:∀z∈keys w,lG 1000 z
structure B2(IN S:List S2):Prop where
 nd:S.Nodup
 mem:∀s,s∈S↔∃k,k<IN.length∧(IN[k]?).map dD=some s
structure iE(s:S2):Prop where
 ok:lG 130 s
 ne:s.1≠s.2
theorem zW{s:S2}(h:iE s):lG 130 (dD s)∧My.Sd (dD s)∧My.aU (dD s).1 (dD s).2=true:=by
 have l1:=h.ok.o1.dZ
 have l2:=h.ok.o2.dZ
 unfold dD My.fw
 split
 ·rename_i hh
  exact⟨⟨h.ok.o1,h.ok.o2⟩,⟨l1,l2,h.ne⟩,hh⟩
 ·rename_i hh
  refine⟨⟨h.ok.o2,h.ok.o1⟩,⟨l2,l1,h.ne.symm⟩,?_⟩
  rcases My.jA l1 l2 with g|g|g
  ·exact absurd g hh
  ·exact absurd g h.ne
  ·exact g
theorem E5:∀(w:KV),omap tL (w.map fun x=>D.tup [az x.1,D.ref x.2.1])=some (w.map fun x=>(kS x.1,D.ref x.2.1))
 |[]=>rfl
 |x::w=>by
  show((tL (D.tup [az x.1,D.ref x.2.1])).bind fun d=>(omap tL (w.map fun x=>D.tup [az x.1,D.ref x.2.1])).bind fun ds=>some (d::ds))=_
  rw[E5 w]
  rfl
theorem O1{x0 x1 m:Nat}{IN:List S2}{c:Cells}(hx:x0≠x1)(hm:c[m]? =some (.lst (IN.map az)))(gD:∀s∈IN,iE s)(hn:IN.length≤30):
  ∃S w R c',lD x0 x1 [.ref m] c=some (.ref R,c')∧c <+:c'∧c.length≤R∧c'[R]? =some (kc w)∧(∀x∈w,c.length≤x.2.1∧c'[x.2.1]? =some (.lst (x.2.2.map D.int)))∧(ids w).Nodup∧R∉ids w∧w.length≤1000000∧B2 IN S∧Out S IN w:=by
 obtain⟨ks,c2,a1,a2,a3,a4,a5,a6⟩:=GG (c:=c++[.gP []]) (aY hm) (fun s hs=>⟨(gD s hs).ok.o1.mono (by decide),(gD s hs).ok.o2.mono (by decide)⟩) (by omega)
 have hS:∀s∈keys ks,lG 130 s∧My.Sd s∧My.aU s.1 s.2=true:=fun s hs=>by
  obtain⟨k,hk,e⟩:=(a5.key s).mp hs
  obtain⟨t,ht,e2⟩:=Option.map_eq_some_iff.mp e
  rw[←e2]
  exact zW (gD t (List.mem_of_getElem? ht))
 have l2:=xf a3.at_ (by omega)
 have Vu:(keys ks).length=ks.length:=by simp[keys]
 obtain⟨fs,rows,c4,b1,b2,b3,b4,b5,b6⟩:=GH (m:=c2.length) (c:=c2++[.lst ((keys ks).map az)]) aI (fun s hs=>(hS s hs).1) a3.kd (by omega)
 have cl1:(c++[Cell.gP []]).length=c.length+1:=by simp
 have cl3:(c2++[Cell.lst ((keys ks).map az)]).length=c2.length+1:=by simp
 rw[cl1]at a1 a3 a4 l2
 rw[cl3]at b1 b3 b5
 have p2:c2 <+:c4:=(show c2 <+:c2++[.lst ((keys ks).map az)] from⟨_,rfl⟩).trans b2
 have u9:=eP a2
 have dA:DS c4 c.length []:=⟨aA p2 (aA a2 aI),fun _ h=>(nomatch h),.nil,.nil,by simp[ids]⟩
 have idl:∀n∈ids ks,n<c2.length:=fun n hn=>a3.sC hn
 have UZ:=bp a3.at_
 obtain⟨ls,z4,z5,z6,z7,c5,d1,d2,d3,d4,d5,d6⟩:=Ss (x0:=x0) (x1:=x1) (A:=some (.ref m)) (N:=IN.length) hn dA (a3.up p2) b3 b4 b6 a5.row a6 hS (by omega) (by omega) (by omega) (fun h=>by have:=a4 _ h;omega) (fun h=>by have:=b5 _ h;omega) (fun h=>by have:=b5 _ h;omega) (fun n hn h=>by have:=b5 _ h;have:=idl n hn;omega)
 have hc4:=eP p2
 have pc:c <+:c5:=pre_of fun j z e=>d3 j z (fun hj=>by
  have:=bp e
  simp at hj
  omega) (aA p2 (aA a2 (aY e)))
 have Vx:∀z∈keys ls,lG 1000 z:=fun z hz=>by
  obtain⟨s,hs,hc⟩:=(d5.key z).mp (by rw[tZ];exact hz)
  obtain⟨i,hi⟩:=List.getElem?_of_mem hs
  obtain⟨row,hr⟩:∃r,rows[i]? =some r:=⟨_,List.getElem?_eq_getElem (by rw[b6.len];exact(List.getElem?_eq_some_iff.mp hi).1)⟩
  have rm:=List.mem_of_getElem? hr
  exact⟨b6.ok row rm _ ((tY (fun t ht=>(hS t ht).2.1) a3.kd b6 hi hr _).mpr hc.c1),b6.ok row rm _ ((tY (fun t ht=>(hS t ht).2.1) a3.kd b6 hi hr _).mpr hc.c2)⟩
 have l5:=xf d2.at_ (by omega)
 obtain⟨n,mZ,c7,f1,f2,f3,f4,f5,f6⟩:=w9 (DL hx) yA (xs:=keys ls) (a:=c5.length) (c:=c5++[.lst ((keys ls).map az)]) aI Vx (by simp[keys];omega)
 have p7:c5 <+:c7:=(show c5 <+:c5++[.lst ((keys ls).map az)] from⟨_,rfl⟩).trans f2
 have d7:=d2.up p7
 have Nk:c.length<c7.length:=bp d7.at_
 have Np:∀k∈ls,k.2.2.length<64:=fun k hk=>by
  obtain⟨r1,r2⟩:=d5.row (k.1,k.2.2) (List.mem_map_of_mem hk)
  have:=sG IN.length k.2.2 r1 fun x hx=>by
   obtain⟨t,_,_,hx⟩:=(r2 x).mp hx
   obtain⟨j,h1,h2,_⟩:=ki.mp hx
   omega
  omega
 have hi:eK (aq (cG x0 x1) [] (ae (eB jm (ae (eV 1) ag)) (ae (eC (.adr x1)) ag))) [some (.ref m),some (.ref c.length),some (.ref (c.length+1)),some (.ref (c2.length+1)),z4,z5,z6,z7] c5=some (⟨mZ.map az,[(n,.lst (mZ.map az))]⟩,c7):=by
  have hev:aq (cG x0 x1) [] (ae (eB jm (ae (eV 1) ag)) (ae (eC (.adr x1)) ag)) [some (.ref m),some (.ref c.length),some (.ref (c.length+1)),some (.ref (c2.length+1)),z4,z5,z6,z7] c5=some (.ref n,c7):=by erw[l5,f1]
  unfold eK
  rw[hev]
  simp[f4,bq f4]
 obtain⟨vs,c8,e1,p8,g8,l8,r8⟩:=JL (te:=dI (ae (eV 0) (ae (eB r_ (ae (jz (eV 1) (eV 0)) ag)) ag))) (g:=av 0) (cap:=[none,some 1]) (fun τ=>∃z,τ=[z,some (.ref c.length)])
  (fun i v c'=>∃k z q,v= .tup [az z,.ref k]∧k=c7.length+1+i∧mZ[i]? =some z∧q∈ls∧q.1=z∧c'[k]? =some (.lst ((qr q.2.2).map D.int))) (fun i u=>u.length=c7.length+1+i) (fun i u z h=>by rw[List.length_set];exact h) (by simp) hi (fun p hp=>by cases List.mem_singleton.mp hp;exact f4) ⟨none,rfl⟩
  (fun i v u1 u2 ⟨k,z,q,h1,h2,h3,h4,h5,h6⟩ fr=>⟨k,z,q,h1,h2,h3,h4,h5,fr k _ (by omega) h6⟩)
  (by
   rintro i d hd τ c' ⟨z,tU⟩ pc lc DQ
   subst tU
   rw[List.getElem?_map]at hd
   obtain⟨x,hx,rfl⟩:=Option.map_eq_some_iff.mp hd
   have Se:x∈keys ls:=f5.mem_iff.mp (List.mem_of_getElem? hx)
   have dd:=d7.up pc
   obtain⟨q,hq,e,ix⟩:=dd.ix (o:=eV 1) (k:=eV 0) (σ:=[some (az x),some (.ref c.length)]) Se rfl rfl
   have so:=Sw (dd.cell q hq) (Np q hq)
   refine⟨[some (az x),some (.ref c.length)],.tup [az x,.ref c'.length],[.lst ((qr q.2.2).map D.int)],rfl,?_,⟨_,rfl⟩,⟨c'.length,x,q,rfl,DQ,hx,hq,e,by simp⟩,by simp;omega⟩
   erw[ix,so])
  (by rw[List.length_map,f5.length_eq];simp[keys];omega)
 rw[List.length_map]at l8
 have ref:∃w:KV,vs=w.map (fun x=>D.tup [az x.1,D.ref x.2.1])∧keys w=mZ∧(ids w).Nodup∧∀x∈w,c7.length<x.2.1∧c8[x.2.1]? =some (.lst (x.2.2.map D.int))∧∃q∈ls,q.1=x.1∧x.2.2=qr q.2.2:=by
  clear e1 g8 hi f1 f4 f5 f6
  have:∀(vs:List D) (mZ:List S2) (b:Nat),c7.length<b→vs.length=mZ.length→(∀(i:Nat) v,vs[i]? =some v→∃k z q,v=D.tup [az z,.ref k]∧k=b+i∧mZ[i]? =some z∧q∈ls∧q.1=z∧c8[k]? =some (.lst ((qr q.2.2).map D.int)))→
    ∃w:KV,vs=w.map (fun x=>D.tup [az x.1,D.ref x.2.1])∧keys w=mZ∧(∀x∈w,b≤x.2.1)∧(ids w).Nodup∧∀x∈w,c7.length<x.2.1∧c8[x.2.1]? =some (.lst (x.2.2.map D.int))∧∃q∈ls,q.1=x.1∧x.2.2=qr q.2.2:=by
   intro vs
   induction vs with
   |nil=>
    intro mZ b _ hl _
    cases mZ with
    |nil=>exact⟨[],rfl,rfl,fun x h=>(nomatch h),.nil,fun x h=>nomatch h⟩
    |cons _ _=>simp at hl
   |cons v vs ih=>
    intro mZ b hb hl h
    cases mZ with
    |nil=>simp at hl
    |cons y mZ=>
     obtain⟨k,z,q,rfl,h1,h2,h3,h4,h5⟩:=h 0 v rfl
     cases h2
     obtain⟨w,rfl,h6,h8,h9,h7⟩:=ih mZ (b+1) (by omega) (by simpa using hl) fun i v hv=>by
      have:=h (i+1) v (by simpa using hv)
      rw[show b+(i+1)=b+1+i by omega]at this
      simpa using this
     refine⟨(y,k,qr q.2.2)::w,rfl,by simp[keys]at h6 ⊢;exact h6,fun x hx=>?_,?_,fun x hx=>?_⟩
     ·rcases List.mem_cons.mp hx with rfl|hx
      ·show b≤k;omega
      ·have:=h8 x hx;omega
     ·refine List.nodup_cons.mpr ⟨fun hm=>?_,h9⟩
      obtain⟨x,hx,e⟩:=List.mem_map.mp hm
      have h10:=h8 x hx
      have e':x.2.1=k:=e
      omega
     ·rcases List.mem_cons.mp hx with rfl|hx
      ·exact⟨by show c7.length<k;omega,h5,q,h3,h4,rfl⟩
      ·exact h7 x hx
  obtain⟨w,q1,q2,_,q4,q5⟩:=this vs mZ (c7.length+1) (by omega) l8 r8
  exact⟨w,q1,q2,q4,q5⟩
 obtain⟨w,rfl,kw,ind,hw⟩:=ref
 have knd:(keys w).Nodup:=by rw[kw,f5.nodup_iff];exact d2.kd
 have lw:w.length=ls.length:=by
  have h1:(keys w).length=w.length:=by simp[keys]
  have h2:(keys ls).length=ls.length:=by simp[keys]
  rw[←h1,kw,f5.length_eq,h2]
 have pk:=E5 w
 have pn:=B1 (w.map fun x=>(kS x.1,D.ref x.2.1)) [] (by
  rw[List.nil_append,List.map_map]
  have:(w.map ((fun x=>x.1) ∘ fun x:S2×Nat×List Int=>(kS x.1,D.ref x.2.1)))=(keys w).map kS:=by unfold keys;rw[List.map_map];rfl
  rw[this]
  exact List.Pairwise.map _ (fun a b (h:a≠b) e=>h (zS.mp e)) knd)
 rw[List.nil_append]at pn
 have dp:vC [.ref c7.length] c8=some (.ref c8.length,c8++[kc w]):=by
  unfold vC one
  simp only[aE g8,Option.bind_some,pk,pn]
  rfl
 have h78:=eP p8
 have h57:=eP p7
 have hc5:=eP pc
 refine⟨keys ks,w,c8.length,c8++[kc w],?_,pre_app ((pc.trans p7).trans p8),by omega,aI,fun x hx=>⟨by have:=(hw x hx).1;omega,aY (hw x hx).2.1⟩,ind,fun hm=>?_,by omega,⟨a3.kd,a5.key⟩,⟨?_,knd,?_,?_,?_⟩⟩
 ·have nw:rX [some (.ref m),none,none,none,none,none,none,none] c=some (.ref c.length,c++[.gP []]):=rfl
  rw[lD,jq,zN]
  erw[nw,a1,l2,b1,d1,e1,dp]
 ·obtain⟨x,hx,e⟩:=List.mem_map.mp hm
  have:=bp (hw x hx).2.1
  omega
 ·rw[kw];exact f6
 ·intro z
  rw[kw,f5.mem_iff,←tZ]
  exact d5.key z
 ·intro x hx
  obtain⟨_,_,q,hq,e,e2⟩:=hw x hx
  obtain⟨r1,r2⟩:=d5.row (q.1,q.2.2) (List.mem_map_of_mem hq)
  exact⟨q.2.2,r1,fun k=>by rw[←e];exact r2 k,e2⟩
 ·intro z hz
  exact Vx z (f5.mem_iff.mp (by rw[←kw];exact hz))
theorem pQ{p:T3}{s:S2}(h1:My.bB s.1)(h2:My.bB s.2)(fH:s.1≠s.2):My.ei p (dD s).1 (dD s).2=My.ei p s.1 s.2:=by
 have key:My.ei p s.2 s.1=My.ei p s.1 s.2:=by
  by_cases h:My.aO s.1 s.2 p=0
  ·have h':My.aO s.2 s.1 p=0:=by rw[My.se,h];rfl
   rw[Bool.eq_iff_iff,My.dM h,My.dM h',My.JA h1 h2 fH]
  ·have h':¬My.aO s.2 s.1 p=0:=by rw[My.se];omega
   have e:∀{a b:T3},¬My.aO a b p=0→My.ei p a b=false:=fun {a b} hh=>by
    unfold My.ei My.wm
    rw[if_neg (show ¬My.det a.1 a.2.1 a.2.2 b.1 b.2.1 b.2.2 p.1 p.2.1 p.2.2=0 from hh)]
   rw[e h,e h']
 unfold dD My.fw
 split
 ·rfl
 ·exact key
def B3(IN:List S2)(z:S2)(k:Nat):Bool:=match IN[k]? with
 |some s=>My.ei z.1 s.1 s.2&&My.ei z.2 s.1 s.2
 |none=>false
def gQ(IN:List S2)(z:S2):List Int:=((List.range IN.length).filter (B3 IN z)).map fun(k:Nat)=>(k:Int)
theorem jn:∀{xs ys:List Int},xs.Perm ys→xs.Pairwise (·≤·)→ys.Pairwise (·≤·)→xs=ys
 |[],_,p,_,_=>(List.nil_perm.mp p).symm
 |x::xs,[],p,_,_=>absurd p.length_eq (by simp)
 |x::xs,y::ys,p,h1,h2=>by
  have e:x=y:=by
   have m1:x∈y::ys:=p.subset List.mem_cons_self
   have m2:y∈x::xs:=p.symm.subset List.mem_cons_self
   rcases List.mem_cons.mp m1 with e|m1
   ·exact e
   rcases List.mem_cons.mp m2 with e|m2
   ·exact e.symm
   have a1:=(List.pairwise_cons.mp h1).1 _ m2
   have a2:=(List.pairwise_cons.mp h2).1 _ m1
   omega
  subst e
  rw[jn (List.Perm.cons_inv p) (List.pairwise_cons.mp h1).2 (List.pairwise_cons.mp h2).2]
theorem Kg{r d:List Int}(hr:r.Nodup)(hd:d.Pairwise (·< ·))(h:∀k,k∈r↔k∈d):qr r=d:=by
 have nd:d.Nodup:=hd.imp fun h=>by omega
 have pe:r.Perm d:=(List.perm_ext_iff_of_nodup hr nd).mpr h
 unfold qr
 refine jn ((List.mergeSort_perm ..).trans pe) ?_ (hd.imp fun h=>by omega)
 have:=List.pairwise_mergeSort (le:=fun a b:Int=>decide (a≤b)) (fun a b c h1 h2=>by simp at *;omega) (fun a b=>by simp;omega) r
 exact this.imp fun h=>by simpa using h
theorem GN(IN:List S2)(z:S2):(gQ IN z).Pairwise (·< ·):=by
 unfold gQ
 refine List.Pairwise.map _ (fun a b (h:a<b)=>by omega) (List.Pairwise.filter _ ?_)
 exact List.pairwise_lt_range
theorem Out.due{S IN:List S2}{w:KV}(gD:∀s∈IN,iE s)(f:B2 IN S)(h:Out S IN w){x:S2×Nat×List Int}(hx:x∈w):x.2.2=gQ IN x.1:=by
 obtain⟨r,r1,r2,r3⟩:=h.row x hx
 rw[r3]
 have hS:∀t∈S,My.Sd t:=fun t ht=>by
  obtain⟨k,_,e⟩:=(f.mem t).mp ht
  obtain⟨u,hu,e2⟩:=Option.map_eq_some_iff.mp e
  rw[←e2]
  exact(zW (gD u (List.mem_of_getElem? hu))).2.1
 obtain⟨s0,Vy,c0⟩:=(h.key x.1).mp (List.mem_map_of_mem hx)
 have o0:=c0.on hS Vy
 refine Kg r1 (GN IN x.1) fun k=>?_
 rw[r2 k]
 unfold gQ
 rw[List.mem_map]
 constructor
 ·rintro⟨s,hs,hc,hk⟩
  obtain⟨j,hj,rfl,e⟩:=ki.mp hk
  refine⟨j,List.mem_filter.mpr ⟨List.mem_range.mpr hj,?_⟩,rfl⟩
  obtain⟨u,hu,e2⟩:=Option.map_eq_some_iff.mp e
  have ui:=gD u (List.mem_of_getElem? hu)
  obtain⟨q1,q2⟩:=hc.on hS hs
  unfold B3
  rw[hu]
  have g1:=pQ (p:=x.1.1) ui.ok.o1.dZ ui.ok.o2.dZ ui.ne
  have g2:=pQ (p:=x.1.2) ui.ok.o1.dZ ui.ok.o2.dZ ui.ne
  rw[e2,q1.2]at g1
  rw[e2,q2.2]at g2
  show(My.ei x.1.1 u.1 u.2&&My.ei x.1.2 u.1 u.2)=true
  rw[←g1,←g2]
  rfl
 ·rintro⟨j,hj,rfl⟩
  obtain⟨a,b⟩:=List.mem_filter.mp hj
  have Sx:=List.mem_range.mp a
  obtain⟨u,hu⟩:∃u,IN[j]? =some u:=⟨_,List.getElem?_eq_getElem Sx⟩
  unfold B3 at b
  rw[hu]at b
  have b':My.ei x.1.1 u.1 u.2=true∧My.ei x.1.2 u.1 u.2=true:=by simpa using b
  have ui:=gD u (List.mem_of_getElem? hu)
  have g1:=pQ (p:=x.1.1) ui.ok.o1.dZ ui.ok.o2.dZ ui.ne
  have g2:=pQ (p:=x.1.2) ui.ok.o1.dZ ui.ok.o2.dZ ui.ne
  have Vz:dD u∈S:=(f.mem _).mpr ⟨j,Sx,by rw[hu];rfl⟩
  refine⟨dD u,Vz,c0.move hS Vy Vz ⟨o0.1.1,g1.trans b'.1⟩ ⟨o0.2.1,g2.trans b'.2⟩,ki.mpr ⟨j,Sx,rfl,by rw[hu];rfl⟩⟩
theorem B4{x0 x1 m:Nat}{IN:List S2}{c:Cells}(hx:x0≠x1)(hm:c[m]? =some (.lst (IN.map az)))(gD:∀s∈IN,iE s)(hn:IN.length≤30):
  ∃S w n c',gC x0 x1 [.ref m] c=some (.ref n,c')∧c <+:c'∧c.length≤n∧c'[n]? =some (.lst ((keys w).map az))∧B2 IN S∧Out S IN w∧w.length≤1000000:=by
 obtain⟨S,w,R,c1,e1,p1,l1,g1,r1,_,_,lw,f,o⟩:=O1 hx hm gD hn
 have l2:=xf g1 (by omega)
 refine⟨S,w,c1.length,c1++[.lst ((keys w).map az)],?_,pre_app p1,eP p1,aI,f,o,lw⟩
 rw[gC,jq,pL]
 erw[e1,l2]
theorem E6{x0 x1 m:Nat}{IN:List S2}{c:Cells}(hx:x0≠x1)(hm:c[m]? =some (.lst (IN.map az)))(gD:∀s∈IN,iE s)(hn:IN.length≤30):
  ∃S w n c',c_ x0 x1 [.ref m] c=some (.ref n,c')∧c <+:c'∧c.length≤n∧c'[n]? =some (.lst ((ids w).map D.ref))∧(∀x∈w,c.length≤x.2.1∧x.2.1≠n∧c'[x.2.1]? =some (.lst ((gQ IN x.1).map D.int)))∧(ids w).Nodup∧B2 IN S∧Out S IN w∧w.length≤1000000:=by
 obtain⟨S,w,R,c1,e1,p1,l1,g1,r1,i1,i2,lw,f,o⟩:=O1 hx hm gD hn
 have ev:∀{e:XE}{σ:Qm.Env},e σ c=some (.ref R,c1)→zG e σ c=some (.ref c1.length,c1++[.lst ((ids w).map D.ref)]):=fun {e σ} he=>by
  unfold zG qC
  simp only[he,Option.bind_some,g1,kc]
  rw[if_pos (show(w.map fun k=>(kS k.1,D.ref k.2.1)).length≤cR by rw[dR,List.length_map];omega)]
  unfold ids
  rw[List.map_map,List.map_map]
  rfl
 refine⟨S,w,c1.length,c1++[.lst ((ids w).map D.ref)],?_,pre_app p1,eP p1,aI,fun x hx=>⟨(r1 x hx).1,fun e=>?_,?_⟩,i1,f,o,lw⟩
 ·have he:aq (lD x0 x1) [] (ae (eV 0) ag) [some (.ref m)] c=some (.ref R,c1):=by erw[e1]
  have:=ev he
  rw[c_,jq,iB]
  erw[this]
 ·have:=bp (r1 x hx).2
  omega
 ·rw[←o.due gD f hx]
  exact aY (r1 x hx).2
theorem iF{p q:T3}{c:Cells}(hp:Ok 1000 p)(hq:Ok 1000 q):aN [sd p,sd q] c=some (.bl (My.aU p q),c):=by
 have a1:=hp.bx;have a2:=hp.jw;have a3:=hp.bw;have b1:=hq.bx;have b2:=hq.jw;have b3:=hq.bw
 have e:EO (.tup [.int (p.1*q.2.2),.int (p.2.1*q.2.2)]) (.tup [.int (q.1*p.2.2),.int (q.2.1*p.2.2)]) c=some (.bl (iX [q.1*p.2.2,q.2.1*p.2.2] [p.1*q.2.2,p.2.1*q.2.2]),c):=rfl
 have e2:iX [q.1*p.2.2,q.2.1*p.2.2] [p.1*q.2.2,p.2.1*q.2.2]=My.aU p q:=by
  rw[Bool.eq_iff_iff,My.jo]
  unfold iX
  by_cases h:q.1*p.2.2=p.1*q.2.2
  ·rw[if_pos h]
   unfold iX
   by_cases h2:q.2.1*p.2.2=p.2.1*q.2.2
   ·rw[if_pos h2]
    simp[iX]
    omega
   ·rw[if_neg h2]
    simp only[decide_eq_true_eq]
    omega
  ·rw[if_neg h]
   simp only[decide_eq_true_eq]
   omega
 rw[e2]at e
 unfold sd at*
 erw[aN,je,sA,e]
theorem E7{a b p:T3}{c:Cells}(ha:Ok 1000 a)(hb:Ok 1000 b)(hp:Ok 1000 p):gr [sd a,sd b,sd p] c=some (.int (My.aO a b p),c):=by
 have a1:=ha.bx;have a2:=ha.jw;have a3:=ha.bw;have b1:=hb.bx;have b2:=hb.jw;have b3:=hb.bw;have p1:=hp.bx;have p2:=hp.jw;have p3:=hp.bw
 have e:My.aO a b p=a.1*(b.2.1*p.2.2 - p.2.1*b.2.2) - a.2.1*(b.1*p.2.2 - p.1*b.2.2)+a.2.2*(b.1*p.2.1 - p.1*b.2.1):=by
  unfold My.aO My.det
  grind
 rw[e]
 have d1:My.Bd 90000 (b.2.1*p.2.2 - p.2.1*b.2.2):=(My.Bd.sub (My.Bd.mul b2 p3) (My.Bd.mul p2 b3)).mono (by decide)
 have d2:My.Bd 90000 (b.1*p.2.2 - p.1*b.2.2):=(My.Bd.sub (My.Bd.mul b1 p3) (My.Bd.mul p1 b3)).mono (by decide)
 have d3:My.Bd 90000 (b.1*p.2.1 - p.1*b.2.1):=(My.Bd.sub (My.Bd.mul b1 p2) (My.Bd.mul p1 b2)).mono (by decide)
 have u1:=dh (c:=c) (j8 (a1.mono (by decide)) d1)
 have u2:=dh (c:=c) (j8 (a2.mono (by decide)) d2)
 have u3:=dh (c:=c) (j8 (a3.mono (by decide)) d3)
 unfold sd
 erw[gr,kW,sA,u1,u2,u3]
theorem E8{p:T3}{s:S2}{c:Cells}(hp:Ok 1000 p)(h:lG 1000 s):bU [sd p,az s] c=some (.bl (My.ei p s.1 s.2),c):=by
 have e1:=iF (c:=c) h.o2 h.o1
 have t1:=E7 (c:=c) h.o1 h.o2 hp
 have t2:=E7 (c:=c) h.o2 h.o1 hp
 have q1:=iF (c:=c) hp h.o1
 have q2:=iF (c:=c) h.o2 hp
 have q3:=iF (c:=c) hp h.o2
 have q4:=iF (c:=c) h.o1 hp
 have l1:=h.o1.dZ
 have l2:=h.o2.dZ
 have O2:∀{a b:T3},¬My.aO a b p=0→My.ei p a b=false:=fun {a b} hh=>by
  unfold My.ei My.wm
  rw[if_neg (show ¬My.det a.1 a.2.1 a.2.2 b.1 b.2.1 b.2.2 p.1 p.2.1 p.2.2=0 from hh)]
 unfold az side at*
 cases hb:My.aU s.2 s.1 with
 |true=>
  rw[hb]at e1
  have Sy:My.fw s.1 s.2=(s.2,s.1):=by
   unfold My.fw
   rw[if_neg (by rw[My.dq hb];decide)]
  by_cases hd:My.aO s.1 s.2 p=0
  ·have Ha:My.aO s.2 s.1 p=0:=by rw[My.se,hd];rfl
   have BV:My.ei p s.1 s.2=(!My.aU p s.2&&!My.aU s.1 p):=by
    rw[Bool.eq_iff_iff,My.dM hd,Sy]
    unfold My.le
    simp
   rw[BV]
   have z:=decide_eq_true Ha
   erw[bU,i3,e1,t2,z,q3,q4]
   cases My.aU p s.2<;>rfl
  ·have Ha:¬My.aO s.2 s.1 p=0:=by rw[My.se];omega
   rw[O2 hd]
   have z:=decide_eq_false Ha
   erw[bU,i3,e1,t2,z]
 |false=>
  rw[hb]at e1
  have Sy:(My.fw s.1 s.2).1=s.1∧(My.fw s.1 s.2).2=s.2∨s.1=s.2:=by
   rcases My.jA l1 l2 with g|g|g
   ·exact .inl (by unfold My.fw;rw[if_pos g];exact⟨rfl,rfl⟩)
   ·exact .inr g
   ·rw[hb]at g;cases g
  by_cases hd:My.aO s.1 s.2 p=0
  ·have BV:My.ei p s.1 s.2=(!My.aU p s.1&&!My.aU s.2 p):=by
    rw[Bool.eq_iff_iff,My.dM hd]
    rcases Sy with⟨g1,g2⟩|g
    ·rw[g1,g2]
     unfold My.le
     simp
    ·have:My.fw s.1 s.2=(s.2,s.1):=by
      unfold My.fw
      rw[if_neg (by rw[g,BY];decide)]
     rw[this,←g]
     unfold My.le
     simp
   rw[BV]
   have z:=decide_eq_true hd
   erw[bU,i3,e1,t1,z,q1,q2]
   cases My.aU p s.1<;>rfl
  ·rw[O2 hd]
   have z:=decide_eq_false hd
   erw[bU,i3,e1,t1,z]
theorem yF{p:T3}{c:Cells}:∃c',bR [sd p] c=some (.bl true,c')∧c <+:c':=by
 have ct:cq [sd p,.ty "tuple"] c=some (.bl true,c):=rfl
 have cl:cY [sd p] c=some (.int 3,c):=rfl
 obtain⟨c1,e1,p1,g1⟩:=JS (it:=uw (eV 0)) (cap:=[none]) (te:=uH (eB cq (ae (eV 0) (ae (eC (.ty "int")) ag))) (uI (eB cq (ae (eV 0) (ae (eC (.ty "bool")) ag))))) (σ:=[some (sd p)]) (ρ:=[]) (x:=none) (c:=c) (ds:=[.int p.1,.int p.2.1,.int p.2.2]) [.bl true,.bl true,.bl true] rfl rfl rfl
  (fun i d v hd hv c' pc=>by
   have:∃n:Int,d= .int n:=by
    have:=List.mem_of_getElem? hd
    simp at this
    rcases this with rfl|rfl|rfl<;>exact⟨_,rfl⟩
   obtain⟨n,rfl⟩:=this
   have hv':v= .bl true:=by
    have:=List.mem_of_getElem? hv
    simpa using this
   subst hv'
   have b1:cq [.int n,.ty "int"] c'=some (.bl true,c'):=rfl
   have b2:cq [.int n,.ty "bool"] c'=some (.bl false,c'):=rfl
   refine⟨[],?_⟩
   erw[b1,b2]) (by simp)
 have al:wu [.ref c.length] c1=some (.bl true,c1):=by
  unfold wu one
  simp only[aE g1,Option.bind_some]
  rfl
 refine⟨c1,?_,p1⟩
 erw[bR,iC,ct,cl,e1,al]
structure Kh(zs:List S2):Prop where
 ok:∀z∈zs,lG 1000 z
 fwd:∀z∈zs,My.aU z.1 z.2=true
 yE:jv jB zs
 nd:zs.Nodup
theorem B5:∀{zs:List S2},jv jB zs→zs.Nodup→∀(i:Nat) a b,(zs.zip zs.tail)[i]? =some (a,b)→jB b a=false∧a≠b
 |[],_,_,i,a,b,h=>by simp at h
 |[_],_,_,i,a,b,h=>by simp at h
 |x::y::l,hc,nd,0,a,b,h=>by
  simp at h
  obtain⟨rfl,rfl⟩:=h
  exact⟨hc.1,fun e=>(List.nodup_cons.mp nd).1 (by rw[e];simp)⟩
 |x::y::l,hc,nd,i+1,a,b,h=>B5 (zs:=y::l) hc.2 (List.nodup_cons.mp nd).2 i a b (by simpa using h)
theorem Ki{a b:S2}(ha:lG 1000 a)(hb:lG 1000 b)(h:jB b a=false)(ne:a≠b):My.aU b.1 a.1=false∧(a.1=b.1→My.aU a.2 b.2=true):=by
 unfold jB at h
 by_cases e:b.1=a.1
 ·rw[if_pos e]at h
  refine⟨by rw[e,BY],fun _=>?_⟩
  have n2:¬b.2=a.2:=fun z=>ne (Prod.ext e z).symm
  rw[if_neg n2]at h
  rcases My.jA ha.o2.dZ hb.o2.dZ with g|g|g
  ·exact g
  ·exact absurd g.symm n2
  ·rw[h]at g;cases g
 ·rw[if_neg e]at h
  exact⟨h,fun z=>absurd z.symm e⟩
theorem zX{f:Nat}{zs:List S2}{c:Cells}(h:Kh zs)(hf:c[f]? =some (.lst (zs.map az)))(hn:zs.length≤1000000):∃c',dc [.ref f] c=some (.bl true,c')∧c <+:c':=by
 have it:eK (eV 0) [some (.ref f),none,none,none] c=some (⟨zs.map az,[(f,.lst (zs.map az))]⟩,c):=lE rfl hf
 obtain⟨σ',c1,e1,z,rfl,p1⟩:=cf (ks:=[(f,.lst (zs.map az))]) (g:=av 1) (body:=ay (cM (jX (eI (tV (eB cq (ae (eV 1) (ae (eC (.ty "tuple")) ag))))) (tV (e2 mL (eB cY (ae (eV 1) ag)) (eC (.int 2))))) (aT (eC (.bl false))) bA) (cM (jX (eI (tV (aq bR [] (ae (e2 aw (eV 1) (eC (.int 0))) ag)))) (jX (eI (tV (aq bR [] (ae (e2 aw (eV 1) (eC (.int 1))) ag)))) (eI (tV (aq aN [] (ae (e2 aw (eV 1) (eC (.int 0))) (ae (e2 aw (eV 1) (eC (.int 1))) ag))))))) (aT (eC (.bl false))) bA))
  (fun i σ c'=>∃z,σ=[some (.ref f),z,none,none]∧c <+:c') (zs.map az) 0 [some (.ref f),none,none,none] c
  (fun i σ c' ⟨z,_,p⟩ q hq=>by cases List.mem_singleton.mp hq;exact aA p hf)
  (by
   rintro i d σ c' hd ⟨z,fm,p⟩
   subst fm
   rw[List.getElem?_map]at hd
   obtain⟨y,hy,rfl⟩:=Option.map_eq_some_iff.mp hd
   have DF:=List.mem_of_getElem? hy
   obtain⟨c2,s1,s2⟩:=yF (p:=y.1) (c:=c')
   obtain⟨c3,s3,s4⟩:=yF (p:=y.2) (c:=c2)
   have bf:=iF (c:=c3) (h.ok y DF).o1 (h.ok y DF).o2
   rw[h.fwd y DF]at bf
   have b1:cq [az y,.ty "tuple"] c'=some (.bl true,c'):=rfl
   have b2:cY [az y] c'=some (.int 2,c'):=rfl
   have i0:∀c,aw (az y) (.int 0) c=some (sd y.1,c):=fun _=>rfl
   have i1:∀c,aw (az y) (.int 1) c=some (sd y.2,c):=fun _=>rfl
   refine⟨_,_,[some (.ref f),some (az y),none,none],c3,rfl,?_,some (az y),rfl,(p.trans s2).trans s4⟩
   erw[b1,b2,i0,i1,s1,s3,bf])
  ⟨none,rfl,⟨[],by simp⟩⟩
 have w2:=fN (g:=av 1) (b:=ay (cM (jX (eI (tV (eB cq (ae (eV 1) (ae (eC (.ty "tuple")) ag))))) (tV (e2 mL (eB cY (ae (eV 1) ag)) (eC (.int 2))))) (aT (eC (.bl false))) bA) (cM (jX (eI (tV (aq bR [] (ae (e2 aw (eV 1) (eC (.int 0))) ag)))) (jX (eI (tV (aq bR [] (ae (e2 aw (eV 1) (eC (.int 1))) ag)))) (eI (tV (aq aN [] (ae (e2 aw (eV 1) (eC (.int 0))) (ae (e2 aw (eV 1) (eC (.int 1))) ag))))))) (aT (eC (.bl false))) bA)) it
 rw[e1]at w2
 have VA:=aA p1 hf
 have ct:eJ (.ref f) (some 1) none c1=some (.ref c1.length,c1++[.lst (zs.tail.map az)]):=by
  show((cE (.ref f) c1).bind _)=_
  rw[bq VA,Option.bind_some]
  have:Qm.cutD (zs.map az) (some 1) none=zs.tail.map az:=by
   cases zs with
   |nil=>rfl
   |cons y t=>exact zO (e:=az) (l:=y::t) (k:=1) (by simp)
  rw[this]
 have g6:=aY (zs:=[Cell.lst (zs.tail.map az)]) VA
 have Sq:lA (ae (eV 0) (ae (lZ eJ (eV 0) (dO (eC (.int 1))) f_) ag)) [some (.ref f),z,none,none] c1=some (⟨(zs.zip zs.tail).map fun x=>D.tup [az x.1,az x.2],[(f,.lst (zs.map az)),(c1.length,.lst (zs.tail.map az))]⟩,c1++[.lst (zs.tail.map az)]):=by
  have ha:ae (eV 0) (ae (lZ eJ (eV 0) (dO (eC (.int 1))) f_) ag) [some (.ref f),z,none,none] c1=some ([.ref f,.ref c1.length],c1++[.lst (zs.tail.map az)]):=by erw[pM,ct]
  unfold lA
  rw[ha,Option.bind_some]
  dsimp only
  rw[g6,aI,aE g6,aE aI]
  simp only[Option.bind_some]
  unfold fS
  rw[List.zip_map,List.map_map]
  rfl
 obtain⟨AG,c2,e3,z2,z3,rfl,rfl⟩:=cf (ks:=[(f,.lst (zs.map az)),(c1.length,.lst (zs.tail.map az))]) (g:=cX 2 (aK (av 2) (aK (av 3) cW))) (body:=cM (jX (tV (aq aN [] (ae (e2 aw (eV 3) (eC (.int 0))) (ae (e2 aw (eV 2) (eC (.int 0))) ag)))) (iN (tV (e2 hZ (e2 aw (eV 2) (eC (.int 0))) (e2 aw (eV 3) (eC (.int 0))))) (eI (tV (aq aN [] (ae (e2 aw (eV 2) (eC (.int 1))) (ae (e2 aw (eV 3) (eC (.int 1))) ag))))))) (aT (eC (.bl false))) bA)
  (fun i σ c'=>∃z2 z3,σ=[some (.ref f),z,z2,z3]∧c'=c1++[.lst (zs.tail.map az)]) ((zs.zip zs.tail).map fun x=>D.tup [az x.1,az x.2]) 0 [some (.ref f),z,none,none] (c1++[.lst (zs.tail.map az)])
  (by
   rintro i σ c' ⟨_,_,_,hc⟩ q hq
   subst hc
   rcases List.mem_cons.mp hq with rfl|hq
   ·exact g6
   ·cases List.mem_singleton.mp hq;exact aI)
  (by
   rintro i d σ c' hd ⟨z2,z3,fm,hc⟩
   subst fm hc
   rw[List.getElem?_map]at hd
   obtain⟨⟨a,b⟩,hx,rfl⟩:=Option.map_eq_some_iff.mp hd
   obtain⟨k1,k2⟩:=B5 h.yE h.nd i a b hx
   obtain⟨ma,mb⟩:=List.of_mem_zip (List.mem_of_getElem? hx)
   have oa:=h.ok a ma
   have ob:=h.ok b (List.mem_of_mem_tail mb)
   obtain⟨n1,n2⟩:=Ki oa ob k1 k2
   have b1:=iF (c:=c1++[.lst (zs.tail.map az)]) ob.o1 oa.o1
   rw[n1]at b1
   have b2:=iF (c:=c1++[.lst (zs.tail.map az)]) oa.o2 ob.o2
   have i0:∀(y:S2) c,aw (az y) (.int 0) c=some (sd y.1,c):=fun _ _=>rfl
   have i1:∀(y:S2) c,aw (az y) (.int 1) c=some (sd y.2,c):=fun _ _=>rfl
   have eq:=pO (p:=a.1) (q:=b.1) (c:=c1++[.lst (zs.tail.map az)])
   refine⟨_,_,[some (.ref f),z,some (az a),some (az b)],_,rfl,?_,some (az a),some (az b),rfl,rfl⟩
   by_cases e:a.1=b.1
   ·rw[n2 e]at b2
    rw[decide_eq_true e]at eq
    erw[i0,i1,b1,b2,eq]
   ·rw[decide_eq_false e]at eq
    erw[i0,i1,b1,b2,eq])
  ⟨none,none,rfl,rfl⟩
 have e4:=fN (g:=cX 2 (aK (av 2) (aK (av 3) cW))) (b:=cM (jX (tV (aq aN [] (ae (e2 aw (eV 3) (eC (.int 0))) (ae (e2 aw (eV 2) (eC (.int 0))) ag)))) (iN (tV (e2 hZ (e2 aw (eV 2) (eC (.int 0))) (e2 aw (eV 3) (eC (.int 0))))) (eI (tV (aq aN [] (ae (e2 aw (eV 2) (eC (.int 1))) (ae (e2 aw (eV 3) (eC (.int 1))) ag))))))) (aT (eC (.bl false))) bA) Sq
 rw[e3]at e4
 have bl:cq [.ref f,.ty "list"] c=some (.bl true,c):=by
  have hk:kJ "list" (.ref f) c=some true:=by
   unfold kJ
   simp[hf]
  show((kJ "list" (.ref f) c).bind fun k=>some (D.bl k,c))=_
  rw[hk]
  rfl
 refine⟨c1++[.lst (zs.tail.map az)],?_,pre_app p1⟩
 erw[dc,fV,bl,w2,e4]
theorem oA{α:Type}{R:α→α→Prop}(DR:∀x y,R x y→¬R y x):∀(l m:List α),l.Pairwise R→m.Pairwise R→(∀x,x∈l↔x∈m)→l=m
 |[],m,_,_,h=>by
  cases m with
  |nil=>rfl
  |cons y m=>exact absurd ((h y).mpr List.mem_cons_self) (by simp)
 |x::l,[],_,_,h=>absurd ((h x).mp List.mem_cons_self) (by simp)
 |x::l,y::m,hl,hm,h=>by
  have Cq:=List.pairwise_cons.mp hl
  have zv:=List.pairwise_cons.mp hm
  have e:x=y:=by
   rcases List.mem_cons.mp ((h x).mp List.mem_cons_self)with e|m1
   ·exact e
   rcases List.mem_cons.mp ((h y).mpr List.mem_cons_self)with e|m2
   ·exact e.symm
   exact absurd (zv.1 x m1) (DR _ _ (Cq.1 y m2))
  subst e
  rw[oA DR l m Cq.2 zv.2 fun z=>?_]
  have GJ:¬R x x:=fun hh=>DR x x hh hh
  constructor
  ·intro hz
   rcases List.mem_cons.mp ((h z).mp (List.mem_cons_of_mem _ hz))with e|ve
   ·exact absurd (Cq.1 z hz) (by rw[e];exact GJ)
   ·exact ve
  ·intro hz
   rcases List.mem_cons.mp ((h z).mpr (List.mem_cons_of_mem _ hz))with e|ve
   ·exact absurd (zv.1 z hz) (by rw[e];exact GJ)
   ·exact ve
theorem DV{a b d:S2}(a1:My.bB a.1)(a2:My.bB a.2)(b1:My.bB b.1)(b2:My.bB b.2)(d1:My.bB d.1)(d2:My.bB d.2)(h:jB a b=true)(k:jB b d=true):jB a d=true:=by
 unfold jB at*
 by_cases e1:a.1=b.1
 ·rw[if_pos e1]at h
  by_cases e2:a.2=b.2
  ·rw[if_pos e2]at h;cases h
  ·rw[if_neg e2]at h
   by_cases f1:b.1=d.1
   ·rw[if_pos f1]at k
    by_cases f2:b.2=d.2
    ·rw[if_pos f2]at k;cases k
    ·rw[if_neg f2]at k
     have t:=My.mU a2 b2 d2 h k
     rw[if_pos (e1.trans f1),if_neg (fun z=>by rw[z,BY]at t;cases t)]
     exact t
   ·rw[if_neg f1]at k
    rw[if_neg (fun z=>f1 (e1.symm.trans z)),e1]
    exact k
 ·rw[if_neg e1]at h
  by_cases f1:b.1=d.1
  ·rw[if_neg (fun z=>e1 (z.trans f1.symm)),←f1]
   exact h
  ·rw[if_neg f1]at k
   have t:=My.mU a1 b1 d1 h k
   rw[if_neg (fun z=>by rw[z,BY]at t;cases t)]
   exact t
theorem Kj{a b:S2}(a1:My.bB a.1)(a2:My.bB a.2)(b1:My.bB b.1)(b2:My.bB b.2)(h:jB b a=false)(ne:a≠b):jB a b=true:=by
 unfold jB at*
 by_cases e:b.1=a.1
 ·rw[if_pos e]at h
  rw[if_pos e.symm]
  have n2:¬b.2=a.2:=fun z=>ne (Prod.ext e z).symm
  rw[if_neg n2]at h
  rw[if_neg (fun z=>n2 z.symm)]
  rcases My.jA a2 b2 with g|g|g
  ·exact g
  ·exact absurd g.symm n2
  ·rw[h]at g;cases g
 ·rw[if_neg e]at h
  rw[if_neg (fun z=>e z.symm)]
  rcases My.jA a1 b1 with g|g|g
  ·exact g
  ·exact absurd g.symm e
  ·rw[h]at g;cases g
abbrev O3(zs:List S2):Prop:=zs.Pairwise fun x y=>jB x y=true
theorem sH:∀{zs:List S2},jv jB zs→zs.Nodup→(∀z∈zs,lG 1000 z)→O3 zs
 |[],_,_,_=>.nil
 |x::l,h,nd,lo=>by
  have kg:=List.nodup_cons.mp nd
  have ih:=sH (mC h) kg.2 fun p hp=>lo p (List.mem_cons_of_mem _ hp)
  refine List.pairwise_cons.mpr ⟨fun y hy=>?_,ih⟩
  cases l with
  |nil=>cases hy
  |cons z l=>
   have ox:=lo x (by simp)
   have oz:=lo z (by simp)
   have Ka:jB x z=true:=Kj ox.o1.dZ ox.o2.dZ oz.o1.dZ oz.o2.dZ h.1 (fun e=>kg.1 (by rw[e];simp))
   rcases List.mem_cons.mp hy with rfl|hy
   ·exact Ka
   ·have oy:=lo y (by simp[hy])
    exact DV ox.o1.dZ ox.o2.dZ oz.o1.dZ oz.o2.dZ oy.o1.dZ oy.o2.dZ Ka ((List.pairwise_cons.mp ih).1 y hy)
theorem B6(x y:S2)(h:jB x y=true):¬jB y x=true:=by rw[yA x y h];decide
theorem GO{ys:List T3}{z:S2}(h:z∈eL ys):z.1∈ys:=(List.of_mem_zip h).1
theorem yG:∀{ys:List T3},GI ys→O3 (eL ys)
 |[],_=>.nil
 |[_],_=>by simp[eL]
 |x::y::t,h=>by
  have h':=List.pairwise_cons.mp h
  have e:eL (x::y::t)=(x,y)::eL (y::t):=rfl
  rw[e]
  refine List.pairwise_cons.mpr ⟨fun z hz=>?_,yG h'.2⟩
  have hx:=h'.1 z.1 (GO hz)
  unfold jB
  rw[if_neg (fun w=>by
   have w':x=z.1:=w
   rw[←w',BY]at hx;cases hx)]
  exact hx
def yH:List T3→List T3
 |[]=>[]
 |x::l=>ke My.aU [x] (yH l)
theorem Kk:∀(l:List T3),(yH l).Perm l∧jv My.aU (yH l)
 |[]=>⟨.refl _,trivial⟩
 |x::l=>by
  obtain⟨p,h⟩:=Kk l
  refine⟨(pN (yH l) [x]).trans (List.Perm.cons x p),wW (fun a b=>My.dq) (yH l) [x] trivial h⟩
theorem zY{S:List S2}{s:S2}(hS:∀t∈S,My.Sd t)(hs:My.Sd s):∃ys,GI ys∧∀p,p∈ys↔My.mz S s p:=by
 let L:=[s.1,s.2]++S.flatMap fun t=>if t=s then [] else My.cs (My.gA s t)
 have hL:∀p,p∈L↔My.mz S s p:=fun p=>by
  simp only[L,List.mem_append,List.mem_cons,List.not_mem_nil,or_false,List.mem_flatMap]
  unfold My.mz
  constructor
  ·rintro((h|h)|⟨t,ht,h⟩)
   ·exact .inl h
   ·exact .inr (.inl h)
   ·split at h
    ·cases h
    ·rename_i ne
     exact .inr (.inr ⟨t,ht,ne,h⟩)
  ·rintro(h|h|⟨t,ht,ne,h⟩)
   ·exact .inl (.inl h)
   ·exact .inl (.inr h)
   ·exact .inr ⟨t,ht,by rw[if_neg ne];exact h⟩
 obtain⟨p,h⟩:=Kk (uniq (fun _=>true) [] L)
 have hm:∀q,q∈yH (uniq (fun _=>true) [] L)↔My.mz S s q:=fun q=>by
  rw[p.mem_iff,tX,←hL]
  simp
 exact⟨_,zV h (p.nodup_iff.mpr (ow .nil)) fun q hq=>(((hm q).mp hq).on hS hs).1,hm⟩
def ch:T3→List S2→T3→Prop
 |a,[],h=>a=h
 |a,z::l,h=>z.1=a∧ch z.2 l h
theorem E9:∀(x:T3) (t:List T3) (h:T3),(x::t).getLast?=some h→ch x (eL (x::t)) h
 |x,[],h,e=>by simpa[eL,ch]using e
 |x,y::t,h,e=>⟨rfl,E9 y t h (by simpa using e)⟩
theorem Kl{S:List S2}{s:S2}{zs:List S2}(hS:∀t∈S,My.Sd t)(hs:s∈S)(fwd:My.aU s.1 s.2=true)(hz:Kh zs)(hk:∀z,z∈zs↔∃s∈S,lV S s z):ch s.1 (zs.filter fun z=>My.ei z.1 s.1 s.2&&My.ei z.2 s.1 s.2) s.2:=by
 have ds:=hS s hs
 obtain⟨ys,DU,hm⟩:=zY (S:=S) hS ds
 have e:zs.filter (fun z=>My.ei z.1 s.1 s.2&&My.ei z.2 s.1 s.2)=eL ys:=by
  refine oA B6 _ _ (List.Pairwise.filter _ (sH hz.yE hz.nd hz.ok)) (yG DU) fun z=>?_
  rw[List.mem_filter,hk z,B0 DU hm z]
  constructor
  ·rintro⟨⟨t,ht,hc⟩,ho⟩
   have xD:My.ei z.1 s.1 s.2=true∧My.ei z.2 s.1 s.2=true:=by simpa using ho
   obtain⟨o1,o2⟩:=hc.on hS ht
   exact hc.move hS ht hs ⟨o1.1,xD.1⟩ ⟨o2.1,xD.2⟩
  ·intro hc
   obtain⟨o1,o2⟩:=hc.on hS hs
   exact⟨⟨s,hs,hc⟩,by rw[o1.2,o2.2];rfl⟩
 rw[e]
 have fwe:My.fw s.1 s.2=(s.1,s.2):=by unfold My.fw;rw[if_pos fwd]
 have aG:∀p∈ys,My.aU p s.1=false∧My.aU s.2 p=false:=fun p hp=>by
  have o:=((hm p).mp hp).on hS ds
  have:=(My.dM o.dt).mp o.2
  rw[fwe]at this
  exact this
 have m1:s.1∈ys:=(hm _).mpr (.inl rfl)
 have m2:s.2∈ys:=(hm _).mpr (.inr (.inl rfl))
 cases ys with
 |nil=>cases m1
 |cons x t=>
  have hx:x=s.1:=by
   rcases List.mem_cons.mp m1 with h|h
   ·exact h.symm
   ·have:=(List.pairwise_cons.mp DU).1 _ h
    rw[(aG x List.mem_cons_self).1]at this
    cases this
  subst hx
  refine E9 _ _ _ ?_
  have ne:s.1::t≠[]:=by simp
  rw[List.getLast?_eq_some_getLast ne]
  refine congrArg some ?_
  have hl:=List.getLast_mem ne
  have Nq:=List.dropLast_concat_getLast ne
  generalize hg:(s.1::t).getLast ne=w at*
  rcases Decidable.em (w=s.2)with h|h
  ·exact h
  ·exfalso
   rw[←Nq]at m2 DU
   rcases List.mem_append.mp m2 with h'|h'
   ·have:=(List.pairwise_append.mp DU).2.2 _ h' w (by simp)
    rw[(aG w hl).2]at this
    cases this
   ·exact h (List.mem_singleton.mp h').symm
theorem Sz{S IN zs:List S2}{s0:S2}{f:Nat}{c:Cells}(gD:∀s∈IN,iE s)(fw:B2 IN S)(hs:s0∈IN)(hz:Kh zs)(hk:∀z,z∈zs↔∃s∈S,lV S s z)(hf:c[f]? =some (.lst (zs.map az))):cI [az s0,.ref f] c=some (.bl true,c):=by
 have i0:=gD s0 hs
 have Nr:lG 1000 s0:=⟨i0.ok.o1.mono (by decide),i0.ok.o2.mono (by decide)⟩
 have hS:∀t∈S,My.Sd t:=fun t ht=>by
  obtain⟨k,_,e⟩:=(fw.mem t).mp ht
  obtain⟨u,hu,jY⟩:=Option.map_eq_some_iff.mp e
  rw[←jY]
  exact(zW (gD u (List.mem_of_getElem? hu))).2.1
 obtain⟨_,_,fwd⟩:=zW i0
 have hsS:dD s0∈S:=by
  obtain⟨j,hj⟩:=List.getElem?_of_mem hs
  exact(fw.mem _).mpr ⟨j,(List.getElem?_eq_some_iff.mp hj).1,by rw[hj];rfl⟩
 have C:=Kl hS hsS fwd hz hk
 have eon:(fun z:S2=>My.ei z.1 (dD s0).1 (dD s0).2&&My.ei z.2 (dD s0).1 (dD s0).2)=fun z=>My.ei z.1 s0.1 s0.2&&My.ei z.2 s0.1 s0.2:=by
  funext z
  rw[pQ i0.ok.o1.dZ i0.ok.o2.dZ i0.ne,pQ i0.ok.o1.dZ i0.ok.o2.dZ i0.ne]
 rw[eon]at C
 have bf:=iF (c:=c) Nr.o2 Nr.o1
 have itL:∀z4,eK (eV 1) [some (az s0),some (.ref f),some (sd (dD s0).1),some (sd (dD s0).2),some (sd (dD s0).1),z4] c=some (⟨zs.map az,[(f,.lst (zs.map az))]⟩,c):=fun z4=>lE rfl hf
 obtain⟨σ',c',e1,a,z5,rfl,rfl,h1⟩:=cf (ks:=[(f,.lst (zs.map az))]) (g:=av 5) (body:=cM (iN (tV (aq bU [] (ae (e2 aw (eV 5) (eC (.int 0))) (ae (eV 0) ag)))) (tV (aq bU [] (ae (e2 aw (eV 5) (eC (.int 1))) (ae (eV 0) ag))))) (ay (cM (tV (e2 mL (e2 aw (eV 5) (eC (.int 0))) (eV 4))) (aT (eC (.bl false))) bA) (aH 4 (e2 aw (eV 5) (eC (.int 1))))) bA)
  (fun i σ c'=>∃a z5,σ=[some (az s0),some (.ref f),some (sd (dD s0).1),some (sd (dD s0).2),some (sd a),z5]∧c'=c∧ch a ((zs.drop i).filter fun z=>My.ei z.1 s0.1 s0.2&&My.ei z.2 s0.1 s0.2) (dD s0).2)
  (zs.map az) 0 [some (az s0),some (.ref f),some (sd (dD s0).1),some (sd (dD s0).2),some (sd (dD s0).1),none] c
  (fun i σ c' ⟨_,_,_,hc,_⟩ q hq=>by subst hc;cases List.mem_singleton.mp hq;exact hf)
  (by
   rintro i d σ c' hd ⟨a,z5,fm,hc,h1⟩
   subst fm hc
   rw[List.getElem?_map]at hd
   obtain⟨y,hy,rfl⟩:=Option.map_eq_some_iff.mp hd
   have kf:=(List.getElem?_eq_some_iff.mp hy).1
   have oy:=hz.ok y (List.mem_of_getElem? hy)
   have q1:=E8 (c:=c') oy.o1 Nr
   have q2:=E8 (c:=c') oy.o2 Nr
   have g0:∀c,aw (az y) (.int 0) c=some (sd y.1,c):=fun _=>rfl
   have g1:∀c,aw (az y) (.int 1) c=some (sd y.2,c):=fun _=>rfl
   have Ni:zs.drop i=y::zs.drop (i+1):=by
    rw[List.drop_eq_getElem_cons kf]
    rw[List.getElem?_eq_getElem kf]at hy
    rw[Option.some.inj hy]
   rw[show 0+i=i by omega,Ni,List.filter_cons]at h1
   cases b1:My.ei y.1 s0.1 s0.2 with
   |false=>
    rw[b1]at q1
    simp only[b1,Bool.false_and,Bool.false_eq_true,if_false]at h1
    refine⟨_,_,[some (az s0),some (.ref f),some (sd (dD s0).1),some (sd (dD s0).2),some (sd a),some (az y)],c',rfl,(by erw[g0,g1,q1]),a,some (az y),rfl,rfl,by rw[show 0+i+1=i+1 by omega];exact h1⟩
   |true=>
    rw[b1]at q1
    cases b2:My.ei y.2 s0.1 s0.2 with
    |false=>
     rw[b2]at q2
     simp only[b1,b2,Bool.and_false,Bool.false_eq_true,if_false]at h1
     refine⟨_,_,[some (az s0),some (.ref f),some (sd (dD s0).1),some (sd (dD s0).2),some (sd a),some (az y)],c',rfl,(by erw[g0,g1,q1,q2]),a,some (az y),rfl,rfl,by rw[show 0+i+1=i+1 by omega];exact h1⟩
    |true=>
     rw[b2]at q2
     simp only[b1,b2,Bool.and_true,if_true]at h1
     obtain⟨k1,k2⟩:=h1
     have ne:=zQ (p:=y.1) (q:=a) (c:=c')
     rw[decide_eq_true k1]at ne
     refine⟨_,_,[some (az s0),some (.ref f),some (sd (dD s0).1),some (sd (dD s0).2),some (sd y.2),some (az y)],c',rfl,(by erw[g0,g1,q1,q2,ne]),y.2,some (az y),rfl,rfl,by rw[show 0+i+1=i+1 by omega];exact k2⟩)
  ⟨(dD s0).1,none,rfl,rfl,C⟩
 have w2:=fN (g:=av 5) (b:=cM (iN (tV (aq bU [] (ae (e2 aw (eV 5) (eC (.int 0))) (ae (eV 0) ag)))) (tV (aq bU [] (ae (e2 aw (eV 5) (eC (.int 1))) (ae (eV 0) ag))))) (ay (cM (tV (e2 mL (e2 aw (eV 5) (eC (.int 0))) (eV 4))) (aT (eC (.bl false))) bA) (aH 4 (e2 aw (eV 5) (eC (.int 1))))) bA) (itL none)
 rw[e1]at w2
 have e3:zs.drop (0+(zs.map az).length)=[]:=List.drop_eq_nil_of_le (by simp)
 rw[e3]at h1
 have ha:a=(dD s0).2:=h1
 subst ha
 have eq:=pO (p:=(dD s0).2) (q:=(dD s0).2) (c:=c')
 rw[decide_eq_true rfl]at eq
 have hb:(My.aU s0.2 s0.1=true∧dD s0=(s0.2,s0.1))∨(My.aU s0.2 s0.1=false∧dD s0=(s0.1,s0.2)):=by
  unfold dD My.fw
  rcases My.jA i0.ok.o1.dZ i0.ok.o2.dZ with g|g|g
  ·exact .inr ⟨My.dq g,by rw[if_pos g]⟩
  ·exact absurd g i0.ne
  ·exact .inl ⟨g,by rw[if_neg (by rw[My.dq g];decide)]⟩
 rcases hb with⟨h2,h3⟩|⟨h2,h3⟩
 ·rw[h3]at w2 eq
  rw[h2]at bf
  unfold az side at*
  erw[cI,gu,bf,w2,eq]
 ·rw[h3]at w2 eq
  rw[h2]at bf
  unfold az side at*
  erw[cI,gu,bf,w2,eq]
theorem sI{xs:List D}{i:Nat}{d:D}(h:(eD xs)[i]? =some d):∃x,xs[i]? =some x∧d= .tup [.int (i:Int),x]:=by
 unfold eD at h
 rw[List.getElem?_map,List.getElem?_zipIdx]at h
 cases q:xs[i]? with
 |none=>rw[q]at h;cases h
 |some x=>
  rw[q]at h
  simp at h
  exact⟨x,rfl,h.symm⟩
def oB(IN:List S2)(z:S2)(i:Nat):List Int:=((List.range i).filter (B3 IN z)).map fun(k:Nat)=>(k:Int)
theorem DW(IN:List S2)(z:S2)(i:Nat):oB IN z (i+1)=oB IN z i++(if B3 IN z i=true then [(i:Int)] else []):=by
 unfold oB
 rw[List.range_succ,List.filter_append,List.map_append]
 congr 1
 by_cases h:B3 IN z i=true
 ·rw[if_pos h];simp[h]
 ·rw[if_neg h];simp[h]
theorem t7(IN:List S2)(z:S2)(i:Nat):(oB IN z i).length≤i:=by
 unfold oB
 rw[List.length_map]
 exact Nat.le_trans (List.length_filter_le _ _) (by simp)
noncomputable abbrev Km:XS:=cM (iN (tV (aq bU [] (ae (e2 aw (eV 3) (eC (.int 0))) (ae (eV 6) ag)))) (tV (aq bU [] (ae (e2 aw (eV 3) (eC (.int 1))) (ae (eV 6) ag))))) (cC (eM bM (eV 4) (ae (eV 5) ag))) bA
theorem SA{IN:List S2}{z:S2}{f g:Nat}{P z5 z6:Option D}{c:Cells}(gD:∀s∈IN,iE s)(oz:lG 1000 z)(hg:c[g]? =some (.lst (IN.map az)))(hn:IN.length≤1000):
  ∃Nt Nu,dJ (fK (ae (eV 1) ag)) (cX 2 (aK (av 5) (aK (av 6) cW))) Km [some (.ref f),some (.ref g),P,some (az z),some (.ref c.length),z5,z6] (c++[.lst []])=some (.nx,[some (.ref f),some (.ref g),P,some (az z),some (.ref c.length),Nt,Nu],c++[.lst ((gQ IN z).map D.int)]):=by
 have g1:=aY (zs:=[Cell.lst []]) hg
 have it:fK (ae (eV 1) ag) [some (.ref f),some (.ref g),P,some (az z),some (.ref c.length),z5,z6] (c++[.lst []])=some (⟨eD (IN.map az),[(g,.lst (IN.map az))]⟩,c++[.lst []]):=by
  have ha:ae (eV 1) ag [some (.ref f),some (.ref g),P,some (az z),some (.ref c.length),z5,z6] (c++[.lst []])=some ([.ref g],c++[.lst []]):=by erw[]
  unfold fK
  rw[ha,Option.bind_some]
  dsimp only
  rw[g1,aE g1]
  rfl
 obtain⟨σ',c',e1,y5,y6,rfl,rfl⟩:=cf (ks:=[(g,.lst (IN.map az))]) (g:=cX 2 (aK (av 5) (aK (av 6) cW))) (body:=Km)
  (fun i σ c'=>∃y5 y6,σ=[some (.ref f),some (.ref g),P,some (az z),some (.ref c.length),y5,y6]∧c'=c++[.lst ((oB IN z i).map D.int)]) (eD (IN.map az)) 0 [some (.ref f),some (.ref g),P,some (az z),some (.ref c.length),z5,z6] (c++[.lst []])
  (fun i σ c' ⟨_,_,_,hc⟩ q hq=>by subst hc;cases List.mem_singleton.mp hq;exact aY hg)
  (by
   rintro i d σ c' hd ⟨y5,y6,fm,hc⟩
   subst fm hc
   rw[show 0+i=i by omega]
   obtain⟨x,hx,rfl⟩:=sI hd
   rw[List.getElem?_map]at hx
   obtain⟨s,hs,rfl⟩:=Option.map_eq_some_iff.mp hx
   have is:=gD s (List.mem_of_getElem? hs)
   have os:lG 1000 s:=⟨is.ok.o1.mono (by decide),is.ok.o2.mono (by decide)⟩
   have q1:=E8 (c:=c++[.lst ((oB IN z i).map D.int)]) oz.o1 os
   have q2:=E8 (c:=c++[.lst ((oB IN z i).map D.int)]) oz.o2 os
   have g0:∀c,aw (az z) (.int 0) c=some (sd z.1,c):=fun _=>rfl
   have BR:∀c,aw (az z) (.int 1) c=some (sd z.2,c):=fun _=>rfl
   have ho:B3 IN z i=(My.ei z.1 s.1 s.2&&My.ei z.2 s.1 s.2):=by unfold B3;rw[hs]
   have dl:=t7 IN z i
   have kf:=(List.getElem?_eq_some_iff.mp hs).1
   have ap:=sr (e:=D.int) (x:=(i:Int)) (aI (c:=c) (z:=.lst ((oB IN z i).map D.int))) (by omega)
   rw[tT]at ap
   have w:=aE (aI (c:=c) (z:=.lst ((oB IN z i).map D.int)))
   refine⟨_,_,[some (.ref f),some (.ref g),P,some (az z),some (.ref c.length),some (.int (i:Int)),some (az s)],c++[.lst ((oB IN z (i+1)).map D.int)],rfl,?_,some (.int (i:Int)),some (az s),rfl,rfl⟩
   rw[DW,ho]
   cases b1:My.ei z.1 s.1 s.2 with
   |false=>
    rw[b1]at q1
    simp only[Bool.false_and,Bool.false_eq_true,if_false,List.append_nil]
    erw[g0,BR,q1]
   |true=>
    rw[b1]at q1
    cases b2:My.ei z.2 s.1 s.2 with
    |false=>
     rw[b2]at q2
     simp only[Bool.and_false,Bool.false_eq_true,if_false,List.append_nil]
     erw[g0,BR,q1,q2]
    |true=>
     rw[b2]at q2
     simp only[Bool.and_true,if_true]
     erw[g0,BR,q1,q2,w,ap])
  ⟨z5,z6,rfl,rfl⟩
 have w2:=fN (g:=cX 2 (aK (av 5) (aK (av 6) cW))) (b:=Km) it
 rw[e1]at w2
 have hl: 0+(eD (IN.map az)).length=IN.length:=by simp[eD]
 rw[hl]at w2
 exact⟨y5,y6,w2⟩
theorem B7{IN zs:List S2}{f g:Nat}{c:Cells}(gD:∀s∈IN,iE s)(oz:∀z∈zs,lG 1000 z)(hf:c[f]? =some (.lst (zs.map az)))(hg:c[g]? =some (.lst (IN.map az)))(hn:IN.length≤1000)(hz:zs.length≤1000000):
  ∃(ns:List Nat) (c':Cells),ff [.ref f,.ref g] c=some (.ref c.length,c')∧c <+:c'∧c'[c.length]? =some (.lst (ns.map D.ref))∧ns.length=zs.length∧(∀n∈ns,c.length<n)∧∀(i n:Nat) z,ns[i]? =some n→zs[i]? =some z→c'[n]? =some (.lst ((gQ IN z).map D.int)):=by
 have it:eK (eV 0) [some (.ref f),some (.ref g),some (.ref c.length),none,none,none,none] (c++[.lst []])=some (⟨zs.map az,[(f,.lst (zs.map az))]⟩,c++[.lst []]):=lE rfl (aY hf)
 obtain⟨σ',c',e1,ns,y3,y4,y5,y6,rfl,p1,g1,l1,i1,r1⟩:=cf (ks:=[(f,.lst (zs.map az))]) (g:=av 3) (body:=ay (aH 4 (fC ag)) (ay (dJ (fK (ae (eV 1) ag)) (cX 2 (aK (av 5) (aK (av 6) cW))) Km) (cC (eM bM (eV 2) (ae (eV 4) ag)))))
  (fun i σ c'=>∃(ns:List Nat) (y3 y4 y5 y6:Option D),σ=[some (.ref f),some (.ref g),some (.ref c.length),y3,y4,y5,y6]∧c <+:c'∧c'[c.length]? =some (.lst (ns.map D.ref))∧ns.length=i∧(∀n∈ns,c.length<n)∧∀(j n:Nat) z,ns[j]? =some n→zs[j]? =some z→c'[n]? =some (.lst ((gQ IN z).map D.int)))
  (zs.map az) 0 [some (.ref f),some (.ref g),some (.ref c.length),none,none,none,none] (c++[.lst []])
  (fun i σ c' ⟨_,_,_,_,_,_,p,_⟩ q hq=>by cases List.mem_singleton.mp hq;exact aA p hf)
  (by
   rintro i d σ c' hd ⟨ns,y3,y4,y5,y6,fm,p1,g1,l1,i1,r1⟩
   subst fm
   rw[show 0+i=i by omega]at l1
   rw[List.getElem?_map]at hd
   obtain⟨z,SD,rfl⟩:=Option.map_eq_some_iff.mp hd
   have kf:=(List.getElem?_eq_some_iff.mp SD).1
   have hlc:=bp g1
   obtain⟨Nt,Nu,w⟩:=SA (f:=f) (P:=some (.ref c.length)) (z5:=y5) (z6:=y6) gD (oz z (List.mem_of_getElem? SD)) (aA p1 hg) hn
   have g2:=aY (zs:=[Cell.lst ((gQ IN z).map D.int)]) g1
   have ap:=sr (e:=D.ref) (x:=c'.length) g2 (by omega)
   have s2:=aE g2
   refine⟨_,_,[some (.ref f),some (.ref g),some (.ref c.length),some (az z),some (.ref c'.length),Nt,Nu],(c'++[Cell.lst ((gQ IN z).map D.int)]).set c.length (.lst ((ns++[c'.length]).map D.ref)),rfl,?_,ns++[c'.length],some (az z),some (.ref c'.length),Nt,Nu,rfl,mB (pre_app p1) (Nat.le_refl _),iD (bp g2),by simp;omega,fun n hn=>?_,fun j n y h1 h2=>?_⟩
   ·erw[Nat.zero_le,w,s2,ap]
   ·rcases List.mem_append.mp hn with hn|hn
    ·exact i1 n hn
    ·cases List.mem_singleton.mp hn
     exact hlc
   ·rcases Nat.lt_or_ge j ns.length with hj|hj
    ·rw[List.getElem?_append_left hj]at h1
     have:=i1 n (List.mem_of_getElem? h1)
     exact cc (aY (r1 j n y h1 h2)) (by omega)
    ·have:j=ns.length:=by
      have:=(List.getElem?_eq_some_iff.mp h1).1
      simp at this
      omega
     subst this
     rw[List.getElem?_append_right (Nat.le_refl _),Nat.sub_self]at h1
     cases h1
     rw[l1,SD]at h2
     cases h2
     exact cc aI (by omega))
  ⟨[],none,none,none,none,rfl,⟨_,rfl⟩,aI,rfl,fun _ h=>(nomatch h),fun _ _ _ h=>by cases h⟩
 have w2:=fN (g:=av 3) (b:=ay (aH 4 (fC ag)) (ay (dJ (fK (ae (eV 1) ag)) (cX 2 (aK (av 5) (aK (av 6) cW))) Km) (cC (eM bM (eV 2) (ae (eV 4) ag))))) it
 rw[e1]at w2
 refine⟨ns,c',?_,p1,g1,by rw[l1];simp,i1,r1⟩
 rw[ff,jq,jR]
 erw[Nat.zero_le,w2]
theorem zm{α:Type}{xs:List α}{g:Int}(h0: 0≤g)(h1:g<xs.length):∃x,iV xs g=some x∧x∈xs:=by
 obtain⟨n,rfl⟩:∃n:Nat,g=(n:Int):=⟨g.toNat,by omega⟩
 have hn:n<xs.length:=by omega
 exact⟨xs[n],BH (List.getElem?_eq_getElem hn),List.getElem_mem hn⟩
def jI(n:Nat)(c:Cells):Prop:=∃a:Int,c[n]? =some (.lst [.int a])
theorem jI.lt{n:Nat}{c:Cells}(h:jI n c):n<c.length:=by obtain⟨a,h⟩:=h;exact bp h
theorem DX{s:Nat}{c:Cells}{ns:List Int}{k:Int}(hs:c[s]? =some (.ro (ns.map D.int)))(k0: 0≤k):∃z,cS [.ref s,.int k] c=some (.int z,c):=by
 have s1:=yp hs
 have hl:((ns.map D.int).length:Int)=ns.length:=by simp
 by_cases hk:k<ns.length
 ·obtain⟨d,hd,hm⟩:=zm (xs:=ns.map D.int) k0 (by rw[hl];exact hk)
  obtain⟨z,_,rfl⟩:=List.mem_map.mp hm
  refine⟨z,?_⟩
  have p_:decide (k<((ns.map D.int).length:Int))=true:=by rw[hl];exact decide_eq_true hk
  erw[cS,jt,DC,s1,jr,p_,hd]
 ·refine⟨0,?_⟩
  have p_:decide (k<((ns.map D.int).length:Int))=false:=by rw[hl];exact decide_eq_false (by omega)
  erw[cS,jt,DC,s1,jr,p_]
theorem Nv{n:Nat}{c:Cells}{m:Int}(h:jI n c)(h0: 0<m)(hm:My.Bd 8900 m):∃d c',ar [.ref n,.int m] c=some (.int d,c')∧0≤d∧d<m∧jI n c'∧Kq [n] c c'∧c'.length=c.length:=by
 have fZ:=h.lt
 obtain⟨a,hc⟩:=h
 have s1:=bq hc
 have l1:=aE hc
 refine⟨a % m,c.set n (.lst [.int (a / m)]),?_,Int.emod_nonneg _ (by omega),Int.emod_lt_of_pos _ h0,⟨a / m,iD fZ⟩,fun j z hj e=>cc e (by simpa using hj),by simp⟩
 simp[ar,jq,jP,jr,s1,DA h0,vI h0 hm,Ik,l1,zf]
theorem Kn{s:Nat}{c:Cells}{ns:List Int}{x k:Int}(hs:c[s]? =some (.ro (ns.map D.int)))(k0: 0≤k)(k1:k<1000):∃a,df [.ref s,.int x,.int k] c=some (.ref c.length,c++[.lst [.int a]]):=by
 obtain⟨z0,ez⟩:=DX hs (k:=0) (by decide)
 by_cases hz:z0 % 2=1
 ·have hd:=decide_eq_true hz
  refine⟨x,?_⟩
  erw[df,ju,ez,hd]
 ·have hd:=decide_eq_false hz
  have hr:fY (ae (eC (.int 16)) ag) [some (.ref s),some (.int x),some (.int k),some (.int 0),none] c=some (⟨gY 0 16,[]⟩,c):=sh (j:=16) rfl (by decide)
  obtain⟨σ',c',e1,x',t',j',rfl,rfl⟩:=cf (ks:=[]) (g:=av 4) (body:=ay (aH 1 (e2 fR (e2 bH (e2 bH (e2 aP (eV 1) (eC (.int 48271))) (e2 aP (eC (.int 7919)) (eV 2))) (eV 4)) (eC (.int 2147483629)))) (aH 3 (e2 bH (e2 aP (eV 3) (eC (.int 2147483587))) (e2 fR (e2 aP (eV 1) (eV 1)) (eC (.int 2147483587))))))
   (fun _ σ c'=>∃(x' t':Int) (j':Option D),σ=[some (.ref s),some (.int x'),some (.int k),some (.int t'),j']∧c'=c) (gY 0 16) 0 [some (.ref s),some (.int x),some (.int k),some (.int 0),none] c (fun _ _ _ _=>gj)
   (by
    rintro i d σ c' hdd ⟨x',t',j',fm,hc⟩
    subst fm hc
    obtain⟨hi,rfl⟩:=sD hdd
    have b0:=Int.emod_nonneg (x'*48271+7919*k+(0+(i:Int))) (show(2147483629:Int)≠0 by decide)
    have b1:=Int.emod_lt_of_pos (x'*48271+7919*k+(0+(i:Int))) (show(0:Int)<2147483629 by decide)
    have m1:=dh (i:=x') (j:=48271) (c:=c') (mulR (by decide))
    have m2:=dh (i:=t') (j:=2147483587) (c:=c') (mulR (by decide))
    refine⟨_,_,[some (.ref s),some (.int ((x'*48271+7919*k+(0+(i:Int))) % 2147483629)),some (.int k),some (.int (t'*2147483587+(x'*48271+7919*k+(0+(i:Int))) % 2147483629*((x'*48271+7919*k+(0+(i:Int))) % 2147483629) % 2147483587)),some (.int (0+(i:Int)))],c',rfl,?_,_,_,_,rfl,rfl⟩
    generalize hX:(x'*48271+7919*k+(0+(i:Int))) % 2147483629=X at*
    have m3:=dh (i:=X) (j:=X) (c:=c') (mulR (by omega))
    erw[m1,m2,hX,m3])
   ⟨x,0,none,rfl,rfl⟩
  have w2:=fN (g:=av 4) (b:=ay (aH 1 (e2 fR (e2 bH (e2 bH (e2 aP (eV 1) (eC (.int 48271))) (e2 aP (eC (.int 7919)) (eV 2))) (eV 4)) (eC (.int 2147483629)))) (aH 3 (e2 bH (e2 aP (eV 3) (eC (.int 2147483587))) (e2 fR (e2 aP (eV 1) (eV 1)) (eC (.int 2147483587)))))) hr
  rw[e1]at w2
  refine⟨t',?_⟩
  erw[df,ju,ez,hd,w2]
theorem yI{A B W:Option D}{c:Cells}:∀(n:Nat) (a b:Int),b.toNat=n→0<a→0≤b→dP (tV (e2 pX (eV 4) (eC (.int 0)))) (qg [3,4] (ae (eV 4) (ae (e2 fR (eV 3) (eV 4)) ag))) [A,B,W,some (.int a),some (.int b)] c=some (.nx,[A,B,W,some (.int (Int.gcd a b:Int)),some (.int 0)],c):=by
 intro n
 induction n using Nat.strongRecOn with
 |_ n ih=>
  intro a b hn ha hb
  by_cases h:b=0
  ·subst h
   have e:(Int.gcd a 0:Int)=a:=by rw[Int.gcd_zero_right];omega
   rw[e]
   exact ig (by erw[])
  ·have hp: 0<b:=by omega
   have hd:decide (b > 0)=true:=decide_eq_true hp
   have m0:=Int.emod_nonneg a h
   have m1:=Int.emod_lt_of_pos a hp
   have r:=ih (a % b).toNat (by omega) b (a % b) rfl hp m0
   have eg:(Int.gcd b (a % b):Int)=(Int.gcd a b:Int):=by
    rw[←Int.fmod_eq_emod_of_nonneg a hb,My.x8]
   rw[eg]at r
   exact mN (c':=c) (c2:=c) (σ':=[A,B,W,some (.int b),some (.int (a % b))]) (by erw[hd]) (by erw[DA hp]) r
theorem xg{x y w:Int}{c:Cells}(hw: 0<w)(hb:My.Bd 8900 w):bE [.int x,.int y,.int w] c=some (sd (My.spT x y w),c):=by
 have ab:∀(z:Int),0≤(if z<0 then -z else z):=fun z=>by split<;>omega
 have l1:=yI (A:=some (.int x)) (B:=some (.int y)) (W:=some (.int w)) (c:=c) _ w (if x<0 then -x else x) rfl hw (ab x)
 have g1: 0<(Int.gcd w (if x<0 then -x else x):Int):=by
  have:=Int.gcd_pos_of_ne_zero_left (if x<0 then -x else x) (show w≠0 by omega)
  omega
 have l2:=yI (A:=some (.int x)) (B:=some (.int y)) (W:=some (.int w)) (c:=c) _ (Int.gcd w (if x<0 then -x else x):Int) (if y<0 then -y else y) rfl g1 (ab y)
 have ax:∀(a z:Int),Int.gcd a (if z<0 then -z else z)=Int.gcd a z:=fun a z=>by
  split
  ·exact Int.gcd_neg ..
  ·rfl
 have eg:(Int.gcd (Int.gcd w (if x<0 then -x else x):Int) (if y<0 then -y else y):Int)=(Int.gcd (Int.gcd x y:Int) w:Int):=by
  rw[ax,ax,Int.gcd_assoc,Int.gcd_comm]
 rw[eg]at l2
 obtain⟨e1,jY,e3⟩:=My.Ba (x:=x) (y:=y) hw
 have gp: 0<(Int.gcd (Int.gcd x y:Int) w:Int):=by
  have:=Int.gcd_pos_of_ne_zero_right (Int.gcd x y:Int) (show w≠0 by omega)
  omega
 have gb:My.Bd 8900 (Int.gcd (Int.gcd x y:Int) w:Int):=My.Bd.of_le hb (by
  have:=Int.gcd_le_natAbs_right (Int.gcd x y:Int) (show w≠0 by omega)
  omega)
 have r:sd (My.spT x y w)= .tup [.int (My.sx x y w),.int (My.sy x y w),.int (My.sw x y w)]:=rfl
 rw[r]
 erw[bE,jd,l1,l2,vI gp gb,e1,jY,e3]
structure Dn(n:Nat)(c c':Cells):Prop where
 hU:jI n c'
 kq:Kq [n] c c'
 len:c.length≤c'.length
theorem Dn.trans{n:Nat}{c c1 c2:Cells}(a:Dn n c c1)(b:Dn n c1 c2):Dn n c c2:=⟨b.hU,a.kq.trans b.kq (fun x hx=>.inl hx),Nat.le_trans a.len b.len⟩
theorem dig{n:Nat}{c:Cells}{m:Int}(h:jI n c)(h0: 0<m)(hm:My.Bd 8900 m):∃d c',ar [.ref n,.int m] c=some (.int d,c')∧0≤d∧d<m∧Dn n c c':=by
 obtain⟨d,c',e,h1,h2,h3,h4,h5⟩:=Nv h h0 hm
 exact⟨d,c',e,h1,h2,⟨h3,h4,by omega⟩⟩
theorem jI.app{n:Nat}{c zs:Cells}(h:jI n c):jI n (c++zs):=by obtain⟨a,h⟩:=h;exact⟨a,aY h⟩
theorem zZ{k:Nat}{x y w:Int}(hw: 0<w)(bx:My.Bd k x)(jw:My.Bd k y)(bw:My.Bd k w):Ok k (My.spT x y w):=Sp.mk' (by omega) bx jw bw
theorem pw{k:Int}{r:Int}(hk: 0≤k∧k≤18)(hr:(10:Int) ^ k.toNat=r){c:Cells}:kI (.int 10) (.int k) c=some (.int r,c):=by
 unfold kI
 rw[Gu,if_pos ⟨hk.1,by omega,by decide⟩,hr]
 rfl
theorem SE{n:Nat}{K:Int}{B z3 z4 z5 z6:Option D}{c:Cells}(h:jI n c)(hK: 0≤K):
  ∃p σ' c',(ay (cM (tV (e2 hZ (eV 2) (eC (.int 2))))
   (ay (aH 10 (e2 aw (fC (ae (e2 kI (eC (.int 10)) (eC (.int 6))) (ae (e2 kI (eC (.int 10)) (eC (.int 14))) (ae (e2 kI (eC (.int 10)) (eC (.int 18))) ag)))) (aq ar [] (ae (eV 0) (ae (eC (.int 3)) ag)))))
   (ay (aH 11 (e2 fO (aq ar [] (ae (eV 0) (ae (e2 bH (e2 aP (eC (.int 2)) (eV 10)) (eC (.int 1))) ag))) (eV 10)))
   (ay (aH 12 (e2 fO (aq ar [] (ae (eV 0) (ae (e2 bH (e2 aP (eC (.int 2)) (eV 10)) (eC (.int 1))) ag))) (eV 10)))
   (aT (aq bE [] (ae (eV 11) (ae (eV 12) (ae (e2 bH (eC (.int 1)) (aq ar [] (ae (eV 0) (ae (eV 10) ag)))) ag))))))))
   bA)
   (ay (aH 7 (e2 bH (eC (.int 1)) (e2 aP (aq ar [] (ae (eV 0) (ae (eC (.int 6)) ag))) (e2 fR (eV 2) (eC (.int 2))))))
   (aT (aq bE [] (ae (aq ar [] (ae (eV 0) (ae (e2 aP (eC (.int 7)) (eV 7)) ag))) (ae (aq ar [] (ae (eV 0) (ae (e2 aP (eC (.int 7)) (eV 7)) ag))) (ae (eV 7) ag))))))) [some (.ref n),B,some (.int K),z3,z4,z5,z6,none,none,none,none,none,none] c=some (.rt (sd p),σ',c')∧Ok 100 p∧Dn n c c':=by
 by_cases h2:K=2
 ·subst h2
  have p6:=pw (k:=6) (r:=1000000) (by decide) (by decide) (c:=c)
  have SF:=pw (k:=14) (r:=100000000000000) (by decide) (by decide) (c:=c)
  have p18:=pw (k:=18) (r:=1000000000000000000) (by decide) (by decide) (c:=c)
  have hl:jI n (c++[.lst [.int 1000000,.int 100000000000000,.int 1000000000000000000]]):=h.app
  obtain⟨d,c1,e1,a1,a2,D1⟩:=dig hl (m:=3) (by decide) (My.Bd.mono (j:=5) ⟨by decide⟩ (by decide))
  have D0:Dn n c c1:=(show Dn n c (c++[.lst [.int 1000000,.int 100000000000000,.int 1000000000000000000]])from⟨hl,Kq.pre ⟨_,rfl⟩,by simp⟩).trans D1
  have fH:c.length≠n:=by have:=h.lt;omega
  have g1:=D1.kq _ _ (by simpa using fH) (aI (c:=c) (z:=.lst [.int 1000000,.int 100000000000000,.int 1000000000000000000]))
  have s1:=bq g1
  obtain⟨w,hw,w0,w1⟩:∃w:Int,iV [D.int 1000000,.int 100000000000000,.int 1000000000000000000] d=some (.int w)∧0<w∧w≤1000000000000000000:=by
   have:d=0∨d=1∨d=2:=by omega
   rcases this with rfl|rfl|rfl
   ·exact⟨1000000,rfl,by decide,by decide⟩
   ·exact⟨100000000000000,rfl,by decide,by decide⟩
   ·exact⟨1000000000000000000,rfl,by decide,by decide⟩
  have bw:My.Bd 8900 (2*w+1):=My.Bd.mono (j:=64) (gi (by omega)) (by decide)
  obtain⟨x,c2,jY,x0,x1,D2⟩:=dig D0.hU (m:=2*w+1) (by omega) bw
  obtain⟨y,c3,e3,y0,y1,D3⟩:=dig D2.hU (m:=2*w+1) (by omega) bw
  obtain⟨v,c4,e4,v0,v1,D4⟩:=dig D3.hU (m:=w) w0 (My.Bd.mono (j:=64) (gi (by omega)) (by decide))
  have lo:=xg (x:=x - w) (y:=y - w) (w:=1+v) (c:=c4) (by omega) (My.Bd.mono (j:=64) (gi (by omega)) (by decide))
  have m1:∀c,aP (.int 2) (.int w) c=some (.int (2*w),c):=fun c=>dh (mulL (by decide))
  refine⟨My.spT (x - w) (y - w) (1+v),[some (.ref n),B,some (.int 2),z3,z4,z5,z6,none,none,none,some (.int w),some (.int (x - w)),some (.int (y - w))],c4,?_,zZ (by omega) (My.Bd.mono (j:=64) (gi (by omega)) (by decide)) (My.Bd.mono (j:=64) (gi (by omega)) (by decide)) (My.Bd.mono (j:=64) (gi (by omega)) (by decide)),((D0.trans D2).trans D3).trans D4⟩
  erw[p6,SF,p18,e1,jr,s1,hw,m1,jY,e3,e4,lo]
 ·have hd:=decide_eq_false h2
  obtain⟨a,c1,e1,a0,a1,D1⟩:=dig h (m:=6) (by decide) (My.Bd.mono (j:=5) ⟨by decide⟩ (by decide))
  have k0:=Int.emod_nonneg K (show(2:Int)≠0 by decide)
  have k1:=Int.emod_lt_of_pos K (show(0:Int)<2 by decide)
  have hak: 0≤a*(K % 2)∧a*(K % 2)≤5:=by
   have:K % 2=0∨K % 2=1:=by omega
   rcases this with e|e<;>rw[e]<;>omega
  generalize hW: 1+a*(K % 2)=W
  have W0: 1≤W∧W≤6:=by omega
  obtain⟨x,c2,jY,x0,x1,D2⟩:=dig D1.hU (m:=7*W) (by omega) (My.Bd.mono (j:=64) (gi (by omega)) (by decide))
  obtain⟨y,c3,e3,y0,y1,D3⟩:=dig D2.hU (m:=7*W) (by omega) (My.Bd.mono (j:=64) (gi (by omega)) (by decide))
  have lo:=xg (x:=x) (y:=y) (w:=W) (c:=c3) (by omega) (My.Bd.mono (j:=64) (gi (by omega)) (by decide))
  have m1:∀c,aP (.int a) (.int (K % 2)) c=some (.int (a*(K % 2)),c):=fun c=>dh (mulL (by omega))
  have m2:∀c,aP (.int 7) (.int W) c=some (.int (7*W),c):=fun c=>dh (mulL (by decide))
  refine⟨My.spT x y W,[some (.ref n),B,some (.int K),z3,z4,z5,z6,some (.int W),none,none,none,none,none],c3,?_,zZ (by omega) (My.Bd.mono (j:=64) (gi (by omega)) (by decide)) (My.Bd.mono (j:=64) (gi (by omega)) (by decide)) (My.Bd.mono (j:=64) (gi (by omega)) (by decide)),(D1.trans D2).trans D3⟩
  erw[hd,e1,m1,hW,m2,jY,e3,lo]
noncomputable def Ko:XS:=(ay (cM (tV (e2 hZ (eV 2) (eC (.int 2)))) (ay (aH 10 (e2 aw (fC (ae (e2 kI (eC (.int 10)) (eC (.int 6))) (ae (e2 kI (eC (.int 10)) (eC (.int 14))) (ae (e2 kI (eC (.int 10)) (eC (.int 18))) ag)))) (aq ar [] (ae (eV 0) (ae (eC (.int 3)) ag))))) (ay (aH 11 (e2 fO (aq ar [] (ae (eV 0) (ae (e2 bH (e2 aP (eC (.int 2)) (eV 10)) (eC (.int 1))) ag))) (eV 10))) (ay (aH 12 (e2 fO (aq ar [] (ae (eV 0) (ae (e2 bH (e2 aP (eC (.int 2)) (eV 10)) (eC (.int 1))) ag))) (eV 10))) (aT (aq bE [] (ae (eV 11) (ae (eV 12) (ae (e2 bH (eC (.int 1)) (aq ar [] (ae (eV 0) (ae (eV 10) ag)))) ag)))))))) bA) (ay (aH 7 (e2 bH (eC (.int 1)) (e2 aP (aq ar [] (ae (eV 0) (ae (eC (.int 6)) ag))) (e2 fR (eV 2) (eC (.int 2)))))) (aT (aq bE [] (ae (aq ar [] (ae (eV 0) (ae (e2 aP (eC (.int 7)) (eV 7)) ag))) (ae (aq ar [] (ae (eV 0) (ae (e2 aP (eC (.int 7)) (eV 7)) ag))) (ae (eV 7) ag)))))))
theorem sJ:kT=ay (aH 2 (aq ar [] (ae (eV 0) (ae (eC (.int 4)) ag)))) (ay (cM (iN (tV (e2 hZ (eV 2) (eC (.int 3)))) (tV (e2 pX (eB cY (ae (eV 1) ag)) (eC (.int 0))))) (ay (rK (e2 aw (eV 1) (aq ar [] (ae (eV 0) (ae (eB cY (ae (eV 1) ag)) ag)))) (cX 2 (aK (av 3) (aK (av 4) cW)))) (ay (aH 5 (e2 bH (eC (.int 1)) (aq ar [] (ae (eV 0) (ae (eC (.int 5)) ag))))) (ay (aH 6 (e2 fO (aq ar [] (ae (eV 0) (ae (e2 bH (eV 5) (eC (.int 5))) ag))) (eC (.int 2)))) (cM (tV (e2 Ma (eB wQ (ae (e2 aw (eV 3) (eC (.int 2))) (ae (e2 aw (eV 4) (eC (.int 2))) (ae (eB l_ (ae (e2 aw (eV 3) (eC (.int 0))) ag)) (ae (eB l_ (ae (e2 aw (eV 3) (eC (.int 1))) ag)) (ae (eB l_ (ae (e2 aw (eV 4) (eC (.int 0))) ag)) (ae (eB l_ (ae (e2 aw (eV 4) (eC (.int 1))) ag)) ag))))))) (e2 kI (eC (.int 10)) (eC (.int 14))))) (ay (aH 7 (e2 aP (e2 aP (e2 aw (eV 3) (eC (.int 2))) (e2 aw (eV 4) (eC (.int 2)))) (eV 5))) (ay (qg [8,9] (ae (e2 aP (e2 fO (eV 5) (eV 6)) (e2 aw (eV 4) (eC (.int 2)))) (ae (e2 aP (eV 6) (e2 aw (eV 3) (eC (.int 2)))) ag))) (aT (aq bE [] (ae (e2 bH (e2 aP (e2 aw (eV 3) (eC (.int 0))) (eV 8)) (e2 aP (e2 aw (eV 4) (eC (.int 0))) (eV 9))) (ae (e2 bH (e2 aP (e2 aw (eV 3) (eC (.int 1))) (eV 8)) (e2 aP (e2 aw (eV 4) (eC (.int 1))) (eV 9))) (ae (eV 7) ag))))))) bA)))) bA) Ko):=rfl
theorem E_{n:Nat}{K:Int}{B z3 z4 z5 z6:Option D}{c:Cells}(h:jI n c)(hK: 0≤K):∃p σ' c',Ko [some (.ref n),B,some (.int K),z3,z4,z5,z6,none,none,none,none,none,none] c=some (.rt (sd p),σ',c')∧Ok 100 p∧Dn n c c':=SE h hK
theorem yJ{x:Int}(h:(if x<0 then -x else x)≤100000000000000):My.Bd 47 x:=⟨by
 have:(2:Nat) ^ 47=140737488355328:=by decide
 split at h<;>omega⟩
theorem SG{x:Int}(h: -15≤x)(g:x≤15):My.Bd 4 x:=⟨by
 have:(2:Nat) ^ 4=16:=by decide
 omega⟩
theorem VB{kn:Nat}{IN:List S2}{d:Int}{c:Cells}(h:c[kn]? =some (.lst (IN.map az)))(h0: 0≤d)(h1:d<IN.length):∃s∈IN,aw (.ref kn) (.int d) c=some (az s,c):=by
 obtain⟨x,hx,hm⟩:=zm (xs:=IN.map az) h0 (by simpa using h1)
 obtain⟨s,hs,rfl⟩:=List.mem_map.mp hm
 refine⟨s,hs,?_⟩
 rw[jr,bq h,Option.bind_some,hx]
 rfl
theorem Kp{n kn:Nat}{IN:List S2}{c:Cells}(h:jI n c)(hk:c[kn]? =some (.lst (IN.map az)))(fH:kn≠n)(gD:∀s∈IN,iE s)(hl:IN.length≤1000):∃p c',cH [.ref n,.ref kn] c=some (sd p,c')∧Ok 100 p∧Dn n c c':=by
 obtain⟨K,c1,e1,K0,K1,D1⟩:=dig h (m:=4) (by decide) (My.Bd.mono (j:=5) ⟨by decide⟩ (by decide))
 have DY:=D1.kq _ _ (by simpa using fH) hk
 have bl:=ot DY
 by_cases h3:K=3∧0<IN.length
 ·obtain⟨h3,hp⟩:=h3
  subst h3
  have q1:decide ((IN.length:Int) > 0)=true:=decide_eq_true (by omega)
  obtain⟨d,c2,jY,d0,d1,D2⟩:=dig D1.hU (m:=(IN.length:Int)) (by omega) (My.Bd.mono (j:=64) (gi (by omega)) (by decide))
  have mT:=D2.kq _ _ (by simpa using fH) DY
  obtain⟨s,hs,ix⟩:=VB mT d0 d1
  obtain⟨M,c3,e3,M0,M1,D3⟩:=dig D2.hU (m:=5) (by decide) (My.Bd.mono (j:=5) ⟨by decide⟩ (by decide))
  obtain⟨k,c4,e4,k0,k1,D4⟩:=dig D3.hU (m:=1+M+5) (by omega) (My.Bd.mono (j:=64) (gi (by omega)) (by decide))
  have DD:=((D1.trans D2).trans D3).trans D4
  have is:=gD s hs
  have p1:=is.ok.o1.pos
  have p2:=is.ok.o2.pos
  have VC:=pw (k:=14) (r:=100000000000000) (by decide) (by decide) (c:=c4)
  have un:∀c,cX 2 (aK (av 3) (aK (av 4) cW)) (az s) [some (.ref n),some (.ref kn),some (.int 3),none,none,none,none,none,none,none,none,none,none] c=some ([some (.ref n),some (.ref kn),some (.int 3),some (sd s.1),some (sd s.2),none,none,none,none,none,none,none,none],c):=fun _=>rfl
  have i0:∀(r:T3) c,aw (sd r) (.int 0) c=some (.int r.1,c):=fun _ _=>rfl
  have i1:∀(r:T3) c,aw (sd r) (.int 1) c=some (.int r.2.1,c):=fun _ _=>rfl
  have i2:∀(r:T3) c,aw (sd r) (.int 2) c=some (.int r.2.2,c):=fun _ _=>rfl
  have mx:∀(a b x y z w:Int) c,wQ [.int a,.int b,.int x,.int y,.int z,.int w] c=some (.int (max (max (max (max (max a b) x) y) z) w),c):=fun _ _ _ _ _ _ _=>rfl
  generalize VD:max (max (max (max (max s.1.2.2 s.2.2.2) (if s.1.1<0 then -s.1.1 else s.1.1)) (if s.1.2.1<0 then -s.1.2.1 else s.1.2.1)) (if s.2.1<0 then -s.2.1 else s.2.1)) (if s.2.2.1<0 then -s.2.2.1 else s.2.2.1)=MX
  by_cases hm:MX≤100000000000000
  ·have hd:=decide_eq_true hm
   have a1:s.1.2.2≤100000000000000:=by omega
   have a2:s.2.2.2≤100000000000000:=by omega
   have b1:=yJ (x:=s.1.1) (by omega)
   have b2:=yJ (x:=s.1.2.1) (by omega)
   have b3:=yJ (x:=s.2.1) (by omega)
   have b4:=yJ (x:=s.2.2.1) (by omega)
   have b5:=yJ (x:=s.1.2.2) (by rw[if_neg (by omega)];exact a1)
   have b6:=yJ (x:=s.2.2.2) (by rw[if_neg (by omega)];exact a2)
   have VE:My.Bd 4 (1+M - (k - 2)):=SG (by omega) (by omega)
   have VF:My.Bd 4 (k - 2):=SG (by omega) (by omega)
   have VG:My.Bd 4 (1+M):=SG (by omega) (by omega)
   have pY:=VE.mul b6
   have Nw:=VF.mul b5
   have bw:=(b5.mul b6).mul VG
   have bx:=(b1.mul pY).add (b3.mul Nw)
   have jw:=(b2.mul pY).add (b4.mul Nw)
   have w0: 0<s.1.2.2*s.2.2.2*(1+M):=Int.mul_pos (Int.mul_pos p1 p2) (by omega)
   have lo:=xg (x:=s.1.1*((1+M - (k - 2))*s.2.2.2)+s.2.1*((k - 2)*s.1.2.2)) (y:=s.1.2.1*((1+M - (k - 2))*s.2.2.2)+s.2.2.1*((k - 2)*s.1.2.2)) (w:=s.1.2.2*s.2.2.2*(1+M)) (c:=c4) w0 (bw.mono (by decide))
   have u1:∀c,aP (.int s.1.2.2) (.int s.2.2.2) c=some (.int (s.1.2.2*s.2.2.2),c):=fun c=>dh (j8 (b5.mono (by decide)) (b6.mono (by decide)))
   have u2:∀c,aP (.int (s.1.2.2*s.2.2.2)) (.int (1+M)) c=some (.int (s.1.2.2*s.2.2.2*(1+M)),c):=fun c=>dh (j8 ((b5.mul b6).mono (by decide)) (VG.mono (by decide)))
   have u3:∀c,aP (.int (1+M - (k - 2))) (.int s.2.2.2) c=some (.int ((1+M - (k - 2))*s.2.2.2),c):=fun c=>dh (j8 (VE.mono (by decide)) (b6.mono (by decide)))
   have u4:∀c,aP (.int (k - 2)) (.int s.1.2.2) c=some (.int ((k - 2)*s.1.2.2),c):=fun c=>dh (j8 (VF.mono (by decide)) (b5.mono (by decide)))
   have u5:∀c,aP (.int s.1.1) (.int ((1+M - (k - 2))*s.2.2.2)) c=some (.int (s.1.1*((1+M - (k - 2))*s.2.2.2)),c):=fun c=>dh (j8 (b1.mono (by decide)) (pY.mono (by decide)))
   have u6:∀c,aP (.int s.2.1) (.int ((k - 2)*s.1.2.2)) c=some (.int (s.2.1*((k - 2)*s.1.2.2)),c):=fun c=>dh (j8 (b3.mono (by decide)) (Nw.mono (by decide)))
   have u7:∀c,aP (.int s.1.2.1) (.int ((1+M - (k - 2))*s.2.2.2)) c=some (.int (s.1.2.1*((1+M - (k - 2))*s.2.2.2)),c):=fun c=>dh (j8 (b2.mono (by decide)) (pY.mono (by decide)))
   have u8:∀c,aP (.int s.2.2.1) (.int ((k - 2)*s.1.2.2)) c=some (.int (s.2.2.1*((k - 2)*s.1.2.2)),c):=fun c=>dh (j8 (b4.mono (by decide)) (Nw.mono (by decide)))
   refine⟨_,c4,?_,zZ w0 (bx.mono (by decide)) (jw.mono (by decide)) (bw.mono (by decide)),DD⟩
   erw[cH,sJ,e1,bl,q1,jY,ix,un,e3,e4,i0,i1,i2,mx,VD,VC,hd,u1,u2,u3,u4,u5,u6,u7,u8,lo]
  ·have hd:=decide_eq_false hm
   obtain⟨p,σ',c5,f1,f2,f3⟩:=E_ (n:=n) (K:=3) (B:=some (.ref kn)) (z3:=some (sd s.1)) (z4:=some (sd s.2)) (z5:=some (.int (1+M))) (z6:=some (.int (k - 2))) D4.hU (by decide)
   refine⟨p,c5,?_,f2,DD.trans f3⟩
   erw[cH,sJ,e1,bl,q1,jY,ix,un,e3,e4,i0,i1,i2,mx,VD,VC,hd,f1]
 ·obtain⟨p,σ',c5,f1,f2,f3⟩:=E_ (n:=n) (K:=K) (B:=some (.ref kn)) (z3:=none) (z4:=none) (z5:=none) (z6:=none) D1.hU K0
  refine⟨p,c5,?_,f2,D1.trans f3⟩
  by_cases g:K=3
  ·have q0:=decide_eq_true g
   have q1:decide ((IN.length:Int) > 0)=false:=decide_eq_false (by omega)
   erw[cH,sJ,e1,q0,bl,q1,f1]
  ·have q0:=decide_eq_false g
   erw[cH,sJ,e1,q0,f1]
noncomputable def z9:XS:=(ay (aH 2 (aq cH [] (ae (eV 0) (ae (eV 1) ag)))) (ay (aH 3 (aq cH [] (ae (eV 0) (ae (eV 1) ag)))) (ay (cM (tV (e2 hZ (eV 2) (eV 3))) (aH 3 (dI (ae (e2 bH (e2 aw (eV 2) (eC (.int 0))) (e2 aP (e2 aw (fC (ae (eC (.int 1)) (ae (e1 qi (eC (.int 1))) ag))) (eB Ep (ae (e2 pX (e2 aw (eV 2) (eC (.int 0))) (eC (.int 0))) ag))) (e2 aw (eV 2) (eC (.int 2))))) (ae (e2 aw (eV 2) (eC (.int 1))) (ae (e2 aw (eV 2) (eC (.int 2))) ag))))) bA) (aT (dI (ae (eV 2) (ae (eV 3) ag)))))))
theorem xh:kU=ay (cM (iN (tV (e2 pX (eB cY (ae (eV 1) ag)) (eC (.int 0)))) (tV (e2 hZ (aq ar [] (ae (eV 0) (ae (eC (.int 8)) ag))) (eC (.int 7))))) (ay (rK (e2 aw (eV 1) (aq ar [] (ae (eV 0) (ae (eB cY (ae (eV 1) ag)) ag)))) (cX 2 (aK (av 2) (aK (av 3) cW)))) (aT (e2 aw (fC (ae (dI (ae (eV 2) (ae (eV 3) ag))) (ae (dI (ae (eV 3) (ae (eV 2) ag))) ag))) (aq ar [] (ae (eV 0) (ae (eC (.int 2)) ag)))))) bA) z9:=rfl
theorem Kr{x y w:Int}(h:My.A9 x y w)(k:Int):My.A9 (x+k*w) y w:=by
 exact⟨h.pos,by rw[show Int.gcd (x+k*w) w=Int.gcd x w by simp];exact h.low⟩
theorem SH{n kn:Nat}{IN:List S2}{c:Cells}(h:jI n c)(hk:c[kn]? =some (.lst (IN.map az)))(fH:kn≠n)(gD:∀s∈IN,iE s)(hl:IN.length≤1000):∃s c',dC [.ref n,.ref kn] c=some (az s,c')∧iE s∧Dn n c c':=by
 have hnl:=h.lt
 have bl:=ot hk
 have draw:∀{c1:Cells},Dn n c c1→∃s c',z9 [some (.ref n),some (.ref kn),none,none] c1=some (.rt (az s),[some (.ref n),some (.ref kn),some (sd s.1),some (sd s.2)],c')∧iE s∧Dn n c c':=by
  intro c1 D1
  obtain⟨a,c2,e1,o1,D2⟩:=Kp D1.hU (D1.kq _ _ (by simpa using fH) hk) fH gD hl
  obtain⟨b,c3,jY,o2,D3⟩:=Kp D2.hU ((D1.trans D2).kq _ _ (by simpa using fH) hk) fH gD hl
  have DD:=(D1.trans D2).trans D3
  have eq:=pO (p:=a) (q:=b) (c:=c3)
  by_cases vO:a=b
  ·rw[decide_eq_true vO]at eq
   have i0:∀(r:T3) c,aw (sd r) (.int 0) c=some (.int r.1,c):=fun _ _=>rfl
   have i1:∀(r:T3) c,aw (sd r) (.int 1) c=some (.int r.2.1,c):=fun _ _=>rfl
   have i2:∀(r:T3) c,aw (sd r) (.int 2) c=some (.int r.2.2,c):=fun _ _=>rfl
   have s1:=bq (aI (c:=c3) (z:=.lst [.int 1,.int (-1)]))
   obtain⟨k,DY,mT⟩:∃k:Int,iV [D.int 1,.int (-1)] (if decide (a.1 > 0)=true then 1 else 0)=some (.int k)∧(k=1∨k= -1):=by
    by_cases g:a.1 > 0
    ·rw[if_pos (decide_eq_true g)];exact⟨-1,rfl,.inr rfl⟩
    ·rw[if_neg (by simpa using g)];exact⟨1,rfl,.inl rfl⟩
   have m1:∀c,aP (.int k) (.int a.2.2) c=some (.int (k*a.2.2),c):=fun c=>dh (mulL (by rcases mT with rfl|rfl<;>decide))
   have gx:aw (.ref c3.length) (.int (if decide (a.1 > 0)=true then 1 else 0)) (c3++[.lst [.int 1,.int (-1)]])=some (.int k,c3++[.lst [.int 1,.int (-1)]]):=by
    rw[jr,s1,Option.bind_some,DY]
    rfl
   have wp:=o1.pos
   have bk:My.Bd 100 (k*a.2.2):=by
    rcases mT with rfl|rfl
    ·rw[Int.one_mul];exact o1.bw
    ·rw[Int.neg_one_mul];exact o1.bw.neg
   refine⟨(a,(a.1+k*a.2.2,a.2.1,a.2.2)),c3++[.lst [.int 1,.int (-1)]],?_,⟨⟨o1.mono (by decide),⟨Kr o1.low k,(o1.bx.add bk).mono (by decide),o1.jw.mono (by decide),o1.bw.mono (by decide)⟩⟩,fun e=>?_⟩,DD.trans ⟨DD.hU.app,Kq.pre ⟨_,rfl⟩,by simp⟩⟩
   ·unfold z9
    erw[e1,jY,eq,i0,i1,i2,BI,gx,m1]
    rfl
   ·have e':a.1=a.1+k*a.2.2:=congrArg Prod.fst e
    rcases mT with rfl|rfl<;>omega
  ·rw[decide_eq_false vO]at eq
   refine⟨(a,b),c3,?_,⟨⟨o1.mono (by decide),o2.mono (by decide)⟩,vO⟩,DD⟩
   unfold z9
   erw[e1,jY,eq]
   rfl
 by_cases hp: 0<IN.length
 ·have q1:decide ((IN.length:Int) > 0)=true:=decide_eq_true (by omega)
  obtain⟨d,c1,e1,d0,d1,D1⟩:=dig h (m:=8) (by decide) (My.Bd.mono (j:=5) ⟨by decide⟩ (by decide))
  by_cases h7:d=7
  ·have hd:=decide_eq_true h7
   have DY:=D1.kq _ _ (by simpa using fH) hk
   have M5:=ot DY
   obtain⟨j,c2,jY,j0,j1,D2⟩:=dig D1.hU (m:=(IN.length:Int)) (by omega) (My.Bd.mono (j:=64) (gi (by omega)) (by decide))
   obtain⟨s,hs,ix⟩:=VB (D2.kq _ _ (by simpa using fH) DY) j0 j1
   have is:=gD s hs
   have un:∀c,cX 2 (aK (av 2) (aK (av 3) cW)) (az s) [some (.ref n),some (.ref kn),none,none] c=some ([some (.ref n),some (.ref kn),some (sd s.1),some (sd s.2)],c):=fun _=>rfl
   have u9:jI n (c2++[.lst [.tup [sd s.1,sd s.2],.tup [sd s.2,sd s.1]]]):=D2.hU.app
   obtain⟨t,c3,e3,t0,t1,D3⟩:=dig u9 (m:=2) (by decide) (My.Bd.mono (j:=5) ⟨by decide⟩ (by decide))
   have LH:c2.length≠n:=by have:=D2.hU.lt;omega
   have s1:=bq (D3.kq _ _ (by simpa using LH) (aI (c:=c2) (z:=.lst [.tup [sd s.1,sd s.2],.tup [sd s.2,sd s.1]])))
   have DD:Dn n c c3:=((D1.trans D2).trans ⟨u9,Kq.pre ⟨_,rfl⟩,by simp⟩).trans D3
   obtain⟨u,hu,iu⟩:∃u:S2,aw (.ref c2.length) (.int t) c3=some (az u,c3)∧iE u:=by
    have:t=0∨t=1:=by omega
    rw[jr,s1]
    rcases this with rfl|rfl
    ·exact⟨s,rfl,is⟩
    ·exact⟨(s.2,s.1),rfl,⟨⟨is.ok.o2,is.ok.o1⟩,is.ne.symm⟩⟩
   refine⟨u,c3,?_,iu,DD⟩
   erw[dC,xh,bl,q1,e1,hd,M5,jY,ix,un,e3,hu]
  ·have hd:=decide_eq_false h7
   obtain⟨s,c',f1,f2,f3⟩:=draw D1
   refine⟨s,c',?_,f2,f3⟩
   erw[dC,xh,bl,q1,e1,hd,f1]
 ·have q1:decide ((IN.length:Int) > 0)=false:=decide_eq_false (by omega)
  obtain⟨s,c',f1,f2,f3⟩:=draw (c1:=c) ⟨h,Kq.refl _ _,Nat.le_refl _⟩
  refine⟨s,c',?_,f2,f3⟩
  erw[dC,xh,bl,q1,f1]
theorem B8{α:Type}{xs:List α}{lo hi:Option Int}:(Qm.cutD xs lo hi).length≤xs.length:=by
 unfold Qm.cutD
 rw[List.length_take,List.length_drop]
 omega
theorem Ny{xs:List D}:(Qm.cutD xs (some 1) (some 11)).length≤10:=by
 unfold Qm.cutD
 have h1:Qm.wt xs.length xs.length (some 11)≤11:=by
  show(if (11:Int)<0 then((11:Int)+xs.length).toNat else min (11:Int).toNat xs.length)≤11
  rw[if_neg (by decide)]
  exact Nat.min_le_left _ _
 have h2:Qm.wt xs.length 0 (some 1)=min 1 xs.length:=by
  show(if (1:Int)<0 then((1:Int)+xs.length).toNat else min (1:Int).toNat xs.length)=_
  rw[if_neg (by decide)]
  rfl
 rw[List.length_take,List.length_drop,h2]
 omega
theorem Nz{s:Nat}{ns:List Int}{c:Cells}(hs:c[s]? =some (.ro (ns.map D.int))):∃(IN:List S2) (c':Cells),dQ [.ref s,.int 1,.int 11] c=some (.ref c.length,c')∧c <+:c'∧c'[c.length]? =some (.lst (IN.map az))∧(∀x∈IN,iE x)∧IN.length≤10:=by
 generalize hX:Qm.cutD (ns.map D.int) (some 1) (some 11)=X
 have xl:X.length≤10:=by rw[←hX];exact Ny
 have xi:∀d∈X,∃x:Int,d= .int x:=fun d hd=>by
  rw[←hX]at hd
  have:=List.mem_of_mem_drop (List.mem_of_mem_take hd)
  obtain⟨x,_,rfl⟩:=List.mem_map.mp this
  exact⟨x,rfl⟩
 have ct:eJ (.ref s) (some 1) (some 11) (c++[.lst []])=some (.ref (c++[Cell.lst []]).length,c++[.lst []]++[.lst X]):=by
  show((cE (.ref s) (c++[.lst []])).bind _)=_
  rw[yp (aY hs),Option.bind_some,hX]
 have it:fK (ae (lZ eJ (eV 0) (dO (eV 1)) (dO (eV 2))) ag) [some (.ref s),some (.int 1),some (.int 11),some (.ref c.length),none,none] (c++[.lst []])=some (⟨eD X,[((c++[Cell.lst []]).length,.lst X)]⟩,c++[.lst []]++[.lst X]):=by
  have ha:ae (lZ eJ (eV 0) (dO (eV 1)) (dO (eV 2))) ag [some (.ref s),some (.int 1),some (.int 11),some (.ref c.length),none,none] (c++[.lst []])=some ([.ref (c++[Cell.lst []]).length],c++[.lst []]++[.lst X]):=by erw[pM,ct]
  unfold fK
  rw[ha,Option.bind_some]
  dsimp only
  rw[aI,aE aI]
  rfl
 obtain⟨σ',c',e1,IN,y4,y5,rfl,p1,g1,m1,o1,l1⟩:=cf (ks:=[((c++[Cell.lst []]).length,.lst X)]) (g:=cX 2 (aK (av 4) (aK (av 5) cW))) (body:=cC (eM bM (eV 3) (ae (aq dC [] (ae (aq df [] (ae (eV 0) (ae (eV 5) (ae (eV 4) ag)))) (ae (eV 3) ag))) ag)))
  (fun i σ c'=>∃(IN:List S2) (y4 y5:Option D),σ=[some (.ref s),some (.int 1),some (.int 11),some (.ref c.length),y4,y5]∧c <+:c'∧c'[c.length]? =some (.lst (IN.map az))∧c'[(c++[Cell.lst []]).length]? =some (.lst X)∧(∀x∈IN,iE x)∧IN.length=i)
  (eD X) 0 [some (.ref s),some (.int 1),some (.int 11),some (.ref c.length),none,none] (c++[.lst []]++[.lst X])
  (fun i σ c' ⟨_,_,_,_,_,_,m1,_⟩ q hq=>by cases List.mem_singleton.mp hq;exact m1)
  (by
   rintro i d σ c' hd ⟨IN,y4,y5,fm,p1,g1,m1,o1,l1⟩
   subst fm
   rw[show 0+i=i by omega]at l1
   obtain⟨x,hx,rfl⟩:=sI hd
   obtain⟨v,rfl⟩:=xi x (List.mem_of_getElem? hx)
   have kf:=(List.getElem?_eq_some_iff.mp hx).1
   obtain⟨a,ep⟩:=Kn (x:=v) (k:=(i:Int)) (aA p1 hs) (by omega) (by omega)
   have DQ:=bp g1
   have hml:=bp m1
   obtain⟨t,c2,f1,f2,f3⟩:=SH (n:=c'.length) (kn:=c.length) (c:=c'++[.lst [.int a]]) ⟨a,aI⟩ (aY g1) (by omega) o1 (by omega)
   have g2:=f3.kq _ _ (by simp;omega) (aY (zs:=[Cell.lst [.int a]]) g1)
   have m2:=f3.kq _ _ (by simp at hml ⊢;omega) (aY (zs:=[Cell.lst [.int a]]) m1)
   have w:=aE g1
   have ap:=sr (e:=az) (x:=t) g2 (by omega)
   have p2:c <+:c2:=f3.kq.to (pre_app p1) (fun q hq=>by cases List.mem_singleton.mp hq;omega)
   refine⟨_,_,[some (.ref s),some (.int 1),some (.int 11),some (.ref c.length),some (.int (i:Int)),some (.int v)],c2.set c.length (.lst ((IN++[t]).map az)),rfl,?_,IN++[t],some (.int (i:Int)),some (.int v),rfl,mB p2 (Nat.le_refl _),iD (bp g2),cc m2 (by simp),fun y hy=>?_,by simp;omega⟩
   ·erw[w,ep,f1,ap]
   ·rcases List.mem_append.mp hy with hy|hy
    ·exact o1 y hy
    ·cases List.mem_singleton.mp hy
     exact f2)
  ⟨[],none,none,rfl,⟨[.lst [],.lst X],by simp⟩,aY aI,aI,fun _ h=>(nomatch h),rfl⟩
 have w2:=fN (g:=cX 2 (aK (av 4) (aK (av 5) cW))) (b:=cC (eM bM (eV 3) (ae (aq dC [] (ae (aq df [] (ae (eV 0) (ae (eV 5) (ae (eV 4) ag)))) (ae (eV 3) ag))) ag))) it
 rw[e1]at w2
 refine⟨IN,c',?_,p1,g1,o1,by rw[l1];simp[eD];omega⟩
 rw[dQ,jq,jQ]
 erw[Nat.zero_le,w2]
theorem VH(x y:Int):My.A9 x y 1:=⟨by decide,by simp⟩
theorem NA{x y:Int}(hx: -2000≤x∧x≤2000)(hy: -2000≤y∧y≤2000):Ok 130 (x,y,1):=⟨VH x y,My.Bd.mono (j:=64) (gi (by show x.natAbs<2 ^ 64;omega)) (by decide),My.Bd.mono (j:=64) (gi (by show y.natAbs<2 ^ 64;omega)) (by decide),My.Bd.mono (j:=64) (gi (by show(1:Int).natAbs<2 ^ 64;decide)) (by decide)⟩
theorem SI{s:Nat}{ns:List Int}{c:Cells}(hs:c[s]? =some (.ro (ns.map D.int))):∃(IN:List S2) (n:Nat) (c':Cells),eS [.ref s] c=some (.ref n,c')∧c <+:c'∧c.length≤n∧c'[n]? =some (.lst (IN.map az))∧(∀x∈IN,iE x)∧IN.length≤21:=by
 obtain⟨z,ez⟩:=DX hs (k:=1) (by decide)
 obtain⟨a,ep⟩:=Kn (x:=z) (k:=5) hs (by decide) (by decide)
 obtain⟨d,c1,u1,d0,d1,D1⟩:=dig (c:=c++[.lst [.int a]]) (n:=c.length) ⟨a,aI⟩ (m:=300) (by decide) (My.Bd.mono (j:=64) (gi (by decide)) (by decide))
 have l1:c.length<c1.length:=by have:=D1.len;simp at this;omega
 have q1:c <+:c1:=D1.kq.to (pre_app ⟨[],by simp⟩) (fun q hq=>by cases List.mem_singleton.mp hq;omega)
 have it:fY (ae (eC (.int 20)) ag) [some (.ref s),some (.ref c.length),some (.ref c1.length),none,none,none] (c1++[.lst [az ((0,0,1),(900,1+d,1))]])=some (⟨gY 0 20,[]⟩,c1++[.lst [az ((0,0,1),(900,1+d,1))]]):=sh (j:=20) rfl (by decide)
 obtain⟨σ',c',e3,IN,y3,y4,rfl,p3,P3,g3,o3,l3⟩:=cf (ks:=[]) (g:=av 3) (body:=ay (aH 4 (e2 bH (e2 aP (eC (.int 40)) (eV 3)) (aq ar [] (ae (eV 1) (ae (eC (.int 30)) ag))))) (cC (eM bM (eV 2) (ae (dI (ae (dI (ae (eV 4) (ae (e1 qi (eC (.int 9))) (ae (eC (.int 1)) ag)))) (ae (dI (ae (e2 bH (eV 4) (aq ar [] (ae (eV 1) (ae (eC (.int 60)) ag)))) (ae (eC (.int 310)) (ae (eC (.int 1)) ag)))) ag))) ag))))
  (fun i σ c'=>∃(IN:List S2) (y3 y4:Option D),σ=[some (.ref s),some (.ref c.length),some (.ref c1.length),y3,y4,none]∧c <+:c'∧jI c.length c'∧c'[c1.length]? =some (.lst (IN.map az))∧(∀x∈IN,iE x)∧IN.length=1+i)
  (gY 0 20) 0 [some (.ref s),some (.ref c.length),some (.ref c1.length),none,none,none] (c1++[.lst [az ((0,0,1),(900,1+d,1))]]) (fun _ _ _ _=>gj)
  (by
   rintro i dd σ c' hd ⟨IN,y3,y4,fm,p3,P3,g3,o3,l3⟩
   subst fm
   obtain⟨hi,rfl⟩:=sD hd
   rw[show 0+i=i by omega]at l3
   obtain⟨x,c2,f1,x0,x1,D2⟩:=dig P3 (m:=30) (by decide) (My.Bd.mono (j:=64) (gi (by decide)) (by decide))
   have g4:=D2.kq _ _ (by simp;omega) g3
   obtain⟨y,c3,f2,y0,y1,D4⟩:=dig D2.hU (m:=60) (by decide) (My.Bd.mono (j:=64) (gi (by decide)) (by decide))
   have g5:=D4.kq _ _ (by simp;omega) g4
   have w:=aE g4
   have ap:=sr (e:=az) (x:=((40*(0+(i:Int))+x,-9,1),(40*(0+(i:Int))+x+y,310,1))) g5 (by omega)
   have m1:∀c,aP (.int 40) (.int (0+(i:Int))) c=some (.int (40*(0+(i:Int))),c):=fun c=>dh (mulL (by decide))
   refine⟨_,_,[some (.ref s),some (.ref c.length),some (.ref c1.length),some (.int (0+(i:Int))),some (.int (40*(0+(i:Int))+x)),none],c3.set c1.length (.lst ((IN++[((40*(0+(i:Int))+x,-9,1),(40*(0+(i:Int))+x+y,310,1))]).map az)),rfl,?_,IN++[((40*(0+(i:Int))+x,-9,1),(40*(0+(i:Int))+x+y,310,1))],_,_,rfl,?_,?_,iD (bp g5),fun u hu=>?_,by simp;omega⟩
   ·have Sk:bM (.ref c1.length) [.tup [.tup [.int (40*(0+(i:Int))+x),.int (-9),.int 1],.tup [.int (40*(0+(i:Int))+x+y),.int 310,.int 1]]] c3=some (.bF,c3.set c1.length (.lst ((IN++[((40*(0+(i:Int))+x,-9,1),(40*(0+(i:Int))+x+y,310,1))]).map az))):=ap
    erw[m1,f1,w,f2,Sk]
   ·exact mB ((D2.trans D4).kq.to p3 (fun q hq=>by cases List.mem_singleton.mp hq;omega)) (by omega)
   ·obtain⟨v,hv⟩:=D4.hU
    exact⟨v,cc hv (by omega)⟩
   ·rcases List.mem_append.mp hu with hu|hu
    ·exact o3 u hu
    ·cases List.mem_singleton.mp hu
     exact⟨⟨NA (by omega) (by omega),NA (by omega) (by omega)⟩,fun e=>by have:=congrArg (fun r=>r.2.1) e;simp at this⟩)
  ⟨[((0,0,1),(900,1+d,1))],none,none,rfl,pre_app q1,D1.hU.app,aI,fun u hu=>by
   cases List.mem_singleton.mp hu
   exact⟨⟨NA (by omega) (by omega),NA (by omega) (by omega)⟩,fun e=>by have:=congrArg (fun r=>r.1) e;simp at this⟩,rfl⟩
 have w2:=fN (g:=av 3) (b:=ay (aH 4 (e2 bH (e2 aP (eC (.int 40)) (eV 3)) (aq ar [] (ae (eV 1) (ae (eC (.int 30)) ag))))) (cC (eM bM (eV 2) (ae (dI (ae (dI (ae (eV 4) (ae (e1 qi (eC (.int 9))) (ae (eC (.int 1)) ag)))) (ae (dI (ae (e2 bH (eV 4) (aq ar [] (ae (eV 1) (ae (eC (.int 60)) ag)))) (ae (eC (.int 310)) (ae (eC (.int 1)) ag)))) ag))) ag)))) it
 rw[e3]at w2
 have lc:(c1++[Cell.lst [az ((0,0,1),(900,1+d,1))]])=c1++[.lst [.tup [.tup [.int 0,.int 0,.int 1],.tup [.int 900,.int (1+d),.int 1]]]]:=rfl
 rw[lc]at w2
 have agF:IN.length=21:=by rw[l3];simp[gY]
 obtain⟨t,c4,f4,t0,t1,D4⟩:=dig P3 (m:=21) (by decide) (My.Bd.mono (j:=64) (gi (by decide)) (by decide))
 have g4:=D4.kq _ _ (by simp;omega) g3
 have q4:c <+:c4:=D4.kq.to p3 (fun q hq=>by cases List.mem_singleton.mp hq;omega)
 have VI:eJ (.ref c1.length) (some t) none c4=some (.ref c4.length,c4++[.lst (Qm.cutD (IN.map az) (some t) none)]):=by
  show((cE (.ref c1.length) c4).bind _)=_
  rw[bq g4,Option.bind_some]
 have VJ:eJ (.ref c1.length) none (some t) (c4++[.lst (Qm.cutD (IN.map az) (some t) none)])=some (.ref (c4++[Cell.lst (Qm.cutD (IN.map az) (some t) none)]).length,c4++[.lst (Qm.cutD (IN.map az) (some t) none)]++[.lst (Qm.cutD (IN.map az) none (some t))]):=by
  show((cE (.ref c1.length) (c4++[.lst (Qm.cutD (IN.map az) (some t) none)])).bind _)=_
  rw[bq (aY g4),Option.bind_some]
 have cm:∀lo hi:Option Int,Qm.cutD (IN.map az) lo hi=(Qm.cutD IN lo hi).map az:=fun lo hi=>by
  unfold Qm.cutD
  rw[List.length_map,←List.map_drop,←List.map_take]
 rw[cm,cm]at VJ
 rw[cm]at VI
 have la:=B8 (xs:=IN) (lo:=some t) (hi:=none)
 have lb:=B8 (xs:=IN) (lo:=none) (hi:=some t)
 have tn:t=((t.toNat:Nat):Int):=by omega
 have hA:Qm.cutD IN (some t) none=IN.drop t.toNat:=by
  have h0:Qm.wt IN.length 0 (some t)=t.toNat:=by
   show(if t<0 then(t+IN.length).toNat else min t.toNat IN.length)=_
   rw[if_neg (by omega)]
   omega
  unfold Qm.cutD
  rw[h0]
  exact List.take_of_length_le (by rw[List.length_drop];exact Nat.le_refl _)
 have hB:Qm.cutD IN none (some t)=IN.take t.toNat:=by
  have h0:Qm.wt IN.length IN.length (some t)=t.toNat:=by
   show(if t<0 then(t+IN.length).toNat else min t.toNat IN.length)=_
   rw[if_neg (by omega)]
   omega
  unfold Qm.cutD
  rw[h0]
  rfl
 have s1:=aE (aY (zs:=[Cell.lst ((Qm.cutD IN none (some t)).map az)]) (aI (c:=c4) (z:=.lst ((Qm.cutD IN (some t) none).map az))))
 have s2:=aE (aI (c:=c4++[.lst ((Qm.cutD IN (some t) none).map az)]) (z:=.lst ((Qm.cutD IN none (some t)).map az)))
 have ad:bH (.ref c4.length) (.ref (c4++[Cell.lst ((Qm.cutD IN (some t) none).map az)]).length) (c4++[.lst ((Qm.cutD IN (some t) none).map az)]++[.lst ((Qm.cutD IN none (some t)).map az)])=some (.ref (c4++[Cell.lst ((Qm.cutD IN (some t) none).map az)]++[Cell.lst ((Qm.cutD IN none (some t)).map az)]).length,c4++[.lst ((Qm.cutD IN (some t) none).map az)]++[.lst ((Qm.cutD IN none (some t)).map az)]++[.lst ((Qm.cutD IN (some t) none++Qm.cutD IN none (some t)).map az)]):=by
  show((bj (.ref c4.length) _).bind _)=_
  rw[s1,Option.bind_some]
  dsimp only
  rw[s2,Option.bind_some]
  dsimp only
  rw[if_pos (show((Qm.cutD IN (some t) none).map az).length+((Qm.cutD IN none (some t)).map az).length≤cR by rw[dR,List.length_map,List.length_map];omega),List.map_append]
 refine⟨Qm.cutD IN (some t) none++Qm.cutD IN none (some t),(c4++[Cell.lst ((Qm.cutD IN (some t) none).map az)]++[Cell.lst ((Qm.cutD IN none (some t)).map az)]).length,c4++[.lst ((Qm.cutD IN (some t) none).map az)]++[.lst ((Qm.cutD IN none (some t)).map az)]++[.lst ((Qm.cutD IN (some t) none++Qm.cutD IN none (some t)).map az)],?_,pre_app (pre_app (pre_app q4)),?_,aI,fun x hx=>?_,?_⟩
 ·erw[eS,kX,ez,ep,u1,w2,f4,pM,VI,VJ,ad]
 ·simp;have:=eP q4;omega
 ·rw[hA,hB]at hx
  rcases List.mem_append.mp hx with hx|hx
  ·exact o3 x (List.mem_of_mem_drop hx)
  ·exact o3 x (List.mem_of_mem_take hx)
 ·rw[hA,hB,List.length_append,List.length_drop,List.length_take]
  omega
theorem jW{S T:List S2}(h:∀t,t∈S↔t∈T)(s:S2)(p:T3):My.mz S s p↔My.mz T s p:=by
 unfold My.mz
 constructor
 ·rintro(a|a|⟨t,ht,r⟩)
  ·exact .inl a
  ·exact .inr (.inl a)
  ·exact .inr (.inr ⟨t,(h t).mp ht,r⟩)
 ·rintro(a|a|⟨t,ht,r⟩)
  ·exact .inl a
  ·exact .inr (.inl a)
  ·exact .inr (.inr ⟨t,(h t).mpr ht,r⟩)
theorem yK{S T:List S2}(h:∀t,t∈S↔t∈T)(s z:S2):lV S s z↔lV T s z:=
 ⟨fun k=>⟨(jW h s _).mp k.c1,(jW h s _).mp k.c2,k.lt,fun r hr=>k.no r ((jW h s r).mpr hr)⟩,fun k=>⟨(jW h s _).mpr k.c1,(jW h s _).mpr k.c2,k.lt,fun r hr=>k.no r ((jW h s r).mp hr)⟩⟩
theorem t9{S T IN:List S2}{v w:KV}(f:B2 IN S)(g:B2 IN T)(a:Out S IN v)(b:Out T IN w):keys v=keys w:=by
 have h:∀t,t∈S↔t∈T:=fun t=>(f.mem t).trans (g.mem t).symm
 refine oA B6 _ _ (sH a.yE a.nd a.ok) (sH b.yE b.nd b.ok) fun z=>?_
 rw[a.key,b.key]
 constructor
 ·rintro⟨s,hs,k⟩
  exact⟨s,(h s).mp hs,(yK h s z).mp k⟩
 ·rintro⟨s,hs,k⟩
  exact⟨s,(h s).mpr hs,(yK h s z).mpr k⟩
theorem Out.VL{S IN:List S2}{w:KV}(a:Out S IN w):Kh (keys w):=⟨a.ok,fun z hz=>by
 obtain⟨s,_,k⟩:=(a.key z).mp hz
 exact k.lt,a.yE,a.nd⟩
theorem pR{α:Type}{f:D→Option PyData}{e:α→D}{g:α→PyData}:∀(l:List α),(∀a∈l,f (e a)=some (g a))→omap f (l.map e)=some (l.map g)
 |[],_=>rfl
 |a::l,h=>by
  show((f (e a)).bind fun d=>(omap f (l.map e)).bind fun ds=>some (d::ds))=_
  rw[h a List.mem_cons_self,pR l fun b hb=>h b (List.mem_cons_of_mem _ hb)]
  rfl
def pS(s:S2):PyData:=.tuple [pd s.1,pd s.2]
theorem GP{c:Cells}{k:Nat}{s:S2}:data c (k+3) (az s)=some (pS s):=rfl
theorem kZ{c:Cells}{k n:Nat}{l:List S2}(h:c[n]? =some (.lst (l.map az))):data c (k+4) (.ref n)=some (.list (l.map pS)):=by
 rw[i4 h,pR (g:=pS) l fun a _=>GP]
 rfl
def pI(l:List Int):PyData:=.list (l.map PyData.int)
theorem m7{c:Cells}{k n:Nat}{l:List Int}(h:c[n]? =some (.lst (l.map D.int))):data c (k+2) (.ref n)=some (pI l):=by
 rw[i4 h,pR (g:=PyData.int) l fun a _=>rfl]
 rfl
theorem qI{c:Cells}{k n:Nat}{fs:List Nat}{f:Nat→List Int}(h:c[n]? =some (.lst (fs.map D.ref)))(hf:∀m∈fs,c[m]? =some (.lst ((f m).map D.int))):data c (k+3) (.ref n)=some (.list (fs.map fun m=>pI (f m))):=by
 rw[i4 h,pR (e:=D.ref) (g:=fun m=>pI (f m)) fs fun m hm=>m7 (hf m hm)]
 rfl
theorem VM{c:Cells}{n:Nat}{xs:List D}(h:c[n]? =some (.lst xs)):cq [.ref n,.ty "list"] c=some (.bl true,c):=by
 have hk:kJ "list" (.ref n) c=some true:=by
  unfold kJ
  simp[h]
 show((kJ "list" (.ref n) c).bind fun k=>some (D.bl k,c))=_
 rw[hk]
 rfl
theorem Fb:∀(n:Nat),omap kC (List.replicate n (D.bl false))=some (List.replicate n false)
 |0=>rfl
 |n+1=>by
  show((kC (D.bl false)).bind fun d=>(omap kC (List.replicate n (D.bl false))).bind fun ds=>some (d::ds))=_
  rw[Fb n]
  rfl
theorem Fc:∀(n:Nat),omap kC (List.replicate n (D.bl true))=some (List.replicate n true)
 |0=>rfl
 |n+1=>by
  show((kC (D.bl true)).bind fun d=>(omap kC (List.replicate n (D.bl true))).bind fun ds=>some (d::ds))=_
  rw[Fc n]
  rfl
theorem anyB{n:Nat}{l:List Int}{c:Cells}{σ:Qm.Env}(h:c[n]? =some (.lst (l.map D.int)))(fm:eV 5 σ c=some (.ref n,c))(hn:l.length≤1000):∃c',ed (eK (eV 5)) [none] (av 0) fB (eB cq (ae (eV 0) (ae (eC (.ty "bool")) ag))) σ c=some (.ref c.length,c')∧c <+:c'∧Be [.ref c.length] c'=some (.bl false,c'):=by
 obtain⟨vs,c1,e1,p1,g1,l1,r1⟩:=tR (te:=eB cq (ae (eV 0) (ae (eC (.ty "bool")) ag))) (g:=av 0) (cap:=[none]) (σ:=σ) (fun τ=>∃z,τ=[z]) (fun i v c'=>v= .bl false) (lE fm h) (fun p hp=>by cases List.mem_singleton.mp hp;exact h) ⟨none,rfl⟩ (fun _ _ _ _ h _=>h)
  (by
   rintro i d hd τ c' ⟨z,tU⟩ pc lc
   subst tU
   rw[List.getElem?_map]at hd
   obtain⟨x,hx,rfl⟩:=Option.map_eq_some_iff.mp hd
   have b2:cq [.int x,.ty "bool"] c'=some (.bl false,c'):=rfl
   refine⟨[some (.int x)],.bl false,[],rfl,?_,⟨_,rfl⟩,rfl⟩
   erw[b2])
  (by simp;omega)
 have hv:vs=List.replicate vs.length (D.bl false):=List.eq_replicate_iff.mpr ⟨rfl,fun b hb=>by
  obtain⟨i,hi⟩:=List.getElem?_of_mem hb
  exact r1 i b hi⟩
 refine⟨c1,e1,p1,?_⟩
 unfold Be one
 simp only[aE g1,Option.bind_some]
 rw[hv,Fb]
 simp
theorem Ks{S IN zs:List S2}{f g:Nat}{c:Cells}{σ:Qm.Env}(gD:∀s∈IN,iE s)(fw:B2 IN S)(hz:Kh zs)(hk:∀z,z∈zs↔∃s∈S,lV S s z)(hf:c[f]? =some (.lst (zs.map az)))(hg:c[g]? =some (.lst (IN.map az)))(h1:eV 1 σ c=some (.ref g,c))(h3:qh σ [none,some 3]=[none,some (.ref f)])(hn:IN.length≤1000):
  ∃c',ed (eK (eV 1)) [none,some 3] (av 0) fB (aq cI [] (ae (eV 0) (ae (eV 1) ag))) σ c=some (.ref c.length,c')∧c <+:c'∧wu [.ref c.length] c'=some (.bl true,c'):=by
 obtain⟨vs,c1,e1,p1,g1,l1,r1⟩:=tR (te:=aq cI [] (ae (eV 0) (ae (eV 1) ag))) (g:=av 0) (cap:=[none,some 3]) (σ:=σ) (fun τ=>∃z,τ=[z,some (.ref f)]) (fun i v c'=>v= .bl true) (lE h1 hg) (fun p hp=>by cases List.mem_singleton.mp hp;exact hg) ⟨none,h3⟩ (fun _ _ _ _ h _=>h)
  (by
   rintro i d hd τ c' ⟨z,tU⟩ pc lc
   subst tU
   rw[List.getElem?_map]at hd
   obtain⟨x,hx,rfl⟩:=Option.map_eq_some_iff.mp hd
   have b2:=Sz (c:=c') gD fw (List.mem_of_getElem? hx) hz hk (aA pc hf)
   refine⟨[some (az x),some (.ref f)],.bl true,[],rfl,?_,⟨_,rfl⟩,rfl⟩
   erw[b2])
  (by simp;omega)
 have hv:vs=List.replicate vs.length (D.bl true):=List.eq_replicate_iff.mpr ⟨rfl,fun b hb=>by
  obtain⟨i,hi⟩:=List.getElem?_of_mem hb
  exact r1 i b hi⟩
 refine⟨c1,e1,p1,?_⟩
 unfold wu one
 simp only[aE g1,Option.bind_some]
 rw[hv,Fc]
 simp
noncomputable abbrev SJ:XS:=cM (jX (eI (tV (eB cq (ae (eV 5) (ae (eC (.ty "list")) ag))))) (tV (eB Be (ae (ed (eK (eV 5)) [none] (av 0) fB (eB cq (ae (eV 0) (ae (eC (.ty "bool")) ag)))) ag)))) (aT (eC (.bl false))) bA
theorem NB{A0 A1 A2 A3 A6 A7 z5:Option D}{n:Nat}{fs:List Nat}{f:Nat→List Int}{c:Cells}(h:c[n]? =some (.lst (fs.map D.ref)))(hf:∀m∈fs,c[m]? =some (.lst ((f m).map D.int)))(hl:∀m∈fs,(f m).length≤1000):
  ∃z c',dJ (eK (eV 4)) (av 5) SJ [A0,A1,A2,A3,some (.ref n),z5,A6,A7] c=some (.nx,[A0,A1,A2,A3,some (.ref n),z,A6,A7],c')∧c <+:c':=by
 have it:eK (eV 4) [A0,A1,A2,A3,some (.ref n),z5,A6,A7] c=some (⟨fs.map D.ref,[(n,.lst (fs.map D.ref))]⟩,c):=lE rfl h
 obtain⟨σ',c',e1,z,rfl,p⟩:=cf (ks:=[(n,.lst (fs.map D.ref))]) (g:=av 5) (body:=SJ) (fun _ σ c'=>∃z,σ=[A0,A1,A2,A3,some (.ref n),z,A6,A7]∧c <+:c') (fs.map D.ref) 0 [A0,A1,A2,A3,some (.ref n),z5,A6,A7] c
  (fun i σ c' ⟨z,_,p⟩ q hq=>by cases List.mem_singleton.mp hq;exact aA p h)
  (by
   rintro i d σ c' hd ⟨z,fm,p⟩
   subst fm
   rw[List.getElem?_map]at hd
   obtain⟨m,hm,rfl⟩:=Option.map_eq_some_iff.mp hd
   have mm:=List.mem_of_getElem? hm
   have hc:=aA p (hf m mm)
   have il:=VM hc
   obtain⟨c2,a1,a2,a3⟩:=anyB (σ:=[A0,A1,A2,A3,some (.ref n),some (.ref m),A6,A7]) hc rfl (hl m mm)
   refine⟨_,_,[A0,A1,A2,A3,some (.ref n),some (.ref m),A6,A7],c2,rfl,?_,some (.ref m),rfl,p.trans a2⟩
   erw[il,a1,a3])
  ⟨z5,rfl,⟨[],by simp⟩⟩
 have w:=fN (g:=av 5) (b:=SJ) it
 rw[e1]at w
 exact⟨z,c',w,p⟩
noncomputable abbrev SK:XS:=cC (eM bM (eV 5) (ae (e2 bH (eC (.int 99)) (eV 7)) ag))
theorem SM{A0 A1 A2 A3 A6 z5 z7:Option D}{n:Nat}{fs:List Nat}{f:Nat→List Int}{c:Cells}(h:c[n]? =some (.lst (fs.map D.ref)))(hf:∀m∈fs,c[m]? =some (.lst ((f m).map D.int)))(hl:∀m∈fs,(f m).length≤1000)(nd:fs.Nodup)(hn:n∉fs):
  ∃y5 y7 c',dJ (fK (ae (eV 4) ag)) (cX 2 (aK (av 7) (aK (av 5) cW))) SK [A0,A1,A2,A3,some (.ref n),z5,A6,z7] c=some (.nx,[A0,A1,A2,A3,some (.ref n),y5,A6,y7],c')∧Kq fs c c'∧(∀(i m:Nat),fs[i]? =some m→c'[m]? =some (.lst ((f m++[99+(i:Int)]).map D.int)))∧c'.length=c.length:=by
 have it:fK (ae (eV 4) ag) [A0,A1,A2,A3,some (.ref n),z5,A6,z7] c=some (⟨eD (fs.map D.ref),[(n,.lst (fs.map D.ref))]⟩,c):=by
  have ha:ae (eV 4) ag [A0,A1,A2,A3,some (.ref n),z5,A6,z7] c=some ([.ref n],c):=by erw[]
  unfold fK
  rw[ha,Option.bind_some]
  dsimp only
  rw[h,aE h]
  rfl
 obtain⟨σ',c',e1,y5,y7,rfl,k1,r1,r2,l1⟩:=cf (ks:=[(n,.lst (fs.map D.ref))]) (g:=cX 2 (aK (av 7) (aK (av 5) cW))) (body:=SK)
  (fun i σ c'=>∃y5 y7,σ=[A0,A1,A2,A3,some (.ref n),y5,A6,y7]∧Kq fs c c'∧(∀(j m:Nat),fs[j]? =some m→j<i→c'[m]? =some (.lst ((f m++[99+(j:Int)]).map D.int)))∧(∀(j m:Nat),fs[j]? =some m→i≤j→c'[m]? =some (.lst ((f m).map D.int)))∧c'.length=c.length)
  (eD (fs.map D.ref)) 0 [A0,A1,A2,A3,some (.ref n),z5,A6,z7] c
  (fun i σ c' ⟨_,_,_,k1,_⟩ q hq=>by cases List.mem_singleton.mp hq;exact k1 _ _ hn h)
  (by
   rintro i d σ c' hd ⟨y5,y7,fm,k1,r1,r2,l1⟩
   subst fm
   rw[show 0+i=i by omega]at r1 r2
   obtain⟨x,hx,rfl⟩:=sI hd
   rw[List.getElem?_map]at hx
   obtain⟨m,hm,rfl⟩:=Option.map_eq_some_iff.mp hx
   have mm:=List.mem_of_getElem? hm
   have hc:=r2 i m hm (Nat.le_refl _)
   have w:=aE hc
   have ap:=sr (e:=D.int) (x:=99+(i:Int)) hc (by have:=hl m mm;omega)
   refine⟨_,_,[A0,A1,A2,A3,some (.ref n),some (.ref m),A6,some (.int (i:Int))],c'.set m (.lst ((f m++[99+(i:Int)]).map D.int)),rfl,?_,some (.ref m),some (.int (i:Int)),rfl,fun j z hj e=>cc (k1 j z hj e) (fun q=>hj (by rw[q];exact mm)),fun j q hj fZ=>?_,fun j q hj hle=>?_,by rw[List.length_set];exact l1⟩
   ·erw[w,ap]
   ·rw[show 0+i+1=i+1 by omega]at fZ
    by_cases e:j=i
    ·subst e
     rw[hm]at hj
     cases hj
     exact iD (bp hc)
    ·refine cc (r1 j q hj (by omega)) fun z=>e ?_
     subst z
     exact(List.getElem?_inj (List.getElem?_eq_some_iff.mp hj).1 nd).mp (hj.trans hm.symm)
   ·rw[show 0+i+1=i+1 by omega]at hle
    refine cc (r2 j q hj (by omega)) fun z=>?_
    subst z
    have:=(List.getElem?_inj (List.getElem?_eq_some_iff.mp hj).1 nd).mp (hj.trans hm.symm)
    omega)
  ⟨z5,z7,rfl,Kq.refl _ _,fun j m _ h=>absurd h (by omega),fun j m hj _=>hf m (List.mem_of_getElem? hj),rfl⟩
 have w:=fN (g:=cX 2 (aK (av 7) (aK (av 5) cW))) (b:=SK) it
 rw[e1]at w
 refine⟨y5,y7,c',w,k1,fun i m hm=>r1 i m hm ?_,l1⟩
 have:=(List.getElem?_eq_some_iff.mp hm).1
 simp[eD]
 exact this
theorem sL{f:D→Option PyData}:∀(vs:List D) (gs:List PyData),vs.length=gs.length→(∀(i:Nat) v g,vs[i]? =some v→gs[i]? =some g→f v=some g)→omap f vs=some gs
 |[],gs,hl,_=>by
  cases gs with
  |nil=>rfl
  |cons _ _=>simp at hl
 |v::vs,gs,hl,h=>by
  cases gs with
  |nil=>simp at hl
  |cons g gs=>
   show((f v).bind fun d=>(omap f vs).bind fun ds=>some (d::ds))=_
   rw[h 0 v g rfl rfl,sL vs gs (by simpa using hl) fun i w k h1 h2=>h (i+1) w k (by simpa using h1) (by simpa using h2)]
   rfl
def grown(rows:List (List Int)):List PyData:=rows.zipIdx.map fun p=>pI (p.1++[99+(p.2:Int)])
theorem yL{rows:List (List Int)}{i:Nat}{g:PyData}(h:(grown rows)[i]? =some g):∃r,rows[i]? =some r∧g=pI (r++[99+(i:Int)]):=by
 unfold grown at h
 rw[List.getElem?_map,List.getElem?_zipIdx]at h
 cases q:rows[i]? with
 |none=>rw[q]at h;cases h
 |some x=>rw[q]at h;simp at h;exact⟨x,rfl,h.symm⟩
theorem SN{n:Nat}{fs:List Nat}{f:Nat→List Int}{c:Cells}{σ:Qm.Env}(h:c[n]? =some (.lst (fs.map D.ref)))(hf:∀m∈fs,c[m]? =some (.lst ((f m).map D.int)))(hl:∀m∈fs,(f m).length≤1000)(h6:eV 6 σ c=some (.ref n,c))(hn:fs.length≤1000000):
  ∃c',ed (fK (ae (eV 6) ag)) [none,none] (cX 2 (aK (av 0) (aK (av 1) cW))) fB (e2 bH (eV 1) (fC (ae (e2 bH (eC (.int 99)) (eV 0)) ag))) σ c=some (.ref c.length,c')∧c <+:c'∧data c' 60 (.ref c.length)=some (.list (grown (fs.map f))):=by
 have it:fK (ae (eV 6) ag) σ c=some (⟨eD (fs.map D.ref),[(n,.lst (fs.map D.ref))]⟩,c):=by
  have ha:ae (eV 6) ag σ c=some ([.ref n],c):=by
   rw[EW,h6]
   rfl
  unfold fK
  rw[ha,Option.bind_some]
  dsimp only
  rw[h,aE h]
  rfl
 obtain⟨vs,c1,e1,p1,g1,l1,r1⟩:=tR (te:=e2 bH (eV 1) (fC (ae (e2 bH (eC (.int 99)) (eV 0)) ag))) (g:=cX 2 (aK (av 0) (aK (av 1) cW))) (cap:=[none,none]) (σ:=σ) (fun τ=>∃y z,τ=[y,z]) (fun i v c'=>∃k m,v= .ref k∧c.length<k∧fs[i]? =some m∧c'[k]? =some (.lst ((f m++[99+(i:Int)]).map D.int))) it (fun p hp=>by cases List.mem_singleton.mp hp;exact h) ⟨none,none,rfl⟩
  (fun i v c1 c2 ⟨k,m,h1,h2,h3,h4⟩ fr=>⟨k,m,h1,h2,h3,fr k _ (by omega) h4⟩)
  (by
   rintro i d hd τ c' ⟨y,z,tU⟩ pc lc
   subst tU
   obtain⟨x,hx,rfl⟩:=sI hd
   rw[List.getElem?_map]at hx
   obtain⟨m,hm,rfl⟩:=Option.map_eq_some_iff.mp hx
   have mm:=List.mem_of_getElem? hm
   have hc:=aA pc (hf m mm)
   have s1:=aE (aY (zs:=[Cell.lst [.int (99+(i:Int))]]) hc)
   have s2:=aE (aI (c:=c') (z:=.lst [.int (99+(i:Int))]))
   have ad:bH (.ref m) (.ref c'.length) (c'++[.lst [.int (99+(i:Int))]])=some (.ref (c'++[Cell.lst [.int (99+(i:Int))]]).length,c'++[.lst [.int (99+(i:Int))]]++[.lst ((f m++[99+(i:Int)]).map D.int)]):=by
    show((bj (.ref m) _).bind _)=_
    rw[s1,Option.bind_some]
    dsimp only
    rw[s2,Option.bind_some]
    dsimp only
    rw[if_pos (show((f m).map D.int).length+ [D.int (99+(i:Int))].length≤cR by rw[dR,List.length_map];have:=hl m mm;simp;omega),List.map_append]
    rfl
   refine⟨[some (.int (i:Int)),some (.ref m)],.ref (c'++[Cell.lst [.int (99+(i:Int))]]).length,[.lst [.int (99+(i:Int))],.lst ((f m++[99+(i:Int)]).map D.int)],rfl,?_,⟨_,_,rfl⟩,_,m,rfl,by simp;omega,hm,by simp⟩
   erw[ad]
   simp)
  (by simp[eD];omega)
 refine⟨c1,e1,p1,?_⟩
 rw[i4 g1,sL vs (grown (fs.map f)) (by rw[l1];simp[eD,grown]) fun i v g hv hg=>?_]
 ·rfl
 ·obtain⟨k,m,rfl,_,hm,hc⟩:=r1 i v hv
  obtain⟨r,hr,rfl⟩:=yL hg
  rw[List.getElem?_map,hm]at hr
  cases hr
  exact m7 hc
theorem begin_(ns:List Int):∃(IN:List S2) (g:Nat) (c1 c2:Cells),aH 1 (aq dQ [] (ae (eV 0) (ae (eC (.int 1)) (ae (eC (.int 11)) ag)))) [some (.ref 0),none,none,none,none,none,none,none] [.ro (ns.map D.int)]=some (.nx,[some (.ref 0),some (.ref 1),none,none,none,none,none,none],c1)∧
  cM (tV (e2 hZ (e2 fR (e2 gZ (aq cS [] (ae (eV 0) (ae (eC (.int 0)) ag))) (eC (.int 2))) (eC (.int 8))) (eC (.int 5)))) (aH 1 (aq eS [] (ae (eV 0) ag))) bA [some (.ref 0),some (.ref 1),none,none,none,none,none,none] c1=some (.nx,[some (.ref 0),some (.ref g),none,none,none,none,none,none],c2)∧c2[g]? =some (.lst (IN.map az))∧(∀x∈IN,iE x)∧IN.length≤21:=by
 have hs:([.ro (ns.map D.int)]:Cells)[0]? =some (.ro (ns.map D.int)):=rfl
 obtain⟨IN,c1,Dw,p1,g1,o1,l1⟩:=Nz hs
 have Jf:=aA p1 hs
 obtain⟨z,ez⟩:=DX Jf (k:=0) (by decide)
 have yi:dQ [.ref 0,.int 1,.int 11] [.ro (ns.map D.int)]=some (.ref 1,c1):=Dw
 have BR:c1[1]? =some (.lst (IN.map az)):=g1
 have fd:gZ (.int z) (.int 2) c1=some (.int (z / 2),c1):=vI (by decide) (My.Bd.mono (j:=5) ⟨by decide⟩ (by decide))
 by_cases h5:z / 2 % 8=5
 ·have hd:=decide_eq_true h5
  obtain⟨IN2,n,c2,f1,_,_,f4,f5,f6⟩:=SI Jf
  refine⟨IN2,n,c1,c2,(by erw[yi]),?_,f4,f5,f6⟩
  erw[ez,fd,hd,f1]
 ·have hd:=decide_eq_false h5
  refine⟨IN,1,c1,c1,(by erw[yi]),?_,BR,o1,by omega⟩
  erw[ez,fd,hd]
def rowOf(IN:List S2)(w:KV)(m:Nat):List Int:=match w.find? fun x=>decide (x.2.1=m)with
 |some x=>gQ IN x.1
 |none=>[]
theorem sM{IN:List S2}:∀{w:KV},(ids w).Nodup→∀x∈w,rowOf IN w x.2.1=gQ IN x.1
 |[],_,x,hx=>nomatch hx
 |y::w,nd,x,hx=>by
  have kg:y.2.1∉ids w∧(ids w).Nodup:=by simpa[ids]using nd
  unfold rowOf
  rw[List.find?_cons]
  rcases List.mem_cons.mp hx with rfl|hV
  ·simp
  ·have ne:y.2.1≠x.2.1:=fun e=>kg.1 (by rw[e];exact List.mem_map_of_mem hV)
   simp only[ne,decide_false]
   exact sM (w:=w) kg.2 x hV
theorem t_{IN:List S2}{w:KV}(nd:(ids w).Nodup):(ids w).map (rowOf IN w)=(keys w).map (gQ IN):=by
 unfold ids keys
 rw[List.map_map,List.map_map]
 exact List.map_congr_left fun x hx=>sM nd x hx
open Classical in
theorem Kt{x y:D}{c:Cells}{p q:PyData}(hx:data c 60 x=some p)(hy:data c 60 y=some q)(h:p=q):Bn x y c=some (.bl true,c)∧yc x y c=some (.bl false,c):=by
 subst h
 unfold Bn yc Bm
 rw[hx,hy]
 simp
theorem GR(x y:Nat)(hn:x≠y)(ns:List Int)(h:ns.length≤63):∃c,qF x y [.ref 0] [.ro (ns.map Qm.D.int)]=some (.bl true,c):=by
 obtain⟨IN,g,c1,c2,b1,b2,hg,gD,hl⟩:=begin_ ns
 have lg:=bp hg
 have bl:qA [.ref g] c2=some (.ref c2.length,c2++[.lst (IN.map az)]):=by
  unfold qA one
  show(cE (D.ref g) c2).bind _=_
  rw[bq hg]
  rfl
 have hh:(c2++[Cell.lst (IN.map az)])[c2.length]? =some (.lst (IN.map az)):=aI
 obtain⟨S,w,n3,c4,e3,p4,l3,g3,f3,o3,w3⟩:=B4 hn hh gD (by omega)
 have NC:=aA p4 hh
 have VN:=aA p4 (aY hg)
 obtain⟨S',w',n4,c5,e4,p5,l4,g4,r4,Ku,f4,o4,w4⟩:=E6 hn NC gD (by omega)
 have ND:=aA p5 g3
 obtain⟨c6,e5,p6⟩:=zX o3.VL ND (by simp[keys];omega)
 have VO:=aA p6 g4
 have il:=VM VO
 have hh6:=aA p6 (aA p5 NC)
 have VP:=aA p6 (aA p5 VN)
 have nw:=(Kt (c:=c6) (kZ (k:=56) hh6) (kZ (k:=56) VP) rfl).2
 have rf:∀m∈ids w',c5[m]? =some (.lst ((rowOf IN w' m).map D.int)):=fun m hm=>by
  obtain⟨v,hv,rfl⟩:=List.mem_map.mp hm
  show c5[v.2.1]? =some (.lst ((rowOf IN w' v.2.1).map D.int))
  rw[sM Ku v hv]
  exact(r4 v hv).2.2
 have rl:∀m∈ids w',(rowOf IN w' m).length≤1000:=fun m hm=>by
  obtain⟨v,hv,rfl⟩:=List.mem_map.mp hm
  show(rowOf IN w' v.2.1).length≤1000
  rw[sM Ku v hv]
  have:=t7 IN v.1 IN.length
  exact Nat.le_trans this (by omega)
 obtain⟨z5,c7,e6,p7⟩:=NB (A0:=some (.ref 0)) (A1:=some (.ref g)) (A2:=some (.ref c2.length)) (A3:=some (.ref n3)) (A6:=none) (A7:=none) (z5:=none) VO (fun m hm=>aA p6 (rf m hm)) rl
 have SO:=p6.trans p7
 obtain⟨DZ,c8,e7,p8,g8,l8,i8,r8⟩:=B7 (f:=n3) (g:=g) (c:=c7) gD o3.ok (aA SO ND) (aA p7 VP) (by omega) (by simp[keys];omega)
 have Kv:=SO.trans p8
 have kk:=t9 f3 f4 o3 o4
 have d4:data c8 60 (.ref n4)=some (.list ((ids w').map fun m=>pI (rowOf IN w' m))):=qI (k:=57) (aA Kv g4) fun m hm=>aA Kv (rf m hm)
 have d6:data c8 60 (.ref c7.length)=some (.list ((keys w).map fun z=>pI (gQ IN z))):=by
  rw[i4 g8,sL (DZ.map D.ref) ((keys w).map fun z=>pI (gQ IN z)) (by simp[l8]) fun i v q hv hq=>?_]
  ·rfl
  ·rw[List.getElem?_map]at hv hq
   obtain⟨m,hm,rfl⟩:=Option.map_eq_some_iff.mp hv
   obtain⟨z,hz,rfl⟩:=Option.map_eq_some_iff.mp hq
   exact m7 (r8 i m z hm hz)
 have de:(PyData.list ((ids w').map fun m=>pI (rowOf IN w' m)))= .list ((keys w).map fun z=>pI (gQ IN z)):=by
  have:=congrArg (List.map pI) (t_ (IN:=IN) Ku)
  rw[List.map_map,List.map_map]at this
  rw[kk]
  exact congrArg PyData.list this
 have nw2:=(Kt d4 d6 de).2
 obtain⟨c9,e8,p9,al⟩:=Ks (σ:=[some (.ref 0),some (.ref g),some (.ref c2.length),some (.ref n3),some (.ref n4),z5,some (.ref c7.length),none]) (c:=c8) gD f3 o3.VL o3.key (aA Kv ND) (aA Kv (aA p5 VN)) rfl rfl (by omega)
 have Kw:=Kv.trans p9
 have VQ:n4∉ids w':=fun hm=>by
  obtain⟨v,hv,e⟩:=List.mem_map.mp hm
  exact(r4 v hv).2.1 e
 obtain⟨y5,y7,NF,e9,D5,Gj,SR⟩:=SM (A0:=some (.ref 0)) (A1:=some (.ref g)) (A2:=some (.ref c2.length)) (A3:=some (.ref n3)) (A6:=some (.ref c7.length)) (z5:=z5) (z7:=none) (f:=rowOf IN w') (aA Kw g4) (fun m hm=>aA Kw (rf m hm)) rl Ku VQ
 have O4:∀m∈ids w',m<c5.length:=fun m hm=>bp (rf m hm)
 have l57:=eP SO
 have VR:c7.length∉ids w':=fun hm=>by have:=O4 _ hm;omega
 have VT:∀m∈DZ,∃r:List Int,c8[m]? =some (.lst (r.map D.int))∧r.length≤1000:=fun m hm=>by
  obtain⟨i,hi⟩:=List.getElem?_of_mem hm
  have li:i<(keys w).length:=by
   have:=(List.getElem?_eq_some_iff.mp hi).1
   omega
  refine⟨_,r8 i m _ hi (List.getElem?_eq_getElem li),?_⟩
  have:=t7 IN (keys w)[i] IN.length
  exact Nat.le_trans this (by omega)
 obtain⟨f6,NG⟩:∃f6:Nat→List Int,∀m∈DZ,c8[m]? =some (.lst ((f6 m).map D.int))∧(f6 m).length≤1000:=by
  classical
  refine⟨fun m=>if q:∃r:List Int,c8[m]? =some (.lst (r.map D.int))∧r.length≤1000 then q.choose else [],fun m hm=>?_⟩
  have q:=VT m hm
  simp only[dif_pos q]
  exact q.choose_spec
 have m6:DZ.map f6=(keys w).map (gQ IN):=by
  refine List.ext_getElem? fun i=>?_
  rw[List.getElem?_map,List.getElem?_map]
  by_cases li:i<DZ.length
  ·have li2:i<(keys w).length:=by omega
   have a:=List.getElem?_eq_getElem li
   have b:=List.getElem?_eq_getElem li2
   rw[a,b]
   have u:=(NG _ (List.getElem_mem li)).1
   rw[r8 i _ _ a b]at u
   injection u with u
   injection u with u
   have inj:Function.Injective D.int:=fun _ _ h=>by injection h
   exact congrArg some ((List.map_inj_right (fun _ _ h=>inj h)).mp u).symm
  ·rw[List.getElem?_eq_none (by omega),List.getElem?_eq_none (by omega)]
   rfl
 have k6:∀m∈DZ,m∉ids w':=fun m hm hi=>by
  have:=O4 _ hi
  have:=i8 m hm
  omega
 have VU:=D5 _ _ VR (aA p9 g8)
 obtain⟨xQ,e10,Kx,VV⟩:=SN (σ:=[some (.ref 0),some (.ref g),some (.ref c2.length),some (.ref n3),some (.ref n4),y5,some (.ref c7.length),y7]) (f:=f6) VU (fun m hm=>D5 _ _ (k6 m hm) (aA p9 (NG m hm).1)) (fun m hm=>(NG m hm).2) rfl (by rw[l8];simp[keys];omega)
 rw[m6]at VV
 have Ky:NF[n4]? =some (.lst ((ids w').map D.ref)):=D5 _ _ VQ (aA Kw g4)
 have xN:data xQ 60 (.ref n4)=some (.list (grown ((keys w).map (gQ IN)))):=by
  rw[i4 (aA Kx Ky),sL ((ids w').map D.ref) (grown ((keys w).map (gQ IN))) ?_ fun i v q hv hq=>?_]
  ·rfl
  ·rw[kk];simp[grown,ids,keys]
  ·rw[List.getElem?_map]at hv
   obtain⟨m,hm,rfl⟩:=Option.map_eq_some_iff.mp hv
   obtain⟨r,hr,rfl⟩:=yL hq
   rw[kk,←t_ Ku,List.getElem?_map,hm]at hr
   injection hr with hr
   subst hr
   exact m7 (aA Kx (Gj i m hm))
 have nw3:=(Kt xN VV rfl).2
 have lh4:=bp NC
 have SS:=bp g3
 have l45:=eP p5
 have n45:=bp g4
 have O5:∀m∈ids w',c4.length≤m:=fun m hm=>by
  obtain⟨v,hv,rfl⟩:=List.mem_map.mp hm
  exact(r4 v hv).1
 have cl:vw (.ref n4) [] xQ=some (.bF,xQ.set n4 (.lst [])):=by
  show(bj (.ref n4) xQ).bind _=_
  rw[aE (aA Kx Ky)]
  rfl
 have keep:∀{j:Nat}{z:Cell},j∉ids w'→j≠n4→c9[j]? =some z→(xQ.set n4 (.lst []))[j]? =some z:=fun hj hn e=>cc (aA Kx (D5 _ _ hj e)) hn
 have O6:=keep (fun hm=>by have:=O5 _ hm;omega) (by omega) (aA Kw (aA p5 NC))
 have VW:=keep (fun hm=>by have:=O5 _ hm;omega) (by omega) (aA Kw ND)
 have VX:=keep VR (by omega) (aA p9 g8)
 have VY:∀m∈DZ,(xQ.set n4 (.lst []))[m]? =some (.lst ((f6 m).map D.int)):=fun m hm=>keep (k6 m hm) (by have:=i8 m hm;omega) (aA p9 (NG m hm).1)
 obtain⟨S2',w2,n7,D6,e12,NH,l7,g7,r7,VZ,f7,o7,w7⟩:=E6 hn O6 gD (by omega)
 obtain⟨S3,w5,n8,GS,e13,SF,l8',g8',f8,o8,w8⟩:=B4 hn (aA NH O6) gD (by omega)
 have k2:=t9 f3 f7 o3 o7
 have k3:=t9 f3 f8 o3 o8
 have d7:data D6 60 (.ref n7)=some (.list ((keys w).map fun z=>pI (gQ IN z))):=by
  have rf7:∀m∈ids w2,D6[m]? =some (.lst ((rowOf IN w2 m).map D.int)):=fun m hm=>by
   obtain⟨v,hv,rfl⟩:=List.mem_map.mp hm
   show D6[v.2.1]? =some (.lst ((rowOf IN w2 v.2.1).map D.int))
   rw[sM VZ v hv]
   exact(r7 v hv).2.2
  rw[qI (k:=57) g7 rf7]
  have:=congrArg (List.map pI) (t_ (IN:=IN) VZ)
  rw[List.map_map,List.map_map]at this
  rw[k2]
  exact congrArg (fun l=>some (PyData.list l)) this
 have d8:data D6 60 (.ref c7.length)=some (.list ((keys w).map fun z=>pI (gQ IN z))):=by
  rw[qI (k:=57) (aA NH VX) fun m hm=>aA NH (VY m hm)]
  have:=congrArg (List.map pI) m6
  rw[List.map_map,List.map_map]at this
  exact congrArg (fun l=>some (PyData.list l)) this
 have q1:=(Kt d7 d8 rfl).1
 have q2:=(Kt (c:=GS) (kZ (k:=56) g8') (kZ (k:=56) (aA SF (aA NH VW))) (by rw[k3])).1
 refine⟨GS,?_⟩
 have s1:∀{a b:XS}{σ σ':Qm.Env}{c c':Cells},a σ c=some (.nx,σ',c')→ay a b σ c=b σ' c':=fun {a b σ σ' c c'} h=>by
  unfold ay
  rw[h]
  rfl
 have t1:∀{σ:Qm.Env}{c:Cells}{k:Nat}{e:XE}{v:D}{c':Cells},e σ c=some (v,c')→aH k e σ c=some (.nx,σ.set k (some v),c'):=fun {σ c k e v c'} h=>by
  unfold aH
  rw[h]
  rfl
 have i1:∀{σ:Qm.Env}{c:Cells}{t:XT}{a:XS}{c':Cells},t σ c=some (false,c')→cM t a bA σ c=some (.nx,σ,c'):=fun {σ c t a c'} h=>by
  unfold cM
  rw[h]
  rfl
 have big:∃σ,tP x y [some (.ref 0),none,none,none,none,none,none,none] [.ro (ns.map Qm.D.int)]=some (.rt (.bl true),σ,GS):=by
  refine⟨[some (.ref 0),some (.ref g),some (.ref c2.length),some (.ref n3),some (.ref n4),y5,some (.ref c7.length),y7],?_⟩
  rw[tP,s1 b1,s1 b2]
  rw[s1 (t1 (v:=.ref c2.length) (c':=c2++[.lst (IN.map az)]) (by erw[bl]))]
  rw[s1 (t1 (v:=.ref n3) (c':=c4) (by erw[e3]))]
  rw[s1 (t1 (v:=.ref n4) (c':=c5) (by erw[e4]))]
  rw[s1 (i1 (c':=c6) (by erw[e5,il,nw]))]
  refine(s1 e6).trans ?_
  rw[s1 (t1 (v:=.ref c7.length) (c':=c8) (by erw[e7]))]
  rw[s1 (i1 (c':=c9) (by erw[nw2,e8,al]))]
  refine(s1 e9).trans ?_
  rw[s1 (i1 (c':=xQ) (by erw[e10,nw3]))]
  erw[aE (aA Kx Ky),cl,e12,q1,e13,q2]
 obtain⟨σ,big⟩:=big
 rw[qF]
 unfold ef
 rw[if_pos (show [D.ref 0].length=1 from rfl)]
 show(tP x y [some (.ref 0),none,none,none,none,none,none,none] _).bind _=_
 rw[big]
 rfl
end zM
set_option maxHeartbeats 4000000
namespace zM
open PySem L2
open PyProof.Rows
local macro_rules|`(tactic|walk_at "sc")=>`(tactic|exact⟨rfl,rfl,rfl,by decide +kernel,rfl,by decide +kernel,by decide +kernel⟩)
def top(i:Nat):Stmt:=PySem.Challenge.pw_sheetlay_k32_sides_made_of_pieces.main.body.getD i (.Pass ⟨0,0,0,0⟩)
set_option genInjectivity false in
structure V0 where
 qJ:Addr
 qK:FuncData
 z_:Addr
 vM:FuncData
 NI:Tok
 oC:Addr
 oD:FuncData
 cJ:Addr
 xj:FuncData
 qL:Addr
 qM:FuncData
 Aa:Addr
 Ab:FuncData
 Ac:Addr
 Ad:FuncData
 aW:Addr
 lH:FuncData
 ua:Addr
 ub:FuncData
 jC:Addr
 jD:FuncData
 oE:Addr
 oF:FuncData
 qN:Addr
 qO:FuncData
 qP:Addr
 qQ:FuncData
 oG:Addr
 oH:FuncData
 i5:Addr
 i6:FuncData
 oI:Addr
 oJ:FuncData
 uc:Addr
 ud:FuncData
 xk:Addr
 xm:FuncData
 lI:Addr
 lJ:FuncData
 g9:Addr
 g_:FuncData
 D7:Addr
 D8:FuncData
 ue:Addr
 uf:FuncData
 kj:Addr
 kl:FuncData
 oK:Addr
 oM:FuncData
 m8:Addr
 m9:FuncData
 oN:Addr
 oO:FuncData
 lK:Addr
 lL:FuncData
 oR:Addr
 oS:FuncData
 oT:Addr
 oU:FuncData
 m_:Addr
 ng:FuncData
 oV:Addr
 oW:FuncData
 lM:Addr
 lN:FuncData
 ug:Addr
 uh:FuncData
 km:Addr
 ko:FuncData
 iG:Addr
 iH:FuncData
 kr:Addr
 ku:FuncData
 nh:Addr
 ni:FuncData
 oX:Addr
 oY:FuncData
 D9:Addr
 xn:FuncData
structure Txt(K:PySem.W.Frag)(mg:Str→Option Value)(t:V0):Prop where
 eZ:d_ K "divisor" "divisor" (top 1) t.qJ t.qK
 xp:mg "divisor" =some (.ref t.qJ)
 xq:Binds K t.qK ["n","m"] []
 kN:x9 K "spot" "spot" (top 3) t.z_ t.vM
 NJ:mg "spot" =some (.ref t.z_)
 NK:Binds K t.vM ["x","y","w"] []
 V2:Binds K t.vM ["x","y","w"] [Value.int 1 t.NI]
 gk:d_ K "is_below" "is_below" (top 4) t.oC t.oD
 B9:mg "is_below" =some (.ref t.oC)
 B_:Binds K t.oD ["p","q"] []
 br:d_ K "ahead" "ahead" (top 5) t.cJ t.xj
 iI:mg "ahead" =some (.ref t.cJ)
 iJ:Binds K t.xj ["p","q"] []
 cP:d_ K "crossed" "crossed" (top 6) t.qL t.qM
 nq:mg "crossed" =some (.ref t.qL)
 nt:Binds K t.qM ["p","q"] []
 jO:d_ K "sign" "sign" (top 7) t.Aa t.Ab
 NL:mg "sign" =some (.ref t.Aa)
 NM:Binds K t.Ab ["n"] []
 iz:d_ K "turn" "turn" (top 8) t.Ac t.Ad
 Fd:mg "turn" =some (.ref t.Ac)
 Fe:Binds K t.Ad ["a","b","c"] []
 dv:d_ K "loop_ahead" "loop_ahead" (top 21) t.aW t.lH
 xR:mg "loop_ahead" =some (.ref t.aW)
 xS:Binds K t.lH ["one","other"] []
 hJ:d_ K "merged" "merged" (top 9) t.ua t.ub
 GU:mg "merged" =some (.ref t.ua)
 GV:Binds K t.ub ["left","right","first"] []
 cN:d_ K "merged_pairs" "merged_pairs" (top 10) t.jC t.jD
 vh:mg "merged_pairs" =some (.ref t.jC)
 vi:Binds K t.jD ["runs","first"] []
 cG:d_ K "in_order" "in_order" (top 11) t.oE t.oF
 oZ:mg "in_order" =some (.ref t.oE)
 o6:Binds K t.oF ["some","first"] []
 cg:d_ K "forward" "forward" (top 13) t.qN t.qO
 nu:mg "forward" =some (.ref t.qN)
 nv:Binds K t.qO ["side"] []
 dS:d_ K "on_side" "on_side" (top 14) t.qP t.qQ
 D_:mg "on_side" =some (.ref t.qP)
 Ea:Binds K t.qQ ["p","side"] []
 et:d_ K "turns_to" "turns_to" (top 15) t.oG t.oH
 uQ:mg "turns_to" =some (.ref t.oG)
 uR:Binds K t.oH ["side","other"] []
 dr:d_ K "common_in_row" "common_in_row" (top 16) t.i5 t.i6
 uj:mg "common_in_row" =some (.ref t.i5)
 uk:Binds K t.i6 ["one","other"] []
 gq:d_ K "crossing" "crossing" (top 17) t.oI t.oJ
 Ca:mg "crossing" =some (.ref t.oI)
 Cb:Binds K t.oJ ["one","other"] []
 el:d_ K "common" "common" (top 18) t.uc t.ud
 GW:mg "common" =some (.ref t.uc)
 GX:Binds K t.ud ["one","other"] []
 iA:d_ K "along" "along" (top 19) t.xk t.xm
 Kz:mg "along" =some (.ref t.xk)
 KA:Binds K t.xm ["side","some"] []
 eE:d_ K "corners_on" "corners_on" (top 23) t.lI t.lJ
 xT:mg "corners_on" =some (.ref t.lI)
 xU:Binds K t.lJ ["sides"] []
 cQ:d_ K "numbers_by_side" "numbers_by_side" (top 24) t.g9 t.g_
 qR:mg "numbers_by_side" =some (.ref t.g9)
 qS:Binds K t.g_ ["sides"] []
 lD:d_ K "cut" "cut" (top 25) t.D7 t.D8
 KC:mg "cut" =some (.ref t.D7)
 KD:Binds K t.D8 ["sides"] []
 gC:d_ K "pieces" "pieces" (top 26) t.ue t.uf
 yM:mg "pieces" =some (.ref t.ue)
 yN:Binds K t.uf ["sides"] []
 c_:d_ K "piece_paper" "piece_paper" (top 27) t.kj t.kl
 o9:mg "piece_paper" =some (.ref t.kj)
 o_:Binds K t.kl ["sides"] []
 cS:d_ K "_law_cell" "_law_cell" (top 29) t.oK t.oM
 pb:mg "_law_cell" =some (.ref t.oK)
 pf:Binds K t.oM ["_law_script","_law_k"] []
 ar:d_ K "_law_digit" "_law_digit" (top 30) t.m8 t.m9
 bC:mg "_law_digit" =some (.ref t.m8)
 bD:Binds K t.m9 ["_law_pool_here","_law_many"] []
 df:d_ K "_law_pool" "_law_pool" (top 31) t.oN t.oO
 uS:mg "_law_pool" =some (.ref t.oN)
 uT:Binds K t.oO ["_law_script","_law_cell_here","_law_k"] []
 bE:d_ K "_law_lowest" "_law_lowest" (top 32) t.lK t.lL
 lO:mg "_law_lowest" =some (.ref t.lK)
 lP:Binds K t.lL ["_law_x","_law_y","_law_w"] []
 cH:d_ K "_law_spot" "_law_spot" (top 33) t.oR t.oS
 uU:mg "_law_spot" =some (.ref t.oR)
 uV:Binds K t.oS ["_law_pool_here","_law_known"] []
 dC:d_ K "_law_side" "_law_side" (top 34) t.oT t.oU
 Cc:mg "_law_side" =some (.ref t.oT)
 Cd:Binds K t.oU ["_law_pool_here","_law_known"] []
 dQ:d_ K "_law_sides" "_law_sides" (top 35) t.m_ t.ng
 Ae:mg "_law_sides" =some (.ref t.m_)
 Af:Binds K t.ng ["_law_script","_law_first","_law_last"] []
 gr:d_ K "_law_turn" "_law_turn" (top 36) t.oV t.oW
 Ce:mg "_law_turn" =some (.ref t.oV)
 Cf:Binds K t.oW ["_law_a","_law_b","_law_c"] []
 aN:d_ K "_law_before" "_law_before" (top 37) t.lM t.lN
 eF:mg "_law_before" =some (.ref t.lM)
 eG:Binds K t.lN ["_law_p","_law_q"] []
 bU:d_ K "_law_on" "_law_on" (top 38) t.ug t.uh
 pT:mg "_law_on" =some (.ref t.ug)
 pU:Binds K t.uh ["_law_p","_law_side_here"] []
 bR:d_ K "_law_is_spot" "_law_is_spot" (top 39) t.km t.ko
 ph:mg "_law_is_spot" =some (.ref t.km)
 pj:Binds K t.ko ["_law_p"] []
 dc:d_ K "_law_are_pieces" "_law_are_pieces" (top 40) t.iG t.iH
 sN:mg "_law_are_pieces" =some (.ref t.iG)
 sO:Binds K t.iH ["_law_found"] []
 cI:d_ K "_law_is_made" "_law_is_made" (top 41) t.kr t.ku
 xr:mg "_law_is_made" =some (.ref t.kr)
 xt:Binds K t.ku ["_law_side_here","_law_found"] []
 ff:d_ K "_law_paper" "_law_paper" (top 42) t.nh t.ni
 Ag:mg "_law_paper" =some (.ref t.nh)
 Ah:Binds K t.ni ["_law_found","_law_sides_here"] []
 eS:d_ K "_law_comb" "_law_comb" (top 43) t.oX t.oY
 Cg:mg "_law_comb" =some (.ref t.oX)
 Ci:Binds K t.oY ["_law_script"] []
 qF:d_ K "law" "law" (top 44) t.D9 t.xn
 SU:mg "law" =some (.ref t.D9)
 aeO:Binds K t.xn ["_law_script"] []
 lQ:mg "abs" =none
 xu:mg "all" =none
 Ai:mg "any" =none
 sP:mg "bool" =none
 vN:mg "dict" =none
 fq:mg "enumerate" =none
 xw:mg "int" =none
 cK:mg "isinstance" =none
 gv:mg "len" =none
 fW:mg "list" =none
 Aj:mg "max" =none
 iK:mg "range" =none
 pV:mg "sorted" =none
 pz:mg "tuple" =none
 qT:mg "zip" =none
section
open L2.Zu
variable{P:Program}{w:World}{K:PySem.W.Frag}{mg:Str→Option Value}{base:Heap}{t:V0}
theorem k_:aQ ["n","m","rest"] ["n","m"] (ao (top 1)):=by walk_at "sc"
theorem uW(T:Txt K mg t):bK P w K mg base dm 1 t.qJ t.qK ["n","m"] (dG K eZ):=by
 refine T.eZ.eQ (n:=2) (m:=3) (B:=mV) k_ rfl rfl (by decide) rfl fun bL A outer s H E hr=>?_
 unfold mV
 exact(ak (ml PassesOwn.never (bI (jN hr.units) tF (qv 1) ai (bc _)) (ak (aJ (i:=2) k_.nd rfl (Or.inl rfl) (aB gM i9 (qv 0) (qv 1)))
   (ak (aJ (i:=0) k_.nd rfl (Or.inl rfl) (qv 1))
   (au (aJ (i:=1) k_.nd rfl (Or.inl rfl) (qv 2))))))
   (au (aD (aV iR mP (by rfl) T.lQ mK (af (qv 0) aj)))))
theorem xx:aQ ["x","y","w","shared"] ["x","y","w"] (ao (top 3)):=by walk_at "sc"
theorem KG(T:Txt K mg t):bK P w K mg base dm 2 t.z_ t.vM ["x","y","w"] (dG K kN):=by
 refine T.kN.eQ (n:=3) (m:=4) (B:=si) xx rfl rfl (by decide) rfl fun bL A outer s H E hr=>?_
 unfold si
 exact(ak (aJ (i:=3) xx.nd rfl (Or.inl rfl) (bG (uW T) T.xp T.eZ.kp T.xq (hr.mono (by decide)) (af (bG (uW T) T.xp T.eZ.kp T.xq (hr.mono (by decide)) (af (qv 0) (af (qv 2) aj))) (af (qv 1) aj))))
   (ak (cA (bI sZ tu (qv 2) ai (bc _)) (au (aJ (i:=3) xx.nd rfl (Or.inl rfl) (rO (qv 3)))) ba)
   (au (aD (dE (af (aB hC jk (qv 0) (qv 3)) (af (aB hC jk (qv 1) (qv 3)) (af (aB hC jk (qv 2) (qv 3)) aj))))))))
theorem Ak:aQ ["p","q"] ["p","q"] (ao (top 4)):=by walk_at "sc"
theorem Al(T:Txt K mg t):bK P w K mg base dm 1 t.oC t.oD ["p","q"] (dG K gk):=by
 refine T.gk.eQ (n:=2) (m:=2) (B:=kO) Ak rfl rfl (by decide) rfl fun bL A outer s H E hr=>?_
 unfold kO
 exact(au (aD (kL sZ tu (aB aM aX (aZ 0 ai) (aZ 1 ai)) (aB aM aX (aZ 1 ai) (aZ 0 ai)) (bc _))))
theorem um:aQ ["p","q","one","other"] ["p","q"] (ao (top 5)):=by walk_at "sc"
theorem gE(T:Txt K mg t):bK P w K mg base dm 2 t.cJ t.xj ["p","q"] (dG K br):=by
 refine T.br.eQ (n:=2) (m:=4) (B:=oq) um rfl rfl (by decide) rfl fun bL A outer s H E hr=>?_
 unfold oq
 exact(ak (aJ (i:=2) um.nd rfl (Or.inl rfl) (aB aM aX (aZ 0 ai) (aZ 1 ai)))
   (ak (aJ (i:=3) um.nd rfl (Or.inl rfl) (aB aM aX (aZ 1 ai) (aZ 0 ai)))
   (ak (cA (bI (eO hr.units) iq (qv 2) (qv 3) (bc _)) (au (aD (bG (Al T) T.B9 T.gk.kp T.B_ (hr.mono (by decide)) (af (qv 0) (af (qv 1) aj))))) ba)
   (au (aD (kL sZ tu (qv 2) (qv 3) (bc _)))))))
theorem Cj:aQ ["p","q"] ["p","q"] (ao (top 6)):=by walk_at "sc"
theorem lh(T:Txt K mg t):bK P w K mg base dm 1 t.qL t.qM ["p","q"] (dG K cP):=by
 refine T.cP.eQ (n:=2) (m:=2) (B:=j9) Cj rfl rfl (by decide) rfl fun bL A outer s H E hr=>?_
 unfold j9
 exact(au (aD (dE (af (aB gR gU (aB aM aX (aZ 0 ai) (aZ 1 ai)) (aB aM aX (aZ 0 ai) (aZ 1 ai))) (af (aB gR gU (aB aM aX (aZ 0 ai) (aZ 1 ai)) (aB aM aX (aZ 0 ai) (aZ 1 ai))) (af (aB gR gU (aB aM aX (aZ 0 ai) (aZ 1 ai)) (aB aM aX (aZ 0 ai) (aZ 1 ai))) aj))))))
theorem KH:aQ ["n"] ["n"] (ao (top 7)):=by walk_at "sc"
theorem KI(T:Txt K mg t):bK P w K mg base dm 1 t.Aa t.Ab ["n"] (dG K jO):=by
 refine T.jO.eQ (n:=1) (m:=1) (B:=pJ) KH rfl rfl (by decide) rfl fun bL A outer s H E hr=>?_
 unfold pJ
 exact(ak (cA (bI mH mO (qv 0) ai (bc _)) (au (aD ai)) ba)
   (ak (cA (bI sZ tu (qv 0) ai (bc _)) (au (aD (rO ai))) ba)
   (au (aD ai))))
theorem Ck:aQ ["a","b","c","row"] ["a","b","c"] (ao (top 8)):=by walk_at "sc"
theorem Cm(T:Txt K mg t):bK P w K mg base dm 2 t.Ac t.Ad ["a","b","c"] (dG K iz):=by
 refine T.iz.eQ (n:=3) (m:=4) (B:=vJ) Ck rfl rfl (by decide) rfl fun bL A outer s H E hr=>?_
 unfold vJ
 exact(ak (aJ (i:=3) Ck.nd rfl (Or.inl rfl) (bG (lh T) T.nq T.cP.kp T.nt (hr.mono (by decide)) (af (qv 0) (af (qv 1) aj))))
   (au (aD (bG (KI T) T.NL T.jO.kp T.NM (hr.mono (by decide)) (af (aB cu cU (aB cu cU (aB aM aX (aZ 3 ai) (aZ 2 ai)) (aB aM aX (aZ 3 ai) (aZ 2 ai))) (aB aM aX (aZ 3 ai) (aZ 2 ai))) aj)))))
theorem kx:aQ ["one","other","p","q"] ["one","other"] (ao (top 21)):=by walk_at "sc"
theorem xy(T:Txt K mg t):bK P w K mg base dm 3 t.aW t.lH ["one","other"] (dG K dv):=by
 refine T.dv.eQ (n:=2) (m:=4) (B:=jb) kx rfl rfl (by decide) rfl fun bL A outer s H E hr=>?_
 unfold jb
 exact(ak (dX PassesOwn.never rfl (Mn (by rfl) T.qT (af (qv 0) (af (qv 1) aj))) (ip rfl (bT (aS (i:=2) kx.nd rfl (Or.inl rfl)) (bT (aS (i:=3) kx.nd rfl (Or.inl rfl)) gc))) (au (cA (bI (jN hr.units) tF (qv 2) (qv 3) (bc _)) (au (aD (bG (gE T) T.iI T.br.kp T.iJ (hr.mono (by decide)) (af (qv 2) (af (qv 3) aj))))) ba)))
   (au (aD ij)))
theorem ky:aQ ["left","right","first","row","k","thing"] ["left","right","first"] (ao (top 9)):=by walk_at "sc"
theorem Eb(T:Txt K mg t):bK P w K mg base dm 4 t.ua t.ub ["left","right","first"] (dG K (hJ t.cJ t.aW)):=by
 refine T.hJ.eQ (n:=3) (m:=6) (B:=(pK t.cJ t.aW)) ky rfl rfl (by decide) rfl fun bL A outer s H E hr=>?_
 unfold pK
 exact(ak (aJ (i:=3) ky.nd rfl (Or.inl rfl) (eU aj))
   (ak (aJ (i:=4) ky.nd rfl (Or.inl rfl) ai)
   (ak (dX PassesOwn.never rfl (gd (qv 1)) (aS (i:=5) ky.nd rfl (Or.inl rfl)) (ak (ml PassesOwn.never (PW.pt (pE (bI sZ tu (qv 4) (aV bS fT (by rfl) T.gv fQ (af (qv 0) aj)) (bc _)) (mf (gW (cF (FZ _ (yh (gE T) (hr.mono (by decide)) T.br.kp T.iJ (yh (xy T) (hr.mono (by decide)) T.dv.kp T.xS Jr)) (qv 2) (af (qv 5) (af (dB (qv 0) (qv 4) (fun _ _=>rfl)) aj)))))))) (ak (er (mh PySem.F.slot_list_append PySem.F.type_list_append eA eX (qv 3) (af (dB (qv 0) (qv 4) (fun _ _=>rfl)) aj)))
   (au (aJ (i:=4) ky.nd rfl (Or.inl rfl) (aB cu cU (qv 4) ai)))))
   (au (er (mh PySem.F.slot_list_append PySem.F.type_list_append eA eX (qv 3) (af (qv 5) aj))))))
   (ak (er (mh PySem.F.slot_list_extend PySem.F.type_list_extend v_ wz (qv 3) (af (hG (qv 0) (ik (qv 4)) j5) aj)))
   (au (aD (qv 3)))))))
theorem mE:aQ ["runs","first","pairs"] ["runs","first"] (ao (top 10)):=by walk_at "sc"
theorem uo(T:Txt K mg t):bK P w K mg base dm 5 t.jC t.jD ["runs","first"] (dG K (cN t.cJ t.aW)):=by
 refine T.cN.eQ (n:=2) (m:=3) (B:=(fF t.cJ t.aW)) mE rfl rfl (by decide) rfl fun bL A outer s H E hr=>?_
 unfold fF
 exact(ak (wD (i:=2) (N':=["k","first","runs"]) (cap:=[none,some 1,some 0]) (jK (sc:=ao (top 10)) (NN:=["runs","first","pairs"]) rfl rfl rfl (by decide +kernel) (by decide +kernel) (by decide +kernel) (by decide +kernel)) rfl (Dj (by rfl) T.iK (af ai (af (aB gR gU (aV bS fT (by rfl) T.gv fQ (af (qv 0) aj)) ai) (af ai aj)))) (fun _ _ _ _=>(aS (i:=0) (show List.Nodup (["k","first","runs"]:List Str)by decide +kernel) rfl (Or.inl rfl))) (fun _ _ _ _=>eY) (fun _ _ _ _=>(bG (Eb T) T.GU T.hJ.kp T.GV (hr.mono (by decide)) (af (dB (qv 2) (qv 0) (fun _ _=>rfl)) (af (dB (qv 2) (aB cu cU (qv 0) ai) (fun _ _=>rfl)) (af (qv 1) aj))))) mE.nd rfl (Or.inl rfl) (by rfl))
   (ak (cA (bI (eO hr.units) iq (aB gM i9 (aV bS fT (by rfl) T.gv fQ (af (qv 0) aj)) ai) ai (bc _)) (au (er (mh PySem.F.slot_list_append PySem.F.type_list_append eA eX (qv 2) (af (dB (qv 0) (rO ai) (fun _ _=>rfl)) aj)))) ba)
   (au (aD (qv 2)))))
theorem ny:aQ ["some","first","runs"] ["some","first"] (ao (top 11)):=by walk_at "sc"
theorem nA(T:Txt K mg t):bK P w K mg base dm 6 t.oE t.oF ["some","first"] (dG K (cG t.cJ t.aW)):=by
 refine T.cG.eQ (n:=2) (m:=3) (B:=(js t.cJ t.aW)) ny rfl rfl (by decide) rfl fun bL A outer s H E hr=>?_
 unfold js
 exact(ak (wD (i:=2) (N':=["thing"]) (cap:=[none]) (jK (sc:=ao (top 11)) (NN:=["some","first","runs"]) rfl rfl rfl (by decide +kernel) (by decide +kernel) (by decide +kernel) (by decide +kernel)) rfl (gd (qv 0)) (fun _ _ _ _=>(aS (i:=0) (show List.Nodup (["thing"]:List Str)by decide +kernel) rfl (Or.inl rfl))) (fun _ _ _ _=>eY) (fun _ _ _ _=>(eU (af (qv 0) aj))) ny.nd rfl (Or.inl rfl) (by rfl))
   (ak (ml PassesOwn.never (bI mH mO (aV bS fT (by rfl) T.gv fQ (af (qv 2) aj)) ai (bc _)) (au (aJ (i:=2) ny.nd rfl (Or.inl rfl) (bG (uo T) T.vh T.cN.kp T.vi (hr.mono (by decide)) (af (qv 2) (af (qv 1) aj))))))
   (au (aD (pD (bI (eO hr.units) iq (aV bS fT (by rfl) T.gv fQ (af (qv 2) aj)) ai (bc _)) (aZ 2 ai) (eU aj))))))
theorem Cn:aQ ["side"] ["side"] (ao (top 13)):=by walk_at "sc"
theorem lj(T:Txt K mg t):bK P w K mg base dm 3 t.qN t.qO ["side"] (dG K cg):=by
 refine T.cg.eQ (n:=1) (m:=1) (B:=j_) Cn rfl rfl (by decide) rfl fun bL A outer s H E hr=>?_
 unfold j_
 exact(ak (cA (cF (bG (gE T) T.iI T.br.kp T.iJ (hr.mono (by decide)) (af (aZ 0 ai) (af (aZ 0 ai) aj)))) (au (aD (qv 0))) ba)
   (au (aD (dE (af (aZ 0 ai) (af (aZ 0 ai) aj))))))
theorem uX:aQ ["p","side","ends"] ["p","side"] (ao (top 14)):=by walk_at "sc"
theorem Co(T:Txt K mg t):bK P w K mg base dm 4 t.qP t.qQ ["p","side"] (dG K dS):=by
 refine T.dS.eQ (n:=2) (m:=3) (B:=iY) uX rfl rfl (by decide) rfl fun bL A outer s H E hr=>?_
 unfold iY
 exact(ak (cA (bI (jN hr.units) tF (bG (Cm T) T.Fd T.iz.kp T.Fe (hr.mono (by decide)) (af (aZ 1 ai) (af (aZ 1 ai) (af (qv 0) aj)))) ai (bc _)) (au (aD ij)) ba)
   (ak (aJ (i:=2) uX.nd rfl (Or.inl rfl) (bG (lj T) T.nu T.cg.kp T.nv (hr.mono (by decide)) (af (qv 1) aj)))
   (au (aD (rP (rQ (bG (gE T) T.iI T.br.kp T.iJ (hr.mono (by decide)) (af (qv 0) (af (aZ 2 ai) aj)))) (vB (rQ (bG (gE T) T.iI T.br.kp T.iJ (hr.mono (by decide)) (af (aZ 2 ai) (af (qv 0) aj))))))))))
theorem Am:aQ ["side","other"] ["side","other"] (ao (top 15)):=by walk_at "sc"
theorem sQ(T:Txt K mg t):bK P w K mg base dm 3 t.oG t.oH ["side","other"] (dG K et):=by
 refine T.et.eQ (n:=2) (m:=2) (B:=kQ) Am rfl rfl (by decide) rfl fun bL A outer s H E hr=>?_
 unfold kQ
 exact(au (aD (mn (N':=["p","side"]) (cap:=[none,some 0]) (jK (sc:=ao (top 15)) (NN:=["side","other"]) rfl rfl rfl (by decide +kernel) (by decide +kernel) (by decide +kernel) (by decide +kernel)) rfl (Es (qv 1)) (fun _ _ _ _=>(aS (i:=0) (show List.Nodup (["p","side"]:List Str)by decide +kernel) rfl (Or.inl rfl))) (fun _ _ _ _=>eY) (fun _ _ _ _=>(bG (Cm T) T.Fd T.iz.kp T.Fe (hr.mono (by decide)) (af (aZ 1 ai) (af (aZ 1 ai) (af (qv 0) aj))))))))
theorem eu:aQ ["one","other","left","right","p","q"] ["one","other"] (ao (top 16)):=by walk_at "sc"
theorem sR(T:Txt K mg t):bK P w K mg base dm 4 t.i5 t.i6 ["one","other"] (dG K dr):=by
 refine T.dr.eQ (n:=2) (m:=6) (B:=gB) eu rfl rfl (by decide) rfl fun bL A outer s H E hr=>?_
 unfold gB
 exact(ak (aJ (i:=2) eu.nd rfl (Or.inl rfl) (bG (lj T) T.nu T.cg.kp T.nv (hr.mono (by decide)) (af (qv 0) aj)))
   (ak (aJ (i:=3) eu.nd rfl (Or.inl rfl) (bG (lj T) T.nu T.cg.kp T.nv (hr.mono (by decide)) (af (qv 1) aj)))
   (ak (aJ (i:=4) eu.nd rfl (Or.inl rfl) (pD (cF (bG (gE T) T.iI T.br.kp T.iJ (hr.mono (by decide)) (af (aZ 2 ai) (af (aZ 3 ai) aj)))) (aZ 3 ai) (aZ 2 ai)))
   (ak (aJ (i:=5) eu.nd rfl (Or.inl rfl) (pD (cF (bG (gE T) T.iI T.br.kp T.iJ (hr.mono (by decide)) (af (aZ 2 ai) (af (aZ 3 ai) aj)))) (aZ 2 ai) (aZ 3 ai)))
   (ak (cA (bI (eO hr.units) iq (qv 4) (qv 5) (bc _)) (au (aD (dE (af zj (af (qv 4) aj))))) ba)
   (au (aD (pD (cF (bG (gE T) T.iI T.br.kp T.iJ (hr.mono (by decide)) (af (qv 4) (af (qv 5) aj)))) (dE (af zj (af (qv 4) (af (qv 5) aj)))) zi))))))))
theorem sS:aQ ["one","other","meet"] ["one","other"] (ao (top 17)):=by walk_at "sc"
theorem An(T:Txt K mg t):bK P w K mg base dm 3 t.oI t.oJ ["one","other"] (dG K gq):=by
 refine T.gq.eQ (n:=2) (m:=3) (B:=kR) sS rfl rfl (by decide) rfl fun bL A outer s H E hr=>?_
 unfold kR
 exact(ak (aJ (i:=2) sS.nd rfl (Or.inl rfl) (bG (lh T) T.nq T.cP.kp T.nt (hr.mono (by decide)) (af (bG (lh T) T.nq T.cP.kp T.nt (hr.mono (by decide)) (af (aZ 0 ai) (af (aZ 0 ai) aj))) (af (bG (lh T) T.nq T.cP.kp T.nt (hr.mono (by decide)) (af (aZ 1 ai) (af (aZ 1 ai) aj))) aj))))
   (au (aD (bG (KG T) T.NJ T.kN.kp T.NK (hr.mono (by decide)) (af (aZ 2 ai) (af (aZ 2 ai) (af (aZ 2 ai) aj)))))))
theorem qU:aQ ["one","other","turns","back"] ["one","other"] (ao (top 18)):=by walk_at "sc"
theorem Ec(T:Txt K mg t):bK P w K mg base dm 5 t.uc t.ud ["one","other"] (dG K el):=by
 refine T.el.eQ (n:=2) (m:=4) (B:=iZ) qU rfl rfl (by decide) rfl fun bL A outer s H E hr=>?_
 unfold iZ
 exact(ak (aJ (i:=2) qU.nd rfl (Or.inl rfl) (bG (sQ T) T.uQ T.et.kp T.uR (hr.mono (by decide)) (af (qv 0) (af (qv 1) aj))))
   (ak (cA (bI (eO hr.units) iq (qv 2) (eU (af ai (af ai aj))) (bc _)) (au (aD (bG (sR T) T.uj T.dr.kp T.uk (hr.mono (by decide)) (af (qv 0) (af (qv 1) aj))))) ba)
   (ak (aJ (i:=3) qU.nd rfl (Or.inl rfl) (bG (sQ T) T.uQ T.et.kp T.uR (hr.mono (by decide)) (af (qv 1) (af (qv 0) aj))))
   (ak (cA (PW.pt (ly (bI mH mO (aB aM aX (aZ 2 ai) (aZ 2 ai)) ai (bc _)) (kM (bI mH mO (aB aM aX (aZ 3 ai) (aZ 3 ai)) ai (bc _))))) (au (aD zi)) ba)
   (au (aD (dE (af zj (af (bG (An T) T.Ca T.gq.kp T.Cb (hr.mono (by decide)) (af (qv 0) (af (qv 1) aj))) aj)))))))))
theorem uq:aQ ["side","some","found","p"] ["side","some"] (ao (top 19)):=by walk_at "sc"
theorem GY(T:Txt K mg t):bK P w K mg base dm 7 t.xk t.xm ["side","some"] (dG K (iA t.cJ t.aW)):=by
 refine T.iA.eQ (n:=2) (m:=4) (B:=(sj t.cJ t.aW)) uq rfl rfl (by decide) rfl fun bL A outer s H E hr=>?_
 unfold sj
 exact(ak (aJ (i:=2) uq.nd rfl (Or.inl rfl) Ga)
   (ak (dX PassesOwn.never rfl (gd (qv 1)) (aS (i:=3) uq.nd rfl (Or.inl rfl)) (au (cA (cF (bG (Co T) T.D_ T.dS.kp T.Ea (hr.mono (by decide)) (af (qv 3) (af (qv 0) aj)))) (au (Gb hr.units (qv 2) (qv 3) ij)) ba)))
   (ak (cA (cF (bG (gE T) T.iI T.br.kp T.iJ (hr.mono (by decide)) (af (aZ 0 ai) (af (aZ 0 ai) aj)))) (au (aD (bG (nA T) T.oZ T.cG.kp T.o6 (hr.mono (by decide)) (af (eW (uN rfl) wN (by rfl) T.fW gN (af (qv 2) aj)) (af (I8 (by rfl) T.iI) aj))))) ba)
   (au (aD (bG (nA T) T.oZ T.cG.kp T.o6 (hr.mono (by decide)) (af (eW (uN rfl) wN (by rfl) T.fW gN (af (qv 2) aj)) (af I9 aj))))))))
theorem gw:aQ ["sides","found","k","j","met"] ["sides"] (ao (top 23)):=by walk_at "sc"
theorem xA(T:Txt K mg t):bK P w K mg base dm 6 t.lI t.lJ ["sides"] (dG K eE):=by
 refine T.eE.eQ (n:=1) (m:=5) (B:=jc) gw rfl rfl (by decide) rfl fun bL A outer s H E hr=>?_
 unfold jc
 exact(ak (wD (i:=1) (N':=["side"]) (cap:=[none]) (jK (sc:=ao (top 23)) (NN:=["sides","found","k","j","met"]) rfl rfl rfl (by decide +kernel) (by decide +kernel) (by decide +kernel) (by decide +kernel)) rfl (gd (qv 0)) (fun _ _ _ _=>(aS (i:=0) (show List.Nodup (["side"]:List Str)by decide +kernel) rfl (Or.inl rfl))) (fun _ _ _ _=>eY) (fun _ _ _ _=>(eW qe Bh (by rfl) T.fW gN (af (qv 0) aj))) gw.nd rfl (Or.inl rfl) (by rfl))
   (ak (dX PassesOwn.never rfl (j6 (by rfl) T.iK (af (aV bS fT (by rfl) T.gv fQ (af (qv 0) aj)) aj)) (aS (i:=2) gw.nd rfl (Or.inl rfl)) (au (dX PassesOwn.never rfl (j6 (by rfl) T.iK (af (qv 2) aj)) (aS (i:=3) gw.nd rfl (Or.inl rfl)) (ak (aJ (i:=4) gw.nd rfl (Or.inl rfl) (bG (Ec T) T.GW T.el.kp T.GX (hr.mono (by decide)) (af (dB (qv 0) (qv 3) (fun _ _=>rfl)) (af (dB (qv 0) (qv 2) (fun _ _=>rfl)) aj))))
   (au (cA (bI Hs IL (qv 4) zi (bc _)) (ak (er (mh PySem.F.slot_list_extend PySem.F.type_list_extend BA BB (dB (qv 1) (qv 3) (fun _ _=>rfl)) (af (hG (qv 4) (ik ai) j5) aj)))
   (au (er (mh PySem.F.slot_list_extend PySem.F.type_list_extend BA BB (dB (qv 1) (qv 2) (fun _ _=>rfl)) (af (hG (qv 4) (ik ai) j5) aj))))) ba))))))
   (au (aD (qv 1)))))
theorem gL:aQ ["sides","found","k"] ["sides"] (ao (top 24)):=by walk_at "sc"
theorem qa(T:Txt K mg t):bK P w K mg base dm 4 t.g9 t.g_ ["sides"] (dG K cQ):=by
 refine T.cQ.eQ (n:=1) (m:=3) (B:=e_) gL rfl rfl (by decide) rfl fun bL A outer s H E hr=>?_
 unfold e_
 exact(ak (aJ (i:=1) gL.nd rfl (Or.inl rfl) yg)
   (ak (dX PassesOwn.never rfl (j6 (by rfl) T.iK (af (aV bS fT (by rfl) T.gv fQ (af (qv 0) aj)) aj)) (aS (i:=2) gL.nd rfl (Or.inl rfl)) (au (er (mh PySem.F.slot_list_append PySem.F.type_list_append eA eX (wM hr.units (qv 1) (bG (lj T) T.nu T.cg.kp T.nv (hr.mono (by decide)) (af (dB (qv 0) (qv 2) (fun _ _=>rfl)) aj))) (af (qv 2) aj)))))
   (au (aD (qv 1)))))
theorem ll:aQ ["sides","lying","numbers","found","side","corners","spots","piece"] ["sides"] (ao (top 25)):=by walk_at "sc"
theorem Ff(T:Txt K mg t):bK P w K mg base dm 8 t.D7 t.D8 ["sides"] (dG K (lD t.cJ t.aW)):=by
 refine T.lD.eQ (n:=1) (m:=8) (B:=(zN t.cJ t.aW)) ll rfl rfl (by decide) rfl fun bL A outer s H E hr=>?_
 unfold zN
 exact(ak (aJ (i:=1) ll.nd rfl (Or.inr rfl) yg)
   (ak (aJ (i:=2) ll.nd rfl (Or.inl rfl) (bG (qa T) T.qR T.cQ.kp T.qS (hr.mono (by decide)) (af (qv 0) aj)))
   (ak (aJ (i:=3) ll.nd rfl (Or.inl rfl) (bG (xA T) T.xT T.eE.kp T.xU (hr.mono (by decide)) (af (eW (oi rfl) qE (by rfl) T.fW gN (af (qv 2) aj)) aj)))
   (ak (dX PassesOwn.never rfl (Jo (by rfl) T.qT (af (qv 2) (af (qv 3) aj))) (ip rfl (bT (aS (i:=4) ll.nd rfl (Or.inl rfl)) (bT (aS (i:=5) ll.nd rfl (Or.inl rfl)) gc))) (ak (aJ (i:=6) ll.nd rfl (Or.inl rfl) (bG (GY T) T.Kz T.iA.kp T.KA (hr.mono (by decide)) (af (qv 4) (af (qv 5) aj))))
   (au (dX PassesOwn.never rfl (By (by rfl) T.qT (af (qv 6) (af (hG (qv 6) (ik ai) j5) aj))) (aS (i:=7) ll.nd rfl (Or.inl rfl)) (au (er (mh PySem.F.slot_list_extend PySem.F.type_list_extend v_ wz (wM hr.units (qv 1) (qv 7)) (af (Bv hr.units (qv 2) (qv 4) (fun _ _=>rfl)) aj))))))))
   (au (aD (eW (Bw rfl hr.units) Gh (by rfl) T.vN IP (af (mn (N':=["piece","lying"]) (cap:=[none,some 1]) (jK (sc:=ao (top 25)) (NN:=["sides","lying","numbers","found","side","corners","spots","piece"]) rfl rfl rfl (by decide +kernel) (by decide +kernel) (by decide +kernel) (by decide +kernel)) rfl (gd (bG (nA T) T.oZ T.cG.kp T.o6 (hr.mono (by decide)) (af (eW (oi rfl) qE (by rfl) T.fW gN (af (qv 1) aj)) (af (I8 (by rfl) T.xR) aj)))) (fun _ _ _ _=>(aS (i:=0) (show List.Nodup (["piece","lying"]:List Str)by decide +kernel) rfl (Or.inl rfl))) (fun _ _ _ _=>eY) (fun _ _ _ _=>(dE (af (qv 0) (af (aV Bz Gp (by rfl) T.pV C9 (af (Bv hr.units (qv 1) (qv 0) (fun _ _=>rfl)) aj)) aj))))) aj))))))))
theorem Ed:aQ ["sides"] ["sides"] (ao (top 26)):=by walk_at "sc"
theorem xB(T:Txt K mg t):bK P w K mg base dm 9 t.ue t.uf ["sides"] (dG K (gC t.cJ t.aW)):=by
 refine T.gC.eQ (n:=1) (m:=1) (B:=(pL t.cJ t.aW)) Ed rfl rfl (by decide) rfl fun bL A outer s H E hr=>?_
 unfold pL
 exact(au (aD (eW (oi rfl) qE (by rfl) T.fW gN (af (bG (Ff T) T.KC T.lD.kp T.KD (hr.mono (by decide)) (af (qv 0) aj)) aj))))
theorem vj:aQ ["sides"] ["sides"] (ao (top 27)):=by walk_at "sc"
theorem nJ(T:Txt K mg t):bK P w K mg base dm 9 t.kj t.kl ["sides"] (dG K (c_ t.cJ t.aW)):=by
 refine T.c_.eQ (n:=1) (m:=1) (B:=(iB t.cJ t.aW)) vj rfl rfl (by decide) rfl fun bL A outer s H E hr=>?_
 unfold iB
 exact(au (aD (Gg (by rfl) T.fW (bG (Ff T) T.KC T.lD.kp T.KD (hr.mono (by decide)) (af (qv 0) aj)))))
theorem Ao:aQ ["_law_script","_law_k"] ["_law_script","_law_k"] (ao (top 29)):=by walk_at "sc"
theorem nB(T:Txt K mg t):bK P w K mg base dm 1 t.oK t.oM ["_law_script","_law_k"] (dG K cS):=by
 refine T.cS.eQ (n:=2) (m:=2) (B:=jt) Ao rfl rfl (by decide) rfl fun bL A outer s H E hr=>?_
 unfold jt
 exact(ak (cA (bI sZ tu (qv 1) (aV bS fT (by rfl) T.gv fQ (af (qv 0) aj)) (bc _)) (au (aD (dB (qv 0) (qv 1) (fun _ _=>rfl)))) ba)
   (au (aD ai)))
theorem qt:aQ ["_law_pool_here","_law_many","_law_digit_here"] ["_law_pool_here","_law_many"] (ao (top 30)):=by walk_at "sc"
theorem bo(T:Txt K mg t):bK P w K mg base dm 1 t.m8 t.m9 ["_law_pool_here","_law_many"] (dG K ar):=by
 refine T.ar.eQ (n:=2) (m:=3) (B:=jP) qt rfl rfl (by decide) rfl fun bL A outer s H E hr=>?_
 unfold jP
 exact(ak (aJ (i:=2) qt.nd rfl (Or.inl rfl) (aB gM i9 (aZ 0 ai) (qv 1)))
   (ak (rR (aB hC jk (aZ 0 ai) (qv 1)) (Mg (qv 0) ai))
   (au (aD (qv 2)))))
theorem iL:aQ ["_law_script","_law_cell_here","_law_k","_law_found","_law_j"] ["_law_script","_law_cell_here","_law_k"] (ao (top 31)):=by walk_at "sc"
theorem sT(T:Txt K mg t):bK P w K mg base dm 2 t.oN t.oO ["_law_script","_law_cell_here","_law_k"] (dG K df):=by
 refine T.df.eQ (n:=3) (m:=5) (B:=ju) iL rfl rfl (by decide) rfl fun bL A outer s H E hr=>?_
 unfold ju
 exact(ak (cA (bI (eO hr.units) iq (aB gM i9 (bG (nB T) T.pb T.cS.kp T.pf (hr.mono (by decide)) (af (qv 0) (af ai aj))) ai) ai (bc _)) (au (aD (eU (af (qv 1) aj)))) ba)
   (ak (aJ (i:=3) iL.nd rfl (Or.inl rfl) ai)
   (ak (dX PassesOwn.never rfl (j6 (by rfl) T.iK (af ai aj)) (aS (i:=4) iL.nd rfl (Or.inl rfl)) (ak (aJ (i:=1) iL.nd rfl (Or.inl rfl) (aB gM i9 (aB cu cU (aB cu cU (aB aM aX (qv 1) ai) (aB aM aX ai (qv 2))) (qv 4)) ai))
   (au (aJ (i:=3) iL.nd rfl (Or.inl rfl) (aB cu cU (aB aM aX (qv 3) ai) (aB gM i9 (aB aM aX (qv 1) (qv 1)) ai))))))
   (au (aD (eU (af (qv 3) aj)))))))
theorem gy:aQ ["_law_x","_law_y","_law_w","_law_one","_law_other"] ["_law_x","_law_y","_law_w"] (ao (top 32)):=by walk_at "sc"
theorem kz(T:Txt K mg t):bK P w K mg base dm 1 t.lK t.lL ["_law_x","_law_y","_law_w"] (dG K bE):=by
 refine T.bE.eQ (n:=3) (m:=5) (B:=jd) gy rfl rfl (by decide) rfl fun bL A outer s H E hr=>?_
 unfold jd
 exact(ak (mi (i:=3) (j:=4) rfl gy.nd rfl rfl (by decide) rfl rfl (af (qv 2) (af (aV iR mP (by rfl) T.lQ mK (af (qv 0) aj)) aj)) (by rfl))
   (ak (ml PassesOwn.never (bI mH mO (qv 4) ai (bc _)) (au (mi (i:=3) (j:=4) rfl gy.nd rfl rfl (by decide) rfl rfl (af (qv 4) (af (aB gM i9 (qv 3) (qv 4)) aj)) (by rfl))))
   (ak (aJ (i:=4) gy.nd rfl (Or.inl rfl) (aV iR mP (by rfl) T.lQ mK (af (qv 1) aj)))
   (ak (ml PassesOwn.never (bI mH mO (qv 4) ai (bc _)) (au (mi (i:=3) (j:=4) rfl gy.nd rfl rfl (by decide) rfl rfl (af (qv 4) (af (aB gM i9 (qv 3) (qv 4)) aj)) (by rfl))))
   (au (aD (dE (af (aB hC jk (qv 0) (qv 3)) (af (aB hC jk (qv 1) (qv 3)) (af (aB hC jk (qv 2) (qv 3)) aj))))))))))
theorem cO:aQ ["_law_pool_here","_law_known","_law_kind","_law_a","_law_b","_law_many","_law_k","_law_w","_law_left","_law_right","_law_wide","_law_x","_law_y"] ["_law_pool_here","_law_known"] (ao (top 33)):=by walk_at "sc"
theorem sU(T:Txt K mg t):bK P w K mg base dm 2 t.oR t.oS ["_law_pool_here","_law_known"] (dG K cH):=by
 refine T.cH.eQ (n:=2) (m:=13) (B:=kT) cO rfl rfl (by decide) rfl fun bL A outer s H E hr=>?_
 unfold kT
 exact(ak (aJ (i:=2) cO.nd rfl (Or.inl rfl) (bG (bo T) T.bC T.ar.kp T.bD (hr.mono (by decide)) (af (qv 0) (af ai aj))))
   (ak (cA (PW.pt (pE (bI (eO hr.units) iq (qv 2) ai (bc _)) (mf (bI mH mO (aV bS fT (by rfl) T.gv fQ (af (qv 1) aj)) ai (bc _))))) (ak (rR (dB (qv 1) (bG (bo T) T.bC T.ar.kp T.bD (hr.mono (by decide)) (af (qv 0) (af (aV bS fT (by rfl) T.gv fQ (af (qv 1) aj)) aj))) (fun _ _=>rfl)) (ip rfl (bT (aS (i:=3) cO.nd rfl (Or.inl rfl)) (bT (aS (i:=4) cO.nd rfl (Or.inl rfl)) gc))))
   (ak (aJ (i:=5) cO.nd rfl (Or.inl rfl) (aB cu cU ai (bG (bo T) T.bC T.ar.kp T.bD (hr.mono (by decide)) (af (qv 0) (af ai aj)))))
   (ak (aJ (i:=6) cO.nd rfl (Or.inl rfl) (aB gR gU (bG (bo T) T.bC T.ar.kp T.bD (hr.mono (by decide)) (af (qv 0) (af (aB cu cU (qv 5) ai) aj))) ai))
   (au (cA (bI Qi Q0 (aV (Dv rfl) Jq (by rfl) T.Aj L6 (af (aZ 3 ai) (af (aZ 4 ai) (af (aV iR mP (by rfl) T.lQ mK (af (aZ 3 ai) aj)) (af (aV iR mP (by rfl) T.lQ mK (af (aZ 3 ai) aj)) (af (aV iR mP (by rfl) T.lQ mK (af (aZ 4 ai) aj)) (af (aV iR mP (by rfl) T.lQ mK (af (aZ 4 ai) aj)) aj))))))) (aB vn vA ai ai) (bc _)) (ak (aJ (i:=7) cO.nd rfl (Or.inl rfl) (aB aM aX (aB aM aX (aZ 3 ai) (aZ 4 ai)) (qv 5)))
   (ak (mi (i:=8) (j:=9) rfl cO.nd rfl rfl (by decide) rfl rfl (af (aB aM aX (aB gR gU (qv 5) (qv 6)) (aZ 4 ai)) (af (aB aM aX (qv 6) (aZ 3 ai)) aj)) (by rfl))
   (au (aD (bG (kz T) T.lO T.bE.kp T.lP (hr.mono (by decide)) (af (aB cu cU (aB aM aX (aZ 3 ai) (qv 8)) (aB aM aX (aZ 4 ai) (qv 9))) (af (aB cu cU (aB aM aX (aZ 3 ai) (qv 8)) (aB aM aX (aZ 4 ai) (qv 9))) (af (qv 7) aj)))))))) ba))))) ba)
   (ak (cA (bI (eO hr.units) iq (qv 2) ai (bc _)) (ak (aJ (i:=10) cO.nd rfl (Or.inl rfl) (dB (eU (af (aB vn vA ai ai) (af (aB vn vA ai ai) (af (aB vn vA ai ai) aj)))) (bG (bo T) T.bC T.ar.kp T.bD (hr.mono (by decide)) (af (qv 0) (af ai aj))) (fun _ _=>rfl)))
   (ak (aJ (i:=11) cO.nd rfl (Or.inl rfl) (aB gR gU (bG (bo T) T.bC T.ar.kp T.bD (hr.mono (by decide)) (af (qv 0) (af (aB cu cU (aB aM aX ai (qv 10)) ai) aj))) (qv 10)))
   (ak (aJ (i:=12) cO.nd rfl (Or.inl rfl) (aB gR gU (bG (bo T) T.bC T.ar.kp T.bD (hr.mono (by decide)) (af (qv 0) (af (aB cu cU (aB aM aX ai (qv 10)) ai) aj))) (qv 10)))
   (au (aD (bG (kz T) T.lO T.bE.kp T.lP (hr.mono (by decide)) (af (qv 11) (af (qv 12) (af (aB cu cU ai (bG (bo T) T.bC T.ar.kp T.bD (hr.mono (by decide)) (af (qv 0) (af (qv 10) aj)))) aj))))))))) ba)
   (ak (aJ (i:=7) cO.nd rfl (Or.inl rfl) (aB cu cU ai (aB aM aX (bG (bo T) T.bC T.ar.kp T.bD (hr.mono (by decide)) (af (qv 0) (af ai aj))) (aB gM i9 (qv 2) ai))))
   (au (aD (bG (kz T) T.lO T.bE.kp T.lP (hr.mono (by decide)) (af (bG (bo T) T.bC T.ar.kp T.bD (hr.mono (by decide)) (af (qv 0) (af (aB aM aX ai (qv 7)) aj))) (af (bG (bo T) T.bC T.ar.kp T.bD (hr.mono (by decide)) (af (qv 0) (af (aB aM aX ai (qv 7)) aj))) (af (qv 7) aj))))))))))
theorem gF:aQ ["_law_pool_here","_law_known","_law_a","_law_b"] ["_law_pool_here","_law_known"] (ao (top 34)):=by walk_at "sc"
theorem Ap(T:Txt K mg t):bK P w K mg base dm 3 t.oT t.oU ["_law_pool_here","_law_known"] (dG K dC):=by
 refine T.dC.eQ (n:=2) (m:=4) (B:=kU) gF rfl rfl (by decide) rfl fun bL A outer s H E hr=>?_
 unfold kU
 exact(ak (cA (PW.pt (pE (bI mH mO (aV bS fT (by rfl) T.gv fQ (af (qv 1) aj)) ai (bc _)) (mf (bI (eO hr.units) iq (bG (bo T) T.bC T.ar.kp T.bD (hr.mono (by decide)) (af (qv 0) (af ai aj))) ai (bc _))))) (ak (rR (dB (qv 1) (bG (bo T) T.bC T.ar.kp T.bD (hr.mono (by decide)) (af (qv 0) (af (aV bS fT (by rfl) T.gv fQ (af (qv 1) aj)) aj))) (fun _ _=>rfl)) (ip rfl (bT (aS (i:=2) gF.nd rfl (Or.inl rfl)) (bT (aS (i:=3) gF.nd rfl (Or.inl rfl)) gc))))
   (au (aD (dB (eU (af (dE (af (qv 2) (af (qv 3) aj))) (af (dE (af (qv 3) (af (qv 2) aj))) aj))) (bG (bo T) T.bC T.ar.kp T.bD (hr.mono (by decide)) (af (qv 0) (af ai aj))) (fun _ _=>rfl))))) ba)
   (ak (aJ (i:=2) gF.nd rfl (Or.inl rfl) (bG (sU T) T.uU T.cH.kp T.uV (hr.mono (by decide)) (af (qv 0) (af (qv 1) aj))))
   (ak (aJ (i:=3) gF.nd rfl (Or.inl rfl) (bG (sU T) T.uU T.cH.kp T.uV (hr.mono (by decide)) (af (qv 0) (af (qv 1) aj))))
   (ak (cA (bI (eO hr.units) iq (qv 2) (qv 3) (bc _)) (au (aJ (i:=3) gF.nd rfl (Or.inl rfl) (dE (af (aB cu cU (aZ 2 ai) (aB aM aX (dB (eU (af ai (af (rO ai) aj))) (eW CG Iz (by rfl) T.xw Em (af (kL mH mO (aZ 2 ai) ai (bc _)) aj)) (fun _ _=>rfl)) (aZ 2 ai))) (af (aZ 2 ai) (af (aZ 2 ai) aj)))))) ba)
   (au (aD (dE (af (qv 2) (af (qv 3) aj)))))))))
theorem jf:aQ ["_law_script","_law_first","_law_last","_law_found","_law_k","_law_cell_here"] ["_law_script","_law_first","_law_last"] (ao (top 35)):=by walk_at "sc"
theorem xV(T:Txt K mg t):bK P w K mg base dm 4 t.m_ t.ng ["_law_script","_law_first","_law_last"] (dG K dQ):=by
 refine T.dQ.eQ (n:=3) (m:=6) (B:=jQ) jf rfl rfl (by decide) rfl fun bL A outer s H E hr=>?_
 unfold jQ
 exact(ak (aJ (i:=3) jf.nd rfl (Or.inl rfl) (eU aj))
   (ak (dX PassesOwn.never rfl (rV (by rfl) T.fq (af (hG (qv 0) (ik (qv 1)) (ik (qv 2))) aj)) (ip rfl (bT (aS (i:=4) jf.nd rfl (Or.inl rfl)) (bT (aS (i:=5) jf.nd rfl (Or.inl rfl)) gc))) (au (er (mh PySem.F.slot_list_append PySem.F.type_list_append eA eX (qv 3) (af (bG (Ap T) T.Cc T.dC.kp T.Cd (hr.mono (by decide)) (af (bG (sT T) T.uS T.df.kp T.uT (hr.mono (by decide)) (af (qv 0) (af (qv 5) (af (qv 4) aj)))) (af (qv 3) aj))) aj)))))
   (au (aD (qv 3)))))
theorem nC:aQ ["_law_a","_law_b","_law_c","_law_one","_law_other"] ["_law_a","_law_b","_law_c"] (ao (top 36)):=by walk_at "sc"
theorem Aq(T:Txt K mg t):bK P w K mg base dm 1 t.oV t.oW ["_law_a","_law_b","_law_c"] (dG K gr):=by
 refine T.gr.eQ (n:=3) (m:=5) (B:=kW) nC rfl rfl (by decide) rfl fun bL A outer s H E hr=>?_
 unfold kW
 exact(ak (aJ (i:=3) nC.nd rfl (Or.inl rfl) (aB aM aX (aZ 0 ai) (aB gR gU (aB aM aX (aZ 1 ai) (aZ 2 ai)) (aB aM aX (aZ 2 ai) (aZ 1 ai)))))
   (ak (aJ (i:=4) nC.nd rfl (Or.inl rfl) (aB aM aX (aZ 0 ai) (aB gR gU (aB aM aX (aZ 1 ai) (aZ 2 ai)) (aB aM aX (aZ 2 ai) (aZ 1 ai)))))
   (au (aD (aB cu cU (aB gR gU (qv 3) (qv 4)) (aB aM aX (aZ 0 ai) (aB gR gU (aB aM aX (aZ 1 ai) (aZ 2 ai)) (aB aM aX (aZ 2 ai) (aZ 1 ai)))))))))
theorem xC:aQ ["_law_p","_law_q"] ["_law_p","_law_q"] (ao (top 37)):=by walk_at "sc"
theorem dW(T:Txt K mg t):bK P w K mg base dm 1 t.lM t.lN ["_law_p","_law_q"] (dG K aN):=by
 refine T.aN.eQ (n:=2) (m:=2) (B:=je) xC rfl rfl (by decide) rfl fun bL A outer s H E hr=>?_
 unfold je
 exact(au (aD (kL (MJ hr.units) MK (dE (af (aB aM aX (aZ 0 ai) (aZ 1 ai)) (af (aB aM aX (aZ 0 ai) (aZ 1 ai)) aj))) (dE (af (aB aM aX (aZ 1 ai) (aZ 0 ai)) (af (aB aM aX (aZ 1 ai) (aZ 0 ai)) aj))) (bc _))))
theorem nD:aQ ["_law_p","_law_side_here","_law_low","_law_high"] ["_law_p","_law_side_here"] (ao (top 38)):=by walk_at "sc"
theorem nE(T:Txt K mg t):bK P w K mg base dm 2 t.ug t.uh ["_law_p","_law_side_here"] (dG K bU):=by
 refine T.bU.eQ (n:=2) (m:=4) (B:=i3) nD rfl rfl (by decide) rfl fun bL A outer s H E hr=>?_
 unfold i3
 exact(ak (rR (qv 1) (ip rfl (bT (aS (i:=2) nD.nd rfl (Or.inl rfl)) (bT (aS (i:=3) nD.nd rfl (Or.inl rfl)) gc))))
   (ak (cA (cF (bG (dW T) T.eF T.aN.kp T.eG (hr.mono (by decide)) (af (qv 3) (af (qv 2) aj)))) (au (mi (i:=2) (j:=3) rfl nD.nd rfl rfl (by decide) rfl rfl (af (qv 3) (af (qv 2) aj)) (by rfl))) ba)
   (au (aD (rP (kL (eO hr.units) iq (bG (Aq T) T.Ce T.gr.kp T.Cf (hr.mono (by decide)) (af (qv 2) (af (qv 3) (af (qv 0) aj)))) ai (bc _)) (rP (rQ (bG (dW T) T.eF T.aN.kp T.eG (hr.mono (by decide)) (af (qv 0) (af (qv 2) aj)))) (vB (rQ (bG (dW T) T.eF T.aN.kp T.eG (hr.mono (by decide)) (af (qv 3) (af (qv 0) aj)))))))))))
theorem vk:aQ ["_law_p"] ["_law_p"] (ao (top 39)):=by walk_at "sc"
theorem nK(T:Txt K mg t):bK P w K mg base dm 1 t.km t.ko ["_law_p"] (dG K bR):=by
 refine T.bR.eQ (n:=1) (m:=1) (B:=iC) vk rfl rfl (by decide) rfl fun bL A outer s H E hr=>?_
 unfold iC
 exact(ak (cA (PW.pt (ly (gW (cF (aV eo gf (by rfl) T.cK dz (af (qv 0) (af (me (.ty "tuple") (jh (v:=.ty "tuple") (by rfl) T.pz x_ rfl) fun _ _ _=>.ty "tuple") aj))))) (kM (bI (jN hr.units) tF (aV bS fT (by rfl) T.gv fQ (af (qv 0) aj)) ai (bc _))))) (au (aD ij)) ba)
   (au (aD (aV (wI rfl) Eu (by rfl) T.xu Ew (af (mn (N':=["_law_one"]) (cap:=[none]) (jK (sc:=ao (top 39)) (NN:=["_law_p"]) rfl rfl rfl (by decide +kernel) (by decide +kernel) (by decide +kernel) (by decide +kernel)) rfl (Es (qv 0)) (fun _ _ _ _=>(aS (i:=0) (show List.Nodup (["_law_one"]:List Str)by decide +kernel) rfl (Or.inl rfl))) (fun _ _ _ _=>eY) (fun _ _ _ _=>(rP (aV eo gf (by rfl) T.cK dz (af (qv 0) (af (me (.ty "int") (jh (v:=.ty "int") (by rfl) T.xw Em rfl) fun _ _ _=>.ty "int") aj))) (vB (rQ (aV eo gf (by rfl) T.cK dz (af (qv 0) (af (me (.ty "bool") (jh (v:=.ty "bool") (by rfl) T.sP Bb rfl) fun _ _ _=>.ty "bool") aj)))))))) aj)))))
theorem fy:aQ ["_law_found","_law_piece","_law_one","_law_other"] ["_law_found"] (ao (top 40)):=by walk_at "sc"
theorem qV(T:Txt K mg t):bK P w K mg base dm 2 t.iG t.iH ["_law_found"] (dG K dc):=by
 refine T.dc.eQ (n:=1) (m:=4) (B:=fV) fy rfl rfl (by decide) rfl fun bL A outer s H E hr=>?_
 unfold fV
 exact(ak (cA (gW (cF (aV eo gf (by rfl) T.cK dz (af (qv 0) (af (me (.ty "list") (jh (v:=.ty "list") (by rfl) T.fW gN rfl) fun _ _ _=>.ty "list") aj))))) (au (aD ij)) ba)
   (ak (dX PassesOwn.never rfl (gd (qv 0)) (aS (i:=1) fy.nd rfl (Or.inl rfl)) (ak (cA (PW.pt (ly (gW (cF (aV eo gf (by rfl) T.cK dz (af (qv 1) (af (me (.ty "tuple") (jh (v:=.ty "tuple") (by rfl) T.pz x_ rfl) fun _ _ _=>.ty "tuple") aj))))) (kM (bI (jN hr.units) tF (aV bS fT (by rfl) T.gv fQ (af (qv 1) aj)) ai (bc _))))) (au (aD ij)) ba)
   (au (cA (PW.pt (ly (gW (cF (bG (nK T) T.ph T.bR.kp T.pj (hr.mono (by decide)) (af (aZ 1 ai) aj)))) (ly (gW (cF (bG (nK T) T.ph T.bR.kp T.pj (hr.mono (by decide)) (af (aZ 1 ai) aj)))) (kM (gW (cF (bG (dW T) T.eF T.aN.kp T.eG (hr.mono (by decide)) (af (aZ 1 ai) (af (aZ 1 ai) aj))))))))) (au (aD ij)) ba))))
   (ak (dX PassesOwn.never rfl (By (by rfl) T.qT (af (qv 0) (af (hG (qv 0) (ik ai) j5) aj))) (ip rfl (bT (aS (i:=2) fy.nd rfl (Or.inl rfl)) (bT (aS (i:=3) fy.nd rfl (Or.inl rfl)) gc))) (au (cA (PW.pt (ly (cF (bG (dW T) T.eF T.aN.kp T.eG (hr.mono (by decide)) (af (aZ 3 ai) (af (aZ 2 ai) aj)))) (kM (PW.pt (pE (bI (eO hr.units) iq (aZ 2 ai) (aZ 3 ai) (bc _)) (mf (gW (cF (bG (dW T) T.eF T.aN.kp T.eG (hr.mono (by decide)) (af (aZ 2 ai) (af (aZ 3 ai) aj))))))))))) (au (aD ij)) ba)))
   (au (aD ij)))))
theorem dH:aQ ["_law_side_here","_law_found","_law_low","_law_high","_law_at","_law_piece"] ["_law_side_here","_law_found"] (ao (top 41)):=by walk_at "sc"
theorem vm(T:Txt K mg t):bK P w K mg base dm 3 t.kr t.ku ["_law_side_here","_law_found"] (dG K cI):=by
 refine T.cI.eQ (n:=2) (m:=6) (B:=gu) dH rfl rfl (by decide) rfl fun bL A outer s H E hr=>?_
 unfold gu
 exact(ak (rR (qv 0) (ip rfl (bT (aS (i:=2) dH.nd rfl (Or.inl rfl)) (bT (aS (i:=3) dH.nd rfl (Or.inl rfl)) gc))))
   (ak (cA (cF (bG (dW T) T.eF T.aN.kp T.eG (hr.mono (by decide)) (af (qv 3) (af (qv 2) aj)))) (au (mi (i:=2) (j:=3) rfl dH.nd rfl rfl (by decide) rfl rfl (af (qv 3) (af (qv 2) aj)) (by rfl))) ba)
   (ak (aJ (i:=4) dH.nd rfl (Or.inl rfl) (qv 2))
   (ak (dX PassesOwn.never rfl (gd (qv 1)) (aS (i:=5) dH.nd rfl (Or.inl rfl)) (au (cA (PW.pt (pE (cF (bG (nE T) T.pT T.bU.kp T.pU (hr.mono (by decide)) (af (aZ 5 ai) (af (qv 0) aj)))) (mf (cF (bG (nE T) T.pT T.bU.kp T.pU (hr.mono (by decide)) (af (aZ 5 ai) (af (qv 0) aj))))))) (ak (cA (bI (jN hr.units) tF (aZ 5 ai) (qv 4) (bc _)) (au (aD ij)) ba)
   (au (aJ (i:=4) dH.nd rfl (Or.inl rfl) (aZ 5 ai)))) ba)))
   (au (aD (kL (eO hr.units) iq (qv 4) (qv 3) (bc _))))))))
theorem fG:aQ ["_law_found","_law_sides_here","_law_paper_here","_law_piece","_law_some","_law_k","_law_side_here"] ["_law_found","_law_sides_here"] (ao (top 42)):=by walk_at "sc"
theorem xW(T:Txt K mg t):bK P w K mg base dm 3 t.nh t.ni ["_law_found","_law_sides_here"] (dG K ff):=by
 refine T.ff.eQ (n:=2) (m:=7) (B:=jR) fG rfl rfl (by decide) rfl fun bL A outer s H E hr=>?_
 unfold jR
 exact(ak (aJ (i:=2) fG.nd rfl (Or.inl rfl) (eU aj))
   (ak (dX PassesOwn.never rfl (gd (qv 0)) (aS (i:=3) fG.nd rfl (Or.inl rfl)) (ak (aJ (i:=4) fG.nd rfl (Or.inl rfl) (eU aj))
   (ak (dX PassesOwn.never rfl (rV (by rfl) T.fq (af (qv 1) aj)) (ip rfl (bT (aS (i:=5) fG.nd rfl (Or.inl rfl)) (bT (aS (i:=6) fG.nd rfl (Or.inl rfl)) gc))) (au (cA (PW.pt (pE (cF (bG (nE T) T.pT T.bU.kp T.pU (hr.mono (by decide)) (af (aZ 3 ai) (af (qv 6) aj)))) (mf (cF (bG (nE T) T.pT T.bU.kp T.pU (hr.mono (by decide)) (af (aZ 3 ai) (af (qv 6) aj))))))) (au (er (mh PySem.F.slot_list_append PySem.F.type_list_append eA eX (qv 4) (af (qv 5) aj)))) ba)))
   (au (er (mh PySem.F.slot_list_append PySem.F.type_list_append eA eX (qv 2) (af (qv 4) aj)))))))
   (au (aD (qv 2)))))
theorem gG:aQ ["_law_script","_law_pool_here","_law_found","_law_k","_law_x","_law_at"] ["_law_script"] (ao (top 43)):=by walk_at "sc"
theorem Ar(T:Txt K mg t):bK P w K mg base dm 3 t.oX t.oY ["_law_script"] (dG K eS):=by
 refine T.eS.eQ (n:=1) (m:=6) (B:=kX) gG rfl rfl (by decide) rfl fun bL A outer s H E hr=>?_
 unfold kX
 exact(ak (aJ (i:=1) gG.nd rfl (Or.inl rfl) (bG (sT T) T.uS T.df.kp T.uT (hr.mono (by decide)) (af (qv 0) (af (bG (nB T) T.pb T.cS.kp T.pf (hr.mono (by decide)) (af (qv 0) (af ai aj))) (af ai aj)))))
   (ak (aJ (i:=2) gG.nd rfl (Or.inl rfl) (eU (af (dE (af (dE (af ai (af ai (af ai aj)))) (af (dE (af ai (af (aB cu cU ai (bG (bo T) T.bC T.ar.kp T.bD (hr.mono (by decide)) (af (qv 1) (af ai aj)))) (af ai aj)))) aj))) aj)))
   (ak (dX PassesOwn.never rfl (j6 (by rfl) T.iK (af ai aj)) (aS (i:=3) gG.nd rfl (Or.inl rfl)) (ak (aJ (i:=4) gG.nd rfl (Or.inl rfl) (aB cu cU (aB aM aX ai (qv 3)) (bG (bo T) T.bC T.ar.kp T.bD (hr.mono (by decide)) (af (qv 1) (af ai aj)))))
   (au (er (mh PySem.F.slot_list_append PySem.F.type_list_append eA eX (qv 2) (af (dE (af (dE (af (qv 4) (af (rO ai) (af ai aj)))) (af (dE (af (aB cu cU (qv 4) (bG (bo T) T.bC T.ar.kp T.bD (hr.mono (by decide)) (af (qv 1) (af ai aj)))) (af ai (af ai aj)))) aj))) aj))))))
   (ak (aJ (i:=5) gG.nd rfl (Or.inl rfl) (bG (bo T) T.bC T.ar.kp T.bD (hr.mono (by decide)) (af (qv 1) (af ai aj))))
   (au (aD (aB cu cU (hG (qv 2) (ik (qv 5)) j5) (hG (qv 2) j5 (ik (qv 5))))))))))
theorem jg:aQ ["_law_script","_law_sides_here","_law_handed","_law_found","_law_paper_here","_law_some","_law_due","_law_k"] ["_law_script"] (ao (top 44)):=by walk_at "sc"
theorem NO(T:Txt K mg t):bK P w K mg base dm 10 t.D9 t.xn ["_law_script"] (dG K (qF t.cJ t.aW)):=by
 refine T.qF.eQ (n:=1) (m:=8) (B:=(tP t.cJ t.aW)) jg rfl rfl (by decide) rfl fun bL A outer s H E hr=>?_
 unfold tP
 exact(ak (aJ (i:=1) jg.nd rfl (Or.inl rfl) (bG (xV T) T.Ae T.dQ.kp T.Af (hr.mono (by decide)) (af (qv 0) (af ai (af ai aj)))))
   (ak (cA (bI (eO hr.units) iq (aB gM i9 (aB hC jk (bG (nB T) T.pb T.cS.kp T.pf (hr.mono (by decide)) (af (qv 0) (af ai aj))) ai) ai) ai (bc _)) (au (aJ (i:=1) jg.nd rfl (Or.inl rfl) (bG (Ar T) T.Cg T.eS.kp T.Ci (hr.mono (by decide)) (af (qv 0) aj)))) ba)
   (ak (aJ (i:=2) jg.nd rfl (Or.inl rfl) (eW qe Bh (by rfl) T.fW gN (af (qv 1) aj)))
   (ak (aJ (i:=3) jg.nd rfl (Or.inr rfl) (bG (xB T) T.yM T.gC.kp T.yN (hr.mono (by decide)) (af (qv 2) aj)))
   (ak (aJ (i:=4) jg.nd rfl (Or.inl rfl) (bG (nJ T) T.o9 T.c_.kp T.o_ (hr.mono (by decide)) (af (qv 2) aj)))
   (ak (cA (PW.pt (ly (gW (cF (bG (qV T) T.sN T.dc.kp T.sO (hr.mono (by decide)) (af (qv 3) aj)))) (ly (gW (cF (aV eo gf (by rfl) T.cK dz (af (qv 4) (af (me (.ty "list") (jh (v:=.ty "list") (by rfl) T.fW gN rfl) fun _ _ _=>.ty "list") aj))))) (kM (bI (jN hr.units) zt (qv 2) (qv 1) (bc _)))))) (au (aD ij)) ba)
   (ak (dX PassesOwn.never rfl (gd (qv 4)) (aS (i:=5) jg.nd rfl (Or.inl rfl)) (au (cA (PW.pt (ly (gW (cF (aV eo gf (by rfl) T.cK dz (af (qv 5) (af (me (.ty "list") (jh (v:=.ty "list") (by rfl) T.fW gN rfl) fun _ _ _=>.ty "list") aj))))) (kM (cF (aV (C8 rfl) Mk (by rfl) T.Ai Ml (af (mn (N':=["_law_k"]) (cap:=[none]) (jK (sc:=ao (top 44)) (NN:=["_law_script","_law_sides_here","_law_handed","_law_found","_law_paper_here","_law_some","_law_due","_law_k"]) rfl rfl rfl (by decide +kernel) (by decide +kernel) (by decide +kernel) (by decide +kernel)) rfl (gd (qv 5)) (fun _ _ _ _=>(aS (i:=0) (show List.Nodup (["_law_k"]:List Str)by decide +kernel) rfl (Or.inl rfl))) (fun _ _ _ _=>eY) (fun _ _ _ _=>(aV eo gf (by rfl) T.cK dz (af (qv 0) (af (me (.ty "bool") (jh (v:=.ty "bool") (by rfl) T.sP Bb rfl) fun _ _ _=>.ty "bool") aj))))) aj)))))) (au (aD ij)) ba)))
   (ak (aJ (i:=6) jg.nd rfl (Or.inl rfl) (bG (xW T) T.Ag T.ff.kp T.Ah (hr.mono (by decide)) (af (qv 3) (af (qv 1) aj))))
   (ak (cA (PW.pt (ly (bI (jN hr.units) zt (qv 4) (qv 6) (bc _)) (kM (gW (cF (aV (wI rfl) Eu (by rfl) T.xu Ew (af (mn (N':=["_law_side_here","_law_found"]) (cap:=[none,some 3]) (jK (sc:=ao (top 44)) (NN:=["_law_script","_law_sides_here","_law_handed","_law_found","_law_paper_here","_law_some","_law_due","_law_k"]) rfl rfl rfl (by decide +kernel) (by decide +kernel) (by decide +kernel) (by decide +kernel)) rfl (gd (qv 1)) (fun _ _ _ _=>(aS (i:=0) (show List.Nodup (["_law_side_here","_law_found"]:List Str)by decide +kernel) rfl (Or.inl rfl))) (fun _ _ _ _=>eY) (fun _ _ _ _=>(bG (vm T) T.xr T.cI.kp T.xt (hr.mono (by decide)) (af (qv 0) (af (qv 1) aj))))) aj))))))) (au (aD ij)) ba)
   (ak (dX PassesOwn.never rfl (rV (by rfl) T.fq (af (qv 4) aj)) (ip rfl (bT (aS (i:=7) jg.nd rfl (Or.inl rfl)) (bT (aS (i:=5) jg.nd rfl (Or.inl rfl)) gc))) (au (er (mh PySem.F.slot_list_append PySem.F.type_list_append eA eX (qv 5) (af (aB cu cU ai (qv 7)) aj)))))
   (ak (cA (bI (jN hr.units) zt (qv 4) (mn (N':=["_law_k","_law_some"]) (cap:=[none,none]) (jK (sc:=ao (top 44)) (NN:=["_law_script","_law_sides_here","_law_handed","_law_found","_law_paper_here","_law_some","_law_due","_law_k"]) rfl rfl rfl (by decide +kernel) (by decide +kernel) (by decide +kernel) (by decide +kernel)) rfl (rV (by rfl) T.fq (af (qv 6) aj)) (fun _ _ _ _=>(ip rfl (bT (aS (i:=0) (show List.Nodup (["_law_k","_law_some"]:List Str)by decide +kernel) rfl (Or.inl rfl)) (bT (aS (i:=1) (show List.Nodup (["_law_k","_law_some"]:List Str)by decide +kernel) rfl (Or.inl rfl)) gc)))) (fun _ _ _ _=>eY) (fun _ _ _ _=>(aB cu cU (qv 1) (eU (af (aB cu cU ai (qv 0)) aj))))) (bc _)) (au (aD ij)) ba)
   (ak (er (Q2 PySem.F.slot_list_clear PySem.F.type_list_clear FA FP (qv 4)))
   (au (aD (rP (kL (eO hr.units) Ez (bG (nJ T) T.o9 T.c_.kp T.o_ (hr.mono (by decide)) (af (qv 2) aj)) (qv 6) (bc _)) (vB (kL (eO hr.units) Ez (bG (xB T) T.yM T.gC.kp T.yN (hr.mono (by decide)) (af (qv 2) aj)) (qv 3) (bc _))))))))))))))))))
end
theorem NP{K:PySem.W.Frag}{h:Heap}{mg:Str→Option Value}(X:K.In h)(G:h.Ns mainGlobals mg)
  {f0:Addr}{od0 an0:Option Addr}{sl0:Array (Option Value)}{oc0 kV0 dc0 pm0 V3 ct0:Value}
  {f1:Addr}{od1 SV:Option Addr}{sl1:Array (Option Value)}{oc1 SW SX SY NQ S0:Value}
  {NR:Addr}{tc1:Value}{V4:Option Addr}{tn1:Nat}{S4:Tok}{V5:Array (Option Value)}
  {f2:Addr}{od2 an2:Option Addr}{LG:Array (Option Value)}{oc2 kV2 dc2 pm2 V6 ct2:Value}
  {f3:Addr}{od3 an3:Option Addr}{sl3:Array (Option Value)}{oc3 kV3 dc3 pm3 V7 ct3:Value}
  {f4:Addr}{od4 an4:Option Addr}{sl4:Array (Option Value)}{oc4 kV4 dc4 pm4 V8 ct4:Value}
  {f5:Addr}{od5 an5:Option Addr}{sl5:Array (Option Value)}{oc5 kV5 dc5 pm5 V9 ct5:Value}
  {f6:Addr}{od6 an6:Option Addr}{sl6:Array (Option Value)}{oc6 kV6 dc6 pm6 V_ ct6:Value}
  {f7:Addr}{od7 an7:Option Addr}{sl7:Array (Option Value)}{oc7 kV7 dc7 pm7 Wa ct7:Value}
  {f8:Addr}{od8 an8:Option Addr}{sl8:Array (Option Value)}{oc8 kV8 dc8 pm8 Wb ct8:Value}
  {f9:Addr}{od9 an9:Option Addr}{sl9:Array (Option Value)}{oc9 kV9 dc9 pm9 Wc ct9:Value}
  {NS:Addr}{Wd We:Option Addr}{Wf:Array (Option Value)}{Wg Wh Wi Wj O7 Wk:Value}
  {NT:Addr}{Wl Wm:Option Addr}{Wn:Array (Option Value)}{Wo Wq Wr Ws O8 Wt:Value}
  {NU:Addr}{Wu Wv:Option Addr}{Ww:Array (Option Value)}{Wx Wy Wz WA O9 WB:Value}
  {NV:Addr}{WC WD:Option Addr}{WE:Array (Option Value)}{WG WH WI WJ O_ WK:Value}
  {NW:Addr}{WL WM:Option Addr}{WN:Array (Option Value)}{WO WQ WR WS Pa WT:Value}
  {NX:Addr}{WU WV:Option Addr}{WW:Array (Option Value)}{WX WY WZ W2 Pb W3:Value}
  {NY:Addr}{W4 W5:Option Addr}{W6:Array (Option Value)}{W7 W8 W9 W_ Pc Xa:Value}
  {NZ:Addr}{Xb Xc:Option Addr}{Xd:Array (Option Value)}{Xe Xf Xg Xh Pd Xi:Value}
  {N2:Addr}{Xj Xk:Option Addr}{Xl:Array (Option Value)}{Xm Xn Xo Xp Pe Xq:Value}
  {N3:Addr}{Xr Xs:Option Addr}{Xt:Array (Option Value)}{Xu Xv Xw Xx Pf Xy:Value}
  {N4:Addr}{Xz XB:Option Addr}{XC:Array (Option Value)}{XD XF XH XJ Pg XM:Value}
  {N5:Addr}{XN XQ:Option Addr}{XR:Array (Option Value)}{XU XW XX XY Ph XZ:Value}
  {N6:Addr}{X0 X1:Option Addr}{X2:Array (Option Value)}{X3 X4 X5 X6 Pj X7:Value}
  {N7:Addr}{X8 X9:Option Addr}{X_:Array (Option Value)}{Ya Yb Yc Yd Pk Ye:Value}
  {N8:Addr}{Yf Yg:Option Addr}{Yh:Array (Option Value)}{Yi Yj Yk Yl Pm Ym:Value}
  {N9:Addr}{Yn Yo:Option Addr}{Yp:Array (Option Value)}{Yq Yr Ys Yt Pn Yu:Value}
  {N_:Addr}{Yv Yw:Option Addr}{Yx:Array (Option Value)}{Yy Yz YA YB Po YC:Value}
  {Oa:Addr}{YD YE:Option Addr}{YF:Array (Option Value)}{YG YH YI YJ Pp YK:Value}
  {Ob:Addr}{YL YM:Option Addr}{YN:Array (Option Value)}{YO YQ YR YS Pq YT:Value}
  {Oc:Addr}{YU YV:Option Addr}{YW:Array (Option Value)}{YX YY YZ Y0 Pt Y1:Value}
  {Od:Addr}{Y2 Y3:Option Addr}{Y4:Array (Option Value)}{Y5 Y6 Y7 Y8 Pu Y9:Value}
  {Oe:Addr}{Y_ Za:Option Addr}{Zb:Array (Option Value)}{Zc Zd Ze Zf Pw Zg:Value}
  {Of:Addr}{Zh Zi:Option Addr}{Zj:Array (Option Value)}{Zk Zl Zm Zn Px Zo:Value}
  {Og:Addr}{Zp Zq:Option Addr}{Zr:Array (Option Value)}{Zs Zt Zv Zw Py Zx:Value}
  {Oh:Addr}{Zy Zz:Option Addr}{ZA:Array (Option Value)}{ZC ZD ZE ZG Pz ZH:Value}
  {Oi:Addr}{ZI ZJ:Option Addr}{ZK:Array (Option Value)}{ZM ZN ZO ZP PB ZQ:Value}
  {Oj:Addr}{ZR ZS:Option Addr}{ZT:Array (Option Value)}{ZU ZV ZW ZX PF ZY:Value}
  {Ol:Addr}{ZZ Z0:Option Addr}{Z1:Array (Option Value)}{Z2 Z3 Z4 Z5 PH Z6:Value}
  {Om:Addr}{Z7 Z8:Option Addr}{Z9:Array (Option Value)}{Z_ aaa aab aac PJ aad:Value}
  (a0:PySem.W.nsIn K mainGlobals "divisor" =some (some (.ref f0)))
  (l0:K.lookup f0=some ⟨oc0,od0,.func (PySem.W.fnOf "divisor" "divisor" (aL (top 1)) (aF (top 1)) (ao (top 1)) .none kV0 dc0 pm0 an0 V3 ct0),sl0⟩)
  (c0:PySem.W.codeIn K V3 "divisor" =true)(k0:PySem.W.keepIn K (.ref f0)=true)
  (a1:PySem.W.nsIn K mainGlobals "spot" =some (some (.ref f1)))
  (l1:K.lookup f1=some ⟨oc1,od1,.func (PySem.W.fnOf "spot" "spot" (aL (top 3)) (aF (top 3)) (ao (top 3)) (.ref NR) SW SX SY SV NQ S0),sl1⟩)
  (c1:PySem.W.codeIn K NQ "spot" =true)(k1:PySem.W.keepIn K (.ref f1)=true)
  (S5:K.lookup NR=some ⟨tc1,V4,.seq #[Value.int 1 S4] tn1,V5⟩)
  (a2:PySem.W.nsIn K mainGlobals "is_below" =some (some (.ref f2)))
  (l2:K.lookup f2=some ⟨oc2,od2,.func (PySem.W.fnOf "is_below" "is_below" (aL (top 4)) (aF (top 4)) (ao (top 4)) .none kV2 dc2 pm2 an2 V6 ct2),LG⟩)
  (c2:PySem.W.codeIn K V6 "is_below" =true)(k2:PySem.W.keepIn K (.ref f2)=true)
  (a3:PySem.W.nsIn K mainGlobals "ahead" =some (some (.ref f3)))
  (l3:K.lookup f3=some ⟨oc3,od3,.func (PySem.W.fnOf "ahead" "ahead" (aL (top 5)) (aF (top 5)) (ao (top 5)) .none kV3 dc3 pm3 an3 V7 ct3),sl3⟩)
  (c3:PySem.W.codeIn K V7 "ahead" =true)(k3:PySem.W.keepIn K (.ref f3)=true)
  (a4:PySem.W.nsIn K mainGlobals "crossed" =some (some (.ref f4)))
  (l4:K.lookup f4=some ⟨oc4,od4,.func (PySem.W.fnOf "crossed" "crossed" (aL (top 6)) (aF (top 6)) (ao (top 6)) .none kV4 dc4 pm4 an4 V8 ct4),sl4⟩)
  (c4:PySem.W.codeIn K V8 "crossed" =true)(k4:PySem.W.keepIn K (.ref f4)=true)
  (a5:PySem.W.nsIn K mainGlobals "sign" =some (some (.ref f5)))
  (l5:K.lookup f5=some ⟨oc5,od5,.func (PySem.W.fnOf "sign" "sign" (aL (top 7)) (aF (top 7)) (ao (top 7)) .none kV5 dc5 pm5 an5 V9 ct5),sl5⟩)
  (c5:PySem.W.codeIn K V9 "sign" =true)(k5:PySem.W.keepIn K (.ref f5)=true)
  (a6:PySem.W.nsIn K mainGlobals "turn" =some (some (.ref f6)))
  (l6:K.lookup f6=some ⟨oc6,od6,.func (PySem.W.fnOf "turn" "turn" (aL (top 8)) (aF (top 8)) (ao (top 8)) .none kV6 dc6 pm6 an6 V_ ct6),sl6⟩)
  (c6:PySem.W.codeIn K V_ "turn" =true)(k6:PySem.W.keepIn K (.ref f6)=true)
  (a7:PySem.W.nsIn K mainGlobals "loop_ahead" =some (some (.ref f7)))
  (l7:K.lookup f7=some ⟨oc7,od7,.func (PySem.W.fnOf "loop_ahead" "loop_ahead" (aL (top 21)) (aF (top 21)) (ao (top 21)) .none kV7 dc7 pm7 an7 Wa ct7),sl7⟩)
  (c7:PySem.W.codeIn K Wa "loop_ahead" =true)(k7:PySem.W.keepIn K (.ref f7)=true)
  (a8:PySem.W.nsIn K mainGlobals "merged" =some (some (.ref f8)))
  (l8:K.lookup f8=some ⟨oc8,od8,.func (PySem.W.fnOf "merged" "merged" (aL (top 9)) (aF (top 9)) (ao (top 9)) .none kV8 dc8 pm8 an8 Wb ct8),sl8⟩)
  (c8:PySem.W.codeIn K Wb "merged" =true)(k8:PySem.W.keepIn K (.ref f8)=true)
  (a9:PySem.W.nsIn K mainGlobals "merged_pairs" =some (some (.ref f9)))
  (l9:K.lookup f9=some ⟨oc9,od9,.func (PySem.W.fnOf "merged_pairs" "merged_pairs" (aL (top 10)) (aF (top 10)) (ao (top 10)) .none kV9 dc9 pm9 an9 Wc ct9),sl9⟩)
  (c9:PySem.W.codeIn K Wc "merged_pairs" =true)(k9:PySem.W.keepIn K (.ref f9)=true)
  (Gj:PySem.W.nsIn K mainGlobals "in_order" =some (some (.ref NS)))
  (SR:K.lookup NS=some ⟨Wg,Wd,.func (PySem.W.fnOf "in_order" "in_order" (aL (top 11)) (aF (top 11)) (ao (top 11)) .none Wh Wi Wj We O7 Wk),Wf⟩)
  (NF:PySem.W.codeIn K O7 "in_order" =true)(D5:PySem.W.keepIn K (.ref NS)=true)
  (a11:PySem.W.nsIn K mainGlobals "forward" =some (some (.ref NT)))
  (l11:K.lookup NT=some ⟨Wo,Wl,.func (PySem.W.fnOf "forward" "forward" (aL (top 13)) (aF (top 13)) (ao (top 13)) .none Wq Wr Ws Wm O8 Wt),Wn⟩)
  (xQ:PySem.W.codeIn K O8 "forward" =true)(k11:PySem.W.keepIn K (.ref NT)=true)
  (a12:PySem.W.nsIn K mainGlobals "on_side" =some (some (.ref NU)))
  (l12:K.lookup NU=some ⟨Wx,Wu,.func (PySem.W.fnOf "on_side" "on_side" (aL (top 14)) (aF (top 14)) (ao (top 14)) .none Wy Wz WA Wv O9 WB),Ww⟩)
  (c12:PySem.W.codeIn K O9 "on_side" =true)(k12:PySem.W.keepIn K (.ref NU)=true)
  (a13:PySem.W.nsIn K mainGlobals "turns_to" =some (some (.ref NV)))
  (l13:K.lookup NV=some ⟨WG,WC,.func (PySem.W.fnOf "turns_to" "turns_to" (aL (top 15)) (aF (top 15)) (ao (top 15)) .none WH WI WJ WD O_ WK),WE⟩)
  (D6:PySem.W.codeIn K O_ "turns_to" =true)(k13:PySem.W.keepIn K (.ref NV)=true)
  (a14:PySem.W.nsIn K mainGlobals "common_in_row" =some (some (.ref NW)))
  (l14:K.lookup NW=some ⟨WO,WL,.func (PySem.W.fnOf "common_in_row" "common_in_row" (aL (top 16)) (aF (top 16)) (ao (top 16)) .none WQ WR WS WM Pa WT),WN⟩)
  (GS:PySem.W.codeIn K Pa "common_in_row" =true)(k14:PySem.W.keepIn K (.ref NW)=true)
  (a15:PySem.W.nsIn K mainGlobals "crossing" =some (some (.ref NX)))
  (l15:K.lookup NX=some ⟨WX,WU,.func (PySem.W.fnOf "crossing" "crossing" (aL (top 17)) (aF (top 17)) (ao (top 17)) .none WY WZ W2 WV Pb W3),WW⟩)
  (c15:PySem.W.codeIn K Pb "crossing" =true)(k15:PySem.W.keepIn K (.ref NX)=true)
  (a16:PySem.W.nsIn K mainGlobals "common" =some (some (.ref NY)))
  (l16:K.lookup NY=some ⟨W7,W4,.func (PySem.W.fnOf "common" "common" (aL (top 18)) (aF (top 18)) (ao (top 18)) .none W8 W9 W_ W5 Pc Xa),W6⟩)
  (c16:PySem.W.codeIn K Pc "common" =true)(k16:PySem.W.keepIn K (.ref NY)=true)
  (a17:PySem.W.nsIn K mainGlobals "along" =some (some (.ref NZ)))
  (l17:K.lookup NZ=some ⟨Xe,Xb,.func (PySem.W.fnOf "along" "along" (aL (top 19)) (aF (top 19)) (ao (top 19)) .none Xf Xg Xh Xc Pd Xi),Xd⟩)
  (c17:PySem.W.codeIn K Pd "along" =true)(k17:PySem.W.keepIn K (.ref NZ)=true)
  (a18:PySem.W.nsIn K mainGlobals "corners_on" =some (some (.ref N2)))
  (l18:K.lookup N2=some ⟨Xm,Xj,.func (PySem.W.fnOf "corners_on" "corners_on" (aL (top 23)) (aF (top 23)) (ao (top 23)) .none Xn Xo Xp Xk Pe Xq),Xl⟩)
  (c18:PySem.W.codeIn K Pe "corners_on" =true)(k18:PySem.W.keepIn K (.ref N2)=true)
  (a19:PySem.W.nsIn K mainGlobals "numbers_by_side" =some (some (.ref N3)))
  (l19:K.lookup N3=some ⟨Xu,Xr,.func (PySem.W.fnOf "numbers_by_side" "numbers_by_side" (aL (top 24)) (aF (top 24)) (ao (top 24)) .none Xv Xw Xx Xs Pf Xy),Xt⟩)
  (c19:PySem.W.codeIn K Pf "numbers_by_side" =true)(k19:PySem.W.keepIn K (.ref N3)=true)
  (a20:PySem.W.nsIn K mainGlobals "cut" =some (some (.ref N4)))
  (l20:K.lookup N4=some ⟨XD,Xz,.func (PySem.W.fnOf "cut" "cut" (aL (top 25)) (aF (top 25)) (ao (top 25)) .none XF XH XJ XB Pg XM),XC⟩)
  (c20:PySem.W.codeIn K Pg "cut" =true)(k20:PySem.W.keepIn K (.ref N4)=true)
  (a21:PySem.W.nsIn K mainGlobals "pieces" =some (some (.ref N5)))
  (l21:K.lookup N5=some ⟨XU,XN,.func (PySem.W.fnOf "pieces" "pieces" (aL (top 26)) (aF (top 26)) (ao (top 26)) .none XW XX XY XQ Ph XZ),XR⟩)
  (c21:PySem.W.codeIn K Ph "pieces" =true)(k21:PySem.W.keepIn K (.ref N5)=true)
  (a22:PySem.W.nsIn K mainGlobals "piece_paper" =some (some (.ref N6)))
  (l22:K.lookup N6=some ⟨X3,X0,.func (PySem.W.fnOf "piece_paper" "piece_paper" (aL (top 27)) (aF (top 27)) (ao (top 27)) .none X4 X5 X6 X1 Pj X7),X2⟩)
  (c22:PySem.W.codeIn K Pj "piece_paper" =true)(k22:PySem.W.keepIn K (.ref N6)=true)
  (a23:PySem.W.nsIn K mainGlobals "_law_cell" =some (some (.ref N7)))
  (l23:K.lookup N7=some ⟨Ya,X8,.func (PySem.W.fnOf "_law_cell" "_law_cell" (aL (top 29)) (aF (top 29)) (ao (top 29)) .none Yb Yc Yd X9 Pk Ye),X_⟩)
  (c23:PySem.W.codeIn K Pk "_law_cell" =true)(k23:PySem.W.keepIn K (.ref N7)=true)
  (a24:PySem.W.nsIn K mainGlobals "_law_digit" =some (some (.ref N8)))
  (l24:K.lookup N8=some ⟨Yi,Yf,.func (PySem.W.fnOf "_law_digit" "_law_digit" (aL (top 30)) (aF (top 30)) (ao (top 30)) .none Yj Yk Yl Yg Pm Ym),Yh⟩)
  (c24:PySem.W.codeIn K Pm "_law_digit" =true)(k24:PySem.W.keepIn K (.ref N8)=true)
  (a25:PySem.W.nsIn K mainGlobals "_law_pool" =some (some (.ref N9)))
  (l25:K.lookup N9=some ⟨Yq,Yn,.func (PySem.W.fnOf "_law_pool" "_law_pool" (aL (top 31)) (aF (top 31)) (ao (top 31)) .none Yr Ys Yt Yo Pn Yu),Yp⟩)
  (c25:PySem.W.codeIn K Pn "_law_pool" =true)(k25:PySem.W.keepIn K (.ref N9)=true)
  (a26:PySem.W.nsIn K mainGlobals "_law_lowest" =some (some (.ref N_)))
  (l26:K.lookup N_=some ⟨Yy,Yv,.func (PySem.W.fnOf "_law_lowest" "_law_lowest" (aL (top 32)) (aF (top 32)) (ao (top 32)) .none Yz YA YB Yw Po YC),Yx⟩)
  (c26:PySem.W.codeIn K Po "_law_lowest" =true)(k26:PySem.W.keepIn K (.ref N_)=true)
  (a27:PySem.W.nsIn K mainGlobals "_law_spot" =some (some (.ref Oa)))
  (l27:K.lookup Oa=some ⟨YG,YD,.func (PySem.W.fnOf "_law_spot" "_law_spot" (aL (top 33)) (aF (top 33)) (ao (top 33)) .none YH YI YJ YE Pp YK),YF⟩)
  (c27:PySem.W.codeIn K Pp "_law_spot" =true)(k27:PySem.W.keepIn K (.ref Oa)=true)
  (a28:PySem.W.nsIn K mainGlobals "_law_side" =some (some (.ref Ob)))
  (l28:K.lookup Ob=some ⟨YO,YL,.func (PySem.W.fnOf "_law_side" "_law_side" (aL (top 34)) (aF (top 34)) (ao (top 34)) .none YQ YR YS YM Pq YT),YN⟩)
  (c28:PySem.W.codeIn K Pq "_law_side" =true)(k28:PySem.W.keepIn K (.ref Ob)=true)
  (a29:PySem.W.nsIn K mainGlobals "_law_sides" =some (some (.ref Oc)))
  (l29:K.lookup Oc=some ⟨YX,YU,.func (PySem.W.fnOf "_law_sides" "_law_sides" (aL (top 35)) (aF (top 35)) (ao (top 35)) .none YY YZ Y0 YV Pt Y1),YW⟩)
  (c29:PySem.W.codeIn K Pt "_law_sides" =true)(k29:PySem.W.keepIn K (.ref Oc)=true)
  (a30:PySem.W.nsIn K mainGlobals "_law_turn" =some (some (.ref Od)))
  (l30:K.lookup Od=some ⟨Y5,Y2,.func (PySem.W.fnOf "_law_turn" "_law_turn" (aL (top 36)) (aF (top 36)) (ao (top 36)) .none Y6 Y7 Y8 Y3 Pu Y9),Y4⟩)
  (c30:PySem.W.codeIn K Pu "_law_turn" =true)(k30:PySem.W.keepIn K (.ref Od)=true)
  (a31:PySem.W.nsIn K mainGlobals "_law_before" =some (some (.ref Oe)))
  (l31:K.lookup Oe=some ⟨Zc,Y_,.func (PySem.W.fnOf "_law_before" "_law_before" (aL (top 37)) (aF (top 37)) (ao (top 37)) .none Zd Ze Zf Za Pw Zg),Zb⟩)
  (c31:PySem.W.codeIn K Pw "_law_before" =true)(k31:PySem.W.keepIn K (.ref Oe)=true)
  (a32:PySem.W.nsIn K mainGlobals "_law_on" =some (some (.ref Of)))
  (l32:K.lookup Of=some ⟨Zk,Zh,.func (PySem.W.fnOf "_law_on" "_law_on" (aL (top 38)) (aF (top 38)) (ao (top 38)) .none Zl Zm Zn Zi Px Zo),Zj⟩)
  (c32:PySem.W.codeIn K Px "_law_on" =true)(k32:PySem.W.keepIn K (.ref Of)=true)
  (a33:PySem.W.nsIn K mainGlobals "_law_is_spot" =some (some (.ref Og)))
  (l33:K.lookup Og=some ⟨Zs,Zp,.func (PySem.W.fnOf "_law_is_spot" "_law_is_spot" (aL (top 39)) (aF (top 39)) (ao (top 39)) .none Zt Zv Zw Zq Py Zx),Zr⟩)
  (c33:PySem.W.codeIn K Py "_law_is_spot" =true)(k33:PySem.W.keepIn K (.ref Og)=true)
  (a34:PySem.W.nsIn K mainGlobals "_law_are_pieces" =some (some (.ref Oh)))
  (SS:K.lookup Oh=some ⟨ZC,Zy,.func (PySem.W.fnOf "_law_are_pieces" "_law_are_pieces" (aL (top 40)) (aF (top 40)) (ao (top 40)) .none ZD ZE ZG Zz Pz ZH),ZA⟩)
  (c34:PySem.W.codeIn K Pz "_law_are_pieces" =true)(k34:PySem.W.keepIn K (.ref Oh)=true)
  (a35:PySem.W.nsIn K mainGlobals "_law_is_made" =some (some (.ref Oi)))
  (l35:K.lookup Oi=some ⟨ZM,ZI,.func (PySem.W.fnOf "_law_is_made" "_law_is_made" (aL (top 41)) (aF (top 41)) (ao (top 41)) .none ZN ZO ZP ZJ PB ZQ),ZK⟩)
  (c35:PySem.W.codeIn K PB "_law_is_made" =true)(k35:PySem.W.keepIn K (.ref Oi)=true)
  (a36:PySem.W.nsIn K mainGlobals "_law_paper" =some (some (.ref Oj)))
  (l36:K.lookup Oj=some ⟨ZU,ZR,.func (PySem.W.fnOf "_law_paper" "_law_paper" (aL (top 42)) (aF (top 42)) (ao (top 42)) .none ZV ZW ZX ZS PF ZY),ZT⟩)
  (c36:PySem.W.codeIn K PF "_law_paper" =true)(k36:PySem.W.keepIn K (.ref Oj)=true)
  (a37:PySem.W.nsIn K mainGlobals "_law_comb" =some (some (.ref Ol)))
  (l37:K.lookup Ol=some ⟨Z2,ZZ,.func (PySem.W.fnOf "_law_comb" "_law_comb" (aL (top 43)) (aF (top 43)) (ao (top 43)) .none Z3 Z4 Z5 Z0 PH Z6),Z1⟩)
  (c37:PySem.W.codeIn K PH "_law_comb" =true)(k37:PySem.W.keepIn K (.ref Ol)=true)
  (a38:PySem.W.nsIn K mainGlobals "law" =some (some (.ref Om)))
  (l38:K.lookup Om=some ⟨Z_,Z7,.func (PySem.W.fnOf "law" "law" (aL (top 44)) (aF (top 44)) (ao (top 44)) .none aaa aab aac Z8 PJ aad),Z9⟩)
  (c38:PySem.W.codeIn K PJ "law" =true)(k38:PySem.W.keepIn K (.ref Om)=true)
  (lQ:PySem.W.nsIn K mainGlobals "abs" =some none)
  (xu:PySem.W.nsIn K mainGlobals "all" =some none)
  (Ai:PySem.W.nsIn K mainGlobals "any" =some none)
  (sP:PySem.W.nsIn K mainGlobals "bool" =some none)
  (vN:PySem.W.nsIn K mainGlobals "dict" =some none)
  (fq:PySem.W.nsIn K mainGlobals "enumerate" =some none)
  (xw:PySem.W.nsIn K mainGlobals "int" =some none)
  (cK:PySem.W.nsIn K mainGlobals "isinstance" =some none)
  (gv:PySem.W.nsIn K mainGlobals "len" =some none)
  (fW:PySem.W.nsIn K mainGlobals "list" =some none)
  (Aj:PySem.W.nsIn K mainGlobals "max" =some none)
  (iK:PySem.W.nsIn K mainGlobals "range" =some none)
  (pV:PySem.W.nsIn K mainGlobals "sorted" =some none)
  (pz:PySem.W.nsIn K mainGlobals "tuple" =some none)
  (qT:PySem.W.nsIn K mainGlobals "zip" =some none)
  :∃t,Txt K mg t∧(∀(s:Shared) (v:Value),BindsTo s t.xn ⟨[v],[]⟩ [("_law_script",v)])∧t.cJ≠t.aW:=by
 have F0:=bz (st:=top 1) l0 c0 k0
 have b0:=F0.binds (ps:=["n","m"]) fun _ _ _ _ _ _ us hl=>match us,hl with|[_,_],_=>rfl
 have F1:=Ie (st:=top 3) l1 c1 k1
 have b1:Binds K (PySem.W.fnOf "spot" "spot" (aL (top 3)) (aF (top 3)) (ao (top 3)) (.ref NR) SW SX SY SV NQ S0) ["x","y","w"] []:=fun s us Au hl=>by
  obtain⟨_,_,_,rfl⟩:=QL hl
  exact BindsTo.of_defaults rfl (Au _ _ S5) rfl rfl rfl
 have e1:Binds K (PySem.W.fnOf "spot" "spot" (aL (top 3)) (aF (top 3)) (ao (top 3)) (.ref NR) SW SX SY SV NQ S0) ["x","y","w"] [Value.int 1 S4]:=fun s us Au hl=>by
  obtain⟨_,_,rfl⟩:=Ic hl
  exact BindsTo.of_defaults rfl (Au _ _ S5) rfl rfl rfl
 have F2:=bz (st:=top 4) l2 c2 k2
 have b2:=F2.binds (ps:=["p","q"]) fun _ _ _ _ _ _ us hl=>match us,hl with|[_,_],_=>rfl
 have F3:=bz (st:=top 5) l3 c3 k3
 have b3:=F3.binds (ps:=["p","q"]) fun _ _ _ _ _ _ us hl=>match us,hl with|[_,_],_=>rfl
 have F4:=bz (st:=top 6) l4 c4 k4
 have b4:=F4.binds (ps:=["p","q"]) fun _ _ _ _ _ _ us hl=>match us,hl with|[_,_],_=>rfl
 have F5:=bz (st:=top 7) l5 c5 k5
 have b5:=F5.binds (ps:=["n"]) fun _ _ _ _ _ _ us hl=>match us,hl with|[_],_=>rfl
 have F6:=bz (st:=top 8) l6 c6 k6
 have b6:=F6.binds (ps:=["a","b","c"]) fun _ _ _ _ _ _ us hl=>match us,hl with|[_,_,_],_=>rfl
 have F7:=bz (st:=top 21) l7 c7 k7
 have b7:=F7.binds (ps:=["one","other"]) fun _ _ _ _ _ _ us hl=>match us,hl with|[_,_],_=>rfl
 have F8:=bz (st:=top 9) l8 c8 k8
 have b8:=F8.binds (ps:=["left","right","first"]) fun _ _ _ _ _ _ us hl=>match us,hl with|[_,_,_],_=>rfl
 have F9:=bz (st:=top 10) l9 c9 k9
 have b9:=F9.binds (ps:=["runs","first"]) fun _ _ _ _ _ _ us hl=>match us,hl with|[_,_],_=>rfl
 have F10:=bz (st:=top 11) SR NF D5
 have b10:=F10.binds (ps:=["some","first"]) fun _ _ _ _ _ _ us hl=>match us,hl with|[_,_],_=>rfl
 have F11:=bz (st:=top 13) l11 xQ k11
 have b11:=F11.binds (ps:=["side"]) fun _ _ _ _ _ _ us hl=>match us,hl with|[_],_=>rfl
 have F12:=bz (st:=top 14) l12 c12 k12
 have b12:=F12.binds (ps:=["p","side"]) fun _ _ _ _ _ _ us hl=>match us,hl with|[_,_],_=>rfl
 have F13:=bz (st:=top 15) l13 D6 k13
 have b13:=F13.binds (ps:=["side","other"]) fun _ _ _ _ _ _ us hl=>match us,hl with|[_,_],_=>rfl
 have F14:=bz (st:=top 16) l14 GS k14
 have b14:=F14.binds (ps:=["one","other"]) fun _ _ _ _ _ _ us hl=>match us,hl with|[_,_],_=>rfl
 have F15:=bz (st:=top 17) l15 c15 k15
 have b15:=F15.binds (ps:=["one","other"]) fun _ _ _ _ _ _ us hl=>match us,hl with|[_,_],_=>rfl
 have F16:=bz (st:=top 18) l16 c16 k16
 have b16:=F16.binds (ps:=["one","other"]) fun _ _ _ _ _ _ us hl=>match us,hl with|[_,_],_=>rfl
 have F17:=bz (st:=top 19) l17 c17 k17
 have b17:=F17.binds (ps:=["side","some"]) fun _ _ _ _ _ _ us hl=>match us,hl with|[_,_],_=>rfl
 have F18:=bz (st:=top 23) l18 c18 k18
 have b18:=F18.binds (ps:=["sides"]) fun _ _ _ _ _ _ us hl=>match us,hl with|[_],_=>rfl
 have F19:=bz (st:=top 24) l19 c19 k19
 have b19:=F19.binds (ps:=["sides"]) fun _ _ _ _ _ _ us hl=>match us,hl with|[_],_=>rfl
 have F20:=bz (st:=top 25) l20 c20 k20
 have b20:=F20.binds (ps:=["sides"]) fun _ _ _ _ _ _ us hl=>match us,hl with|[_],_=>rfl
 have F21:=bz (st:=top 26) l21 c21 k21
 have b21:=F21.binds (ps:=["sides"]) fun _ _ _ _ _ _ us hl=>match us,hl with|[_],_=>rfl
 have F22:=bz (st:=top 27) l22 c22 k22
 have b22:=F22.binds (ps:=["sides"]) fun _ _ _ _ _ _ us hl=>match us,hl with|[_],_=>rfl
 have F23:=bz (st:=top 29) l23 c23 k23
 have b23:=F23.binds (ps:=["_law_script","_law_k"]) fun _ _ _ _ _ _ us hl=>match us,hl with|[_,_],_=>rfl
 have F24:=bz (st:=top 30) l24 c24 k24
 have b24:=F24.binds (ps:=["_law_pool_here","_law_many"]) fun _ _ _ _ _ _ us hl=>match us,hl with|[_,_],_=>rfl
 have F25:=bz (st:=top 31) l25 c25 k25
 have b25:=F25.binds (ps:=["_law_script","_law_cell_here","_law_k"]) fun _ _ _ _ _ _ us hl=>match us,hl with|[_,_,_],_=>rfl
 have F26:=bz (st:=top 32) l26 c26 k26
 have b26:=F26.binds (ps:=["_law_x","_law_y","_law_w"]) fun _ _ _ _ _ _ us hl=>match us,hl with|[_,_,_],_=>rfl
 have F27:=bz (st:=top 33) l27 c27 k27
 have b27:=F27.binds (ps:=["_law_pool_here","_law_known"]) fun _ _ _ _ _ _ us hl=>match us,hl with|[_,_],_=>rfl
 have F28:=bz (st:=top 34) l28 c28 k28
 have b28:=F28.binds (ps:=["_law_pool_here","_law_known"]) fun _ _ _ _ _ _ us hl=>match us,hl with|[_,_],_=>rfl
 have F29:=bz (st:=top 35) l29 c29 k29
 have b29:=F29.binds (ps:=["_law_script","_law_first","_law_last"]) fun _ _ _ _ _ _ us hl=>match us,hl with|[_,_,_],_=>rfl
 have F30:=bz (st:=top 36) l30 c30 k30
 have b30:=F30.binds (ps:=["_law_a","_law_b","_law_c"]) fun _ _ _ _ _ _ us hl=>match us,hl with|[_,_,_],_=>rfl
 have F31:=bz (st:=top 37) l31 c31 k31
 have b31:=F31.binds (ps:=["_law_p","_law_q"]) fun _ _ _ _ _ _ us hl=>match us,hl with|[_,_],_=>rfl
 have F32:=bz (st:=top 38) l32 c32 k32
 have b32:=F32.binds (ps:=["_law_p","_law_side_here"]) fun _ _ _ _ _ _ us hl=>match us,hl with|[_,_],_=>rfl
 have F33:=bz (st:=top 39) l33 c33 k33
 have b33:=F33.binds (ps:=["_law_p"]) fun _ _ _ _ _ _ us hl=>match us,hl with|[_],_=>rfl
 have F34:=bz (st:=top 40) SS c34 k34
 have b34:=F34.binds (ps:=["_law_found"]) fun _ _ _ _ _ _ us hl=>match us,hl with|[_],_=>rfl
 have F35:=bz (st:=top 41) l35 c35 k35
 have b35:=F35.binds (ps:=["_law_side_here","_law_found"]) fun _ _ _ _ _ _ us hl=>match us,hl with|[_,_],_=>rfl
 have F36:=bz (st:=top 42) l36 c36 k36
 have b36:=F36.binds (ps:=["_law_found","_law_sides_here"]) fun _ _ _ _ _ _ us hl=>match us,hl with|[_,_],_=>rfl
 have F37:=bz (st:=top 43) l37 c37 k37
 have b37:=F37.binds (ps:=["_law_script"]) fun _ _ _ _ _ _ us hl=>match us,hl with|[_],_=>rfl
 have F38:=bz (st:=top 44) l38 c38 k38
 have b38:=F38.binds (ps:=["_law_script"]) fun _ _ _ _ _ _ us hl=>match us,hl with|[_],_=>rfl
 have fH:f3≠f7:=fun e=>by
  rw[e,l7]at l3
  exact Gq (show Str.ofString "loop_ahead"≠Str.ofString "ahead" by decide) l3
 exact⟨⟨f0,_,f1,_,S4,f2,_,f3,_,f4,_,f5,_,f6,_,f7,_,f8,_,f9,_,NS,_,NT,_,NU,_,NV,_,NW,_,NX,_,NY,_,NZ,_,N2,_,N3,_,N4,_,N5,_,N6,_,N7,_,N8,_,N9,_,N_,_,Oa,_,Ob,_,Oc,_,Od,_,Oe,_,Of,_,Og,_,Oh,_,Oi,_,Oj,_,Ol,_,Om,_⟩,⟨F0,PySem.W.mg_of X G a0,b0,F1,PySem.W.mg_of X G a1,b1,e1,F2,PySem.W.mg_of X G a2,b2,F3,PySem.W.mg_of X G a3,b3,F4,PySem.W.mg_of X G a4,b4,F5,PySem.W.mg_of X G a5,b5,F6,PySem.W.mg_of X G a6,b6,F7,PySem.W.mg_of X G a7,b7,F8,PySem.W.mg_of X G a8,b8,F9,PySem.W.mg_of X G a9,b9,F10,PySem.W.mg_of X G Gj,b10,F11,PySem.W.mg_of X G a11,b11,F12,PySem.W.mg_of X G a12,b12,F13,PySem.W.mg_of X G a13,b13,F14,PySem.W.mg_of X G a14,b14,F15,PySem.W.mg_of X G a15,b15,F16,PySem.W.mg_of X G a16,b16,F17,PySem.W.mg_of X G a17,b17,F18,PySem.W.mg_of X G a18,b18,F19,PySem.W.mg_of X G a19,b19,F20,PySem.W.mg_of X G a20,b20,F21,PySem.W.mg_of X G a21,b21,F22,PySem.W.mg_of X G a22,b22,F23,PySem.W.mg_of X G a23,b23,F24,PySem.W.mg_of X G a24,b24,F25,PySem.W.mg_of X G a25,b25,F26,PySem.W.mg_of X G a26,b26,F27,PySem.W.mg_of X G a27,b27,F28,PySem.W.mg_of X G a28,b28,F29,PySem.W.mg_of X G a29,b29,F30,PySem.W.mg_of X G a30,b30,F31,PySem.W.mg_of X G a31,b31,F32,PySem.W.mg_of X G a32,b32,F33,PySem.W.mg_of X G a33,b33,F34,PySem.W.mg_of X G a34,b34,F35,PySem.W.mg_of X G a35,b35,F36,PySem.W.mg_of X G a36,b36,F37,PySem.W.mg_of X G a37,b37,F38,PySem.W.mg_of X G a38,b38,PySem.W.mg_none_of X G lQ,PySem.W.mg_none_of X G xu,PySem.W.mg_none_of X G Ai,PySem.W.mg_none_of X G sP,PySem.W.mg_none_of X G vN,PySem.W.mg_none_of X G fq,PySem.W.mg_none_of X G xw,PySem.W.mg_none_of X G cK,PySem.W.mg_none_of X G gv,PySem.W.mg_none_of X G fW,PySem.W.mg_none_of X G Aj,PySem.W.mg_none_of X G iK,PySem.W.mg_none_of X G pV,PySem.W.mg_none_of X G pz,PySem.W.mg_none_of X G qT⟩,fun s v=>.of_eq rfl,fH⟩
theorem walk{l:PySem.W.OpenLaw}{q:Program}{loose:List Str}{XP:(Str→Option Value)→Heap→Prop}{YP:World→Heap→Prop}{d:DefRec}{K:Params→PySem.W.Frag}(hn:l.most=some 63)(HL:d.params.defaults=[])
  (hY:∀(w:World) (h:Heap),YP w h→(K w.params).In h)
  (F:∀(w:World) (mg:Str→Option Value) (fa:Addr) (h:Heap),(K w.params).In h→h.Ns mainGlobals mg→mg d.name=some (.ref fa)→
   ∃fd:FuncData,(∀(s:Shared) (u:Value),BindsTo s fd ⟨[u],[]⟩ [("_law_script",u)])∧∀base:Heap,(K w.params).In base→base.Ns mainGlobals mg→bK l.prog w (K w.params) mg base dm 10 fa fd ["_law_script"] (spT (K w.params) qF)):
  PySem.W.WalkO q loose XP YP l.row.toRowW d [] (fun f vs=>PySem.call f vs):=
 L2.HP (n:=63) (k:=10) (x:="_law_script") (CX:=fun _=>dm) (sp:=fun w=>spT (K w.params) qF) hn (by decide) HL ⟨rfl,by decide,by decide⟩ hY F (fun _ _ a ns hl hO hS x y hn=>let ⟨_,h⟩:=GR x y hn ns hl;Mi hO hS h) fun _ _ _ _ _ z=>z
end zM
open PySem PySem.W PyProof.Rows
local macro_rules (kind:=Lean.Parser.Term.structInst)|stx=>do
 if (stx.find? fun x=>x.isIdent&&x.getId.eraseMacroScopes==`globals).isSome then Lean.Macro.throwError "as a whole" else Lean.Macro.throwUnsupported
set_option maxRecDepth 100000 in
set_option maxHeartbeats 0 in
theorem PySem.Challenge.cw_sheetlay_k32_sides_made_of_pieces_holds : PySem.Challenge.rw_sheetlay_k32_sides_made_of_pieces.Holds := by
 w_on;o_law;k_head;(case hw=>w_witness2)
 k_fill
 refine zM.walk (l:=PySem.Challenge.rw_sheetlay_k32_sides_made_of_pieces) rfl rfl (fun w h Y=>PySem.W.km_in_of Y) ?F
 case F=>
  intro w mg fa h KX G HM
  have TT:∃t,zM.Txt (L2.T8 KX) mg t∧(∀(s:Shared) (v:Value),BindsTo s t.xn ⟨[v],[]⟩ [("_law_script",v)])∧t.cJ≠t.aW:=by
   dsimp only[L2.T8]
   refine' zM.NP KX G ?a0 ?l0 ?c0 ?k0 ?a1 ?l1 ?c1 ?k1 ?S5 ?a2 ?l2 ?c2 ?k2 ?a3 ?l3 ?c3 ?k3 ?a4 ?l4 ?c4 ?k4 ?a5 ?l5 ?c5 ?k5 ?a6 ?l6 ?c6 ?k6 ?a7 ?l7 ?c7 ?k7 ?a8 ?l8 ?c8 ?k8 ?a9 ?l9 ?c9 ?k9 ?Gj ?SR ?NF ?D5 ?a11 ?l11 ?xQ ?k11 ?a12 ?l12 ?c12 ?k12 ?a13 ?l13 ?D6 ?k13 ?a14 ?l14 ?GS ?k14 ?a15 ?l15 ?c15 ?k15 ?a16 ?l16 ?c16 ?k16 ?a17 ?l17 ?c17 ?k17 ?a18 ?l18 ?c18 ?k18 ?a19 ?l19 ?c19 ?k19 ?a20 ?l20 ?c20 ?k20 ?a21 ?l21 ?c21 ?k21 ?a22 ?l22 ?c22 ?k22 ?a23 ?l23 ?c23 ?k23 ?a24 ?l24 ?c24 ?k24 ?a25 ?l25 ?c25 ?k25 ?a26 ?l26 ?c26 ?k26 ?a27 ?l27 ?c27 ?k27 ?a28 ?l28 ?c28 ?k28 ?a29 ?l29 ?c29 ?k29 ?a30 ?l30 ?c30 ?k30 ?a31 ?l31 ?c31 ?k31 ?a32 ?l32 ?c32 ?k32 ?a33 ?l33 ?c33 ?k33 ?a34 ?SS ?c34 ?k34 ?a35 ?l35 ?c35 ?k35 ?a36 ?l36 ?c36 ?k36 ?a37 ?l37 ?c37 ?k37 ?a38 ?l38 ?c38 ?k38 ?lQ ?xu ?Ai ?sP ?vN ?fq ?xw ?cK ?gv ?fW ?Aj ?iK ?pV ?pz ?qT
   any_goals k_is
  obtain⟨t,T,hb,fH⟩:=TT
  have e0:=HM.symm.trans T.SU
  cases e0
  exact⟨_,hb,fun base _ _=>(zM.NO T).imp fun _ _ _ _ q=>q _ _ fH⟩
