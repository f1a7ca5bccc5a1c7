import PyProof.Rows.All
import Wide.All
import OpenK.AllK
import Wide.FinOn
import Lean
import PyProof.EqAt
import PyProof.EqKinds
import PyProof.TupleCall
import PyProof.ExcInit
import KE.KLam
import KE.KNestM
import KE.KSortTup
import PyProof.Rows.SortBase
import PyProof.Rows.SortWalk
import PyProof.Rows.SortShellK
import PyProof.SetScanFacts
import PyProof.TupleKey
import PyProof.WalksMore
import PySem.Challenge.RW_sheetlay_k16_spots_along_a_side
set_option Elab.async false
set_option linter.all false
set_option maxRecDepth 100000
set_option compiler.extract_closed false
namespace PySem
open Sem (wp)
section
variable{prog:Program}{w:World}{K:Type}[DecidableEq K](knd:KeyKind prog w K)
inductive gz(h:Heap):List (List K)→List Value→Prop
 |nil:gz h [] []
 |cons {ks:List K}{a:Addr}{eD:List (List K)}{vs:List Value}:IsTupleKey knd h ks a→gz h eD vs→gz h (ks::eD) (.ref a::vs)
def c_(h:Heap)(eD:List (List K))(a:Addr):Prop:=∃ob its m,h.get? a=some ob∧ob.cls= .type "tuple"∧ob.data= .seq its m∧gz knd h eD its.toList
variable{knd}
theorem gz.inj{h:Heap}{x y:List (List K)}{vs:List Value}(p:gz knd h x vs):gz knd h y vs→x=y:=by
 induction p generalizing y with
 |nil=>intro q;cases q;rfl
 |cons h1 _ ih=>
  intro q
  cases q with
  |cons h2 t2=>rw[h1.inj h2,ih t2]
theorem c_.typeIs{s:Shared}{eD:List (List K)}{a:Addr}(x:c_ knd s.heap eD a):s.TypeIs (.ref a) "tuple":=by
 obtain⟨ob,_,_,ho,hc,_⟩:=x
 exact⟨ob,ho,hc⟩
theorem c_.inj{h:Heap}{a:Addr}{x y:List (List K)}(p:c_ knd h x a)(q:c_ knd h y a):x=y:=by
 obtain⟨o1,i1,n1,a1,_,b1,c1⟩:=p
 obtain⟨o2,i2,n2,a2,_,b2,c2⟩:=q
 rw[a1]at a2
 cases a2
 rw[b1]at b2
 injection b2 with b2 _
 subst b2
 exact c1.inj c2
theorem gz.keeps{h h':Heap}{eD:List (List K)}{vs:List Value}{d:Addr}{ob:Obj}{es ep}(x:gz knd h eD vs)(ho:h.get? d=some ob)(hd:ob.data= .dict es ep)(hs:Heap.SameBut d h h'):gz knd h' eD vs:=by
 induction x with
 |nil=>exact .nil
 |cons h1 _ ih=>exact .cons (h1.keeps ho hd hs) ih
theorem c_.keeps{h h':Heap}{eD:List (List K)}{a d:Addr}{ob:Obj}{es ep}(x:c_ knd h eD a)(ho:h.get? d=some ob)(hd:ob.data= .dict es ep)(hs:Heap.SameBut d h h'):c_ knd h' eD a:=by
 obtain⟨o1,i1,n1,a1,c1,b1,r1⟩:=x
 have ne:a≠d:=by
  intro e
  rw[e,ho]at a1
  cases a1
  rw[hd]at b1
  cases b1
 exact⟨o1,i1,n1,(hs.2 a ne).trans a1,c1,b1,r1.keeps ho hd hs⟩
def yy(knd:KeyKind prog w K)(eD:List (List K)):Int:=reduceHash (Builtin.Tuple.tupleHashOf (eD.map (tupleKeyHash knd)))
def iJ:List (List K)→Nat
 |[]=>0
 |ks::r=>(ks.length+1)+iJ r
theorem sT:∀(x y:List (List K)),iJ (x++y)=iJ x+iJ y
 |[],y=>by simp[iJ]
 |a::x,y=>by simp only[List.cons_append,iJ,sT x y];omega
variable{A:Around}{E:Value→Shared→Prop}{s:Shared}
theorem CP{eD:List (List K)}{a:Addr}{Q:Int→Shared→Prop}(hu:A.units+4<cLine)(hk:c_ knd s.heap eD a)(q:Q (yy knd eD) { s with toks:=s.toks+(iJ eD+1) }):
  wpAny (model prog w) A (pyHash (.ref a)) Q E s:=by
 have ty:=hk.typeIs
 obtain⟨ob,its,m,ho,_,hd,hi⟩:=hk
 unfold pyHash
 first|unfold pyHashByItsType|skip
 first|refine wpAny_bind (wpAny_cRoomFor_or (.inr (by omega)) ?_)|skip
 refine wpAny_bind (wpAny_specialOf ty F.slot_tuple_hash.lookup ?_)
 show wpAny _ _ (if (some (Value.builtin "tuple.__hash__")==some Value.none)=true then _ else _) Q E s
 rw[if_neg (by rw[beq_builtin_none];exact Bool.false_ne_true)]
 refine wpAny_bind (wpAny_specialOf ty F.slot_tuple_hash.lookup ?_)
 show wpAny _ _ (callSpecialIfBoundUnlessNone? (.ref a) "__hash__" _ >>= _) Q E s
 refine wpAny_bind (wpAny_callSpecialIfBoundUnlessNone?_slot ty F.slot_tuple_hash (wpAny_call_entry F.slot_tuple_hash ty F.entry_tuple_hash ?_ (F.args_tuple_hash_1 _)))
 show wpAny _ _ (Builtin.Tuple.tupleItemsOf (.ref a) >>= _) _ _ s
 refine wpAny_bind (wpAny_tupleItemsOf ho hd (wpAny_bind ?_))
 rw[←Array.forIn_toList]
 refine wpAny_forIn_list _ (fun rest (b:Array Int) s'=>∃done left,eD=done++left∧gz knd s.heap left rest∧b.toList=done.map (tupleKeyHash knd)∧s'= { s with toks:=s.toks+iJ done }) _ ?_ ?_ _ _ ⟨[],eD,rfl,hi,rfl,rfl⟩
 ·rintro x rest b s' ⟨done,left,rfl,hl,hb,rfl⟩
  cases hl with
  |@cons ks c vD _ h1 i9=>
   refine wpAny_bind (wpAny_pyHash_tuple (s:={ s with toks:=s.toks+iJ done }) (by show A.units+1<cLine;omega) h1 ?_)
   have fin:∃dn lf,done++ks::vD=dn++lf∧gz knd s.heap lf rest∧(b.push (tupleKeyHash knd ks)).toList=dn.map (tupleKeyHash knd)∧({ s with toks:=s.toks+iJ done+(ks.length+1) }:Shared)= { s with toks:=s.toks+iJ dn }:=
    ⟨done++[ks],vD,by simp,i9,by simp[hb],by rw[sT];simp[iJ,Nat.add_assoc]⟩
   first
    |exact wpAny_pure fin
    |exact wpAny_bind (wpAny_pure (wpAny_pure fin))
 ·rintro b s' ⟨done,left,rfl,hl,hb,rfl⟩
  cases hl
  rw[List.append_nil]at q
  show wpAny _ _ (retInt (Builtin.Tuple.tupleHashOf b.toList)) _ _ _
  rw[hb]
  refine wpAny_ret_mkInt ?_
  show wpAny _ _ (if (decide (-(2:Int) ^ 63≤Builtin.Tuple.tupleHashOf (done.map (tupleKeyHash knd)))&&decide (Builtin.Tuple.tupleHashOf (done.map (tupleKeyHash knd))<2 ^ 63))=true then _ else _) Q E _
  unfold yy reduceHash at q
  by_cases hr:(decide (-(2:Int) ^ 63≤Builtin.Tuple.tupleHashOf (done.map (tupleKeyHash knd)))&&decide (Builtin.Tuple.tupleHashOf (done.map (tupleKeyHash knd))<2 ^ 63))=true
  ·rw[if_pos hr]at q ⊢
   exact wpAny_pure (by simpa[Nat.add_assoc]using q)
  ·rw[if_neg hr]at q ⊢
   exact wpAny_bind (wpAny_rule (wpAny_pure (by simpa[Nat.add_assoc]using q)))
theorem CQ{x y:List (List K)}{a b:Addr}{P:Fin→Shared→Prop}(hu:A.units+2<cLine)(hx:c_ knd s.heap x a)(hy:c_ knd s.heap y b)(q:P (.done (.ret (.bool (decide (x=y))))) s):
  wpAny (model prog w) A (Builtin.«tuple.__eq__» ⟨[.ref a,.ref b],[]⟩) P E s:=by
 have ty:=hy.typeIs
 obtain⟨o1,xs,n1,ph,_,Tb,A7⟩:=hx
 obtain⟨o2,ys,n2,A9,_,hd2,NU⟩:=hy
 show wpAny _ _ (isInstance (.ref b) (.type "tuple") >>= _) _ _ s
 refine wpAny_bind (wpAny_isInstance ty isSubtype_tuple_tuple ?_)
 simp only[Bool.not_true,Bool.false_eq_true,if_false]
 refine wpAny_bind (wpAny_tupleItemsOf ph Tb (wpAny_bind (wpAny_tupleItemsOf A9 hd2 (wpAny_bind ?_))))
 refine wpAny_forIn_list _ (fun rest r s'=>r.1=none∧s'=s∧∃x' y' CS CT,rest=List.zip CS CT∧gz knd s.heap x' CS∧gz knd s.heap y' CT∧decide (x'=y')=decide (x=y)∧(CS.length==CT.length)=(xs.size==ys.size)) _ ?_ ?_ _ _ ⟨rfl,rfl,x,y,xs.toList,ys.toList,rfl,A7,NU,rfl,by simp⟩
 ·rintro⟨u,v⟩ rest r s' ⟨hr,rfl,x',y',CS,CT,hz,mq,ud,Aa,hlen⟩
  cases mq with
  |nil=>simp at hz
  |@cons k1 c1 x2 Tc h1 Td=>
   cases ud with
   |nil=>simp at hz
   |@cons k2 c2 y2 Te h2 Tf=>
    simp only[List.zip_cons_cons,List.cons.injEq,Prod.mk.injEq]at hz
    obtain⟨⟨rfl,rfl⟩,rfl⟩:=hz
    refine wpAny_bind (wpAny_eqBool_tuple (x:=k1) (y:=k2) (by omega) h1 h2 ?_)
    by_cases hk:k1=k2
    ·subst hk
     rw[decide_eq_true rfl]
     simp only[Bool.not_true,Bool.false_eq_true,if_false]
     refine wpAny_pure ⟨rfl,rfl,x2,y2,Tc,Te,rfl,Td,Tf,?_,by simpa using hlen⟩
     rw[←Aa]
     by_cases ue:x2=y2
     ·simp[ue]
     ·simp[ue]
    ·rw[decide_eq_false hk]
     simp only[Bool.not_false,if_true]
     have hf:decide (x=y)=false:=by rw[←Aa];simp[hk]
     rw[hf]at q
     exact wpAny_bind (wpAny_pure (wpAny_pure (wpAny_pure q)))
 ·rintro⟨r1,r2⟩ s' ⟨hr,rfl,x',y',CS,CT,hz,mq,ud,Aa,hlen⟩
  simp only at hr
  subst hr
  refine wpAny_pure ?_
  have fin:(xs.size==ys.size)=decide (x=y):=by
   rw[←Aa,←hlen]
   cases mq with
   |nil=>
    cases ud with
    |nil=>simp
    |cons _ _=>simp
   |cons _ _=>
    cases ud with
    |nil=>simp
    |cons _ _=>simp at hz
  show P (.done (.ret (.bool (xs.size==ys.size)))) s'
  rw[fin]
  exact q
theorem CU{x y:List (List K)}{a b:Addr}{Q:Bool→Shared→Prop}(hu:A.units+4<cLine)(hx:c_ knd s.heap x a)(hy:c_ knd s.heap y b)(q:Q (decide (x=y)) s):
  wpAny (model prog w) A (eqBool (.ref a) (.ref b)) Q E s:=by
 unfold eqBool
 try with_reducible refine wpAny_holding ?_
 show wpAny _ _ (if (Value.ref a==Value.ref b)=true then _ else _) Q E s
 by_cases dQ:(Value.ref a==Value.ref b)=true
 ·rw[if_pos dQ]
  have e:a=b:=by have:=eq_of_beq dQ;injection this
  subst e
  obtain rfl:=hx.inj hy
  exact wpAny_bind (wpAny_rule (wpAny_pure (by simpa using q)))
 ·rw[if_neg dQ]
  exact wpAny_bind (wpAny_richCompare_same_room (op:=.Eq) hx.typeIs hy.typeIs F.slot_tuple_eq
   (wpAny_call_entry F.slot_tuple_eq hx.typeIs F.entry_tuple_eq (CQ (by show A.units+1+2<cLine;omega) hx hy ⟨_,rfl,(fun e=>nomatch e),wpAny_truthy_bool q⟩) (F.args_tuple_eq_2 _ _)) (by omega))
theorem FG{ks:List K}{n:Nat}{a:Addr}{Q:Bool→Shared→Prop}(hk:IsTupleKey knd s.heap ks a)(q:Q true s):wpAny (model prog w) A (eqIsQuiet (n+1) (.ref a)) Q E s:=by
 have ty:=hk.typeIs
 obtain⟨ob,its,m,ho,_,hd,hi⟩:=hk
 unfold eqIsQuiet
 refine wpAny_bind (wpAny_specialOf ty F.slot_tuple_eq.lookup ?_)
 show wpAny _ _ (isInstance (.ref a) (.type "tuple") >>= _) _ _ s
 refine wpAny_bind (wpAny_isInstance ty isSubtype_tuple_tuple ?_)
 simp only[Bool.not_true,Bool.false_eq_true,if_false]
 refine wpAny_bind (wpAny_seqItems ho hd (wpAny_bind ?_))
 show wpAny _ _ (forIn its _ _) _ _ s
 rw[←Array.forIn_toList]
 refine wpAny_forIn_list _ (fun rest r s'=>r.1=none∧s'=s∧∀v∈rest,carriedByValue v=true) _ ?_ ?_ _ _ ⟨rfl,rfl,hi.byValue⟩
 ·rintro v rest r s' ⟨hr,rfl,eF⟩
  rw[eqIsQuiet_byValue _ (eF v List.mem_cons_self)]
  refine wpAny_bind (wpAny_pure ?_)
  simp only[Bool.not_true,Bool.false_eq_true,if_false]
  exact wpAny_pure ⟨rfl,rfl,fun u uf=>eF u (List.mem_cons_of_mem _ uf)⟩
 ·rintro⟨r1,r2⟩ s' ⟨hr,rfl,_⟩
  simp only at hr
  subst hr
  exact wpAny_pure q
theorem FH{eD:List (List K)}{a:Addr}{Q:Bool→Shared→Prop}(hk:c_ knd s.heap eD a)(q:Q true s):wpAny (model prog w) A (eqIsQuiet 8 (.ref a)) Q E s:=by
 have ty:=hk.typeIs
 obtain⟨ob,its,m,ho,_,hd,hi⟩:=hk
 unfold eqIsQuiet
 refine wpAny_bind (wpAny_specialOf ty F.slot_tuple_eq.lookup ?_)
 show wpAny _ _ (isInstance (.ref a) (.type "tuple") >>= _) _ _ s
 refine wpAny_bind (wpAny_isInstance ty isSubtype_tuple_tuple ?_)
 simp only[Bool.not_true,Bool.false_eq_true,if_false]
 refine wpAny_bind (wpAny_seqItems ho hd (wpAny_bind ?_))
 show wpAny _ _ (forIn its _ _) _ _ s
 rw[←Array.forIn_toList]
 refine wpAny_forIn_list _ (fun rest r s'=>r.1=none∧s'=s∧∃vD,gz knd s.heap vD rest) _ ?_ ?_ _ _ ⟨rfl,rfl,eD,hi⟩
 ·rintro v rest r s' ⟨hr,rfl,vD,hl⟩
  cases hl with
  |@cons ks c NV _ h1 i9=>
   refine wpAny_bind (FG (n:=6) h1 ?_)
   simp only[Bool.not_true,Bool.false_eq_true,if_false]
   exact wpAny_pure ⟨rfl,rfl,NV,i9⟩
 ·rintro⟨r1,r2⟩ s' ⟨hr,rfl,_⟩
  simp only at hr
  subst hr
  exact wpAny_pure q
end
def JR{prog:Program}{w:World}{K:Type}[DecidableEq K](knd:KeyKind prog w K):HeapKind prog w (List (List K)) where
 is:=c_ knd
 hash:=yy knd
 draws:=fun eD=>iJ eD+1
 room:=fun A=>A.units+4<cLine
 inj:=fun hx hy=>hx.inj hy
 keeps:=fun x ho hd hs=>x.keeps ho hd hs
 pyHash:=fun hu hk h=>CP hu hk h
 eqBool:=fun hu hx hy h=>CU hu hx hy h
 quiet:=fun hk h=>FH hk h
end PySem
namespace PySem
open Sem (wp)
def eG(h:Heap)(d:Addr)(es:Array DictEntry)(ep:Nat):Prop:=∃ob,h.get? d=some ob∧ob.ExactDict∧ob.data= .dict es ep
section
variable{prog:Program}{w:World}{A:Around}{E:Value→Shared→Prop}{s:Shared}
theorem eG.at{h h':Heap}{d:Addr}{es:Array DictEntry}{ep:Nat}(x:eG h d es ep)(k:∀o,h.get? d=some o→h'.get? d=some o):eG h' d es ep:=by
 obtain⟨ob,h1,h2⟩:=x
 exact⟨ob,k _ h1,h2⟩
theorem eG.lt{h:Heap}{d:Addr}{es:Array DictEntry}{ep:Nat}(x:eG h d es ep):d<h.objs.size:=by
 obtain⟨ob,h1,_⟩:=x
 exact Heap.lt_size h1
theorem eG.typeIs{d:Addr}{es:Array DictEntry}{ep:Nat}(x:eG s.heap d es ep):s.TypeIs (.ref d) "dict":=by
 obtain⟨ob,h1,h2,_⟩:=x
 exact⟨ob,h1,h2.1⟩
theorem JS{d:Addr}{es:Array DictEntry}{ep:Nat}{Q:Value→Shared→Prop}(nd:(d==sysModules)=false)(m:eG s.heap d es ep)
  (q:Q (.ref s.heap.objs.size) { s with heap:=s.heap.push { cls:=.type "dict_keyiterator",data:=.fields #[.ref d,.int 0 0,.int es.size 0,.int ep 0] } }):
  wpAny (model prog w) A (pyIter (.ref d)) Q E s:=by
 have ty:=m.typeIs
 obtain⟨ob,g1,g2,g3⟩:=m
 refine wpAny_pyIter_slot ty F.slot_dict_iter (wpAny_call_entry F.slot_dict_iter ty F.entry_dict_iter ?_ (F.args_dict_iter_1 _))
 unfold Builtin.«dict.__iter__»
 refine wpAny_bind (m:=Builtin.Dict.dictSlotNone _ _) ?_
 unfold Builtin.Dict.dictSlotNone
 refine wpAny_bind (wpAny_notOrdered_dict ty ?_)
 show wpAny _ _ (pure (Value.ref d)) _ _ s
 refine wpAny_pure ?_
 show wpAny _ _ (Builtin.Dict.showsAll d >>= _) _ _ s
 unfold Builtin.Dict.showsAll
 rw[if_neg (by rw[nd];exact Bool.false_ne_true)]
 refine wpAny_bind (wpAny_pure (wpAny_bind (wpAny_dictEntries g1 g3 (wpAny_bind (wpAny_dictEpoch g1 g3 ?_)))))
 refine wpAny_bind (wpAny_newObj_type (wpAny_pure ⟨_,rfl,"dict_keyiterator",_,⟨_,Heap.get?_push_size _ rfl,rfl⟩,F.slot_dict_keyiterator_next.lookup,?_⟩))
 simpa[rawInt]using q
theorem Tg{it d:Addr}{i ep:Nat}{es:Array DictEntry}{e:DictEntry}{Q:Value→Shared→Prop}(I:s.heap.IsKeyIter it d i es.size ep)(m:eG s.heap d es ep)(x:es[i]? =some e)
  (q:∀h',h'.IsKeyIter it d (i+1) es.size ep→Heap.SameBut it s.heap h'→Q e.key { s with heap:=h' }):wpAny (model prog w) A (Builtin.«dict_keyiterator.__next__» ⟨[.ref it],[]⟩) (fun fin s'=>∃v,fin= .done (.ret v)∧Q v s') E s:=by
 have ty:=I.typeIs
 obtain⟨o1,a1,a2,a3⟩:=id I
 obtain⟨o2,b1,b2,b3⟩:=m
 refine wpAny_bind (wpAny_pure (wpAny_bind (wpAny_bind ?_)))
 first|refine wpAny_bind (wpAny_typeNameOfWhole_keyiter ty (wpAny_pure ?_))|refine wpAny_bind (wpAny_typeNameOf_keyiter ty (wpAny_pure ?_))
 refine wpAny_bind (wpAny_fieldsOf a1 a3 ?_)
 have own:Builtin.Dict_items.ownsTuple "dict_keyiterator" =false:=by decide
 simp only[own,Bool.false_eq_true,if_false]
 show wpAny _ _ (if (Value.ref d==Value.none)=true then _ else _) _ _ s
 rw[if_neg (show ¬((Value.ref d==Value.none)=true)from Bool.false_ne_true)]
 refine wpAny_bind (wpAny_pure (wpAny_bind (wpAny_dictEntries b1 b3 ?_)))
 rw[if_neg (by simp)]
 refine wpAny_bind (wpAny_pure (wpAny_bind (wpAny_dictEpoch b1 b3 ?_)))
 rw[if_neg (by simp)]
 refine wpAny_pure ?_
 simp only[show ¬((i:Int)<0)from by omega,if_false,Int.toNat_natCast,x]
 refine wpAny_bind ?_
 first|refine wpAny_bind (wpAny_typeNameOfWhole_keyiter ty (wpAny_pure ?_))|refine wpAny_bind (wpAny_typeNameOf_keyiter ty (wpAny_pure ?_))
 refine wpAny_bind (wpAny_isOneOf_keyiter ty ?_)
 show wpAny _ _ (setField (.ref it) 1 (rawInt ((i:Int)+1)) >>= _) _ _ s
 refine wpAny_bind (wpAny_setField a1 a3 (by simp) ?_)
 have I':(s.heap.update it (Obj.mapFields (·.setIfInBounds 1 (rawInt ((i:Int)+1))))).IsKeyIter it d (i+1) es.size ep:=
  ⟨_,Heap.get?_update_self _ a1 (Obj.isFreed_of_fields (Obj.data_mapFields a3 _)),(Obj.cls_mapFields ..).trans a2,by rw[Obj.data_mapFields a3];simp[rawInt]⟩
 refine wpAny_bind (wpAny_holding (wpAny_bind (wpAny_isOneOf_keyiter (s:={ s with heap:=s.heap.update it (Obj.mapFields (·.setIfInBounds 1 (rawInt ((i:Int)+1)))) }) I'.typeIs ?_)))
 show wpAny _ _ (pure e.key) _ _ _
 exact wpAny_pure (wpAny_pure ⟨_,rfl,q _ I' (Heap.SameBut.update ..)⟩)
theorem Th{it d:Addr}{i ep:Nat}{es:Array DictEntry}{Q:Fin→Shared→Prop}(hh:A.handled=none)(I:s.heap.IsKeyIter it d i es.size ep)(m:eG s.heap d es ep)(x:es.size≤i)
  (q:∀h' e,Heap.ExtBut it s.heap h'→(∃o,h'.get? e=some o∧o.cls= .type "StopIteration")→E (.ref e) { s with heap:=h' }):wpAny (model prog w) A (Builtin.«dict_keyiterator.__next__» ⟨[.ref it],[]⟩) Q E s:=by
 have ty:=I.typeIs
 obtain⟨o1,a1,a2,a3⟩:=id I
 obtain⟨o2,b1,b2,b3⟩:=m
 refine wpAny_bind (wpAny_pure (wpAny_bind (wpAny_bind ?_)))
 first|refine wpAny_bind (wpAny_typeNameOfWhole_keyiter ty (wpAny_pure ?_))|refine wpAny_bind (wpAny_typeNameOf_keyiter ty (wpAny_pure ?_))
 refine wpAny_bind (wpAny_fieldsOf a1 a3 ?_)
 have own:Builtin.Dict_items.ownsTuple "dict_keyiterator" =false:=by decide
 simp only[own,Bool.false_eq_true,if_false]
 show wpAny _ _ (if (Value.ref d==Value.none)=true then _ else _) _ _ s
 rw[if_neg (show ¬((Value.ref d==Value.none)=true)from Bool.false_ne_true)]
 refine wpAny_bind (wpAny_pure (wpAny_bind (wpAny_dictEntries b1 b3 ?_)))
 rw[if_neg (by simp)]
 refine wpAny_bind (wpAny_pure (wpAny_bind (wpAny_dictEpoch b1 b3 ?_)))
 rw[if_neg (by simp)]
 refine wpAny_pure ?_
 simp only[show ¬((i:Int)<0)from by omega,if_false,Int.toNat_natCast,Array.getElem?_eq_none x]
 refine wpAny_bind ?_
 first|refine wpAny_bind (wpAny_typeNameOfWhole_keyiter ty (wpAny_pure ?_))|refine wpAny_bind (wpAny_typeNameOf_keyiter ty (wpAny_pure ?_))
 show wpAny _ _ (setField (.ref it) 0 .none >>= _) _ _ s
 refine wpAny_bind (wpAny_setField a1 a3 (by simp) ?_)
 show wpAny _ _ (newExc (.type "StopIteration") [] >>= _) _ _ _
 refine wpAny_bind ?_
 simp only[newExc,newTuple]
 refine wpAny_bind (wpAny_newObj_type (wpAny_bind (m:=firstArgMember _ _) (wpAny_of_eq (a:=Value.none) (by first|rfl|(simp only[firstArgMember];rfl)) (wpAny_newObj_type ?_ (by size_fits)))) (by size_fits))
 simp only[raiseNew]
 refine wpAny_bind (wpAny_handled ?_)
 rw[hh]
 exact(wpAny_bind (wpAny_pure (wpAny_throw (q _ _ (((Heap.SameBut.update ..).extBut.push _).push _) ⟨_,Heap.get?_push_size _ rfl,rfl⟩))))
theorem JT{it d:Addr}{i ep:Nat}{es:Array DictEntry}{e:DictEntry}{Q:Option Value→Shared→Prop}(I:s.heap.IsKeyIter it d i es.size ep)(m:eG s.heap d es ep)(x:es[i]? =some e)
  (q:∀h',h'.IsKeyIter it d (i+1) es.size ep→Heap.SameBut it s.heap h'→Q (some e.key) { s with heap:=h' }):wpAny (model prog w) A (pyNext (.ref it)) Q E s:=by
 have ty:=I.typeIs
 unfold pyNext
 exact wpAny_bind (wpAny_attempt (wpAny_callSpecial?_slot (name:=Str.ofString "__next__") ty F.slot_dict_keyiterator_next (wpAny_call_entry F.slot_dict_keyiterator_next ty F.entry_dict_keyiterator_next (Tg I m x fun h' I' sb=>wpAny_pure (q h' I' sb)) (F.args_dict_keyiterator_next_1 _))))
theorem JU{it d:Addr}{i ep:Nat}{es:Array DictEntry}{Q:Option Value→Shared→Prop}(hh:A.handled=none)(I:s.heap.IsKeyIter it d i es.size ep)(m:eG s.heap d es ep)(x:es.size≤i)
  (q:∀h',Heap.ExtBut it s.heap h'→Q none { s with heap:=h' }):wpAny (model prog w) A (pyNext (.ref it)) Q E s:=by
 have ty:=I.typeIs
 unfold pyNext
 refine wpAny_bind (wpAny_attempt (wpAny_callSpecial?_slot (name:=Str.ofString "__next__") ty F.slot_dict_keyiterator_next (wpAny_call_entry F.slot_dict_keyiterator_next ty F.entry_dict_keyiterator_next (Th (show A.in1.handled=none from hh) I m x fun h' e eb he=>?_) (F.args_dict_keyiterator_next_1 _))))
 obtain⟨o,ho,hc⟩:=he
 exact wpAny_bind (wpAny_isInstance (T:="StopIteration") (b:=true) ⟨o,ho,hc⟩ isSubtype_stop (wpAny_pure (q _ eb)))
theorem FI(hh:A.handled=none)(I d:Addr)(lL:d≠I)(es:Array DictEntry)(ep:Nat):
  Walks prog w A I [I,d] [I] es.size (fun i v=>∃e,es[i]? =some e∧v=e.key) (fun i h=>h.IsKeyIter I d i es.size ep∧eG h d es ep) where
 sub:=fun b hb=>by simp at hb;simp[hb]
 frame:=fun _ _ _ st hk=>⟨st.1.at fun o e=>hk I (by simp) o e,st.2.at fun o e=>hk d (by simp) o e⟩
 item:=fun i s Q E hi st hQ=>by
  have x:es[i]? =some es[i]:=Array.getElem?_eq_getElem hi
  refine JT st.1 st.2 x fun h' I' sb=>?_
  exact hQ _ h' s.toks ⟨_,x,rfl⟩ ⟨I',st.2.at fun o e=>(sb.2 d lL).trans e⟩ fun b o hb e=>sb.extBut b o (fun h=>hb (by simp[h])) e
 done:=fun s Q E st hQ=>JU hh st.1 st.2 (Nat.le_refl _) fun h' A_=>hQ h' s.toks fun b o hb e=>A_ b o (fun h=>hb (by simp[h])) e
 self:=fun _ _ _ _ st hQ=>wpAny_pyIter_keyiter st.1 hQ
theorem NW{d:Addr}{es:Array DictEntry}{ep:Nat}(nd:(d==sysModules)=false):PySem.W.KdlSrc prog w "dict" d d es.size (fun i v=>∃e,es[i]? =some e∧v=e.key) (fun h=>eG h d es ep) where
 type:=fun _ m=>m.typeIs
 there:=fun _ m=>⟨m.lt,m.lt⟩
 keep:=fun _ _ m hk=>m.at fun o e=>hk d (.inl rfl) o e
 notList:=by decide
 notTuple:=by decide
 hint:=fun _ _ _ _ m hq=>PySem.W.kdl_hint_dict m.typeIs hq
 iter:=fun _ _ hh m=>⟨_,_,(fun _ _ hq=>JS nd m hq),FI hh _ d (Nat.ne_of_lt m.lt) es ep,⟨⟨_,Heap.get?_push_size _ rfl,rfl,rfl⟩,m.at fun o e=>Heap.get?_push_of_some _ e⟩⟩
end
end PySem
namespace L2
open PySem PySem.Spec PyProof.Rows
abbrev Key:=Sum Int Str
def nQ:Key→Value→Bool
 |.inl k,v=>Value.isInt k v
 |.inr x,v=>Value.isStrOf x v
def NX(w:World):Key→Int
 |.inl k=>hashInt k
 |.inr x=>hashStr w x
theorem cA:∀{k:Key}{v:Value},nQ k v=true→(∃i t,k=Sum.inl i∧v=Value.int i t)∨(∃x t,k=Sum.inr x∧v=Value.str x t)
 |.inl i,v,h=>by
  obtain⟨t,e⟩:=Value.isInt_shape (k:=i) (v:=v) h
  exact .inl ⟨i,t,rfl,e⟩
 |.inr x,v,h=>by
  obtain⟨t,e⟩:=Value.isStrOf_shape (x:=x) (v:=v) h
  exact .inr ⟨x,t,rfl,e⟩
theorem yz(i:Int)(t:Tok):nQ (.inl i) (.int i t)=true:=by simp[nQ,Value.isInt]
theorem yA(x:Str)(t:Tok):nQ (.inr x) (.str x t)=true:=by simp[nQ,Value.isStrOf]
theorem FJ(a b:Int):decide ((Sum.inl a:Key)=Sum.inl b)=(a==b):=by
 by_cases e:a=b
 ·subst e;simp
 ·have h:¬(Sum.inl a:Key)=Sum.inl b:=fun q=>e (Sum.inl.inj q)
  rw[decide_eq_false h]
  exact(beq_eq_false_iff_ne.mpr e).symm
theorem FK(a b:Str):decide ((Sum.inr a:Key)=Sum.inr b)=decide (a=b):=by
 by_cases e:a=b
 ·subst e;simp
 ·have h:¬(Sum.inr a:Key)=Sum.inr b:=fun q=>e (Sum.inr.inj q)
  rw[decide_eq_false h,decide_eq_false e]
theorem FL(a:Int)(b:Str):decide ((Sum.inl a:Key)=Sum.inr b)=false:=decide_eq_false (fun q=>nomatch q)
theorem FO(a:Str)(b:Int):decide ((Sum.inr a:Key)=Sum.inl b)=false:=decide_eq_false (fun q=>nomatch q)
def cJ(prog:Program)(w:World):PySem.KeyKind prog w Key where
 is:=nQ
 hash:=NX w
 inj:=fun v a b ha hb=>by
  rcases cA ha with⟨i,t,rfl,rfl⟩|⟨x,t,rfl,rfl⟩
  ·rcases cA hb with⟨j,u,rfl,e⟩|⟨y,u,rfl,e⟩
   ·injection e with e1 _;rw[e1]
   ·exact nomatch e
  ·rcases cA hb with⟨j,u,rfl,e⟩|⟨y,u,rfl,e⟩
   ·exact nomatch e
   ·injection e with e1 _;rw[e1]
 byValue:=fun k v h=>by
  rcases cA h with⟨i,t,rfl,rfl⟩|⟨x,t,rfl,rfl⟩<;>rfl
 pyHash:=fun hv h=>by
  rcases cA hv with⟨i,t,rfl,rfl⟩|⟨x,t,rfl,rfl⟩
  ·exact wpAny_pyHash_int h
  ·exact wpAny_pyHash_str h
 eqBool:=fun hu hv h=>by
  rcases cA hu with⟨i,t,rfl,rfl⟩|⟨x,t,rfl,rfl⟩
  ·rcases cA hv with⟨j,u,rfl,rfl⟩|⟨y,u,rfl,rfl⟩
   ·rw[FJ]at h;exact wpAny_eqBool_int h
   ·rw[FL]at h;exact SeqAt.EqAt.int_str i t y u _ _ _ _ h
  ·rcases cA hv with⟨j,u,rfl,rfl⟩|⟨y,u,rfl,rfl⟩
   ·rw[FO]at h;exact SeqAt.EqAt.str_int x t j u _ _ _ _ h
   ·rw[FK]at h;exact wpAny_eqBool_str h
 «strs»:=fun k x t v h=>by
  rcases cA h with⟨i,u,rfl,e⟩|⟨y,u,rfl,e⟩
  ·exact nomatch e
  ·injection e with e1 _
   subst e1
   cases v<;>rfl
theorem ug(prog:Program)(w:World)(i:Int)(t:Tok):(cJ prog w).is (.inl i) (.int i t)=true:=yz i t
theorem uh(prog:Program)(w:World)(x:Str)(t:Tok):(cJ prog w).is (.inr x) (.str x t)=true:=yA x t
end L2
namespace L2
open PySem PySem.Spec PyProof.Rows
inductive V where
 |bb|bl(b:Bool)|int(i:Int)|str(x:Str)|pW(b:Array UInt8)|Ba(b:UInt64)|ref(a:Addr)|ty(n:String)
 deriving DecidableEq
def RelV:V→Value→Prop
 |.bb,u=>u=Value.none
 |.bl b,u=>u=Value.bool b
 |.int i,u=>∃t,u=Value.int i t
 |.str x,u=>∃t,u=Value.str x t
 |.pW b,u=>∃t,u=Value.bytes b t
 |.Ba b,u=>∃t,u=Value.float b t
 |.ref a,u=>u=Value.ref a
 |.ty n,u=>u=Value.type n
abbrev Vals:List V→List Value→Prop:=Paired RelV
theorem Vals.length{xs:List V}{us:List Value}(r:Vals xs us):xs.length=us.length:=Paired.length r
theorem Vals.get:∀{xs:List V}{us:List Value}{i:Nat}{x:V},Vals xs us→xs[i]? =some x→∃u,us[i]? =some u∧RelV x u
 |_,_,_,_,.nil,e=>by simp at e
 |_,_,0,_,.cons r _,e=>by simp at e;subst e;exact⟨_,rfl,r⟩
 |_,_,i+1,x,.cons _ t,e=>by
  obtain⟨u,h1,h2⟩:=Vals.get (i:=i) (x:=x) t (by simpa using e)
  exact⟨u,by simpa using h1,h2⟩
theorem Vals.set{x:V}{u:Value}(r:RelV x u):∀{xs:List V}{us:List Value} (i:Nat),Vals xs us→Vals (xs.set i x) (us.set i u)
 |_,_,_,.nil=>.nil
 |_,_,0,.cons _ t=>.cons r t
 |_,_,i+1,.cons q t=>.cons q (Vals.set r i t)
theorem Vals.append:∀{xs ys:List V}{us ws:List Value},Vals xs us→Vals ys ws→Vals (xs++ys) (us++ws)
 |_,_,_,_,.nil,s=>s
 |_,_,_,_,.cons r t,s=>.cons r (Vals.append t s)
theorem Vals.take:∀{xs:List V}{us:List Value} (n:Nat),Vals xs us→Vals (xs.take n) (us.take n)
 |_,_,0,_=>.nil
 |_,_,_+1,.nil=>.nil
 |_,_,n+1,.cons r t=>.cons r (Vals.take n t)
theorem Vals.drop:∀{xs:List V}{us:List Value} (n:Nat),Vals xs us→Vals (xs.drop n) (us.drop n)
 |_,_,0,r=>r
 |_,_,_+1,.nil=>.nil
 |_,_,n+1,.cons _ t=>Vals.drop n t
def sU:Option V→Option Value→Prop
 |some v,some u=>RelV v u
 |none,none=>True
 |_,_=>False
def KV{κ:Type}:List (κ×V)→List (κ×Value)→Prop:=Paired fun(p:κ×V) (q:κ×Value)=>p.1=q.1∧RelV p.2 q.2
def kV:Key→V
 |.inl i=>.int i
 |.inr x=>.str x
inductive HO where
 |lst(xs:List V)
 |tup(xs:List V)
 |dK(aD:List (Key×V))|dT(aD:List (List Key×V))|dU(aD:List (List (List Key)×V))
 |set(S:Int→Bool)(n:Nat)
 |ins(C dx:Addr)(fs:List (Str×V))
 |own(x:Addr)
 |xd(fs:List (Str×V))
 |met(f x:Addr)
 |dI(lo hi:Int)
 |dP(o:Obj)(u:HO)
 |jH(ps:Array Value)
 |ext(φ:Heap→Prop)
abbrev Hp:=Addr→Option HO
def upd(H:Hp)(a:Addr)(o:HO):Hp:=fun b=>if b=a then some o else H b
theorem bN{H:Hp}{a:Addr}{o:HO}:upd H a o a=some o:=by unfold upd;rw[if_pos rfl]
theorem aF{H:Hp}{a b:Addr}{o:HO}(h:b≠a):upd H a o b=H b:=by unfold upd;rw[if_neg h]
theorem JV{H:Hp}{a b:Addr}{o u:HO}(h:H a=some o)(h':H b=some u)(d:o≠u):a≠b:=by
 intro e;subst e;rw[h]at h';exact d (Option.some.inj h')
theorem bO{H:Hp}{a b:Addr}{o:HO}(h:H a=some o)(h':H b=none):a≠b:=by
 intro e;subst e;rw[h]at h';cases h'
def Ab(H:Hp)(eD:List (List Key))(b:Addr):Prop:=∃as:List Addr,H b=some (.tup (as.map V.ref))∧Paired (fun(ks:List Key) (a:Addr)=>H a=some (.tup (ks.map kV))) eD as
section
variable(P:Program)(w:World)
def bH(H:Hp)(h:Heap)(a:Addr):HO→Prop
 |.lst xs=>xs.length≤sizeLine∧∃(its:List Value) (n:Nat),Vals xs its∧h.get? a=some { cls:=.type "list",data:=.seq its.toArray n }
 |.tup xs=>xs.length≤sizeLine∧∃its:List Value,Vals xs its∧IsTup h a its.toArray
 |.dK aD=>aD.length≤sizeLine∧(a==sysModules)=false∧∃vs,KV aD vs∧h.DictOf (cJ P w) a vs
 |.dT aD=>aD.length≤sizeLine∧(a==sysModules)=false∧∃xs:List (List Key×Addr×Value),
   Paired (fun(p:List Key×V) (q:List Key×Addr×Value)=>p.1=q.1∧H q.2.1=some (.tup (p.1.map kV))∧RelV p.2 q.2.2) aD xs∧
   ∃o es ep,h.get? a=some o∧o.ExactDict∧o.data= .dict es ep∧es.toList=xs.map (entryOfKey (tupleKind (cJ P w)))∧(xs.map (·.1)).Nodup
 |.dU aD=>aD.length≤sizeLine∧(a==sysModules)=false∧∃xs:List (List (List Key)×Addr×Value),
   Paired (fun(p:List (List Key)×V) (q:List (List Key)×Addr×Value)=>p.1=q.1∧Ab H p.1 q.2.1∧RelV p.2 q.2.2) aD xs∧
   ∃o es ep,h.get? a=some o∧o.ExactDict∧o.data= .dict es ep∧es.toList=xs.map (entryOfKey (JR (cJ P w)))∧(xs.map (·.1)).Nodup
 |.set S n=>h.SetOf (intKind P w) a S n
 |.ins C dx fs=>H dx=some (.own a)∧fs.length≤1000∧dx≠a∧h.get? a=some (PySem.W.instObj C dx)∧
   ∃mA,h.Ns1 dx mA∧(∀f,sU (fs.lookup f) (mA f))∧PySem.Within mA (fs.map (·.1))
 |.own _=>∃o,h.get? a=some o
 |.xd fs=>∃mA,h.Ns1 a mA∧∀f,sU (fs.lookup f) (mA f)
 |.dI lo hi=>∃t u v,h.get? a=some { cls:=.type "range",data:=.fields #[.int lo t,.int hi u,.int 1 v] }
 |.dP o u=>h.get? a=some o∧bH H h a u
 |.jH ps=>h.get? a=some { cls:=.none,data:=.fields ps }
 |.met f x=>h.get? a=some (PySem.W.methodObj (.ref f) (.ref x))
 |.ext φ=>φ h∧(∃o,h.get? a=some o)∧∀h1 h2:Heap,φ h1→(∀o,h1.get? a=some o→h2.get? a=some o)→φ h2
def dZ(H:Hp)(h:Heap):Prop:=∀a o,H a=some o→bH P w H h a o
end
section
variable{P:Program}{w:World}{H H':Hp}{h h':Heap}{a:Addr}{o:HO}
theorem bH.lt(x:bH P w H h a o):a<h.objs.size:=by
 cases o with
 |lst xs=>obtain⟨_,_,_,_,e⟩:=x;exact Heap.lt_size e
 |tup xs=>obtain⟨_,_,_,p⟩:=x;exact p.lt
 |dK aD=>obtain⟨_,_,_,_,o,_,_,e,_⟩:=x;exact Heap.lt_size e
 |dT aD=>obtain⟨_,_,_,_,o,_,_,e,_⟩:=x;exact Heap.lt_size e
 |dU aD=>obtain⟨_,_,_,_,o,_,_,e,_⟩:=x;exact Heap.lt_size e
 |set S n=>obtain⟨o,_,_,_,e,_⟩:=x;exact Heap.lt_size e
 |ins C dx fs=>obtain⟨_,_,_,e,_⟩:=x;exact Heap.lt_size e
 |own y=>obtain⟨_,e⟩:=x;exact Heap.lt_size e
 |xd fs=>obtain⟨_,⟨_,_,_,e,_⟩,_⟩:=x;exact Heap.lt_size e
 |dI lo hi=>obtain⟨_,_,_,e⟩:=x;exact Heap.lt_size e
 |dP ob u=>obtain⟨e,_⟩:=x;exact Heap.lt_size e
 |jH ps=>exact Heap.lt_size (show h.get? a=some _ from x)
 |met f y=>exact Heap.lt_size (show h.get? a=some _ from x)
 |ext φ=>obtain⟨_,⟨_,e⟩,_⟩:=x;exact Heap.lt_size e
theorem Paired.mw{α β:Type}{F G:α→β→Prop}:∀{IP:List α}{IS:List β},Paired F IP IS→(∀a b,F a b→G a b)→Paired G IP IS
 |_,_,.nil,_=>.nil
 |_,_,.cons r t,f=>.cons (f _ _ r) (Paired.mw t f)
theorem Ab.more{H H':Hp}{eD:List (List Key)}{b:Addr}(x:Ab H eD b)(ht:∀b xs,H b=some (.tup xs)→H' b=some (.tup xs)):Ab H' eD b:=by
 obtain⟨as,h1,h2⟩:=x
 exact⟨as,ht _ _ h1,Paired.mw h2 fun _ _ z=>ht _ _ z⟩
theorem bH.mB(x:bH P w H h a o)(k:∀b u,(b=a∨H b=some (.own a))→h.get? b=some u→h'.get? b=some u)
  (ho:∀b,H b=some (.own a)→H' b=some (.own a))(ht:∀b xs,H b=some (.tup xs)→H' b=some (.tup xs)):bH P w H' h' a o:=by
 induction o with
 |lst xs=>obtain⟨z,its,n,r,e⟩:=x;exact⟨z,its,n,r,k _ _ (.inl rfl) e⟩
 |tup xs=>obtain⟨z,its,r,ob,e,c⟩:=x;exact⟨z,its,r,ob,k _ _ (.inl rfl) e,c⟩
 |dK aD=>obtain⟨z,y,vs,r,ob,es,ep,e,c⟩:=x;exact⟨z,y,vs,r,ob,es,ep,k _ _ (.inl rfl) e,c⟩
 |dT aD=>
  obtain⟨z,y,xs,r,ob,es,ep,e,c⟩:=x
  exact⟨z,y,xs,Paired.mw r fun p q z=>⟨z.1,ht _ _ z.2.1,z.2.2⟩,ob,es,ep,k _ _ (.inl rfl) e,c⟩
 |dU aD=>
  obtain⟨z,y,xs,r,ob,es,ep,e,c⟩:=x
  exact⟨z,y,xs,Paired.mw r fun p q z=>⟨z.1,z.2.1.more ht,z.2.2⟩,ob,es,ep,k _ _ (.inl rfl) e,c⟩
 |set S n=>obtain⟨ob,es,ep,t,e,c⟩:=x;exact⟨ob,es,ep,t,k _ _ (.inl rfl) e,c⟩
 |ins C dx fs=>
  obtain⟨d,z,ne,e,mA,⟨od,es,ep,e2,c⟩,r⟩:=x
  exact⟨ho _ d,z,ne,k _ _ (.inl rfl) e,mA,⟨od,es,ep,k _ _ (.inr d) e2,c⟩,r⟩
 |own y=>obtain⟨ob,e⟩:=x;exact⟨ob,k _ _ (.inl rfl) e⟩
 |xd fs=>obtain⟨mA,⟨od,es,ep,e,c⟩,r⟩:=x;exact⟨mA,⟨od,es,ep,k _ _ (.inl rfl) e,c⟩,r⟩
 |dI lo hi=>obtain⟨t,u,v,e⟩:=x;exact⟨t,u,v,k _ _ (.inl rfl) e⟩
 |dP ob u ih=>obtain⟨e,q⟩:=x;exact⟨k _ _ (.inl rfl) e,ih q⟩
 |jH ps=>
  have e:h.get? a=some { cls:=.none,data:=.fields ps }:=x
  show h'.get? a=some { cls:=.none,data:=.fields ps }
  exact k a _ (.inl rfl) e
 |met f y=>
  have e:h.get? a=some (PySem.W.methodObj (.ref f) (.ref y)):=x
  show h'.get? a=some (PySem.W.methodObj (.ref f) (.ref y))
  exact k a _ (.inl rfl) e
 |ext φ=>obtain⟨p,⟨o,e⟩,st⟩:=x;exact⟨st _ _ p fun o q=>k _ _ (.inl rfl) q,⟨o,k _ _ (.inl rfl) e⟩,st⟩
theorem dZ.lt(x:dZ P w H h)(e:H a=some o):a<h.objs.size:=(x a o e).lt
theorem dZ.fresh(x:dZ P w H h)(e:h.objs.size≤a):H a=none:=by
 cases q:H a with
 |none=>rfl
 |some u=>exact absurd (Nat.lt_of_lt_of_le (x.lt q) e) (Nat.lt_irrefl _)
theorem dZ.kept(x:dZ P w H h)(k:∀b u,h.get? b=some u→h'.get? b=some u):dZ P w H h':=fun a o e=>
 (x a o e).mB (fun b u _ q=>k b u q) (fun _ q=>q) fun _ _ q=>q
theorem dZ.laid(x:dZ P w H h)(k:∀b u,h.get? b=some u→h'.get? b=some u)(hp:h.objs.size≤a)(new:bH P w (upd H a o) h' a o):dZ P w (upd H a o) h':=fun b u e=>by
 have hn:=x.fresh hp
 by_cases hb:b=a
 ·subst hb;rw[bN]at e;cases e;exact new
 ·rw[aF hb]at e
  exact(x b u e).mB (fun c v _ q=>k c v q) (fun c q=>by rw[aF (bO q hn)];exact q) fun c xs q=>by rw[aF (bO q hn)];exact q
end
def Rd(H:Hp)(a:Addr)(u:HO):Prop:=H a=some u∨∃o,H a=some (.dP o u)
theorem Rd.ok{P:Program}{w:World}{H:Hp}{h:Heap}{a:Addr}{u:HO}(r:Rd H a u)(x:dZ P w H h):bH P w H h a u:=by
 rcases r with r|⟨o,r⟩
 ·exact x a u r
 ·obtain⟨_,q⟩:=x a _ r
  exact q
def CV:Option HO→Prop
 |some (.lst _)=>True
 |some (.dK _)=>True
 |some (.dT _)=>True
 |some (.dU _)=>True
 |some (.set _ _)=>True
 |some (.ins _ _ _)=>True
 |some (.ext _)=>True
 |_=>False
section
variable{P:Program}{w:World}{H:Hp}{h h':Heap}{x e:Addr}{o':HO}
theorem dZ.write(ok:dZ P w H h)(mu:CV (H x))(he:e=x∨H e=some (.own x))(k:∀b u,b≠e→h.get? b=some u→h'.get? b=some u)(Bb:∃u,h'.get? e=some u)
  (new:bH P w (upd H x o') h' x o'):dZ P w (upd H x o') h':=fun b u q=>by
 have IT:∀c y,H c=some (.own y)→c≠x:=fun c y r z=>by subst z;rw[r]at mu;exact mu
 have NY:∀c xs,H c=some (.tup xs)→c≠x:=fun c xs r z=>by subst z;rw[r]at mu;exact mu
 by_cases hb:b=x
 ·subst hb;rw[bN]at q;cases q;exact new
 ·rw[aF hb]at q
  by_cases yB:b=e
  ·have q':H b=some (.own x):=by
    rcases he with z|z
    ·exact absurd (yB.trans z) hb
    ·rw[yB];exact z
   rw[q]at q';cases q'
   obtain⟨v,hv⟩:=Bb
   exact⟨v,by rw[yB];exact hv⟩
  ·refine(ok b u q).mB (fun c v hc r=>k c v ?_ r) (fun c r=>by rw[aF (IT c b r)];exact r) fun c xs r=>by rw[aF (NY c xs r)];exact r
   rcases hc with rfl|hc
   ·exact yB
   ·rintro rfl
    rcases he with z|z
    ·exact IT c b hc z
    ·rw[hc]at z;cases z;exact hb rfl
end
structure Un(fs ex:List Addr)(H H':Hp)(h h':Heap):Prop where
 keep:∀b o,h.get? b=some o→H b=none→b∉fs→b∉ex→h'.get? b=some o
 slot:∀b o,h.get? b=some o→H b=none→b∈fs→b∉ex→∃sl,h'.get? b=some { o with slots:=sl }
 free:∀b o,h.get? b=some o→H b=none→b∉ex→H' b=none
 there:∀b o,h.get? b=some o→b∉ex→∃o',h'.get? b=some o'
 mC:∀b xs,H b=some (.tup xs)→H' b=some (.tup xs)
 jC:∀b o u,H b=some (.dP o u)→H' b=some (.dP o u)
 ll:∀b ps,H b=some (.jH ps)→∃more,H' b=some (.jH (ps++more))
section
variable{fs Ti ex Xc:List Addr}{H H1 H2:Hp}{h h1 h2 h':Heap}{a x e:Addr}{o:HO}
theorem Un.any(u:Un fs ex H H1 h h1){b:Addr}{ob:Obj}(q:h.get? b=some ob)(n:H b=none)(hx:b∉ex):∃sl,h1.get? b=some { ob with slots:=sl }:=by
 by_cases hb:b∈fs
 ·exact u.slot b ob q n hb hx
 ·exact⟨ob.slots,u.keep b ob q n hb hx⟩
theorem Un.kept(k:∀b u,h.get? b=some u→h'.get? b=some u):Un fs ex H H h h':=
 ⟨fun b ob q _ _ _=>k b ob q,fun b ob q _ _ _=>⟨ob.slots,k b ob q⟩,fun _ _ _ n _=>n,fun b ob q _=>⟨ob,k b ob q⟩,fun _ _ q=>q,fun _ _ _ q=>q,fun _ ps q=>⟨#[],by rw[q];simp⟩⟩
theorem Un.refl:Un fs ex H H h h:=Un.kept fun _ _ q=>q
theorem Un.laid(k:∀b u,h.get? b=some u→h'.get? b=some u)(hp:h.objs.size≤a)(hn:H a=none):Un fs ex H (upd H a o) h h' where
 keep:=fun b u q _ _ _=>k b u q
 slot:=fun b u q _ _ _=>⟨u.slots,k b u q⟩
 free:=fun b u q n _=>by rw[aF (Nat.ne_of_lt (Nat.lt_of_lt_of_le (Heap.lt_size q) hp))];exact n
 there:=fun b u q _=>⟨u,k b u q⟩
 mC:=fun b xs q=>by rw[aF (bO q hn)];exact q
 jC:=fun b u xs q=>by rw[aF (bO q hn)];exact q
 ll:=fun b ps q=>⟨#[],by rw[aF (bO q hn),q];simp⟩
theorem Un.write(mu:CV (H x))(he:e=x∨H e=some (.own x))(k:∀b u,b≠e→h.get? b=some u→h'.get? b=some u)(Bb:∃u,h'.get? e=some u):Un fs ex H (upd H x o) h h':=by
 have hx:∀b,H b=none→b≠x:=fun b n z=>by subst z;rw[n]at mu;exact mu
 have hb:∀b,H b=none→b≠e:=fun b n z=>by
  subst z
  rcases he with r|r
  ·exact hx b n r
  ·rw[n]at r;cases r
 have hm:∀b u,H b=some u→¬CV (some u)→b≠x:=fun b u q nm z=>by subst z;rw[q]at mu;exact nm mu
 refine⟨fun b u q n _ _=>k b u (hb b n) q,fun b u q n _ _=>⟨u.slots,k b u (hb b n) q⟩,fun b u q n _=>by rw[aF (hx b n)];exact n,fun b u q _=>?_,
  fun b xs q=>by rw[aF (hm b _ q fun z=>z)];exact q,fun b u xs q=>by rw[aF (hm b _ q fun z=>z)];exact q,fun b ps q=>⟨#[],by rw[aF (hm b _ q fun z=>z),q];simp⟩⟩
 by_cases yB:b=e
 ·subst yB;exact Bb
 ·exact⟨u,k b u yB q⟩
end
def FP(h:Heap)(H:Hp):List Addr:=(List.range h.objs.size).filter fun a=>(H a).isSome
def mD(h:Heap)(H:Hp):Heap:=PySem.W.hideAll h (FP h H)
theorem yC(h:Heap)(H:Hp):(mD h H).objs.size=h.objs.size:=PySem.W.hideAll_size _ _
theorem Bc{h:Heap}{H:Hp}{b:Addr}{o:Obj}(e:h.get? b=some o)(n:H b=none):(mD h H).get? b=some o:=
 PySem.W.hideAll_get _ e fun hm=>by
  have q:(H b).isSome=true:=(List.mem_filter.mp hm).2
  rw[n]at q;simp at q
theorem CW{h:Heap}{H:Hp}{b:Addr}{o:Obj}(e:(mD h H).get? b=some o):h.get? b=some o∧H b=none:=by
 have e':h.get? b=some o:=PySem.W.of_hideAll (FP h H) e
 refine⟨e',?_⟩
 cases q:H b with
 |none=>rfl
 |some x=>
  have hm:b∈FP h H:=List.mem_filter.mpr ⟨List.mem_range.mpr (Heap.lt_size e'),by simp[q]⟩
  have z:(mD h H).get? b=none:=PySem.W.hideAll_none (FP h H) hm
  rw[z]at e;cases e
def iK(g h:Heap)(L:Addr):List (Addr×Obj):=(List.range h.objs.size).filterMap fun a=>if a=L∨(g.get? a).isSome=true then none else(h.get? a).map fun o=>(a,o)
theorem mE{g h:Heap}{L a:Addr}{o:Obj}(h1:a≠L)(h2:g.get? a=none)(h3:h.get? a=some o):(a,o)∈iK g h L:=
 List.mem_filterMap.mpr ⟨a,List.mem_range.mpr (Heap.lt_size h3),by simp[h1,h2,h3]⟩
theorem pj{g h:Heap}{L:Addr}{p:Addr×Obj}(hp:p∈iK g h L):p.1≠L∧g.get? p.1=none∧h.get? p.1=some p.2:=by
 obtain⟨b,_,e⟩:=List.mem_filterMap.mp hp
 split at e
 ·cases e
 ·rename_i hn
  cases q:h.get? b with
  |none=>rw[q]at e;simp at e
  |some u=>
   rw[q]at e
   simp only[Option.map_some,Option.some.injEq]at e
   subst e
   refine⟨fun z=>hn (.inl z),?_,q⟩
   show g.get? b=none
   cases r:g.get? b with
   |none=>rfl
   |some v=>exact(hn (.inr (by simp[r]))).elim
def rest(g h:Heap)(L d:Addr):List (Addr×Obj):=(iK g h L).filter fun p=>decide (p.1≠d)
theorem sV{g h:Heap}{L:Addr}:News g L h (iK g h L):=fun p hp=>let ⟨a,b,c⟩:=pj hp;⟨c,a,b⟩
end L2
namespace L2
open PySem PySem.Spec PyProof.Rows
structure Mod(K:PySem.W.Frag)(mg:Str→Option Value)(base:Heap):Prop where
 CY:K.In base
 glob:base.Ns mainGlobals mg
 blt:∃mb,base.Ns builtinsNs mb∧∀x:Str,x≠"__name__"→mb x=bootBuiltins x
 nolimit:base.NoLimit
 bmain:∃bm ob,mg "__builtins__" =some (.ref bm)∧bm≠builtinsNs∧base.get? bm=some ob∧ob.cls= .type "module"∧ob.dict=some builtinsNs∧ob.data= .plain
structure Cx where
 prog:Program
 w:World
 K:PySem.W.Frag
 mg:Str→Option Value
 base:Heap
 A:Around
 N:List Str
 aW:Shared
 bW:Hp
 env:Env
 outer:List Env
 stack:List Env
 ex:List Addr
 fn:Str→Bool
 calm:Bool
 pn:List (Addr×Obj)
 xe:Value→Shared→Prop
def pX(l:List Env):List Addr:=l.filterMap (·.frame)
abbrev Cx.fs(X:Cx):List Addr:=pX X.outer
def CZ(sc:Scope)(x:Str):Prop:=sc.names.lookup x=some .local∨sc.names.lookup x=some .cell∨sc.names.lookup x=some .free
def Loc(sc:Scope)(x:Str):Prop:=sc.names.lookup x=some .local∨sc.names.lookup x=some .cell
def Look(env:Env)(h:Heap)(m:Str→Option Value)(x:Str)(u:Value):Prop:=
 (env.kindOf x=some .local∧m x=some u)∨((env.kindOf x=some .cell∨env.kindOf x=some .free)∧∃c,env.cells.lookup x=some c∧h.IsCell c (some u))
structure Cx.Ok(X:Cx):Prop where
 mod:Mod X.K X.mg X.base
 kind:X.env.scope.kind= .function
 glob:X.env.globals=mainGlobals
 blt:X.env.builtins=builtinsNs
 above:X.aW.heap.objs.size≤X.env.locals
 inj:∀x y c,X.env.cells.lookup x=some c→X.env.cells.lookup y=some c→x=y
 has:∀x,(X.env.kindOf x=some .cell∨X.env.kindOf x=some .free)→∃c,X.env.cells.lookup x=some c
 Be:∀x c,X.fn x=true→X.env.cells.lookup x=some c→X.aW.heap.objs.size≤c
 hd:X.calm=true→X.A.handled=none
 frames:X.A.frames=some X.stack
 C0:X.stack=X.outer∨(X.stack=X.env::X.outer∧X.env.frame=some X.env.locals)
 C1:∀b∈X.ex,b≠X.env.locals∧∀x c,X.env.cells.lookup x=some c→c≠b
 bs:∀b o,X.base.get? b=some o→X.aW.heap.get? b=some o∧X.bW b=none
 pY:X.base.objs.size≤X.aW.heap.objs.size
 sW:∀b o,X.base.get? b=some o→b∉X.ex
 sX:∀b∈X.ex,b∉X.fs
 iL:X.aW.heap.FunFrames X.base X.outer
 vF:∀b∈X.fs,X.bW b=none
structure Inv(X:Cx)(pins:List (Addr×Obj))(σ:List (Option V))(H:Hp)(s:Shared):Prop where
 ok:X.Ok
 os:s.os=X.aW.os
 bare:AllBare s.gens
 base:Un X.fs X.ex X.bW H X.aW.heap s.heap
 loc:∃m,s.heap.Ns X.env.locals m∧∀(i:Nat) (x:Str) (v:V),X.N[i]? =some x→σ[i]? =some (some v)→CZ X.env.scope x→∃u,RelV v u∧Look X.env s.heap m x u
 cell:∀x c,X.env.cells.lookup x=some c→∃v,s.heap.IsCell c v
 free:H X.env.locals=none
 fj:∀x c,X.env.cells.lookup x=some c→H c=none∨(X.fn x=false∧∃o u,H c=some (.dP o u))
 pin:∀p∈X.pn++pins,s.heap.get? p.1=some p.2∧H p.1=none∧p.1≠X.env.locals∧p.1∉X.fs∧∀v,p.2.data≠.cell v
 aR:dZ X.prog X.w H s.heap
 len:σ.length=X.N.length
section
variable{X:Cx}{pins:List (Addr×Obj)}{σ:List (Option V)}{H H':Hp}{s:Shared}{h':Heap}
theorem Cx.Ok.NZ(ok:X.Ok){b:Addr}{o:Obj}(e:X.base.get? b=some o):b∉X.fs:=fun hb=>by
 have:=(ok.iL.mem hb).1
 rw[e]at this;cases this
theorem Inv.bs(I:Inv X pins σ H s):∀b o,X.base.get? b=some o→s.heap.get? b=some o∧H b=none:=fun b o e=>
 ⟨I.base.keep b o (I.ok.bs b o e).1 (I.ok.bs b o e).2 (I.ok.NZ e) (I.ok.sW b o e),I.base.free b o (I.ok.bs b o e).1 (I.ok.bs b o e).2 (I.ok.sW b o e)⟩
theorem Inv.bk(I:Inv X pins σ H s):∀b o,X.base.get? b=some o→s.heap.get? b=some o:=fun b o e=>(I.bs b o e).1
theorem Inv.mod(I:Inv X pins σ H s):Mod X.K X.mg X.base:=I.ok.mod
theorem Inv.i_(I:Inv X pins σ H s):X.K.In s.heap:=I.ok.mod.CY.keeps I.bk
theorem Inv.fr(I:Inv X pins σ H s):∃m,Fr X.base X.env.locals s.heap m:=
 let ⟨m,hn,_⟩:=I.loc
 ⟨m,hn,I.bk,Nat.le_trans I.ok.pY I.ok.above⟩
theorem Inv.lt(I:Inv X pins σ H s):X.env.locals<s.heap.objs.size:=let ⟨_,hn,_⟩:=I.loc;hn.lt
theorem Inv.sz(I:Inv X pins σ H s):X.aW.heap.objs.size≤s.heap.objs.size:=Nat.le_trans I.ok.above (Nat.le_of_lt I.lt)
theorem Inv.IU(I:Inv X pins σ H s){a:Addr}(h:s.heap.objs.size≤a):a∉X.fs:=fun hb=>by
 obtain⟨_,o,ho,_⟩:=I.ok.iL.mem hb
 exact absurd (Nat.lt_of_lt_of_le (Heap.lt_size ho) (Nat.le_trans I.sz h)) (Nat.lt_irrefl _)
theorem Inv.vG(I:Inv X pins σ H s):∀x c,X.env.cells.lookup x=some c→c≠X.env.locals:=fun x c e z=>by
 obtain⟨v,o,ho,hd⟩:=I.cell x c e
 obtain⟨m,⟨o',es,ep,mF,Tj,_⟩,_⟩:=I.loc
 rw[z,mF]at ho;cases ho;rw[Tj]at hd;cases hd
theorem Inv.iL(I:Inv X pins σ H s):s.heap.FunFrames X.base X.outer:=by
 have all:∀(l:List Env),(∀b∈pX l,b∈X.fs)→X.aW.heap.FunFrames X.base l→s.heap.FunFrames X.base l:=by
  intro l
  induction l with
  |nil=>intro _ _;trivial
  |cons env r ih=>
   intro hs hl
   obtain⟨hk,⟨L,o,hf,hn,ho,hd⟩,hr⟩:=hl
   have hL:L∈X.fs:=hs L (by unfold pX;rw[List.filterMap_cons,hf];exact List.mem_cons_self)
   obtain⟨sl,e⟩:=I.base.slot L o ho (I.ok.vF L hL) hL fun z=>I.ok.sX L z hL
   exact⟨hk,⟨L,_,hf,hn,e,hd⟩,ih (fun b hb=>hs b (by unfold pX;rw[List.filterMap_cons,hf];exact List.mem_cons_of_mem _ hb)) hr⟩
 exact all X.outer (fun _ hb=>hb) I.ok.iL
theorem Inv.stack(I:Inv X pins σ H s):s.heap.FunFrames X.base X.stack:=by
 rcases I.ok.C0 with e|⟨e,hf⟩
 ·rw[e];exact I.iL
 ·rw[e]
  obtain⟨m,hn,_⟩:=I.loc
  refine .cons (by rw[I.ok.kind];decide) hf hn ?_ I.iL
  exact Heap.get?_none_of_le (Nat.le_trans I.ok.pY I.ok.above)
theorem Inv.ui(I:Inv X pins σ H s):∀b∈pX X.stack,b∈X.env.locals::X.fs:=fun b hb=>by
 rcases I.ok.C0 with e|⟨e,hf⟩
 ·rw[e]at hb;exact List.mem_cons_of_mem _ hb
 ·rw[e]at hb
  unfold pX at hb
  rw[List.filterMap_cons,hf]at hb
  exact hb
theorem Inv.vH(I:Inv X pins σ H s):∀b∈pX X.stack,H b=none:=fun b hb=>by
 rcases List.mem_cons.mp (I.ui b hb)with e|hb
 ·rw[e];exact I.free
 ·obtain⟨_,o,ho,_⟩:=I.ok.iL.mem hb
  exact I.base.free b o ho (I.ok.vF b hb) fun z=>I.ok.sX b z hb
theorem Inv.step{g':Array GenState}{t':Nat}{d':Drawn}{ch:List Addr}(I:Inv X pins σ H s)
  (iM:∀b∈ch,(b∈X.ex∨X.aW.heap.objs.size≤b)∧b≠X.env.locals∧(∀x c,X.env.cells.lookup x=some c→c≠b)∧∀p∈X.pn++pins,p.1≠b)
  (keep:∀b o,b≠X.env.locals→b∉X.fs→b∉ch→s.heap.get? b=some o→H b=none→h'.get? b=some o)
  (slot:∀b o,b≠X.env.locals→b∈X.fs→b∉ch→s.heap.get? b=some o→H b=none→∃sl,h'.get? b=some { o with slots:=sl })(free:∀b o,b∉ch→s.heap.get? b=some o→H b=none→H' b=none)
  (there:∀b o,b∉ch→s.heap.get? b=some o→∃o',h'.get? b=some o')
  (mC:∀b xs,H b=some (.tup xs)→H' b=some (.tup xs))(jC:∀b o u,H b=some (.dP o u)→H' b=some (.dP o u))(ll:∀b ps,H b=some (.jH ps)→∃more,H' b=some (.jH (ps++more)))
  (ns:∀m,s.heap.Ns X.env.locals m→h'.Ns X.env.locals m)(aR:dZ X.prog X.w H' h')(hg:AllBare g'):
  Inv X pins σ H' { s with heap:=h',gens:=g',drawn:=d',toks:=t' }:=by
 have N1:∀b o,X.aW.heap.get? b=some o→b≠X.env.locals:=fun b o e=>Nat.ne_of_lt (Nat.lt_of_lt_of_le (Heap.lt_size e) I.ok.above)
 have FQ:∀b o,X.aW.heap.get? b=some o→b∉X.ex→b∉ch:=fun b o e hx hb=>by
  rcases(iM b hb).1 with z|z
  ·exact hx z
  ·exact absurd (Nat.lt_of_lt_of_le (Heap.lt_size e) z) (Nat.lt_irrefl _)
 have cellK:∀x c,X.env.cells.lookup x=some c→∀v,s.heap.IsCell c v→h'.IsCell c v:=by
  rintro x c e v ⟨o,ho,hd⟩
  have C2:c∉ch:=fun z=>(iM c z).2.2.1 x c e rfl
  rcases I.fj x c e with nn|⟨_,o',u,nn⟩
  ·by_cases hc:c∈X.fs
   ·obtain⟨sl,q⟩:=slot c o (I.vG x c e) hc C2 ho nn
    exact⟨_,q,hd⟩
   ·exact⟨o,keep c o (I.vG x c e) hc C2 ho nn,hd⟩
  ·have e1:s.heap.get? c=some o':=(I.aR c _ nn).1
   have e2:h'.get? c=some o':=(aR c _ (jC c o' u nn)).1
   rw[ho]at e1;cases e1
   exact⟨o,e2,hd⟩
 refine⟨I.ok,I.os,hg,⟨fun b o e n hb hx=>?_,fun b o e n hb hx=>?_,fun b o e n hx=>?_,fun b o e hx=>?_,fun b xs e=>mC b xs (I.base.mC b xs e),fun b o xs e=>jC b o xs (I.base.jC b o xs e),fun b ps e=>?_⟩,?_,fun x c e=>?_,?_,fun x c e=>?_,fun p hp=>?_,aR,I.len⟩
 ·exact keep b o (N1 b o e) hb (FQ b o e hx) (I.base.keep b o e n hb hx) (I.base.free b o e n hx)
 ·obtain⟨sl,e1⟩:=I.base.slot b o e n hb hx
  obtain⟨Tn,e2⟩:=slot b _ (N1 b o e) hb (FQ b o e hx) e1 (I.base.free b o e n hx)
  exact⟨Tn,e2⟩
 ·obtain⟨o',e1⟩:=I.base.there b o e hx
  exact free b o' (FQ b o e hx) e1 (I.base.free b o e n hx)
 ·obtain⟨o',e1⟩:=I.base.there b o e hx
  exact there b o' (FQ b o e hx) e1
 ·obtain⟨m1,e1⟩:=I.base.ll b ps e
  obtain⟨m2,e2⟩:=ll b _ e1
  exact⟨m1++m2,by rw[e2,Array.append_assoc]⟩
 ·obtain⟨m,hn,hl⟩:=I.loc
  refine⟨m,ns m hn,fun i x v e1 e2 e3=>?_⟩
  obtain⟨u,r,l⟩:=hl i x v e1 e2 e3
  refine⟨u,r,?_⟩
  rcases l with l|⟨k,c,e,z⟩
  ·exact .inl l
  ·exact .inr ⟨k,c,e,cellK x c e _ z⟩
 ·obtain⟨v,z⟩:=I.cell x c e
  exact⟨v,cellK x c e v z⟩
 ·obtain⟨m,⟨o,_,_,ho,_⟩,_⟩:=I.loc
  exact free _ o (fun z=>(iM _ z).2.1 rfl) ho I.free
 ·obtain⟨v,o,ho,hd⟩:=I.cell x c e
  rcases I.fj x c e with nn|⟨hf,o',u,nn⟩
  ·exact .inl (free c o (fun z=>(iM c z).2.2.1 x c e rfl) ho nn)
  ·exact .inr ⟨hf,o',u,jC c o' u nn⟩
 ·obtain⟨e,n,ne,nf,d⟩:=I.pin p hp
  have C2:p.1∉ch:=fun z=>(iM p.1 z).2.2.2 p hp rfl
  exact⟨keep p.1 p.2 ne nf C2 e n,free p.1 p.2 C2 e n,ne,nf,d⟩
theorem Inv.un{t':Nat}(I:Inv X pins σ H s)(u:Un X.fs [] H H' s.heap h')(aR:dZ X.prog X.w H' h'):Inv X pins σ H' { s with heap:=h',toks:=t' }:=by
 obtain⟨m,⟨o,es,ep,ho,r⟩,_⟩:=id I.loc
 obtain⟨sl,hL⟩:=u.any ho I.free (by simp)
 exact I.step (g':=s.gens) (d':=s.drawn) (ch:=[]) (fun _ z=>nomatch z) (fun b o _ hb _ e n=>u.keep b o e n hb (by simp)) (fun b o _ hb _ e n=>u.slot b o e n hb (by simp)) (fun b o _ e n=>u.free b o e n (by simp)) (fun b o _ e=>u.there b o e (by simp)) u.mC u.jC u.ll (fun m' hm=>by
  obtain⟨o',JW,JX,mF,r'⟩:=hm
  rw[ho]at mF;cases mF
  exact⟨_,JW,JX,hL,r'⟩) aR I.bare
theorem Inv.call{g':Array GenState}{t':Nat}{d':Drawn}{ch:List Addr}(I:Inv X pins σ H s)(u:Un (pX X.stack) ch H H' s.heap h')(aR:dZ X.prog X.w H' h')(hg:AllBare g')
  (iM:∀b∈ch,(b∈X.ex∨X.aW.heap.objs.size≤b)∧b≠X.env.locals∧(∀x c,X.env.cells.lookup x=some c→c≠b)∧∀p∈X.pn++pins,p.1≠b):
  Inv X pins σ H' { s with heap:=h',gens:=g',drawn:=d',toks:=t' }:=by
 obtain⟨m,⟨o,es,ep,ho,r⟩,_⟩:=id I.loc
 obtain⟨sl,hL⟩:=u.any ho I.free fun z=>(iM _ z).2.1 rfl
 exact I.step (ch:=ch) iM (fun b o hL hb hc e n=>u.keep b o e n (fun z=>(List.mem_cons.mp (I.ui b z)).elim hL hb) hc) (fun b o _ _ hc e n=>u.any e n hc) (fun b o hc e n=>u.free b o e n hc) (fun b o hc e=>u.there b o e hc) u.mC u.jC u.ll (fun m' hm=>by
  obtain⟨o',JW,JX,mF,r'⟩:=hm
  rw[ho]at mF;cases mF
  exact⟨_,JW,JX,hL,r'⟩) aR hg
theorem Inv.turned{t':Nat}{it:Addr}(I:Inv X pins σ H s)(k:∀b o,b≠it→s.heap.get? b=some o→h'.get? b=some o)(hn:H it=none)(hL:it≠X.env.locals)
  (h1:it∈X.ex∨X.aW.heap.objs.size≤it)(h2:∀x c,X.env.cells.lookup x=some c→c≠it)(h3:∀p∈X.pn++pins,p.1≠it):Inv X pins σ H { s with heap:=h',toks:=t' }:=by
 have N3:∀b u,H b=some u→b≠it:=fun b u e z=>by rw[z,hn]at e;cases e
 refine I.step (g':=s.gens) (d':=s.drawn) (ch:=[it]) (fun b hb=>?_) (fun b o _ _ hc e _=>k b o (fun z=>hc (by simp[z])) e) (fun b o _ _ hc e _=>⟨o.slots,k b o (fun z=>hc (by simp[z])) e⟩) (fun _ _ _ _ n=>n)
  (fun b o hc e=>⟨o,k b o (fun z=>hc (by simp[z])) e⟩) (fun _ _ e=>e) (fun _ _ _ e=>e) (fun b ps e=>⟨#[],by rw[e];simp⟩) (fun m hm=>?_) (fun b u e=>?_) I.bare
 ·have e:b=it:=by simpa using hb
  subst e
  exact⟨h1,hL,h2,h3⟩
 ·obtain⟨o,es,ep,ho,r⟩:=hm
  exact⟨o,es,ep,k _ o (Ne.symm hL) ho,r⟩
 ·refine(I.aR b u e).mB (fun c v hc q=>k c v ?_ q) (fun _ q=>q) fun _ _ q=>q
  rcases hc with z|z
  ·rw[z];exact N3 b u e
  ·exact N3 c _ z
theorem Inv.tok(I:Inv X pins σ H s)(t:Nat):Inv X pins σ H { s with toks:=t }:=I.un (h':=s.heap) (t':=t) Un.refl I.aR
theorem Inv.kept{t':Nat}(I:Inv X pins σ H s)(k:∀b u,s.heap.get? b=some u→h'.get? b=some u):Inv X pins σ H { s with heap:=h',toks:=t' }:=I.un (Un.kept k) (I.aR.kept k)
theorem Inv.laid{a:Addr}{o:HO}{t':Nat}(I:Inv X pins σ H s)(k:∀b u,s.heap.get? b=some u→h'.get? b=some u)(hp:s.heap.objs.size≤a)(new:bH X.prog X.w (upd H a o) h' a o):
  Inv X pins σ (upd H a o) { s with heap:=h',toks:=t' }:=I.un (Un.laid k hp (I.aR.fresh hp)) (I.aR.laid k hp new)
theorem Inv.write{x e:Addr}{o:HO}{t':Nat}(I:Inv X pins σ H s)(mu:CV (H x))(he:e=x∨H e=some (.own x))(k:∀b u,b≠e→s.heap.get? b=some u→h'.get? b=some u)(Bb:∃u,h'.get? e=some u)
  (new:bH X.prog X.w (upd H x o) h' x o):Inv X pins σ (upd H x o) { s with heap:=h',toks:=t' }:=I.un (Un.write mu he k Bb) (I.aR.write mu he k Bb new)
theorem Inv.pZ{C3:List (Addr×Obj)}(I:Inv X pins σ H s)(h:∀p∈C3,s.heap.get? p.1=some p.2∧H p.1=none∧p.1≠X.env.locals∧p.1∉X.fs∧∀v,p.2.data≠.cell v):Inv X C3 σ H s:=
 ⟨I.ok,I.os,I.bare,I.base,I.loc,I.cell,I.free,I.fj,fun p hp=>(List.mem_append.mp hp).elim (fun z=>I.pin p (List.mem_append_left _ z)) (h p),I.aR,I.len⟩
theorem sY{N:List Str}(hN:N.Nodup){i j:Nat}{x:Str}(a:N[i]? =some x)(b:N[j]? =some x):i=j:=by
 obtain⟨h1,e1⟩:=List.getElem?_eq_some_iff.mp a
 obtain⟨h2,e2⟩:=List.getElem?_eq_some_iff.mp b
 exact(List.getElem_inj hN).mp (e1.trans e2.symm)
theorem yD{M:Model}{A:Around}{E:Value→Shared→Prop}{i:Nat}{x:Str}{v:V}{u:Value}{Q:Unit→Shared→Prop}(I:Inv X pins σ H s)(hN:X.N.Nodup)(hi:X.N[i]? =some x)(hx:Loc X.env.scope x)(r:RelV v u)
  (h:∀s',Inv X pins (σ.set i (some v)) H s'→(∃a,Heap.SameBut a s.heap s'.heap∧(a=X.env.locals∨X.env.cells.lookup x=some a))→Q () s')(hf:X.fn x=true∨X.env.scope.names.lookup x=some .local:=by first|exact .inl rfl|exact .inr rfl|assumption):wpAny M A (storeName X.env x u) Q E s:=by
 obtain⟨m,hn,hl⟩:=id I.loc
 have N4:(X.env.scope.kind==.class||(X.env.scope.kind==.module&&X.env.locals != X.env.globals))=false:=by rw[I.ok.kind];rfl
 have IV:i<σ.length:=by rw[I.len];exact(List.getElem?_eq_some_iff.mp hi).1
 have vG:=I.vG
 have tracked:∀{a:Addr}{h':Heap},(∃o,s.heap.get? a=some o∧H a=none)→Heap.SameBut a s.heap h'→dZ X.prog X.w H h':=fun {a h'} ha hs b ob e=>by
  obtain⟨_,_,nR⟩:=ha
  refine(I.aR b ob e).mB (fun c w' hc q=>(hs.2 c ?_).trans q) (fun _ q=>q) fun _ _ q=>q
  rintro rfl
  rcases hc with rfl|hc
  ·rw[nR]at e;cases e
  ·rw[nR]at hc;cases hc
 rcases hx with hk|hk
 ·refine wpAny_storeName_local hk hn (fun h' JY hs=>?_) N4
  obtain⟨oL,_,_,uj,_⟩:=id hn
  refine h _ ⟨I.ok,I.os,I.bare,⟨fun b o e n hb hx=>?_,fun b o e n hb hx=>?_,I.base.free,fun b o e hx=>?_,I.base.mC,I.base.jC,I.base.ll⟩,⟨_,JY,fun j y v' e1 e2 e3=>?_⟩,fun y c e=>?_,I.free,I.fj,fun p hp=>?_,tracked ⟨oL,uj,I.free⟩ hs,by simpa using I.len⟩ ⟨_,hs,.inl rfl⟩
  ·exact(hs.2 b (Nat.ne_of_lt (Nat.lt_of_lt_of_le (Heap.lt_size e) I.ok.above))).trans (I.base.keep b o e n hb hx)
  ·obtain⟨sl,e1⟩:=I.base.slot b o e n hb hx
   exact⟨sl,(hs.2 b (Nat.ne_of_lt (Nat.lt_of_lt_of_le (Heap.lt_size e) I.ok.above))).trans e1⟩
  ·obtain⟨o',e1⟩:=I.base.there b o e hx
   exact⟨o',(hs.2 b (Nat.ne_of_lt (Nat.lt_of_lt_of_le (Heap.lt_size e) I.ok.above))).trans e1⟩
  ·by_cases hj:j=i
   ·subst hj
    rw[hi]at e1;cases e1
    rw[List.getElem?_set_self IV]at e2
    cases e2
    exact⟨u,r,.inl ⟨hk,by simp⟩⟩
   ·rw[List.getElem?_set_ne (Ne.symm hj)]at e2
    obtain⟨u',r',q⟩:=hl j y v' e1 e2 e3
    refine⟨u',r',?_⟩
    rcases q with⟨k,e⟩|⟨k,c,e,z⟩
    ·refine .inl ⟨k,?_⟩
     have:y≠x:=fun e=>hj (sY hN e1 (e ▸ hi))
     simp[this,e]
    ·exact .inr ⟨k,c,e,z.sameBut hs (vG y c e)⟩
  ·obtain⟨w',z⟩:=I.cell y c e
   exact⟨w',z.sameBut hs (vG y c e)⟩
  ·obtain⟨e,n,ne,nf,d⟩:=I.pin p hp
   exact⟨(hs.2 p.1 ne).trans e,n,ne,nf,d⟩
 ·have FR:X.fn x=true:=by
   rcases hf with z|z
   ·exact z
   ·rw[z]at hk;cases hk
  obtain⟨c,hc⟩:=I.ok.has x (.inl hk)
  obtain⟨w',z⟩:=I.cell x c hc
  refine wpAny_storeName_cell I.ok.kind hk hc z (fun h' eE hs=>?_)
  obtain⟨oc,vI,N5⟩:=id z
  refine h { s with heap:=h' } ⟨I.ok,I.os,I.bare,⟨fun b o e n hb hx=>?_,fun b o e n hb hx=>?_,I.base.free,fun b o e hx=>?_,I.base.mC,I.base.jC,I.base.ll⟩,⟨m,hn.sameBut hs (Ne.symm (vG x c hc)),fun j y v' e1 e2 e3=>?_⟩,fun y c' e=>?_,I.free,I.fj,fun p hp=>?_,tracked ⟨oc,vI,(I.fj x c hc).resolve_right fun z=>by rw[FR]at z;cases z.1⟩ hs,by simpa using I.len⟩ ⟨c,hs,.inr hc⟩
  ·exact(hs.2 b (Nat.ne_of_lt (Nat.lt_of_lt_of_le (Heap.lt_size e) (I.ok.Be x c FR hc)))).trans (I.base.keep b o e n hb hx)
  ·obtain⟨sl,e1⟩:=I.base.slot b o e n hb hx
   exact⟨sl,(hs.2 b (Nat.ne_of_lt (Nat.lt_of_lt_of_le (Heap.lt_size e) (I.ok.Be x c FR hc)))).trans e1⟩
  ·obtain⟨o',e1⟩:=I.base.there b o e hx
   exact⟨o',(hs.2 b (Nat.ne_of_lt (Nat.lt_of_lt_of_le (Heap.lt_size e) (I.ok.Be x c FR hc)))).trans e1⟩
  ·by_cases hj:j=i
   ·subst hj
    rw[hi]at e1;cases e1
    rw[List.getElem?_set_self IV]at e2
    cases e2
    exact⟨u,r,.inr ⟨.inl hk,c,hc,eE⟩⟩
   ·rw[List.getElem?_set_ne (Ne.symm hj)]at e2
    obtain⟨u',r',q⟩:=hl j y v' e1 e2 e3
    refine⟨u',r',?_⟩
    rcases q with q|⟨k,c',e,z'⟩
    ·exact .inl q
    ·refine .inr ⟨k,c',e,z'.sameBut hs ?_⟩
     rintro rfl
     exact hj (sY hN e1 (I.ok.inj _ _ _ e hc ▸ hi))
  ·by_cases Bf:c'=c
   ·subst Bf;exact⟨_,eE⟩
   ·obtain⟨w2,z2⟩:=I.cell y c' e
    exact⟨w2,z2.sameBut hs Bf⟩
  ·obtain⟨e,n,ne,nf,d⟩:=I.pin p hp
   refine⟨(hs.2 p.1 ?_).trans e,n,ne,nf,d⟩
   intro q
   rw[q,vI]at e
   have q':oc=p.2:=Option.some.inj e
   exact d w' (by rw[←q'];exact N5)
theorem fk{M:Model}{A:Around}{E:Value→Shared→Prop}{i:Nat}{x:Str}{v:V}{u:Value}{Q:Unit→Shared→Prop}(I:Inv X pins σ H s)(hN:X.N.Nodup)(hi:X.N[i]? =some x)(hx:Loc X.env.scope x)(r:RelV v u)
  (h:∀s',Inv X pins (σ.set i (some v)) H s'→Q () s')(hf:X.fn x=true∨X.env.scope.names.lookup x=some .local:=by first|exact .inl rfl|exact .inr rfl|assumption):wpAny M A (storeName X.env x u) Q E s:=
 yD I hN hi hx r (fun s' I' _=>h s' I') hf
theorem Inv.JZ{s':Shared}{ch:List Addr}(I:Inv X pins σ H s)(ho:s'.os=s.os)(u:Un (pX X.stack) ch H H' s.heap s'.heap)(aR:dZ X.prog X.w H' s'.heap)(hg:AllBare s'.gens)
  (iM:∀b∈ch,(b∈X.ex∨X.aW.heap.objs.size≤b)∧b≠X.env.locals∧(∀x c,X.env.cells.lookup x=some c→c≠b)∧∀p∈X.pn++pins,p.1≠b):Inv X pins σ H' s':=by
 obtain⟨h',g',d',t',o'⟩:=s'
 have e:o'=s.os:=ho
 subst e
 exact I.call (g':=g') (t':=t') (d':=d') u aR hg iM
end
abbrev XK:=Value→Option Addr→Hp→Prop
abbrev St:=List (Option V)
abbrev VK:=V→Hp→Prop
abbrev TE:=St→Hp→VK→Prop
abbrev TT:=St→Hp→(Bool→Hp→Prop)→Prop
abbrev TA:=St→Hp→(List V→Hp→Prop)→Prop
structure Ends where
 nx:St→Hp→Prop
 rt:VK
 bk:St→Hp→Prop:=fun _ _=>False
 ct:St→Hp→Prop:=fun _ _=>False
abbrev TS:=Ends→St→Hp→Prop
def EP(X:Cx)(pins:List (Addr×Obj))(σ:St)(Q:VK)(u:Value)(s':Shared):Prop:=∃v H',Inv X pins σ H' s'∧RelV v u∧Q v H'
def TP(X:Cx)(pins:List (Addr×Obj))(σ:St)(Q:Bool→Hp→Prop)(b:Bool)(s':Shared):Prop:=∃H',Inv X pins σ H' s'∧Q b H'
def AP(X:Cx)(pins:List (Addr×Obj))(σ:St)(Q:List V→Hp→Prop)(us:List Value)(s':Shared):Prop:=∃vs H',Inv X pins σ H' s'∧Vals vs us∧Q vs H'
def SP(X:Cx)(pins:List (Addr×Obj))(D:Ends)(f:Flow)(s':Shared):Prop:=
 match f with
 |.next=>∃σ' H',Inv X pins σ' H' s'∧D.nx σ' H'
 |.brk=>∃σ' H',Inv X pins σ' H' s'∧D.bk σ' H'
 |.cont=>∃σ' H',Inv X pins σ' H' s'∧D.ct σ' H'
 |.ret u=>∃v σ' H',Inv X pins σ' H' s'∧RelV v u∧D.rt v H'
namespace Zu
set_option allowUnsafeReducibility true in
@[scoped irreducible] def _root_.L2.PE(X:Cx)(e:Expr)(t:TE):Prop:=
 ∀(pins:List (Addr×Obj)) (s:Shared) (σ:St) (H:Hp) (Q:VK),Inv X pins σ H s→t σ H Q→wpAny (model X.prog X.w) X.A (eval e X.env) (EP X pins σ Q) X.xe s
end Zu
namespace Zu
set_option allowUnsafeReducibility true in
@[scoped irreducible] def _root_.L2.PT(X:Cx)(e:Expr)(t:TT):Prop:=
 ∀(pins:List (Addr×Obj)) (s:Shared) (σ:St) (H:Hp) (Q:Bool→Hp→Prop),Inv X pins σ H s→t σ H Q→wpAny (model X.prog X.w) X.A (isTrue e X.env (eval e X.env)) (TP X pins σ Q) X.xe s
end Zu
namespace Zu
set_option allowUnsafeReducibility true in
@[scoped irreducible] def _root_.L2.PW(X:Cx)(e:Expr)(t:TT):Prop:=
 ∀(whole:Sem Value) (pins:List (Addr×Obj)) (s:Shared) (σ:St) (H:Hp) (Q:Bool→Hp→Prop),Inv X pins σ H s→t σ H Q→wpAny (model X.prog X.w) X.A (isTrue e X.env whole) (TP X pins σ Q) X.xe s
end Zu
theorem PW.pt{X:Cx}{e:Expr}{t:TT}(h:PW X e t):PT X e t:=h _
namespace Zu
set_option allowUnsafeReducibility true in
@[scoped irreducible] def _root_.L2.PA(X:Cx)(es:List Expr)(t:TA):Prop:=
 ∀(pos:Pos) (pins:List (Addr×Obj)) (s:Shared) (σ:St) (H:Hp) (Q:List V→Hp→Prop),Inv X pins σ H s→t σ H Q→wpAny (model X.prog X.w) X.A (spliced (backTo pos (starEach es X.env))) (AP X pins σ Q) X.xe s
end Zu
namespace Zu
set_option allowUnsafeReducibility true in
@[scoped irreducible] def _root_.L2.PS(X:Cx)(st:Stmt)(t:TS):Prop:=
 ∀(pins:List (Addr×Obj)) (s:Shared) (σ:St) (H:Hp) (D:Ends),Inv X pins σ H s→t D σ H→wpAny (model X.prog X.w) X.A (exec st X.env) (SP X pins D) X.xe s
end Zu
namespace Zu
set_option allowUnsafeReducibility true in
@[scoped irreducible] def _root_.L2.jK(X:Cx)(st:List Stmt)(t:TS):Prop:=
 ∀(pins:List (Addr×Obj)) (s:Shared) (σ:St) (H:Hp) (D:Ends),Inv X pins σ H s→t D σ H→wpAny (model X.prog X.w) X.A (execs st X.env) (SP X pins D) X.xe s
end Zu
theorem bj{α:Type}{t:Sem α}{Q Q':α→Shared→Prop}{M:Model}{A:Around}{E:Value→Shared→Prop}{s:Shared}(h:wpAny M A t Q E s)(hQ:∀a s,Q a s→Q' a s):wpAny M A t Q' E s:=wpAny_mono h hQ fun _ _ x=>x
end L2
namespace L2
open PySem PySem.Spec PyProof.Rows
section
variable{X:Cx}
theorem bin{a b:Expr}{ta tb:TE}(ha:PE X a ta)(hb:PE X b tb){pins:List (Addr×Obj)}{s:Shared}{σ:St}{H:Hp}{R:V→V→Hp→Prop}(I:Inv X pins σ H s)(h:ta σ H fun x H1=>tb σ H1 fun y H2=>R x y H2)
  {α:Type}{Q:α→Shared→Prop}{f:Value→Value→Sem α}
  (hf:∀v u s2 x y H2,Inv X pins σ H2 s2→RelV x v→RelV y u→R x y H2→wpAny (model X.prog X.w) X.A (f v u) Q X.xe s2):
  wpAny (model X.prog X.w) X.A (eval a X.env) (fun v bg=>wpAny (model X.prog X.w) X.A (eval b X.env) (fun u hG=>wpAny (model X.prog X.w) X.A (f v u) Q X.xe hG) X.xe bg) X.xe s:=by
 refine bj (ha pins s σ H _ I h) fun v s1 aX=>?_
 obtain⟨x,H1,I1,r1,q1⟩:=aX
 refine bj (hb pins s1 σ H1 _ I1 q1) fun u s2 aX=>?_
 obtain⟨y,H2,I2,r2,q2⟩:=aX
 exact hf v u s2 x y H2 I2 r1 r2 q2
def C4(i:Nat):TE:=fun σ H Q=>∃v,σ[i]? =some (some v)∧Q v H
def tC(v:V):TE:=fun _ H Q=>Q v H
theorem FT{i:Nat}{x:Str}{pos:Pos}(hN:X.N[i]? =some x)(hv:CZ X.env.scope x)(hd:(x==("__debug__":Str))=false:=by decide)(nS:(x==("__classdict__":Str))=false:=by decide):PE X (.Name x pos) (C4 i):=by
 intro pins s σ H Q I h
 obtain⟨v,e,h⟩:=h
 obtain⟨m,hn,hl⟩:=I.loc
 obtain⟨u,r,l⟩:=hl i x v hN e hv
 have fin:EP X pins σ Q u s:=⟨v,H,I,r,h⟩
 rcases l with⟨hk,hm⟩|⟨hk,c,hc,uk⟩
 ·exact wpAny_Name (wpAny_loadName_local I.ok.kind hk hn hm fin) hd
 ·rcases hk with hk|hk
  ·exact wpAny_Name (wpAny_loadName_cell I.ok.kind hk hc uk fin) hd
  ·exact wpAny_Name (wpAny_loadName_free I.ok.kind hk hc uk fin nS) hd
theorem FU{i j pos}:PE X (.Constant (.int i) j pos) (tC (.int i)):=fun _ _ _ H _ I h=>wpAny_Constant_int ⟨.int i,H,I.tok _,⟨_,rfl⟩,h⟩
theorem J1{b j pos}:PE X (.Constant (.bool b) j pos) (tC (.bl b)):=fun _ _ _ H _ I h=>Constant_bool ⟨.bl b,H,I,rfl,h⟩
theorem FV{j pos}:PE X (.Constant .none j pos) (tC .bb):=fun _ _ _ H _ I h=>Constant_none ⟨.bb,H,I,rfl,h⟩
def Gl(X:Cx)(x:Str):Prop:=X.env.kindOf x=some .globalImplicit
theorem vJ{E:Value→Shared→Prop}{pins:List (Addr×Obj)}{s:Shared}{σ:St}{H:Hp}{x:Str}{u:Value}{pos:Pos}{Q:Value→Shared→Prop}(I:Inv X pins σ H s)(hg:Gl X x)(hm:X.mg x=some u)(h:Q u s)
  (hd:(x==("__debug__":Str))=false:=by decide):wpAny (model X.prog X.w) X.A (eval (.Name x pos) X.env) Q E s:=
 Calls.Name_function_global I.ok.kind hg (Calls.loadGlobal_global (by rw[I.ok.glob];exact I.mod.glob.keeps I.bk) hm h) hd
theorem dX{E:Value→Shared→Prop}{pins:List (Addr×Obj)}{s:Shared}{σ:St}{H:Hp}{x:Str}{u:Value}{pos:Pos}{Q:Value→Shared→Prop}(I:Inv X pins σ H s)(hg:Gl X x)(hm:X.mg x=none)(hv:bootBuiltins x=some u)(h:Q u s)
  (hn:x≠"__name__":=by decide)(hd:(x==("__debug__":Str))=false:=by decide):wpAny (model X.prog X.w) X.A (eval (.Name x pos) X.env) Q E s:=by
 obtain⟨mb,h1,h2⟩:=I.mod.blt
 exact Calls.Name_function_global I.ok.kind hg (Calls.loadGlobal_builtin (by rw[I.ok.glob];exact I.mod.glob.keeps I.bk) hm (by rw[I.ok.blt];exact h1.keeps I.bk) ((h2 x hn).trans hv) h) hd
theorem C5{x:Str}{v:V}{u:Value}{pos:Pos}(hg:Gl X x)(hm:X.mg x=some u)(r:RelV v u)(hd:(x==("__debug__":Str))=false:=by decide):PE X (.Name x pos) (tC v):=
 fun _ _ _ H _ I h=>vJ I hg hm ⟨v,H,I,r,h⟩ hd
theorem vK{x:Str}{v:V}{u:Value}{pos:Pos}(hg:Gl X x)(hm:X.mg x=none)(hv:bootBuiltins x=some u)(r:RelV v u)(hn:x≠"__name__":=by decide)(hd:(x==("__debug__":Str))=false:=by decide):PE X (.Name x pos) (tC v):=
 fun _ _ _ H _ I h=>dX I hg hm hv ⟨v,H,I,r,h⟩ hn hd
variable{a b:Expr}{ta tb:TE}{pos:Pos}
def PC(X:Cx)(op:CmpOp)(a b:Expr)(t:TE):Prop:=
 ∀(pins:List (Addr×Obj)) (s:Shared) (σ:St) (H:Hp) (Q:VK),Inv X pins σ H s→t σ H Q→
  wpAny (model X.prog X.w) X.A (eval a X.env) (fun v bg=>wpAny (model X.prog X.w) X.A (eval b X.env) (fun u hG=>wpAny (model X.prog X.w) X.A (compareOp op v u) (EP X pins σ Q) X.xe hG) X.xe bg) X.xe s
theorem Bg(b:Expr){op:CmpOp}(h:op≠.In)(h2:op≠.NotIn):behindInMarks op b=false:=by
 have e1:(op==CmpOp.In)=false:=by cases op<;>first|rfl|exact absurd rfl h
 have e2:(op==CmpOp.NotIn)=false:=by cases op<;>first|rfl|exact absurd rfl h2
 cases b<;>simp[behindInMarks,e1,e2]
def tB(t:TE):TT:=fun σ H Q=>t σ H fun x H1=>∃c,x= .bl c∧Q c H1
theorem Ta{op:CmpOp}{t:TE}(h:PC X op a b t)(h1:behindInMarks op b=false:=by first|exact Bg _ (by decide) (by decide)|rfl):PT X (.Compare a [op] [b] pos) (tB t):=by
 intro pins s σ H Q I hw
 refine wpAny_isTrue_Compare1 (bj (h pins s σ H _ I hw) fun v s1 h1=>bj h1 fun u s2 h2=>bj h2 fun c s3 aX=>?_) h1
 obtain⟨x,H1,I1,r1,q1⟩:=aX
 obtain⟨d,rfl,q⟩:=q1
 cases r1
 exact wpAny_truthy_bool ⟨H1,I1,q⟩
theorem FW{e:Expr}{t:TE}(h:PE X e t)(he:∀whole,isTrue e X.env whole=(do let v ←whole;standAt e.pos;holding [v] (truthy v)):=by intro _;rfl):PT X e (tB t):=by
 intro pins s σ H Q I hw
 refine isTrue_plain (bj (h pins s σ H _ I hw) fun v s1 aX=>?_) (he _)
 obtain⟨x,H1,I1,r1,q1⟩:=aX
 obtain⟨d,rfl,q⟩:=q1
 cases r1
 exact wpAny_truthy_bool ⟨H1,I1,q⟩
variable{tA FX:TT}{rest:List Expr}
def oR(t u:TT):TT:=fun σ H Q=>t σ H fun c H1=>if c=true then u σ H1 Q else Q false H1
def p7(t u:TT):TT:=fun σ H Q=>t σ H fun c H1=>if c=true then Q true H1 else u σ H1 Q
def jD(t:TT):TT:=fun σ H Q=>t σ H fun c H1=>Q (!c) H1
theorem C6(ha:PT X a tA):PW X (.BoolOp .And [a] pos) tA:=by
 intro wh pins s σ H Q I h
 refine isTrue_and (bj (ha pins s σ H Q I h) fun c s1 e=>?_)
 cases c with
 |true=>exact isTrue_and_nil e
 |false=>exact e
theorem FY(ha:PT X a tA):PW X (.BoolOp .Or [a] pos) tA:=by
 intro wh pins s σ H Q I h
 refine isTrue_or (bj (ha pins s σ H Q I h) fun c s1 e=>?_)
 cases c with
 |false=>exact isTrue_or_nil e
 |true=>exact e
theorem FZ(ha:PT X a tA)(hb:PW X (.BoolOp .And (b::rest) pos) FX):PW X (.BoolOp .And (a::b::rest) pos) (oR tA FX):=by
 intro wh pins s σ H Q I h
 refine isTrue_and (bj (ha pins s σ H _ I h) fun c s1 aX=>?_)
 obtain⟨H1,I1,q1⟩:=aX
 cases c with
 |true=>exact hb wh pins s1 σ H1 Q I1 q1
 |false=>exact⟨H1,I1,q1⟩
theorem J2(ha:PT X a tA)(hb:PW X (.BoolOp .Or (b::rest) pos) FX):PW X (.BoolOp .Or (a::b::rest) pos) (p7 tA FX):=by
 intro wh pins s σ H Q I h
 refine isTrue_or (bj (ha pins s σ H _ I h) fun c s1 aX=>?_)
 obtain⟨H1,I1,q1⟩:=aX
 cases c with
 |true=>exact⟨H1,I1,q1⟩
 |false=>exact hb wh pins s1 σ H1 Q I1 q1
theorem F_(ha:PT X a tA):PT X (.UnaryOp .Not a pos) (jD tA):=by
 intro pins s σ H Q I h
 exact isTrue_not (ha pins s σ H (fun c H1=>Q (!c) H1) I h)
def J3(ta tb:TE):TE:=fun σ H Q=>ta σ H fun x H1=>∃c,x= .bl c∧if c=true then tb σ H1 Q else Q (.bl false) H1
def J_(ta:TE):TE:=fun σ H Q=>ta σ H fun x H1=>∃c,x= .bl c∧Q (.bl (!c)) H1
theorem Ga{op}{t:TE}(h:PE X a t):PE X (.BoolOp op [a] pos) t:=fun pins s σ H Q I hw=>BoolOp_one (h pins s σ H Q I hw)
theorem Gb(ha:PE X a ta)(hb:PE X (.BoolOp .And (b::rest) pos) tb):PE X (.BoolOp .And (a::b::rest) pos) (J3 ta tb):=by
 intro pins s σ H Q I h
 refine BoolOp_and (bj (ha pins s σ H _ I h) fun v s1 aX=>?_)
 obtain⟨x,H1,I1,r1,q1⟩:=aX
 obtain⟨c,rfl,q1⟩:=q1
 cases r1
 refine wpAny_truthy_bool ?_
 cases c with
 |true=>exact hb pins s1 σ H1 Q I1 q1
 |false=>exact⟨.bl false,H1,I1,rfl,q1⟩
theorem Gd(ha:PE X a ta):PE X (.UnaryOp .Not a pos) (J_ ta):=by
 intro pins s σ H Q I h
 refine UnaryOp_ (bj (ha pins s σ H _ I h) fun v s1 aX=>?_)
 obtain⟨x,H1,I1,r1,q1⟩:=aX
 obtain⟨c,rfl,q1⟩:=q1
 cases r1
 exact not_of (wpAny_truthy_bool ⟨.bl (!c),H1,I1,rfl,q1⟩)
def To(t:TT)(ta tb:TE):TE:=fun σ H Q=>t σ H fun c H1=>if c=true then ta σ H1 Q else tb σ H1 Q
theorem Bh{c:Expr}(hc:PT X c tA)(ha:PE X a ta)(hb:PE X b tb):PE X (.IfExp c a b pos) (To tA ta tb):=by
 intro pins s σ H Q I h
 refine wpAny_IfExp (bj (hc pins s σ H _ I h) fun d s1 aX=>?_)
 obtain⟨H1,I1,q1⟩:=aX
 cases d with
 |true=>exact ha pins s1 σ H1 Q I1 q1
 |false=>exact hb pins s1 σ H1 Q I1 q1
end
end L2
namespace L2
open PySem PySem.Spec PyProof.Rows
def cU(K:PySem.W.Frag)(H:Hp)(a:Addr)(xs:List V):Prop:=
 Rd H a (.lst xs)∨
  ∃(o:Obj) (its:Array Value) (n:Nat),K.lookup a=some o∧o.cls= .type "list"∧o.dict=none∧o.data= .seq its n∧its.size≤sizeLine∧Vals xs its.toList
def dk(K:PySem.W.Frag)(H:Hp)(a:Addr)(xs:List V):Prop:=
 Rd H a (.tup xs)∨
  ∃(o:Obj) (its:Array Value) (n:Nat),K.lookup a=some o∧o.cls= .type "tuple"∧o.data= .seq its n∧its.size≤sizeLine∧Vals xs its.toList
def N6:Value→Option V
 |.none=>some .bb
 |.bool b=>some (.bl b)
 |.int i _=>some (.int i)
 |.str x _=>some (.str x)
 |.bytes b _=>some (.pW b)
 |.float b _=>some (.Ba b)
 |.ref a=>some (.ref a)
 |.type n=>some (.ty n)
 |_=>none
theorem RelV.abs{x:V}{u:Value}(r:RelV x u):N6 u=some x:=by
 cases x with
 |bb=>cases r;rfl
 |bl _=>cases r;rfl
 |int _=>obtain⟨t,rfl⟩:=r;rfl
 |str _=>obtain⟨t,rfl⟩:=r;rfl
 |pW _=>obtain⟨t,rfl⟩:=r;rfl
 |Ba _=>obtain⟨t,rfl⟩:=r;rfl
 |ref _=>cases r;rfl
 |ty _=>cases r;rfl
theorem RelV.inj{x y:V}{u:Value}(r:RelV x u)(q:RelV y u):x=y:=Option.some.inj (r.abs.symm.trans q.abs)
theorem Vals.inj:∀{xs ys:List V}{us:List Value},Vals xs us→Vals ys us→xs=ys
 |_,_,_,.nil,.nil=>rfl
 |_,_,_,.cons r t,.cons r' t'=>by rw[r.inj r',Vals.inj t t']
section
variable{X:Cx}{pins:List (Addr×Obj)}{σ:St}{H:Hp}{s:Shared}{a:Addr}{xs ys:List V}
theorem cU.of{K:PySem.W.Frag}(h:H a=some (.lst xs)):cU K H a xs:=.inl (.inl h)
theorem dk.of{K:PySem.W.Frag}(h:H a=some (.tup xs)):dk K H a xs:=.inl (.inl h)
theorem Inv.list(I:Inv X pins σ H s)(h:cU X.K H a xs):∃its:List Value,Vals xs its∧PlainL s.heap a its.toArray∧xs.length≤sizeLine:=by
 rcases h with h|⟨o,its,n,hk,hc,hd,hs,hz,r⟩
 ·obtain⟨z,its,n,r,e⟩:=h.ok I.aR
  exact⟨its,r,⟨_,n,e,rfl,rfl,rfl⟩,z⟩
 ·refine⟨its.toList,r,⟨o,n,I.i_ a o hk,hc,hd,by simpa using hs⟩,?_⟩
  have e:=r.length
  simp only[Array.length_toList]at e
  omega
theorem Inv.tuple(I:Inv X pins σ H s)(h:dk X.K H a xs):∃its:List Value,Vals xs its∧IsTup s.heap a its.toArray∧xs.length≤sizeLine:=by
 rcases h with h|⟨o,its,n,hk,hc,hs,hz,r⟩
 ·obtain⟨z,its,r,p⟩:=h.ok I.aR
  exact⟨its,r,p,z⟩
 ·refine⟨its.toList,r,⟨o,I.i_ a o hk,hc,n,by simpa using hs⟩,?_⟩
  have e:=r.length
  simp only[Array.length_toList]at e
  omega
theorem Inv.Bi(I:Inv X pins σ H s)(h:cU X.K H a xs)(h':cU X.K H a ys):xs=ys:=by
 obtain⟨its,r,⟨o,n,e,_,_,d⟩,_⟩:=I.list h
 obtain⟨its',r',⟨o',n',e',_,_,d'⟩,_⟩:=I.list h'
 rw[e]at e';cases e'
 rw[d]at d'
 injection d' with d1 _
 have:its=its':=by simpa using congrArg Array.toList d1
 subst this
 exact r.inj r'
end
abbrev Cx.lq(X:Cx)(E:Value→Shared→Prop):Cx:={ X with xe:=E }
abbrev Cx.yE(X:Cx):Cx:=X.lq fun _ _=>False
theorem Cx.Ok.lq{X:Cx}(ok:X.Ok)(E:Value→Shared→Prop):(X.lq E).Ok:=
 ⟨ok.mod,ok.kind,ok.glob,ok.blt,ok.above,ok.inj,ok.has,ok.Be,ok.hd,ok.frames,ok.C0,ok.C1,ok.bs,ok.pY,ok.sW,ok.sX,ok.iL,ok.vF⟩
theorem Cx.Ok.hJ{X:Cx}{E:Value→Shared→Prop}(ok:(X.lq E).Ok):X.Ok:=
 ⟨ok.mod,ok.kind,ok.glob,ok.blt,ok.above,ok.inj,ok.has,ok.Be,ok.hd,ok.frames,ok.C0,ok.C1,ok.bs,ok.pY,ok.sW,ok.sX,ok.iL,ok.vF⟩
section
variable{X:Cx}{pins:List (Addr×Obj)}{σ:St}{H:Hp}{s:Shared}{E:Value→Shared→Prop}
theorem Inv.lq(I:Inv X pins σ H s)(E:Value→Shared→Prop):Inv (X.lq E) pins σ H s:=⟨I.ok.lq E,I.os,I.bare,I.base,I.loc,I.cell,I.free,I.fj,I.pin,I.aR,I.len⟩
theorem Inv.hJ(I:Inv (X.lq E) pins σ H s):Inv X pins σ H s:=⟨I.ok.hJ,I.os,I.bare,I.base,I.loc,I.cell,I.free,I.fj,I.pin,I.aR,I.len⟩
theorem SP.hJ{D:Ends}{f:Flow}{s':Shared}(h:SP (X.lq E) pins D f s'):SP X pins D f s':=by
 cases f with
 |next=>obtain⟨σ',H',I,q⟩:=h;exact⟨σ',H',I.hJ,q⟩
 |brk=>obtain⟨σ',H',I,q⟩:=h;exact⟨σ',H',I.hJ,q⟩
 |cont=>obtain⟨σ',H',I,q⟩:=h;exact⟨σ',H',I.hJ,q⟩
 |ret u=>obtain⟨v,σ',H',I,r,q⟩:=h;exact⟨v,σ',H',I.hJ,r,q⟩
theorem jK.yE{st:List Stmt}{t:TS}(h:jK X.yE st t):jK X st t:=fun pins s σ H D I hw=>
 wpAny_mono (h pins s σ H D (I.lq _) hw) (fun _ _ q=>q.hJ) fun _ _ z=>False.elim z
end
section
variable{X:Cx}{st:Stmt}{rest:List Stmt}{t u:TS}{e:Expr}{te:TE}{pos:Pos}
def Ka:TS:=fun D σ H=>D.nx σ H
def N7(t u:TS):TS:=fun D σ H=>t { D with nx:=u D } σ H
theorem C7:jK X [] Ka:=fun _ _ σ H _ I h=>wpAny_execs_nil ⟨σ,H,I,h⟩
theorem Bj(h1:PS X st t)(h2:jK X rest u):jK X (st::rest) (N7 t u):=by
 intro pins s σ H D I h
 refine wpAny_execs_cons (bj (h1 pins s σ H { D with nx:=u D } I h) fun f s1 q=>?_)
 cases f with
 |next=>
  obtain⟨σ',H',I',q⟩:=q
  exact h2 pins s1 σ' H' D I' q
 |ret v=>exact q
 |brk=>exact q
 |cont=>exact q
theorem C8(h1:PS X st t):jK X [st] t:=by
 intro pins s σ H D I h
 refine wpAny_execs_cons (bj (h1 pins s σ H D I h) fun f s1 q=>?_)
 cases f with
 |next=>exact wpAny_execs_nil q
 |ret v=>exact q
 |brk=>exact q
 |cont=>exact q
theorem Inv.quiet{pins:List (Addr×Obj)}{σ:St}{H:Hp}{s:Shared}(I:Inv X pins σ H s):interactive X.env=false:=by simp[interactive,I.ok.kind]
def Kb(te:TE):TS:=fun D σ H=>te σ H fun _ H1=>D.nx σ H1
theorem C9(he:PE X e te)(hs:swapsWith e none pos.line X.env=pure false:=by rfl):PS X (.Expr e pos) (Kb te):=by
 intro pins s σ H D I h
 exact wpAny_Expr_any (bj (he pins s σ H _ I h) fun v s1 ⟨x,H1,I1,r1,q1⟩=>⟨σ,H1,I1,q1⟩) I.quiet hs
def N8(te:TE):TS:=fun D σ H=>te σ H D.rt
theorem Ge(he:PE X e te):PS X (.Return (some e) pos) (N8 te):=by
 intro pins s σ H D I h
 exact wpAny_Return_some (bj (he pins s σ H _ I h) fun v s1 ⟨x,H1,I1,r1,q1⟩=>⟨x,σ,H1,I1,r1,q1⟩)
def N9(c:TT)(t u:TS):TS:=fun D σ H=>c σ H fun b H1=>if b=true then t D σ H1 else u D σ H1
theorem Kc{c:Expr}{a b:List Stmt}{tc:TT}(hc:PT X c tc)(ha:jK X a t)(hb:jK X b u):PS X (.If c a b pos) (N9 tc t u):=by
 intro pins s σ H D I h
 refine wpAny_If (bj (hc pins s σ H _ I h) fun d s1 aX=>?_)
 obtain⟨H1,I1,q1⟩:=aX
 cases d with
 |true=>exact ha pins s1 σ H1 D I1 q1
 |false=>exact hb pins s1 σ H1 D I1 q1
end
abbrev TG:=V→St→Hp→(St→Hp→Prop)→Prop
abbrev um:=List V→St→Hp→(St→Hp→Prop)→Prop
namespace Zu
set_option allowUnsafeReducibility true in
@[scoped irreducible] def _root_.L2.PG(X:Cx)(target:Expr)(t:TG):Prop:=
 ∀(pins:List (Addr×Obj)) (s:Shared) (σ:St) (H:Hp) (v:V) (u:Value) (Q:St→Hp→Prop),Inv X pins σ H s→RelV v u→t v σ H Q→
  wpAny (model X.prog X.w) X.A (assign target X.env u) (fun _ s'=>∃σ' H',Inv X pins σ' H' s'∧Q σ' H') X.xe s
end Zu
namespace Zu
set_option allowUnsafeReducibility true in
@[scoped irreducible] def _root_.L2.vL(X:Cx)(ts:List Expr)(t:um):Prop:=
 ∀(pins:List (Addr×Obj)) (s:Shared) (σ:St) (H:Hp) (vs:List V) (us:List Value) (Q:St→Hp→Prop),Inv X pins σ H s→Vals vs us→t vs σ H Q→
  wpAny (model X.prog X.w) X.A (assignInOrder ((assignEach ts X.env).map (·.2)) us) (fun _ s'=>∃σ' H',Inv X pins σ' H' s'∧Q σ' H') X.xe s
end Zu
abbrev C_:=V→V→V→Hp→(Hp→Prop)→Prop
def IW(X:Cx)(t:C_):Prop:=
 ∀(pins:List (Addr×Obj)) (s:Shared) (σ:St) (H:Hp) (o i v:V) (ov iv u:Value) (Q:Hp→Prop),Inv X pins σ H s→RelV o ov→RelV i iv→RelV v u→t o i v H Q→
  wpAny (model X.prog X.w) X.A (setItem ov iv u) (fun _ s'=>∃H',Inv X pins σ H' s'∧Q H') X.xe s
section
variable{X:Cx}{pos:Pos}
def aL(i:Nat):TG:=fun v σ H Q=>Q (σ.set i (some v)) H
theorem vM{i:Nat}{x:Str}(hN:X.N.Nodup)(hi:X.N[i]? =some x)(hx:Loc X.env.scope x)(hf:X.fn x=true∨X.env.scope.names.lookup x=some .local:=by first|exact .inl rfl|exact .inr rfl|assumption):PG X (.Name x pos) (aL i):=by
 intro pins s σ H v u Q I r h
 exact wpAny_assign_Name (fk I hN hi hx r (fun s' I'=>⟨_,H,I',h⟩) hf)
def p8:um:=fun vs σ H Q=>vs=[]∧Q σ H
def ja(t:TG)(u:um):um:=fun vs σ H Q=>∃v r,vs=v::r∧t v σ H fun σ' H'=>u r σ' H' Q
theorem Dc:vL X [] p8:=by
 intro pins s σ H vs us Q I r h
 obtain⟨e,h⟩:=h
 subst e
 cases r
 exact assignInOrder_nil ⟨σ,H,I,h⟩
theorem Bk{e:Expr}{es:List Expr}{t:TG}{u:um}(h1:PG X e t)(h2:vL X es u)
  (hs:(assignEach (e::es) X.env).map (·.2)=assign e X.env::(assignEach es X.env).map (·.2):=by rfl):vL X (e::es) (ja t u):=by
 intro pins s σ H vs us Q I r h
 obtain⟨v,vr,e1,h⟩:=h
 subst e1
 cases r with
 |cons r rr=>
  rw[hs]
  refine assignInOrder_cons (bj (h1 pins s σ H _ _ _ I r h) fun _ s1 aX=>?_)
  obtain⟨σ1,H1,I1,q1⟩:=aX
  exact h2 pins s1 σ1 H1 _ _ Q I1 rr q1
def p9(K:PySem.W.Frag)(n:Nat)(t:um):TG:=fun v σ H Q=>∃a xs,v= .ref a∧dk K H a xs∧xs.length=n∧t xs σ H Q
theorem Gf{es:List Expr}{k:Nat}{t:um}{n:Nat}(hc:X.calm=true)(h:vL X es t)
  (hn:(assignEach es X.env).length=n:=by rfl)(fM:(assignEach es X.env).findIdx? (·.1)=none:=by rfl):PG X (.Tuple es k pos) (p9 X.K n t):=by
 intro pins s σ H v u Q I r hw
 obtain⟨a,xs,e1,hq,hl,hw⟩:=hw
 subst e1
 cases r
 obtain⟨its,rv,ht,hz⟩:=I.tuple hq
 refine assign_Tuple_tuple (I.ok.hd hc) ht (by simp[hn,←hl,rv.length]) fM fun h' hx=>?_
 have I1:Inv X pins σ H { s with heap:=h' }:=I.kept (t':=s.toks) fun b o e=>hx b o (Nat.ne_of_lt (Heap.lt_size e)) e
 exact h pins _ σ H xs _ Q I1 (by simpa using rv) hw
def cp(to ti:TE)(t:C_):TG:=fun v σ H Q=>to σ H fun o H1=>ti σ H1 fun i H2=>t o i v H2 fun H3=>Q σ H3
theorem Gg{o i:Expr}{to ti:TE}{t:C_}(ho:PE X o to)(hi:PE X i ti)(hs:IW X t)
  (ha:∀v,assign (.Subscript o i pos) X.env v=(do
   let ov ←holding [v] (eval o X.env)
   let iv ←holding [v,ov] (eval i X.env)
   standAt pos
   holding [v,ov,iv] (setItem ov iv v)
   release [v,ov,iv] []):=by intro _;rfl):PG X (.Subscript o i pos) (cp to ti t):=by
 intro pins s σ H v u Q I r h
 rw[ha]
 refine wpAny_bind (wpAny_holding (bj (ho pins s σ H _ I h) fun ov s1 aX=>?_))
 obtain⟨x,H1,I1,r1,q1⟩:=aX
 refine wpAny_bind (wpAny_holding (bj (hi pins s1 σ H1 _ I1 q1) fun iv s2 aX=>?_))
 obtain⟨y,H2,I2,r2,q2⟩:=aX
 refine wpAny_bind (wpAny_standAt (wpAny_bind (wpAny_holding (bj (hs pins s2 σ H2 x y v ov iv u _ I2 r1 r2 r q2) fun _ s3 aX=>?_))))
 obtain⟨H3,I3,q3⟩:=aX
 exact wpAny_release ⟨σ,H3,I3,q3⟩
def Dd(te:TE)(g:TG):TS:=fun D σ H=>te σ H fun x H1=>g x σ H1 D.nx
theorem Gh{tg e:Expr}{te:TE}{g:TG}(he:PE X e te)(hg:PG X tg g)(hs:swapsWithSole [tg] e pos.line X.env=pure false:=by rfl)(hw:swappedStores [tg] e X.env=pure none:=by rfl)
  (h1:(assignEach [tg] X.env).map (·.2)=[assign tg X.env]:=by rfl):PS X (.Assign [tg] e pos) (Dd te g):=by
 intro pins s σ H D I h
 refine wpAny_Assign_stores (bj (he pins s σ H _ I h) fun v s1 aX=>?_) hs hw
 obtain⟨x,H1,I1,r1,q1⟩:=aX
 rw[h1]
 exact bj (hg pins s1 σ H1 x v _ I1 r1 q1) fun _ s2 q=>q
theorem Gi{i:Nat}{x:Str}{e:Expr}{te:TE}{pos':Pos}(hN:X.N.Nodup)(hi:X.N[i]? =some x)(hx:Loc X.env.scope x)(he:PE X e te)(hs:swapsWith e (some (.Name x pos')) pos.line X.env=pure false:=by rfl)(hf:X.fn x=true∨X.env.scope.names.lookup x=some .local:=by first|exact .inl rfl|exact .inr rfl|assumption):
  PS X (.Assign [.Name x pos'] e pos) (Dd te (aL i)):=by
 intro pins s σ H D I h
 refine wpAny_Assign_Name (bj (he pins s σ H _ I h) fun v s1 aX=>?_) hs
 obtain⟨y,H1,I1,r1,q1⟩:=aX
 exact fk I1 hN hi hx r1 (fun s2 I2=>⟨_,H1,I2,q1⟩) hf
def N_(i j:Nat)(ta:TA):TS:=fun D σ H=>ta σ H fun vs H1=>∃v w,vs=[v,w]∧D.nx ((σ.set i (some v)).set j (some w)) H1
theorem Gj{i j:Nat}{x y:Str}{a b:Expr}{ta:TA}{px py pt:Pos}{kt k2 lM}(hc:X.calm=true)(hN:X.N.Nodup)(hi:X.N[i]? =some x)(hj:X.N[j]? =some y)(eI:i≠j)
  (hx:X.env.scope.names.lookup x=some .local)(hy:X.env.scope.names.lookup y=some .local)(ha:PA X [a,b] ta)
  (hw:swappedStores [.Tuple [.Name x px,.Name y py] kt pt] (.Tuple [a,b] k2 lM) X.env=pure (some [x,y]))
  (hs:swapsWithSole [.Tuple [.Name x px,.Name y py] kt pt] (.Tuple [a,b] k2 lM) pos.line X.env=pure false:=by rfl):
  PS X (.Assign [.Tuple [.Name x px,.Name y py] kt pt] (.Tuple [a,b] k2 lM) pos) (N_ i j ta):=by
 intro pins s σ H D I h
 rw[exec_Assign_arm]
 refine wpAny_bind (wpAny_standAt ?_)
 rw[hs]
 refine wpAny_bind (wpAny_pure ?_)
 rw[if_neg (by decide)]
 refine wpAny_bind (Tuple_ (bj (ha _ pins s σ H _ I h) fun us s1 aX=>?_))
 obtain⟨vs,H1,I1,r1,q1⟩:=aX
 obtain⟨v,w,e1,q1⟩:=q1
 subst e1
 obtain⟨u1,u2,rfl,rv,sr⟩:∃u1 u2,us=[u1,u2]∧RelV v u1∧RelV w u2:=by
  cases r1 with
  |cons p q=>
   cases q with
   |cons p' q'=>
    cases q'
    exact⟨_,_,rfl,p,p'⟩
 refine wpAny_newObj_type ?_ (by show 2≤sizeLine;decide)
 have I2:Inv X pins σ H1 { s1 with heap:=s1.heap.push { cls:=.type "tuple",data:=.seq [u1,u2].toArray } }:=I1.kept (t':=s1.toks) fun b o e=>Heap.get?_push_of_some _ e
 rw[hw]
 refine wpAny_bind (wpAny_pure ?_)
 show wpAny (model X.prog X.w) X.A (do rule "assign.swapped-stores";let items ←unpackItems (.ref s1.heap.objs.size) 2 none;assignInOrder [fun v=>bindName X.env y v,fun v=>bindName X.env x v] items.reverse;pure Flow.next) _ _ _
 refine wpAny_bind (wpAny_rule (wpAny_bind (unpackItems_tuple (items:=#[u1,u2]) (I.ok.hd hc) (IsTup.new s1.heap _) fun h' mq=>?_)))
 have I3:=I2.kept (h':=h') (t':=s1.toks) fun b o e=>mq b o (Nat.ne_of_lt (Heap.lt_size e)) e
 show wpAny _ _ (assignInOrder [fun v=>bindName X.env y v,fun v=>bindName X.env x v] [u2,u1] >>= fun _=>pure Flow.next) _ _ _
 refine wpAny_bind (assignInOrder_cons (wpAny_bindName (fk I3 hN hj (.inl hy) sr (fun s2 I4=>?_) (.inr hy))))
 refine assignInOrder_cons (wpAny_bindName (fk I4 hN hi (.inl hx) rv (fun s3 I5=>assignInOrder_nil (wpAny_pure ?_)) (.inr hx)))
 rw[List.set_comm _ _ (Ne.symm eI)]at I5
 exact⟨_,H1,I5,q1⟩
end
section
variable{X:Cx}{pos:Pos}
def Gk(c:TT)(tb:TS):TS:=fun D σ H=>∃W:Nat→St→Hp→Prop,(∃m,W m σ H)∧∀m σ H,W m σ H→
 c σ H fun b H1=>if b=true then ∃N:St→Hp→Prop,(∀σ' H',N σ' H'→∃m',m'<m∧W m' σ' H')∧tb { D with nx:=N,ct:=N,bk:=D.nx } σ H1 else D.nx σ H1
theorem Bl{c:Expr}{body:List Stmt}{tc:TT}{tb:TS}(hp:PassesOwn (model X.prog X.w) X.A X.env X.xe)(hc:PT X c tc)(hb:jK X body tb):PS X (.While c body [] pos) (Gk tc tb):=by
 intro pins s σ H D I h
 obtain⟨W,⟨m0,w0⟩,turn⟩:=h
 refine wpAny_While (codeAny_whileLoop (fun n s'=>∃σ' H',Inv X pins σ' H' s'∧W n σ' H') ?_ m0 ⟨σ,H,I,w0⟩)
 rintro n s1 ⟨σ1,H1,I1,w1⟩
 refine wpAny_passesOwn hp (bj (hc pins s1 σ1 H1 _ I1 (turn n σ1 H1 w1)) fun b s2 aX=>?_)
 obtain⟨H2,I2,q2⟩:=aX
 cases b with
 |true=>
  obtain⟨N,hN,q2⟩:=q2
  rw[if_pos rfl]
  refine wpAny_passesOwn hp (bj (hb pins s2 σ1 H2 _ I2 q2) fun f s3 q3=>?_)
  cases f with
  |next=>
   obtain⟨nT,H3,I3,n3⟩:=q3
   obtain⟨m',hm,w3⟩:=hN nT H3 n3
   exact⟨m',hm,nT,H3,I3,w3⟩
  |cont=>
   obtain⟨nT,H3,I3,n3⟩:=q3
   obtain⟨m',hm,w3⟩:=hN nT H3 n3
   exact⟨m',hm,nT,H3,I3,w3⟩
  |brk=>exact q3
  |ret v=>exact q3
 |false=>
  rw[if_neg Bool.false_ne_true]
  exact wpAny_execs_nil ⟨σ1,H2,I2,q2⟩
end
structure It where
 go:Nat→Hp→Prop
 De:Nat→Hp→V→Hp→Prop
 stop:Nat→Hp→Prop
def iN(X:Cx)(pins:List (Addr×Obj))(H:Hp)(b:Addr):Prop:=
 H b=none∧b≠X.env.locals∧b∉X.fs∧(b∈X.ex∨X.aW.heap.objs.size≤b)∧(∀x c,X.env.cells.lookup x=some c→c≠b)∧∀p∈X.pn++pins,p.1≠b
theorem Inv.Ac{X:Cx}{pins:List (Addr×Obj)}{σ:St}{H H':Hp}{s:Shared}{b:Addr}(I:Inv X pins σ H s)(hb:s.heap.objs.size≤b)(hn:H' b=none):iN X pins H' b:=by
 refine⟨hn,Nat.ne_of_gt (Nat.lt_of_lt_of_le I.lt hb),I.IU hb,.inr (Nat.le_trans I.sz hb),fun x c e z=>?_,fun p hp z=>?_⟩
 ·obtain⟨v,q⟩:=I.cell x c e
  exact absurd (Nat.lt_of_lt_of_le q.lt (by rw[z];exact hb)) (Nat.lt_irrefl _)
 ·exact absurd (Nat.lt_of_lt_of_le (Heap.lt_size (I.pin p hp).1) (by rw[z];exact hb)) (Nat.lt_irrefl _)
structure Turn(P:Program)(w:World)(K:PySem.W.Frag)(tg:Expr)(J:It)(fp:List Addr)(it:Addr)(tn:Nat→Heap→Prop):Prop where
 mem:it∈fp
 obj:∀i h,tn i h→∀b∈fp,∃o,h.get? b=some o∧∀v,o.data≠.cell v
 keep:∀i h h',tn i h→(∀b∈fp,∀o,h.get? b=some o→h'.get? b=some o)→tn i h'
 item:∀(X:Cx),X.prog=P→X.w=w→X.K=K→X.calm=true→∀(i:Nat) (pins:List (Addr×Obj)) (s:Shared) (σ:St) (H:Hp) (E:Value→Shared→Prop),Inv X pins σ H s→(∀b∈fp,iN X pins H b)→tn i s.heap→J.go i H→
  wpAny (model P w) X.A (pyNext (.ref it)) (fun r s1=>∃u,r=some u∧
   wpAny (model P w) X.A (letOwnedTupleGo tg (.ref it) u) (fun _ s2=>∃x H',Inv X pins σ H' s2∧RelV x u∧J.De i H x H'∧tn (i+1) s2.heap∧∀b∈fp,H' b=none) E s1) E s
 done:∀(X:Cx),X.prog=P→X.w=w→X.K=K→X.calm=true→∀(i:Nat) (pins:List (Addr×Obj)) (s:Shared) (σ:St) (H:Hp) (E:Value→Shared→Prop),Inv X pins σ H s→(∀b∈fp,iN X pins H b)→tn i s.heap→J.stop i H→
  wpAny (model P w) X.A (pyNext (.ref it)) (fun r s1=>r=none∧Inv X pins σ H s1) E s
 self:∀(A:Around) (i:Nat) (s:Shared) (Q:Value→Shared→Prop) (E:Value→Shared→Prop),tn i s.heap→Q (.ref it) s→wpAny (model P w) A (pyIter (.ref it)) Q E s
abbrev TI:=St→Hp→(It→Hp→Prop)→Prop
def Kd(X:Cx)(pins:List (Addr×Obj))(σ:St)(tg:Expr)(R:It→Hp→Prop)(Gm:Value)(s2:Shared):Prop:=
 ∃(it:Addr) (fp:List Addr) (tn:Nat→Heap→Prop) (J:It) (H':Hp),Gm= .ref it∧Inv X pins σ H' s2∧Turn X.prog X.w X.K tg J fp it tn∧tn 0 s2.heap∧(∀b∈fp,iN X pins H' b)∧R J H'
namespace Zu
set_option allowUnsafeReducibility true in
@[scoped irreducible] def _root_.L2.PI(X:Cx)(tg iter:Expr)(wi:TI):Prop:=
 ∀(pins:List (Addr×Obj)) (s:Shared) (σ:St) (H:Hp) (R:It→Hp→Prop),Inv X pins σ H s→wi σ H R→
  wpAny (model X.prog X.w) X.A (eval iter X.env) (fun v s1=>wpAny (model X.prog X.w) X.A (pyIter v) (Kd X pins σ tg R) X.xe s1) X.xe s
end Zu
theorem yF{M:Model}{A:Around}{E:Value→Shared→Prop}{s:Shared}{tg:Expr}{it:Addr}{u:Value}{o:Obj}{n:String}{vs:Array Value}{Q:Unit→Shared→Prop}(ho:s.heap.get? it=some o)(hc:o.cls= .type n)(hd:o.data= .fields vs)
  (hn: ["enumerate","zip","dict_itemiterator","dict_reverseitemiterator","odict_iterator","itertools.zip_longest","itertools.pairwise"].contains n=false)(hQ:Q () s):wpAny M A (letOwnedTupleGo tg (.ref it) u) Q E s:=by
 unfold letOwnedTupleGo
 cases tg<;>first
  |exact wpAny_pure hQ
  |(cases u<;>first
    |exact wpAny_pure hQ
    |(refine wpAny_bind (wpAny_load ho ?_)
      rw[hc,hd]
      show wpAny M A (if (["enumerate","zip","dict_itemiterator","dict_reverseitemiterator","odict_iterator","itertools.zip_longest","itertools.pairwise"].contains n&&vs[0]?==some (rawInt _))=true then _ else _) Q E s
      rw[if_neg (by intro h;rw[hn,Bool.false_and]at h;cases h)]
      exact wpAny_pure hQ))
def Oa(K:PySem.W.Frag)(a:Addr):It:=
 ⟨fun i H=>∃xs x,cU K H a xs∧xs[i]? =some x,fun i H x H'=>H'=H∧∀xs,cU K H a xs→xs[i]? =some x,fun i H=>∃xs,cU K H a xs∧xs.length≤i⟩
def Tp(K:PySem.W.Frag)(a:Addr):It:=
 ⟨fun i H=>∃xs x,dk K H a xs∧xs[i]? =some x,fun i H x H'=>H'=H∧∀xs,dk K H a xs→xs[i]? =some x,fun i H=>∃xs,dk K H a xs∧xs.length≤i⟩
def Df(lo:Int)(n:Nat):It:=⟨fun i _=>i<n,fun i H x H'=>H'=H∧x= .int (lo+i),fun i _=>n≤i⟩
theorem yG{P:Program}{w:World}{K:PySem.W.Frag}{tg:Expr}(a it:Addr):Turn P w K tg (Oa K a) [it] it (fun i h=>h.IsListIter it a i) where
 mem:=by simp
 obj:=fun i h st b hb=>by
  have e:b=it:=by simpa using hb
  subst e
  obtain⟨o,e,c,d⟩:=st
  exact⟨o,e,fun v z=>by rw[d]at z;cases z⟩
 keep:=fun i h h' st k=>st.at fun o e=>k it (by simp) o e
 item:=by
  intro X hP hw hK hc i pins s σ H E I hf st hg
  subst hP hw hK
  obtain⟨xs,x,hq,hx⟩:=hg
  obtain⟨its,rv,p,hz⟩:=I.list hq
  obtain⟨u,hu,ru⟩:=rv.get hx
  obtain⟨f0,f1,f2,f3,f4,f5⟩:=hf it (by simp)
  refine wpAny_pyNext_list_item st p.isList (x:=u) (by simpa using hu) fun h' vN sb=>?_
  have I1:Inv X pins σ H { s with heap:=h' }:=I.turned (t':=s.toks) (fun b o hb e=>(sb.2 b hb).trans e) f0 f1 f3 f4 f5
  obtain⟨o,e,c,d⟩:=id vN
  exact⟨u,rfl,yF (s:={ s with heap:=h' }) e c d (by decide) ⟨x,H,I1,ru,⟨rfl,fun ys hy=>by rw[I.Bi hy hq];exact hx⟩,vN,fun b hb=>(hf b hb).1⟩⟩
 done:=by
  intro X hP hw hK hc i pins s σ H E I hf st hg
  subst hP hw hK
  obtain⟨xs,hq,hx⟩:=hg
  obtain⟨its,rv,p,hz⟩:=I.list hq
  obtain⟨f0,f1,f2,f3,f4,f5⟩:=hf it (by simp)
  have hl:=rv.length
  exact wpAny_pyNext_list_end (I.ok.hd hc) st p.isList (by simp;omega) fun h' eb=>⟨rfl,I.turned (t':=s.toks) (fun b o hb e=>eb b o hb e) f0 f1 f3 f4 f5⟩
 self:=fun _ _ _ _ _ st h=>wpAny_pyIter_listiter st h
theorem vO{P:Program}{w:World}{K:PySem.W.Frag}{tg:Expr}(it:Addr)(lo:Int)(n:Nat):Turn P w K tg (Df lo n) [it] it (fun i h=>IsRangeIter h it (lo+(i:Nat)*1) ((n:Int) - (i:Nat)) 1) where
 mem:=by simp
 obj:=fun i h st b hb=>by
  have e:b=it:=by simpa using hb
  subst e
  exact⟨_,st,fun v z=>by
   have z':Data.fields _=Data.cell v:=z
   cases z'⟩
 keep:=fun i h h' st k=>k it (by simp) _ st
 item:=by
  intro X hP hw hK hc i pins s σ H E I hf st hg
  subst hP hw hK
  obtain⟨f0,f1,f2,f3,f4,f5⟩:=hf it (by simp)
  have W:=Walks.range (prog:=X.prog) (w:=X.w) (I.ok.hd hc) it lo 1 n
  refine W.item i s _ _ hg st fun v h' tk hv vN kk=>?_
  obtain⟨t,rfl⟩:=hv
  have I1:Inv X pins σ H { s with heap:=h',toks:=tk }:=I.turned (fun b o hb e=>kk b o (by simpa using hb) e) f0 f1 f3 f4 f5
  refine⟨_,rfl,yF (s:={ s with heap:=h',toks:=tk }) (n:="range_iterator") vN rfl rfl (by decide) ⟨.int (lo+i),H,I1,⟨t,?_⟩,⟨rfl,rfl⟩,vN,fun b hb=>(hf b hb).1⟩⟩
  rw[Int.mul_one]
 done:=by
  intro X hP hw hK hc i pins s σ H E I hf st hg
  subst hP hw hK
  obtain⟨f0,f1,f2,f3,f4,f5⟩:=hf it (by simp)
  exact wpAny_pyNext_range_end (I.ok.hd hc) st (by have:n≤i:=hg;omega) fun h' eb=>⟨rfl,I.turned (t':=s.toks) (fun b o hb e=>eb b o hb e) f0 f1 f3 f4 f5⟩
 self:=fun _ _ _ _ _ st h=>wpAny_pyIter_rangeiter st h
end L2
namespace L2
open PySem PySem.Spec PyProof.Rows
section
variable{X:Cx}{tg:Expr}
def Ke(K:PySem.W.Frag)(tl:TE):TI:=fun σ H R=>tl σ H fun x H1=>∃a,x= .ref a∧(∃xs,cU K H1 a xs)∧R (Oa K a) H1
def IX(K:PySem.W.Frag)(tl:TE):TI:=fun σ H R=>tl σ H fun x H1=>∃a,x= .ref a∧(∃xs,dk K H1 a xs)∧R (Tp K a) H1
theorem Dg{l:Expr}{tl:TE}(hl:PE X l tl):PI X tg l (Ke X.K tl):=by
 intro pins s σ H R I h
 refine bj (hl pins s σ H _ I h) fun v s1 aX=>?_
 obtain⟨x,H1,I1,r1,q1⟩:=aX
 obtain⟨a,e,⟨xs,hq⟩,q⟩:=q1
 subst e
 cases r1
 obtain⟨its,rv,p,hz⟩:=I1.list hq
 refine wpAny_pyIter_list p.isList ?_
 refine⟨s1.heap.objs.size,[s1.heap.objs.size],_,_,H1,rfl,I1.kept (t':=s1.toks) fun b o e=>Heap.get?_push_of_some _ e,yG a _,⟨_,Heap.get?_push_size _ rfl,rfl,rfl⟩,fun b hb=>?_,q⟩
 have e:b=s1.heap.objs.size:=by simpa using hb
 subst e
 exact I1.Ac (Nat.le_refl _) (I1.aR.fresh (Nat.le_refl _))
theorem sZ{pins:List (Addr×Obj)}{σ:St}{H:Hp}{s:Shared}{R:It→Hp→Prop}{E:Value→Shared→Prop}{lo hi:Int}{t u v:Tok}{tk:Nat}(I:Inv X pins σ H s)(h1: -(2 ^ 62)≤lo)(h2:lo<2 ^ 62)(h3: -(2 ^ 62)≤hi)(h4:hi<2 ^ 62)
  (q:R (Df lo (hi - lo).toNat) H):wpAny (model X.prog X.w) X.A (pyIter (.ref s.heap.objs.size)) (Kd X pins σ tg R) E { s with heap:=s.heap.push { cls:=.type "range",data:=.fields #[.int lo t,.int hi u,.int 1 v] },toks:=tk }:=by
 refine wpAny_pyIter_range (IsRange.new ..) (small_one h1 h2 h3 h4) ?_
 have I1:Inv X pins σ H { s with heap:=s.heap.push { cls:=.type "range",data:=.fields #[.int lo t,.int hi u,.int 1 v] },toks:=tk }:=I.kept fun b o e=>Heap.get?_push_of_some _ e
 refine⟨(s.heap.push { cls:=.type "range",data:=.fields #[.int lo t,.int hi u,.int 1 v] }).objs.size,[(s.heap.push { cls:=.type "range",data:=.fields #[.int lo t,.int hi u,.int 1 v] }).objs.size],_,_,H,rfl,
  I1.kept (t':=tk) fun b o e=>Heap.get?_push_of_some _ e,vO _ lo (hi - lo).toNat,?_,fun b hb=>?_,q⟩
 ·have e1:lo+((0:Nat):Int)*1=lo:=by simp
  have e2:(((hi - lo).toNat:Nat):Int) - ((0:Nat):Int)=Builtin.Range.rangeSize lo hi 1:=by rw[rangeSize_one];split<;>omega
  show IsRangeIter _ _ (lo+((0:Nat):Int)*1) ((((hi - lo).toNat:Nat):Int) - ((0:Nat):Int)) 1
  rw[e1,e2]
  exact Heap.get?_push_size _ rfl
 ·have e:b=(s.heap.push { cls:=.type "range",data:=.fields #[.int lo t,.int hi u,.int 1 v] }).objs.size:=by simpa using hb
  subst e
  exact I1.Ac (Nat.le_refl _) (I1.aR.fresh (Nat.le_refl _))
def cx(ta:TA):TI:=fun σ H R=>ta σ H fun vs H1=>∃j:Int,vs=[.int j]∧-(2 ^ 62)≤j∧j<2 ^ 62∧R (Df 0 j.toNat) H1
def jL(ta:TA):TI:=fun σ H R=>ta σ H fun vs H1=>∃i j:Int,vs=[.int i,.int j]∧(-(2 ^ 62)≤i∧i<2 ^ 62∧-(2 ^ 62)≤j∧j<2 ^ 62)∧R (Df i (j - i).toNat) H1
theorem yH{a:Expr}{ta:TA}{p pos:Pos}(hg:Gl X "range")(hm:X.mg "range" =none)(ha:PA X [a] ta)(hs:starEach [a] X.env=[(false,eval a X.env)]:=by rfl):PI X tg (.Call (.Name "range" p) [a] [] pos) (cx ta):=by
 intro pins s σ H R I h
 refine Call_ (dX I hg hm boot_range (PyProof.Rows.callWith_type1 (bj (ha pos pins s σ H _ I h) fun us s1 aX=>?_) hs rfl))
 obtain⟨vs,H1,I1,r1,q1⟩:=aX
 obtain⟨j,e,q1,q2,q⟩:=q1
 subst e
 cases r1 with
 |cons r rr=>
  cases rr
  obtain⟨t,rfl⟩:=r
  exact call_range_1 (sZ I1 (by omega) (by omega) q1 q2 (by simpa using q))
theorem yI{a b:Expr}{ta:TA}{p pos:Pos}(hg:Gl X "range")(hm:X.mg "range" =none)(ha:PA X [a,b] ta)(hs:starEach [a,b] X.env=[(false,eval a X.env),(false,eval b X.env)]:=by rfl)(kZ:starEach [b] X.env=[(false,eval b X.env)]:=by rfl):
  PI X tg (.Call (.Name "range" p) [a,b] [] pos) (jL ta):=by
 intro pins s σ H R I h
 refine Call_ (dX I hg hm boot_range (PyProof.Rows.callWith_type1 (bj (ha pos pins s σ H _ I h) fun us s1 aX=>?_) (by rw[hs,kZ]) (by rw[kZ];rfl)))
 obtain⟨vs,H1,I1,r1,q1⟩:=aX
 obtain⟨i,j,e,⟨q1,q2,q3,q4⟩,q⟩:=q1
 subst e
 cases r1 with
 |cons r rr=>
  cases rr with
  |cons r' rr=>
   cases rr
   obtain⟨t,rfl⟩:=r
   obtain⟨t',rfl⟩:=r'
   exact call_range_2 (sZ I1 q1 q2 q3 q4 q)
def Ob(wi:TI)(g:TG)(tb:TS):TS:=fun D σ H=>wi σ H fun J H1=>∃W:Nat→Nat→St→Hp→Prop,(∃m,W 0 m σ H1)∧∀i m σ H,W i m σ H→
 (J.stop i H∧D.nx σ H)∨(J.go i H∧∃N:St→Hp→Prop,(∀σ' H',N σ' H'→∃m',m'<m∧W (i+1) m' σ' H')∧∀x H',J.De i H x H'→g x σ H' fun uo H2=>tb { D with nx:=N,ct:=N,bk:=D.nx } uo H2)
def mG(fp:List Addr)(h:Heap):List (Addr×Obj):=fp.filterMap fun b=>(h.get? b).map fun o=>(b,o)
theorem hU{fp:List Addr}{h:Heap}{b:Addr}{o:Obj}(hb:b∈fp)(e:h.get? b=some o):(b,o)∈mG fp h:=List.mem_filterMap.mpr ⟨b,hb,by rw[e];rfl⟩
theorem yJ{fp:List Addr}{h:Heap}{p:Addr×Obj}(hp:p∈mG fp h):p.1∈fp∧h.get? p.1=some p.2:=by
 obtain⟨b,hb,e⟩:=List.mem_filterMap.mp hp
 cases q:h.get? b with
 |none=>rw[q]at e;cases e
 |some o=>
  rw[q]at e
  have e':(b,o)=p:=Option.some.inj e
  subst e'
  exact⟨hb,q⟩
theorem Inv.pinned{pins:List (Addr×Obj)}{σ:St}{H:Hp}{s:Shared}{fp:List Addr}(I:Inv X pins σ H s)(hf:∀b∈fp,iN X pins H b)(ho:∀b∈fp,∃o,s.heap.get? b=some o∧∀v,o.data≠.cell v):Inv X (pins++mG fp s.heap) σ H s:=
 I.pZ fun p hp=>(List.mem_append.mp hp).elim (fun z=>I.pin p (List.mem_append_right _ z)) fun z=>by
  obtain⟨hb,e⟩:=yJ z
  obtain⟨f0,f1,f2,_⟩:=hf p.1 hb
  obtain⟨o,e',d⟩:=ho p.1 hb
  rw[e]at e';cases e'
  exact⟨e,f0,f1,f2,d⟩
theorem Inv.iO{pins pl:List (Addr×Obj)}{σ:St}{H:Hp}{s:Shared}(I:Inv X (pins++pl) σ H s):Inv X pins σ H s:=I.pZ fun p hp=>I.pin p (List.mem_append_right _ (List.mem_append_left _ hp))
theorem Gn{iter:Expr}{body:List Stmt}{wi:TI}{g:TG}{tb:TS}{pos:Pos}(hp:PassesOwn (model X.prog X.w) X.A X.env X.xe)(hc:X.calm=true)(hi:PI X tg iter wi)(hg:PG X tg g)(hb:jK X body tb)
  (hs:∀x,foldedSetIterable iter X.env x=pure x:=by intro _;rfl):PS X (.For tg iter body [] pos) (Ob wi g tb):=by
 intro pins s σ H D I h
 refine wpAny_For (bj (hi pins s σ H _ I h) fun v s1 h1=>bj h1 fun Gm s2 h2=>?_) hs
 obtain⟨it,fp,tn,J,H2,e,I2,T,qa,f2,W,⟨m0,w0⟩,turn⟩:=h2
 subst e
 -- Oc stays true of Dh IY objects through Dh loop
 have Di:∀{H':Hp},(∀b∈fp,H' b=none)→∀b∈fp,iN X pins H' b:=fun hn b hb=>⟨hn b hb,(f2 b hb).2⟩
 refine codeAny_forLoop_any (fun n s'=>∃i σ' H',Inv X pins σ' H' s'∧tn i s'.heap∧(∀b∈fp,H' b=none)∧W i n σ' H') ?_ m0 ⟨0,σ,H2,I2,qa,fun b hb=>(f2 b hb).1,w0⟩
 rintro n s3 ⟨i,nT,H3,I3,Od,Oe,w3⟩
 rcases turn i n nT H3 w3 with⟨stop,qn⟩|⟨go,N,hN,step⟩
 ·refine wpAny_passesOwn hp (bj (T.done X rfl rfl rfl hc i pins s3 nT H3 X.xe I3 (Di Oe) Od stop) fun r s4 aX=>?_)
  obtain⟨hr,I4⟩:=aX
  subst hr
  exact wpAny_execs_nil ⟨nT,H3,I4,qn⟩
 ·refine wpAny_passesOwn hp (bj (T.item X rfl rfl rfl hc i pins s3 nT H3 X.xe I3 (Di Oe) Od go) fun r s4 aX=>?_)
  obtain⟨u,hr,h4⟩:=aX
  subst hr
  refine wpAny_passesOwn hp (bj h4 fun _ s5 aX=>?_)
  obtain⟨x,H5,I5,r5,y5,Kf,Tq⟩:=aX
  have Kg:=I5.pinned (Di Tq) (T.obj _ _ Kf)
  refine wpAny_passesOwn hp (bj (hg _ s5 nT H5 x u _ Kg r5 (step x H5 y5)) fun _ s6 aX=>?_)
  obtain⟨Kh,H6,I6,q6⟩:=aX
  refine wpAny_passesOwn hp (bj (hb _ s6 Kh H6 _ I6 q6) fun f s7 q7=>?_)
  have again:∀{qb:St}{H7:Hp},Inv X (pins++mG fp s5.heap) qb H7 s7→N qb H7→∃m,m<n∧∃i σ' H',Inv X pins σ' H' s7∧tn i s7.heap∧(∀b∈fp,H' b=none)∧W i m σ' H':=fun {qb H7} I7 n7=>by
   obtain⟨m',hm,w7⟩:=hN qb H7 n7
   refine⟨m',hm,i+1,qb,H7,I7.iO,T.keep _ _ _ Kf fun b hb o e=>(I7.pin (b,o) (List.mem_append_right _ (List.mem_append_right _ (hU hb e)))).1,fun b hb=>?_,w7⟩
   obtain⟨o,e,d⟩:=T.obj _ _ Kf b hb
   exact(I7.pin (b,o) (List.mem_append_right _ (List.mem_append_right _ (hU hb e)))).2.1
  cases f with
  |next=>obtain⟨qb,H7,I7,n7⟩:=q7;exact again I7 n7
  |cont=>obtain⟨qb,H7,I7,n7⟩:=q7;exact again I7 n7
  |brk=>obtain⟨qb,H7,I7,q7⟩:=q7;exact⟨qb,H7,I7.iO,q7⟩
  |ret v=>obtain⟨x7,qb,H7,I7,r7,q7⟩:=q7;exact⟨x7,qb,H7,I7.iO,r7,q7⟩
end
end L2
namespace L2
open PySem PySem.Spec PyProof.Rows
abbrev R2:=V→V→Hp→VK→Prop
def dm(X:Cx)(f:Value→Value→Sem Value)(r:R2):Prop:=
 ∀(pins:List (Addr×Obj)) (s:Shared) (σ:St) (H:Hp) (x y:V) (v u:Value) (Q:VK),Inv X pins σ H s→RelV x v→RelV y u→r x y H Q→
  wpAny (model X.prog X.w) X.A (f v u) (EP X pins σ Q) X.xe s
def Ki(X:Cx)(f:Value→Sem Value)(r:V→Hp→VK→Prop):Prop:=
 ∀(pins:List (Addr×Obj)) (s:Shared) (σ:St) (H:Hp) (x:V) (v:Value) (Q:VK),Inv X pins σ H s→RelV x v→r x H Q→
  wpAny (model X.prog X.w) X.A (f v) (EP X pins σ Q) X.xe s
def fN(X:Cx)(f:Value)(r:List V→Hp→VK→Prop):Prop:=
 ∀(pins:List (Addr×Obj)) (s:Shared) (σ:St) (H:Hp) (xs:List V) (us:List Value) (Q:VK),Inv X pins σ H s→Vals xs us→r xs H Q→
  wpAny (model X.prog X.w) X.A (call f us) (EP X pins σ Q) X.xe s
def Dj(r:R2)(ta tb:TE):TE:=fun σ H Q=>ta σ H fun x H1=>tb σ H1 fun y H2=>r x y H2 Q
def Tr(r:V→Hp→VK→Prop)(ta:TE):TE:=fun σ H Q=>ta σ H fun x H1=>r x H1 Q
def rI(C:Int→Int→Prop)(g:Int→Int→V):R2:=fun x y H Q=>∃i j,x= .int i∧y= .int j∧C i j∧Q (g i j) H
def mH(g:Int→Int→V):R2:=fun x y H Q=>∃i j,x= .int i∧y= .int j∧Q (g i j) H
def rU(g:Int→V):V→Hp→VK→Prop:=fun x H Q=>∃i,x= .int i∧Q (g i) H
section
variable{X:Cx}{a b c:Expr}{ta tb tc:TE}{pos:Pos}
theorem Dk(ha:PE X a ta)(hb:PE X b tb){pins:List (Addr×Obj)}{s:Shared}{σ:St}{H:Hp}{R:V→V→Hp→Prop}(I:Inv X pins σ H s)
  (h:ta σ H fun x H1=>tb σ H1 fun y H2=>R x y H2){Q:Value→Shared→Prop}{f:Value→Value→Sem Value}
  (hf:∀v u s2 x y H2,Inv X pins σ H2 s2→RelV x v→RelV y u→R x y H2→wpAny (model X.prog X.w) X.A (f v u) Q X.xe s2):
  wpAny (model X.prog X.w) X.A (eval a X.env) (fun v bg=>wpAny (model X.prog X.w) X.A (eval b X.env) (fun u hG=>wpAny (model X.prog X.w) X.A (f v u) Q X.xe hG) X.xe bg) X.xe s:=by
 refine bj (ha pins s σ H _ I h) fun v s1 aX=>?_
 obtain⟨x,H1,I1,r1,q1⟩:=aX
 refine bj (hb pins s1 σ H1 _ I1 q1) fun u s2 aX=>?_
 obtain⟨y,H2,I2,r2,q2⟩:=aX
 exact hf v u s2 x y H2 I2 r1 r2 q2
theorem Kj{op:Operator}{r:R2}(ho:dm X (binaryOp op) r)(ha:PE X a ta)(hb:PE X b tb):PE X (.BinOp a op b pos) (Dj r ta tb):=by
 intro pins s σ H Q I h
 exact wpAny_BinOp (Dk ha hb I h fun v u s2 x y H2 I2 rx ry q=>ho pins s2 σ H2 x y v u Q I2 rx ry q)
theorem Kk{op:UnaryOp}{r:V→Hp→VK→Prop}(ho:Ki X (unaryOp op) r)(ha:PE X a ta):PE X (.UnaryOp op a pos) (Tr r ta):=by
 intro pins s σ H Q I h
 exact UnaryOp_ (bj (ha pins s σ H _ I h) fun v s1 ⟨x,H1,I1,r1,q1⟩=>ho pins s1 σ H1 x v Q I1 r1 q1)
theorem Gp{f:Value→Value→Sem Value}{C:Int→Int→Prop}{g:Int→Int→Int}
  (rule:∀(i j:Int) (t u:Tok) (s:Shared) (Q:Value→Shared→Prop) (E:Value→Shared→Prop),C i j→Q (.int (g i j) s.toks) { s with toks:=s.toks+1 }→wpAny (model X.prog X.w) X.A (f (.int i t) (.int j u)) Q E s):
  dm X f (rI C fun i j=>.int (g i j)):=by
 intro pins s σ H x y v u Q I rx ry h
 obtain⟨i,j,rfl,rfl,hc,q⟩:=h
 obtain⟨t,rfl⟩:=rx
 obtain⟨t',rfl⟩:=ry
 exact rule i j t t' s _ _ hc ⟨.int (g i j),H,I.tok _,⟨_,rfl⟩,q⟩
theorem IZ{f:Value→Value→Sem Value}{g:Int→Int→Int}
  (rule:∀(i j:Int) (t u:Tok) (s:Shared) (Q:Value→Shared→Prop) (E:Value→Shared→Prop),Q (.int (g i j) s.toks) { s with toks:=s.toks+1 }→wpAny (model X.prog X.w) X.A (f (.int i t) (.int j u)) Q E s):
  dm X f (mH fun i j=>.int (g i j)):=by
 intro pins s σ H x y v u Q I rx ry h
 obtain⟨i,j,rfl,rfl,q⟩:=h
 obtain⟨t,rfl⟩:=rx
 obtain⟨t',rfl⟩:=ry
 exact rule i j t t' s _ _ ⟨.int (g i j),H,I.tok _,⟨_,rfl⟩,q⟩
theorem Dl{f:Value→Value→Sem Value}{g:Int→Int→Bool}
  (rule:∀(i j:Int) (t u:Tok) (s:Shared) (Q:Value→Shared→Prop) (E:Value→Shared→Prop),Q (.bool (g i j)) s→wpAny (model X.prog X.w) X.A (f (.int i t) (.int j u)) Q E s):
  dm X f (mH fun i j=>.bl (g i j)):=by
 intro pins s σ H x y v u Q I rx ry h
 obtain⟨i,j,rfl,rfl,q⟩:=h
 obtain⟨t,rfl⟩:=rx
 obtain⟨t',rfl⟩:=ry
 exact rule i j t t' s _ _ ⟨.bl (g i j),H,I,rfl,q⟩
def I0(i j:Int):Prop:=0≤j∧j≤1000000∧i.natAbs<2 ^ 64
theorem Gq:dm X (binaryOp .Add) (mH fun i j=>.int (i+j)):=IZ fun _ _ _ _ _ _ _ q=>add_int q
theorem b_:dm X (binaryOp .Sub) (mH fun i j=>.int (i - j)):=IZ fun _ _ _ _ _ _ _ q=>sub_int q
theorem fD:dm X (binaryOp .Mod) (rI (fun _ j=>j≠0) fun i j=>.int (i.fmod j)):=Gp fun _ _ _ _ _ _ _ hc q=>mod_int' hc q
theorem uq:dm X (binaryOp .Pow) (rI I0 fun i j=>.int (i ^ j.toNat)):=Gp fun _ _ _ _ _ _ _ hc q=>pow_int_small hc.1 hc.2.1 hc.2.2 q
theorem Tt{f:Value→Sem Value}{g:Int→Int}
  (rule:∀(i:Int) (t:Tok) (s:Shared) (Q:Value→Shared→Prop) (E:Value→Shared→Prop),Q (.int (g i) s.toks) { s with toks:=s.toks+1 }→wpAny (model X.prog X.w) X.A (f (.int i t)) Q E s):
  Ki X f (rU fun i=>.int (g i)):=by
 intro pins s σ H x v Q I rx h
 obtain⟨i,rfl,q⟩:=h
 obtain⟨t,rfl⟩:=rx
 exact rule i t s _ _ ⟨.int (g i),H,I.tok _,⟨_,rfl⟩,q⟩
theorem Gr:Ki X (unaryOp .USub) (rU fun i=>.int (-i)):=Tt fun _ _ _ _ _ q=>neg_int q
end
def I8:V→V→Bool
 |.bb,.bb=>true|.bb,.int _=>true|.int _,.bb=>true|.bb,.bl _=>true|.bl _,.bb=>true|.bb,.str _=>true|.str _,.bb=>true
 |.int _,.int _=>true|.bl _,.bl _=>true|.str _,.str _=>true|.pW _,.pW _=>true
 |.int _,.str _=>true|.str _,.int _=>true|.bl _,.str _=>true|.str _,.bl _=>true
 |_,_=>false
def Kl:R2:=fun x y H Q=>I8 x y=true∧Q (.bl (decide (x=y))) H
def Km:R2:=fun x y H Q=>I8 x y=true∧Q (.bl (!decide (x=y))) H
theorem vP{i j:Int}:decide (V.int i=V.int j)=(i==j):=by
 rw[Bool.eq_iff_iff]
 simp
theorem pK{i j:Bool}:decide (V.bl i=V.bl j)=(i==j):=by
 rw[Bool.eq_iff_iff]
 simp
theorem vQ{i j:Str}:decide (V.str i=V.str j)=(i==j):=by
 rw[Bool.eq_iff_iff]
 simp
theorem vR{i j:Array UInt8}:decide (V.pW i=V.pW j)=(i.toList==j.toList):=by
 rw[Bool.eq_iff_iff]
 cases i
 cases j
 simp
section
variable{X:Cx}{a b c:Expr}{ta tb tc:TE}{pos:Pos}
theorem bo{pins:List (Addr×Obj)}{σ:St}{H:Hp}{s:Shared}{Q:VK}{k k':Bool}(I:Inv X pins σ H s)(q:Q (.bl k) H)(e:k=k'):EP X pins σ Q (.bool k') s:=by
 subst e
 exact⟨.bl k,H,I,rfl,q⟩
theorem Kn:dm X (compareOp .Eq) Kl:=by
 intro pins s σ H x y v u Q I rx ry h
 obtain⟨hs,q⟩:=h
 cases x with
 |bb=>
  cases rx
  cases y with
  |bb=>cases ry;exact PySem.EqNone.eq_none_none (bo I q (by simp))
  |bl j=>cases ry;exact PySem.EqNone.eq_none_bool (bo I q (by simp))
  |int j=>obtain⟨t',rfl⟩:=ry;exact PySem.EqNone.eq_none_int (bo I q (by simp))
  |str j=>obtain⟨t',rfl⟩:=ry;exact PySem.EqNone.eq_none_str (bo I q (by simp))
  |_=>exact absurd (show false=true from hs) Bool.false_ne_true
 |bl i=>
  cases rx
  cases y with
  |bb=>cases ry;exact PySem.EqNone.eq_bool_none (bo I q (by simp))
  |bl j=>cases ry;exact eq_bool (bo I q pK)
  |str j=>obtain⟨t',rfl⟩:=ry;exact PySem.EqMixed.eq_bool_str (bo I q (by simp))
  |_=>exact absurd (show false=true from hs) Bool.false_ne_true
 |int i=>
  obtain⟨t,rfl⟩:=rx
  cases y with
  |bb=>cases ry;exact PySem.EqNone.eq_int_none (bo I q (by simp))
  |int j=>obtain⟨t',rfl⟩:=ry;exact eq_int (bo I q vP)
  |str j=>obtain⟨t',rfl⟩:=ry;exact PySem.EqMixed.eq_int_str (bo I q (by simp))
  |_=>exact absurd (show false=true from hs) Bool.false_ne_true
 |str i=>
  obtain⟨t,rfl⟩:=rx
  cases y with
  |bb=>cases ry;exact PySem.EqNone.eq_str_none (bo I q (by simp))
  |bl j=>cases ry;exact PySem.EqMixed.eq_str_bool (bo I q (by simp))
  |int j=>obtain⟨t',rfl⟩:=ry;exact PySem.EqMixed.eq_str_int (bo I q (by simp))
  |str j=>obtain⟨t',rfl⟩:=ry;exact eq_str (bo I q vQ)
  |_=>exact absurd (show false=true from hs) Bool.false_ne_true
 |pW i=>
  obtain⟨t,rfl⟩:=rx
  cases y with
  |pW j=>obtain⟨t',rfl⟩:=ry;exact PySem.W.eq_bytes (bo I q vR)
  |_=>exact absurd (show false=true from hs) Bool.false_ne_true
 |_=>cases y<;>exact absurd (show false=true from hs) Bool.false_ne_true
theorem Ko:dm X (compareOp .NotEq) Km:=by
 intro pins s σ H x y v u Q I rx ry h
 obtain⟨hs,q⟩:=h
 cases x with
 |bb=>
  cases rx
  cases y with
  |bb=>cases ry;exact PySem.EqNone.ne_none_none (bo I q (by simp))
  |bl j=>cases ry;exact PySem.EqNone.ne_none_bool (bo I q (by simp))
  |int j=>obtain⟨t',rfl⟩:=ry;exact PySem.EqNone.ne_none_int (bo I q (by simp))
  |str j=>obtain⟨t',rfl⟩:=ry;exact PySem.EqNone.ne_none_str (bo I q (by simp))
  |_=>exact absurd (show false=true from hs) Bool.false_ne_true
 |bl i=>
  cases rx
  cases y with
  |bb=>cases ry;exact PySem.EqNone.ne_bool_none (bo I q (by simp))
  |bl j=>cases ry;exact ne_bool (bo I q (congrArg not pK))
  |str j=>obtain⟨t',rfl⟩:=ry;exact PySem.EqMixed.ne_bool_str (bo I q (by simp))
  |_=>exact absurd (show false=true from hs) Bool.false_ne_true
 |int i=>
  obtain⟨t,rfl⟩:=rx
  cases y with
  |bb=>cases ry;exact PySem.EqNone.ne_int_none (bo I q (by simp))
  |int j=>obtain⟨t',rfl⟩:=ry;exact ne_int (bo I q (congrArg not vP))
  |str j=>obtain⟨t',rfl⟩:=ry;exact PySem.EqMixed.ne_int_str (bo I q (by simp))
  |_=>exact absurd (show false=true from hs) Bool.false_ne_true
 |str i=>
  obtain⟨t,rfl⟩:=rx
  cases y with
  |bb=>cases ry;exact PySem.EqNone.ne_str_none (bo I q (by simp))
  |bl j=>cases ry;exact PySem.EqMixed.ne_str_bool (bo I q (by simp))
  |int j=>obtain⟨t',rfl⟩:=ry;exact PySem.EqMixed.ne_str_int (bo I q (by simp))
  |str j=>obtain⟨t',rfl⟩:=ry;exact ne_str (bo I q (congrArg not vQ))
  |_=>exact absurd (show false=true from hs) Bool.false_ne_true
 |pW i=>
  obtain⟨t,rfl⟩:=rx
  cases y with
  |pW j=>obtain⟨t',rfl⟩:=ry;exact PySem.W.ne_bytes (bo I q (congrArg not vR))
  |_=>exact absurd (show false=true from hs) Bool.false_ne_true
 |_=>cases y<;>exact absurd (show false=true from hs) Bool.false_ne_true
theorem lN:dm X (compareOp .Lt) (mH fun i j=>.bl (decide (i<j))):=Dl fun _ _ _ _ _ _ _ q=>lt_int q
theorem yK:dm X (compareOp .LtE) (mH fun i j=>.bl (decide (i≤j))):=Dl fun _ _ _ _ _ _ _ q=>le_int q
theorem qc:dm X (compareOp .Gt) (mH fun i j=>.bl (decide (j<i))):=Dl fun _ _ _ _ _ _ _ q=>gt_int q
theorem vS:dm X (compareOp .IsNot) (fun x y H Q=>y= .bb∧Q (.bl (!decide (x= .bb))) H):=by
 intro pins s σ H x y v u Q I rx ry h
 obtain⟨rfl,q⟩:=h
 cases ry
 refine isnot_none_gen (bo I q ?_)
 cases x<;>first
  |(cases rx;rfl)
  |(obtain⟨t,rfl⟩:=rx;rfl)
theorem dm.or{f:Value→Value→Sem Value}{r r':R2}(h:dm X f r)(h':dm X f r'):dm X f (fun x y H Q=>r x y H Q∨r' x y H Q):=by
 intro pins s σ H x y v u Q I rx ry q
 rcases q with q|q
 ·exact h pins s σ H x y v u Q I rx ry q
 ·exact h' pins s σ H x y v u Q I rx ry q
theorem aY(b:Expr){op:CmpOp}(h:op≠.In:=by decide)(h2:op≠.NotIn:=by decide):behindInMarks op b=false:=by
 have e1:(op==CmpOp.In)=false:=by cases op<;>first|rfl|exact absurd rfl h
 have e2:(op==CmpOp.NotIn)=false:=by cases op<;>first|rfl|exact absurd rfl h2
 cases b<;>simp[behindInMarks,e1,e2]
theorem Dm{op:CmpOp}{r:R2}(ho:dm X (compareOp op) r)(ha:PE X a ta)(hb:PE X b tb)(hm:behindInMarks op b=false):PE X (.Compare a [op] [b] pos) (Dj r ta tb):=by
 intro pins s σ H Q I h
 exact wpAny_Compare1 (Dk ha hb I h fun v u s2 x y H2 I2 rx ry q=>ho pins s2 σ H2 x y v u Q I2 rx ry q) hm
def Dn(t:TE):TT:=fun σ H Q=>t σ H fun x H'=>∃k,x= .bl k∧Q k H'
theorem Dp{op:CmpOp}{r:R2}(ho:dm X (compareOp op) r)(ha:PE X a ta)(hb:PE X b tb)(hm:behindInMarks op b=false):PT X (.Compare a [op] [b] pos) (Dn (Dj r ta tb)):=by
 intro pins s σ H Q I h
 refine wpAny_isTrue_Compare1 (bj (ha pins s σ H _ I h) fun v s1 ⟨x,H1,I1,r1,q1⟩=>bj (hb pins s1 σ H1 _ I1 q1) fun u s2 ⟨y,H2,I2,r2,q2⟩=>
  bj (ho pins s2 σ H2 x y v u _ I2 r1 r2 q2) fun c s3 ⟨z,H3,I3,r3,k,e,q3⟩=>?_) hm
 subst e
 cases r3
 exact wpAny_truthy_bool ⟨H3,I3,q3⟩
def Ad(r r':R2)(ta tb tc:TE):TE:=fun σ H Q=>ta σ H fun x H1=>tb σ H1 fun y H2=>r x y H2 fun z H3=>∃k,z= .bl k∧
 (if k=true then tc σ H3 fun w' H4=>r' y w' H4 Q else Q (.bl false) H3)
theorem Bm{op yL:CmpOp}{r r':R2}(ho:dm X (compareOp op) r)(mF:dm X (compareOp yL) r')(ha:PE X a ta)(hb:PE X b tb)(hc:PE X c tc)
  (hm:lastMarks [op,yL] [b,c]=false:=by with_unfolding_all rfl):PT X (.Compare a [op,yL] [b,c] pos) (Dn (Ad r r' ta tb tc)):=by
 intro pins s σ H Q I h
 refine isTrue_chain (bj (ha pins s σ H _ I h) fun v s1 ⟨x,H1,I1,r1,q1⟩=>test_link (bj (hb pins s1 σ H1 _ I1 q1) fun u s2 ⟨y,H2,I2,r2,q2⟩=>
  bj (ho pins s2 σ H2 x y v u _ I2 r1 r2 q2) fun d s3 ⟨z,H3,I3,r3,k,e,q3⟩=>?_)) hm
 subst e
 cases r3
 refine wpAny_truthy_bool ?_
 cases k with
 |false=>
  obtain⟨k',e',q'⟩:=q3
  cases e'
  exact ite_ff ⟨H3,I3,q'⟩
 |true=>
  refine ite_tt (test_last (bj (hc pins s3 σ H3 _ I3 q3) fun w' s4 ⟨z',H4,I4,r4,q4⟩=>bj (mF pins s4 σ H4 y z' u w' _ I4 r2 r4 q4) fun d' s5 aX=>?_))
  obtain⟨z2,H5,I5,r5,k2,e2,q5⟩:=aX
  subst e2
  cases r5
  exact wpAny_truthy_bool ⟨H5,I5,q5⟩
theorem mI:(sizeLine:Nat)<2 ^ 63:=by rw[sizeLine_eq];decide
theorem vals1{x:V}{us:List Value}(r:Vals [x] us):∃u,us=[u]∧RelV x u:=by
 cases r with
 |cons r1 r2=>cases r2;exact⟨_,rfl,r1⟩
theorem vals2{x y:V}{us:List Value}(r:Vals [x,y] us):∃u w',us=[u,w']∧RelV x u∧RelV y w':=by
 cases r with
 |cons r1 r2=>
  cases r2 with
  |cons r3 r4=>cases r4;exact⟨_,_,rfl,r1,r3⟩
theorem kH:fN X (.builtin "abs") (fun xs H Q=>∃i,xs=[.int i]∧Q (.int (if i<0 then -i else i)) H):=by
 intro pins s σ H xs us Q I r h
 obtain⟨i,rfl,q⟩:=h
 obtain⟨u,rfl,t,rfl⟩:=vals1 r
 exact call_abs_int fun u tk=>⟨.int (if i<0 then -i else i),H,I.tok _,⟨_,rfl⟩,q⟩
theorem yM(hc:X.calm=true):fN X (.builtin "max") (fun xs H Q=>∃i j,xs=[.int i,.int j]∧Q (.int (if j > i then j else i)) H):=by
 intro pins s σ H xs us Q I r h
 obtain⟨i,j,rfl,q⟩:=h
 obtain⟨u,w',rfl,⟨t,rfl⟩,⟨t',rfl⟩⟩:=vals2 r
 refine max_two_ints (I.ok.hd hc) fun h' tk k=>⟨_,H,I.kept k,?_,q⟩
 by_cases hj:j > i
 ·rw[if_pos hj,if_pos hj];exact⟨_,rfl⟩
 ·rw[if_neg hj,if_neg hj];exact⟨_,rfl⟩
theorem qd:fN X (.type "int") (fun xs H Q=>(∃i,xs=[.int i]∧Q (.int i) H)∨∃k,xs=[.bl k]∧Q (.int (if k then 1 else 0)) H):=by
 intro pins s σ H xs us Q I r h
 rcases h with⟨i,rfl,q⟩|⟨k,rfl,q⟩
 ·obtain⟨u,rfl,t,rfl⟩:=vals1 r
  exact call_int_int ⟨.int i,H,I,⟨_,rfl⟩,q⟩
 ·obtain⟨u,rfl,r1⟩:=vals1 r
  cases r1
  exact call_int_bool ⟨.int (if k then 1 else 0),H,I.tok _,⟨_,rfl⟩,q⟩
end
end L2
namespace L2
open PySem PySem.Spec PyProof.Rows
structure Dq(h:Heap)(x dx C:Addr)(mA:Str→Option Value):Prop where
 obj:h.get? x=some (PySem.W.instObj C dx)
 ns:h.Ns1 dx mA
 ne:dx≠x
theorem yN{h:Heap}{dx:Addr}{mA:Str→Option Value}(n:h.Ns1 dx mA):∃od,h.get? dx=some od∧∀name,PySem.W.lookIn name od=some (mA name):=by
 obtain⟨o,es,ep,ho,hd,hk,_,hm⟩:=n
 refine⟨o,ho,fun name=>?_⟩
 have e:=hm name
 unfold nsFind findBy at e
 rw[←Array.find?_toList]at e
 unfold PySem.W.lookIn
 rw[hd]
 dsimp only
 split
 ·rename_i y q
  rw[q]at e
  exact congrArg some e
 ·rename_i q
  rw[q]at e
  have a:es.toList.any (·.refKey)=false:=by
   rw[List.any_eq_false]
   intro y hy
   obtain⟨z,t,Of⟩:=hk y (Array.mem_toList_iff.mp hy)
   simp[DictEntry.refKey,Of]
  have a':¬es.toList.any (·.refKey)=true:=by rw[a];exact Bool.false_ne_true
  rw[if_neg a']
  exact congrArg some e
theorem Dq.look{h:Heap}{x dx C:Addr}{mA:Str→Option Value}(I:Dq h x dx C mA):∃od,PySem.W.InstAt h x (PySem.W.instObj C dx) C (some od)∧∀name,PySem.W.lookIn name od=some (mA name):=
 let ⟨od,ho,hl⟩:=yN I.ns
 ⟨od,⟨I.obj,rfl,rfl,ho⟩,hl⟩
section
variable{prog:Program}{w:World}{A:Around}{E:Value→Shared→Prop}{s:Shared}{K:PySem.W.Frag}{x dx C f:Addr}{mA:Str→Option Value}{name:Str}{v:Value}
end
section
variable{P:Program}{w:World}{H H':Hp}{h h':Heap}{a C dx:Addr}{fs Ti:List (Str×V)}
theorem Dr(aR:dZ P w H h)(e:H a=some (.ins C dx fs)):∃mA,Dq h a dx C mA∧(∀f,sU (fs.lookup f) (mA f))∧PySem.Within mA (fs.map (·.1))∧fs.length≤1000∧H dx=some (.own a):=by
 obtain⟨d,z,ne,ob,mA,n,r,q⟩:=(show bH P w H h a (.ins C dx fs)from aR a _ e)
 exact⟨mA,⟨ob,n,ne⟩,r,q,z,d⟩
end
structure Kq(K:PySem.W.Frag)(C:Addr):Prop where
 pg:PySem.W.plainGet K C Str.empty=true
 hd:PySem.W.hasDictIn K C=true
 po:PySem.W.plainOver K C=true
 sa:PySem.W.findIn K (.ref C) "__setattr__" =some (some (.builtin "object.__setattr__"))
theorem Kq.get{K:PySem.W.Frag}{C:Addr}(c:Kq K C)(f:Str):PySem.W.plainGet K C f=true:=c.pg
section
variable{X:Cx}{pins:List (Addr×Obj)}{σ:St}{H:Hp}{s:Shared}{a C dx:Addr}{fs:List (Str×V)}{f:Str}{v:V}{A:Around}{E:Value→Shared→Prop}
end
section
variable{X:Cx}{o e value:Expr}{f:Str}{pos pos' Og:Pos}{ta tv:TE}
end
section
variable{X:Cx}{pins:List (Addr×Obj)}{σ:St}{H:Hp}{s:Shared}{A:Around}{E:Value→Shared→Prop}{Q:Value→Shared→Prop}{c:Value}{b:Bool}
inductive hV(K:PySem.W.Frag)(H:Hp):V→Value→Prop where
 |bb:hV K H .bb (.type "NoneType")
 |bl (x:Bool):hV K H (.bl x) (.type "bool")
 |int (i:Int):hV K H (.int i) (.type "int")
 |str (x:Str):hV K H (.str x) (.type "str")
 |Ba (x:UInt64):hV K H (.Ba x) (.type "float")
 |lst {a:Addr}{xs:List V} (e:H a=some (.lst xs)):hV K H (.ref a) (.type "list")
 |dP {a:Addr}{o:Obj}{xs:List V} (e:H a=some (.dP o (.lst xs))):hV K H (.ref a) (.type "list")
 |tup {a:Addr}{xs:List V} (e:H a=some (.tup xs)):hV K H (.ref a) (.type "tuple")
 |dK {a:Addr}{aD:List (Key×V)} (e:H a=some (.dK aD)):hV K H (.ref a) (.type "dict")
 |dT {a:Addr}{aD:List (List Key×V)} (e:H a=some (.dT aD)):hV K H (.ref a) (.type "dict")
 |ins {a C dx:Addr}{fs:List (Str×V)} (e:H a=some (.ins C dx fs)) (cl:Kq K C) (ha:PySem.W.findIn K (.ref C) "__class__" =some (some (.builtin "object.__class__")))
   (hn:PySem.W.specialIn K (.builtin "object.__class__") "__get__" =some (some (.builtin "getset_descriptor.__get__"))) (Bn:PySem.W.takesIn K (.builtin "object.__class__")=some true)
   (hm:PySem.W.mroIn K C (.type "object")=some true):hV K H (.ref a) (.ref C)
theorem yO{x:V}{u t:Value}(I:Inv X pins σ H s)(rx:RelV x u)(ty:hV X.K H x t)(e:PySem.W.kitOne X.K t c=some b)(h:∀tk,Q (.bool b) { s with toks:=tk }):
  wpAny (model X.prog X.w) A (call (.builtin "isinstance") [u,c]) Q E s:=by
 cases ty with
 |bb=>cases (show u=Value.none from rx);exact PySem.W.kia_one PySem.W.kitx_none I.i_ True.intro e (fun z=>nomatch z) h
 |bl y=>cases (show u=Value.bool y from rx);exact PySem.W.kia_one PySem.W.kitx_bool I.i_ True.intro e (fun z=>nomatch z) h
 |int i=>obtain⟨t,q⟩:=(show ∃t,u=Value.int i t from rx);cases q;exact PySem.W.kia_one PySem.W.kitx_int I.i_ True.intro e (fun z=>nomatch z) h
 |str y=>obtain⟨t,q⟩:=(show ∃t,u=Value.str y t from rx);cases q;exact PySem.W.kia_one PySem.W.kitx_str I.i_ True.intro e (fun z=>nomatch z) h
 |Ba y=>obtain⟨t,q⟩:=(show ∃t,u=Value.float y t from rx);cases q;exact PySem.W.kia_one PySem.W.kitx_float I.i_ True.intro e (fun z=>nomatch z) h
 |@lst a xs ea=>
  cases (show u=Value.ref a from rx)
  obtain⟨_,_,n,_,h1⟩:=(show bH X.prog X.w H s.heap a (.lst xs)from I.aR a _ ea)
  exact PySem.W.kia_one PySem.W.kitx_list I.i_ ⟨_,h1,rfl⟩ e (fun z=>nomatch z) h
 |@dP a ob xs ea=>
  cases (show u=Value.ref a from rx)
  obtain⟨_,_,_,n,_,h1⟩:=(show bH X.prog X.w H s.heap a (.dP ob (.lst xs))from I.aR a _ ea)
  exact PySem.W.kia_one PySem.W.kitx_list I.i_ ⟨_,h1,rfl⟩ e (fun z=>nomatch z) h
 |@tup a xs ea=>
  cases (show u=Value.ref a from rx)
  obtain⟨_,_,_,p⟩:=(show bH X.prog X.w H s.heap a (.tup xs)from I.aR a _ ea)
  obtain⟨o,h1,h2,_⟩:=p
  exact PySem.W.kia_one PySem.W.kitx_tuple I.i_ ⟨o,h1,h2⟩ e (fun z=>nomatch z) h
 |@dK a aD ea=>
  cases (show u=Value.ref a from rx)
  obtain⟨_,_,vs,_,p⟩:=(show bH X.prog X.w H s.heap a (.dK aD)from I.aR a _ ea)
  obtain⟨o,es,ep,h1,h2,_⟩:=p
  exact PySem.W.kia_one PySem.W.kitx_dict I.i_ ⟨o,h1,h2.1⟩ e (fun z=>nomatch z) h
 |@dT a aD ea=>
  cases (show u=Value.ref a from rx)
  obtain⟨_,_,xs,_,o,es,ep,h1,h2,_⟩:=(show bH X.prog X.w H s.heap a (.dT aD)from I.aR a _ ea)
  exact PySem.W.kia_one PySem.W.kitx_dict I.i_ ⟨o,h1,h2.1⟩ e (fun z=>nomatch z) h
 |@ins a C dx fs ea cl ha hn Bn hm=>
  cases (show u=Value.ref a from rx)
  obtain⟨mA,O,_⟩:=Dr I.aR ea
  obtain⟨od,J,_⟩:=O.look
  exact PySem.W.kia_one (PySem.W.kitx_own (cl.get _) cl.hd ha hn Bn hm) I.i_ J e (fun z=>nomatch z) h
end
end L2
namespace L2
open PySem PySem.Spec PyProof.Rows
structure cY(k:Nat)(A:Around):Prop where
 hd:A.handled=none
 dp:A.depth+3*k+5<recursionLimit
 un:A.units+16*k+200<cLine
theorem cY.mono{j k:Nat}{A:Around}(r:cY k A)(h:j≤k):cY j A:=⟨r.hd,by have:=r.dp;omega,by have:=r.un;omega⟩
theorem cY.deeper{k:Nat}{A:Around}(r:cY (k+1) A)(env:Env):cY k (A.deeper env):=
 ⟨r.hd,by have:=r.dp;show A.depth+1+3*k+5<_;omega,by have:=r.un;show A.units+3+16*k+200<_;omega⟩
theorem cY.depth{k:Nat}{A:Around}(r:cY k A):A.depth<recursionLimit:=by have:=r.dp;omega
theorem cY.units{k:Nat}{A:Around}(r:cY k A):A.units+64<cLine:=by have:=r.un;omega
def Oh:TA:=fun _ H Q=>Q [] H
def Kr(ta:TE)(tr:TA):TA:=fun σ H Q=>ta σ H fun x H1=>tr σ H1 fun xs H2=>Q (x::xs) H2
section
variable{X:Cx}{e:Expr}{es:List Expr}{te:TE}{t:TA}{pos:Pos}
theorem Gs:PA X [] Oh:=fun _ _ _ _ H Q I h=>Calls.spliced_nil ⟨[],H,I,.nil,h⟩
theorem Ds(ha:PE X e te)(hr:PA X es t)(hs:starEach (e::es) X.env=(false,eval e X.env)::starEach es X.env:=by rfl):PA X (e::es) (Kr te t):=by
 intro pos pins s σ H Q I h
 rw[hs]
 show wpAny _ _ (spliced ((false,eval e X.env)::backTo pos (starEach es X.env))) _ _ s
 refine Calls.spliced_cons (bj (ha pins s σ H _ I h) fun u s1 aX=>?_)
 obtain⟨x,H1,I1,r1,q1⟩:=aX
 exact bj (hr pos pins s1 σ H1 _ I1 q1) fun us s2 ⟨xs,H2,I2,r2,q2⟩=>⟨x::xs,H2,I2,.cons r1 r2,q2⟩
def Oi(t:TA):TE:=fun σ H Q=>t σ H fun xs H1=>xs.length≤sizeLine∧∀p,H1 p=none→Q (.ref p) (upd H1 p (.tup xs))
def Oj(t:TA):TE:=fun σ H Q=>t σ H fun xs H1=>xs.length≤sizeLine∧∀p,H1 p=none→Q (.ref p) (upd H1 p (.lst xs))
theorem Gu{x1}(h:PA X es t):PE X (.Tuple es x1 pos) (Oi t):=by
 intro pins s σ H Q I hq
 refine wpAny_Tuple_spliced (bj (h pos pins s σ H _ I hq) fun us s1 ⟨xs,H1,I1,r,z,q⟩=>⟨by rw[←r.length];exact z,?_⟩)
 have hf:H1 s1.heap.objs.size=none:=I1.aR.fresh (Nat.le_refl _)
 refine⟨.ref s1.heap.objs.size,upd H1 s1.heap.objs.size (.tup xs),I1.laid (t':=s1.toks) (fun b u e=>Heap.get?_push_of_some _ e) (Nat.le_refl _) ?_,rfl,q _ hf⟩
 exact⟨z,us,r,⟨_,Heap.get?_push_size _ rfl,rfl,_,rfl⟩⟩
theorem Gv(h:PA X es t):PE X (.List es pos) (Oj t):=by
 intro pins s σ H Q I hq
 refine wpAny_List_spliced (bj (h pos pins s σ H _ I hq) fun us s1 ⟨xs,H1,I1,r,z,q⟩=>⟨by rw[←r.length];exact z,?_⟩)
 have hf:H1 s1.heap.objs.size=none:=I1.aR.fresh (Nat.le_refl _)
 refine⟨.ref s1.heap.objs.size,upd H1 s1.heap.objs.size (.lst xs),I1.laid (t':=s1.toks) (fun b u e=>Heap.get?_push_of_some _ e) (Nat.le_refl _) ?_,rfl,q _ hf⟩
 exact⟨z,us,0,r,Heap.get?_push_size _ rfl⟩
end
abbrev Sp:=List V→Hp→VK→XK→Prop
abbrev qe:=List Env→Hp→Shared→XK→Value→Shared→Prop
structure vT(P:Program)(w:World)(K:PySem.W.Frag)(mg:Str→Option Value)(base:Heap)(A:Around)(outer:List Env)(s:Shared)(H:Hp):Prop where
 frames:A.frames=some outer
 mod:Mod K mg base
 bs:∀b o,base.get? b=some o→s.heap.get? b=some o∧H b=none
 pY:base.objs.size≤s.heap.objs.size
 iL:s.heap.FunFrames base outer
 vF:∀b∈pX outer,H b=none
 aR:dZ P w H s.heap
 bare:AllBare s.gens
def CE(outer:List Env)(P:Program)(w:World)(H:Hp)(s:Shared)(Q:VK)(u:Value)(s':Shared):Prop:=
 ∃v H',s'.os=s.os∧AllBare s'.gens∧Un (pX outer) [] H H' s.heap s'.heap∧dZ P w H' s'.heap∧RelV v u∧Q v H'
def CR(CX:qe)(outer:List Env)(P:Program)(w:World)(H:Hp)(s:Shared)(Q:VK)(E:XK)(r:Result)(s':Shared):Prop:=
 match r with
 |.ok (.ret u)=>CE outer P w H s Q u s'
 |.ok _=>False
 |.error e=>CX outer H s E e s'
structure bL(P:Program)(w:World)(K:PySem.W.Frag)(mg:Str→Option Value)(base:Heap)(CX:qe)(k:Nat)(f:Addr)(fd:FuncData)(ps:List Str)(sp:Sp):Prop where
 len:∀vs H Q E,sp vs H Q E→vs.length=ps.length
 run:∀(A:Around) (outer:List Env) (s:Shared) (H:Hp) (args:Args) (us:List Value) (vs:List V) (Q:VK) (E:XK),cY k A→vT P w K mg base A outer s H→BindsTo s fd args (ps.zip us)→Vals vs us→sp vs H Q E→
  codeAny (model P w) A (.call (.ref f) args) (CR CX outer P w H s Q E) s
theorem bL.imp{P:Program}{w:World}{K:PySem.W.Frag}{mg:Str→Option Value}{base:Heap}{CX:qe}{k:Nat}{f:Addr}{fd:FuncData}{ps:List Str}{sp Ol:Sp}(F:bL P w K mg base CX k f fd ps sp)
  (h:∀vs H Q E,Ol vs H Q E→sp vs H Q E):bL P w K mg base CX k f fd ps Ol:=
 ⟨fun vs H Q E q=>F.len vs H Q E (h _ _ _ _ q),fun A outer s H args us vs Q E hr he hb hv hs=>F.run A outer s H args us vs Q E hr he hb hv (h _ _ _ _ hs)⟩
section
variable{X:Cx}{pins:List (Addr×Obj)}{σ:St}{H:Hp}{s s':Shared}
theorem Inv.I9(I:Inv X pins σ H s):vT X.prog X.w X.K X.mg X.base X.A X.stack s H:=
 ⟨I.ok.frames,I.ok.mod,I.bs,Nat.le_trans I.ok.pY I.sz,I.stack,I.vH,I.aR,I.bare⟩
theorem Inv.after{Q:VK}{u:Value}(I:Inv X pins σ H s)(h:CE X.stack X.prog X.w H s Q u s'):EP X pins σ Q u s':=by
 obtain⟨v,H',os,bare,un,aR,r,q⟩:=h
 obtain⟨hh,g,d,t,Ks⟩:=s'
 obtain rfl:Ks=s.os:=os
 exact⟨v,H',I.call (h':=hh) (g':=g) (d':=d) (t':=t) (ch:=[]) un aR bare (fun b z=>absurd z (by simp)),r,q⟩
end
def yP(sp:Sp)(mJ:List V)(E:XK)(t:TA):TE:=fun σ H Q=>t σ H fun vs H1=>sp (vs++mJ) H1 Q E
def Binds(K:PySem.W.Frag)(fd:FuncData)(ps:List Str)(ds:List Value):Prop:=
 ∀(s:Shared) (us:List Value),K.In s.heap→(us++ds).length=ps.length→BindsTo s fd ⟨us,[]⟩ (ps.zip (us++ds))
theorem Binds.all{K:PySem.W.Frag}{fd:FuncData}{ps:List Str}(h:∀us:List Value,us.length=ps.length→bindArgs fd ⟨us,[]⟩=pure (ps.zip us)):Binds K fd ps []:=fun s us _ hl=>by
 rw[List.append_nil]at hl ⊢
 exact .of_eq (h us hl)
def Passes(CX:qe)(X:Cx)(E:XK):Prop:=∀(pins:List (Addr×Obj)) (σ:St) (H:Hp) (s:Shared) (e:Value) (s':Shared),Inv X pins σ H s→CX X.stack H s E e s'→X.xe e s'
section
variable{X:Cx}{CX:qe}{k:Nat}{f C:Addr}{fd:FuncData}{ps:List Str}{sp:Sp}{mJ:List V}{ds:List Value}{E:XK}{x m:Str}{p pos apos:Pos}{e o:Expr}{es:List Expr}{ta:TE}{t:TA}
theorem Ae{pins:List (Addr×Obj)}{σ:St}{H:Hp}{s:Shared}{Q:VK}{us:List Value}{vs:List V}(F:bL X.prog X.w X.K X.mg X.base CX k f fd ps sp)(hr:cY k X.A)(hb:Binds X.K fd ps ds)(hd:Vals mJ ds)(hx:Passes CX X E)
  (I:Inv X pins σ H s)(r:Vals vs us)(h:sp (vs++mJ) H Q E):wpAny (model X.prog X.w) X.A (call (.ref f) us) (EP X pins σ Q) X.xe s:=by
 have r2:Vals (vs++mJ) (us++ds):=r.append hd
 have hl:(us++ds).length=ps.length:=by rw[←r2.length];exact F.len _ _ _ _ h
 refine wpAny_call (codeAny_mono (F.run X.A X.stack s H ⟨us,[]⟩ (us++ds) (vs++mJ) Q E hr I.I9 (hb s us I.i_ hl) r2 h) fun r s' hq=>?_)
 cases r with
 |error e=>exact hx pins σ H s e s' I hq
 |ok fl=>
  cases fl with
  |ret u=>exact I.after hq
  |next=>exact False.elim hq
  |brk=>exact False.elim hq
  |cont=>exact False.elim hq
theorem Dt(F:bL X.prog X.w X.K X.mg X.base CX k f fd ps sp)(hr:cY k X.A)(hg:Gl X x)(hm:X.mg x=some (.ref f))(hk:PySem.W.keepIn X.K (.ref f)=true)(hb:Binds X.K fd ps ds)(hd:Vals mJ ds)(hx:Passes CX X E)
  (ha:PA X (e::es) t)(qf:(x==("__debug__":Str))=false:=by decide)(he:starEach (e::es) X.env=(false,eval e X.env)::starEach es X.env:=by rfl)(dq:(backTo pos (starEach es X.env)).any (·.1)=false:=by rfl):
  PE X (.Call (.Name x p) (e::es) [] pos) (yP sp mJ E t):=by
 intro pins s σ H Q I h
 refine wpAny_Call_Name_kw (vJ I hg hm ?_ qf)
 refine PySem.W.callWith_K (h₀:=X.base) I.ok.mod.CY hk (bj (ha pos pins s σ H _ I h) fun us s1 ⟨vs,H1,I1,r,q⟩=>⟨I1.i_,?_⟩) he dq
 exact Ae F hr hb hd hx I1 r q
end
section
variable{X:Cx}{CX:qe}{k:Nat}{f C:Addr}{fd:FuncData}{ps ks:List Str}{sp:Sp}{E:XK}{x m:Str}{p pos apos W7:Pos}{e o:Expr}{es:List Expr}{Xd:List Keyword}{te ta:TE}{t tk:TA}{nm:Option Str}
variable{g:List Value→List Value→List Value}{gV:List V→List V→List V}
end
structure aZ(N P:List Str)(sc:Scope):Prop where
 kind:sc.kind= .function
 co:sc.isCoroutine=false
 gen:sc.isGenerator=false
 nd:N.Nodup
 pre:N.take P.length=P
 par:∀x∈P,sc.names.lookup x=some .local∨sc.names.lookup x=some .cell
 Gw:∀y∈sc.names,y.2≠.free
theorem qg{kindOf:Str→Option NameKind}{x:Str}:∀{binds:List (Str×Value)}{m:Str→Option Value},(∀v,(x,v)∉binds)→bindL kindOf binds m x=m x
 |[],_,_=>rfl
 |(n,v)::r,m,h=>by
  unfold bindL
  rw[qg fun w hw=>h w (List.mem_cons_of_mem _ hw)]
  split
  ·have:x≠n:=by rintro rfl;exact h v List.mem_cons_self
   simp[this]
  ·rfl
theorem qh{kindOf:Str→Option NameKind}{x:Str}:∀{binds:List (Str×Value)}{m:Str→Option Value},(∀v,(x,v)∉binds)→bindC kindOf binds m x=m x
 |[],_,_=>rfl
 |(n,v)::r,m,h=>by
  unfold bindC
  rw[qh fun w hw=>h w (List.mem_cons_of_mem _ hw)]
  split
  ·rfl
  ·have:x≠n:=by rintro rfl;exact h v List.mem_cons_self
   simp[this]
theorem qi{kindOf:Str→Option NameKind}{x:Str}{v:Value}:∀{P:List Str}{vs:List Value}{i:Nat}{m:Str→Option Value},P.Nodup→P[i]? =some x→vs[i]? =some v→kindOf x=some .local→
  bindL kindOf (P.zip vs) m x=some v
 |[],_,_,_,_,h,_,_=>by simp at h
 |_::_,[],_,_,_,_,h,_=>by simp at h
 |p::P,w::vs,0,m,nd,h1,h2,hk=>by
  simp at h1 h2;subst h1;subst h2
  show bindL kindOf ((p,w)::P.zip vs) m p=_
  unfold bindL
  rw[qg fun v hv=>(List.nodup_cons.mp nd).1 (List.of_mem_zip hv).1,if_pos hk]
  simp
 |p::P,w::vs,i+1,m,nd,h1,h2,hk=>by
  show bindL kindOf ((p,w)::P.zip vs) m x=_
  unfold bindL
  exact qi (i:=i) (List.nodup_cons.mp nd).2 (by simpa using h1) (by simpa using h2) hk
theorem qj{kindOf:Str→Option NameKind}{x:Str}{v:Value}:∀{P:List Str}{vs:List Value}{i:Nat}{m:Str→Option Value},P.Nodup→P[i]? =some x→vs[i]? =some v→kindOf x≠some .local→
  bindC kindOf (P.zip vs) m x=some v
 |[],_,_,_,_,h,_,_=>by simp at h
 |_::_,[],_,_,_,_,h,_=>by simp at h
 |p::P,w::vs,0,m,nd,h1,h2,hk=>by
  simp at h1 h2;subst h1;subst h2
  show bindC kindOf ((p,w)::P.zip vs) m p=_
  unfold bindC
  rw[qh fun v hv=>(List.nodup_cons.mp nd).1 (List.of_mem_zip hv).1,if_neg hk]
  simp
 |p::P,w::vs,i+1,m,nd,h1,h2,hk=>by
  show bindC kindOf ((p,w)::P.zip vs) m x=_
  unfold bindC
  exact qj (i:=i) (List.nodup_cons.mp nd).2 (by simpa using h1) (by simpa using h2) hk
def start(N:List Str)(vs:List V):St:=vs.map some++List.replicate (N.length - vs.length) none
def lr(CX:qe)(P:Program)(w:World)(K:PySem.W.Frag)(mg:Str→Option Value)(base:Heap)(N:List Str)(qual:Str)(scope:Scope)(f:Addr)(cd:Value)(A:Around)(outer:List Env)(s:Shared)(H:Hp)(E:XK):Cx where
 prog:=P
 w:=w
 K:=K
 mg:=mg
 base:=base
 A:=A.deeper (envOfC qual scope s.heap.objs.size f cd)
 N:=N
 aW:=s
 bW:=H
 env:=envOfC qual scope s.heap.objs.size f cd
 outer:=outer
 stack:=envOfC qual scope s.heap.objs.size f cd::outer
 ex:=[]
 calm:=true
 fn:=fun _=>true
 pn:=[]
 xe:=fun e s'=>wpAny (model P w) (A.deeper (envOfC qual scope s.heap.objs.size f cd)) (leaving (envOfC qual scope s.heap.objs.size f cd) e) (fun _ vU=>CX outer H s E e vU) (fun e' vU=>CX outer H s E e' vU) s'
theorem s_{sc:Scope}{n:Nat}{x:Str}(h:sc.names.lookup x=some .cell):∃c,(cellsFrom n sc.names []).lookup x=some c:=by
 have q:=PySem.W.cellsFrom_some sc.names n [] (.inl h)
 exact Option.isSome_iff_exists.mp q
theorem qk{CX:qe}{P:Program}{w:World}{K:PySem.W.Frag}{mg:Str→Option Value}{base:Heap}{N ps:List Str}{qual:Str}{scope:Scope}{f:Addr}{cd:Value}{A:Around}{outer:List Env}{s s1:Shared}{H:Hp}{E:XK}{us:List Value}{vs:List V}
  (S:aZ N ps scope)(hd:A.handled=none)(e0:vT P w K mg base A outer s H)(hl:vs.length=ps.length)(r:Vals vs us)
  (x:InCallC s s.heap.objs.size (bindL (envOfC qual scope s.heap.objs.size f cd).kindOf (ps.zip us) fun _=>none) (cellsFrom (s.heap.objs.size+1) scope.names []) (bindC (envOfC qual scope s.heap.objs.size f cd).kindOf (ps.zip us) fun _=>none) s1):
  Inv (lr CX P w K mg base N qual scope f cd A outer s H E) [] (start N vs) H s1:=by
 have dq:ps.length≤N.length:=by have:=congrArg List.length S.pre;rw[List.length_take]at this;omega
 obtain⟨h1,tk,rfl,hk⟩:=x.done
 have ur:∀b:Addr,b∉(lr CX P w K mg base N qual scope f cd A outer s H E).ex:=fun b z=>absurd (show b∈([]:List Addr)from z) (by simp)
 refine⟨⟨e0.mod,S.kind,rfl,rfl,Nat.le_refl _,fun y z c h1 h2=>?_,fun y hy=>?_,fun y c _ h=>?_,fun _=>hd,Around.frames_deeper e0.frames,.inr ⟨rfl,rfl⟩,fun b z=>absurd z (ur b),e0.bs,e0.pY,fun b _ _=>ur b,fun b z=>absurd z (ur b),e0.iL,e0.vF⟩,
  rfl,e0.bare,Un.kept hk,⟨_,x.toInCall.ns,fun i y v h1 h2 h3=>?_⟩,fun y c h=>⟨_,x.cell y c h⟩,e0.aR.fresh (Nat.le_refl _),fun y c h=>?_,fun p hp=>absurd (show p∈([]:List (Addr×Obj))from hp) (by simp),e0.aR.kept hk,?_⟩
 ·exact name_of_addr x.apart (PySem.mem_of_lookup h1) (PySem.mem_of_lookup h2)
 ·have hy:scope.names.lookup y=some .cell∨scope.names.lookup y=some .free:=hy
  rcases hy with hy|hy
  ·exact s_ hy
  ·exact absurd rfl (S.Gw _ (PySem.mem_of_lookup hy))
 ·exact Nat.le_of_lt (x.above y c (PySem.mem_of_lookup h))
 ·have hi:i<vs.length:=by
   unfold start at h2
   by_cases hi:i<vs.length
   ·exact hi
   ·rw[List.getElem?_append_right (by simpa using hi)]at h2
    rw[List.getElem?_replicate]at h2
    split at h2<;>cases h2
  have ha:vs[i]? =some v:=by
   unfold start at h2
   rw[List.getElem?_append_left (by simpa using hi),List.getElem?_map]at h2
   cases e:vs[i]? with
   |none=>rw[e]at h2;cases h2
   |some a=>rw[e]at h2;cases h2;rfl
  obtain⟨u,hu,rv⟩:=r.get ha
  have hp:ps[i]? =some y:=by
   rw[←S.pre,List.getElem?_take_of_lt (by omega)];exact h1
  have Gx:ps.Nodup:=by rw[←S.pre];exact S.nd.sublist (List.take_sublist _ _)
  refine⟨u,rv,?_⟩
  rcases S.par y (List.mem_of_getElem? hp)with k|k
  ·exact .inl ⟨k,qi Gx hp hu k⟩
  ·obtain⟨c,e⟩:=s_ (n:=s.heap.objs.size+1) k
   refine .inr ⟨.inl k,c,e,?_⟩
   have q:=x.cell y c e
   rw[qj Gx hp hu (by show scope.names.lookup y≠_;rw[k];decide)]at q
   exact q
 ·exact .inl (e0.aR.fresh (Nat.le_of_lt (x.above y c (PySem.mem_of_lookup h))))
 ·unfold start
  show _=N.length
  rw[List.length_append,List.length_map,List.length_replicate]
  omega
theorem Kt{CX:qe}{P:Program}{w:World}{K:PySem.W.Frag}{mg:Str→Option Value}{base:Heap}{k:Nat}{f:Addr}{name qual:Str}{params:Arguments}{body:List Stmt}{scope:Scope}{dV kV doc pm cf ct oc:Value}{an od:Option Addr}
  {k_:Array (Option Value)}{N ps:List Str}{sp:Sp}(lk:K.lookup f=some ⟨oc,od,.func (PySem.W.fnOf name qual params body scope dV kV doc pm an cf ct),k_⟩)(nS:PySem.W.codeIn K cf qual=true)(S:aZ N ps scope)
  (len:∀vs H Q E,sp vs H Q E→vs.length=ps.length)
  (jb:∀(A:Around) (outer:List Env) (s:Shared) (H:Hp) (vs:List V) (Q:VK) (E:XK),cY k (A.deeper (envOfC qual scope s.heap.objs.size f cf))→sp vs H Q E→
   ∃t,jK (lr CX P w K mg base N qual scope f cf A outer s H E) body t∧t { nx:=fun _ H'=>Q .bb H',rt:=Q } (start N vs) H):
  bL P w K mg base CX (k+1) f (PySem.W.fnOf name qual params body scope dV kV doc pm an cf ct) ps sp:=by
 refine⟨len,fun A outer s H args us vs Q E hr e0 hb r pq=>?_⟩
 have hl:=len _ _ _ _ pq
 have KX:K.In s.heap:=e0.mod.CY.keeps fun b o e=>(e0.bs b o e).1
 have lim:s.heap.NoLimit:=e0.mod.nolimit.keeps fun b o e=>(e0.bs b o e).1
 have yQ:∀y∈ps.zip us,scope.names.lookup y.1=some .local∨(scope.names.lookup y.1=some .cell∧((cellsFrom (s.heap.objs.size+1) scope.names []).lookup y.1).isSome=true):=by
  rintro⟨n,v⟩ hy
  rcases S.par n (List.of_mem_zip hy).1 with q|q
  ·exact .inl q
  ·exact .inr ⟨q,PySem.W.cellsFrom_some _ _ _ (.inl q)⟩
 refine codeAny_call_function hr.depth (KX _ _ lk) rfl S.co S.gen rfl (PySem.W.codeRec_of KX nS) (hb _ _ _ _ ?_)
 refine wpAny_newFunctionEnv_cells S.kind yQ fun env he s1 x=>?_
 subst he
 refine⟨lim.keeps x.toInCall.keep,codeAny_func ?_⟩
 obtain⟨t,ht,hq⟩:=jb A outer s H vs Q E (hr.deeper _) pq
 have I:Inv (lr CX P w K mg base N qual scope f cf A outer s H E) [] (start N vs) H s1:=qk S hr.hd e0 hl r x
 refine wpAny_mono (ht [] s1 (start N vs) H _ I hq) (fun fl s' hs=>?_) fun e s' hs=>hs
 have fin:∀{σ':St}{H':Hp}{v:V}{u:Value},Inv (lr CX P w K mg base N qual scope f cf A outer s H E) [] σ' H' s'→RelV v u→Q v H'→CE outer P w H s Q u s':=
  fun {σ' H' v u} J rv q=>⟨v,H',J.os,J.bare,J.base,J.aR,rv,q⟩
 cases fl with
 |ret u=>
  obtain⟨v,σ',H',J,rv,q⟩:=hs
  exact fin J rv q
 |next=>
  obtain⟨σ',H',J,q⟩:=hs
  exact fin (v:=V.bb) (u:=Value.none) J rfl q
 |brk=>
  obtain⟨_,_,_,q⟩:=hs
  exact False.elim q
 |cont=>
  obtain⟨_,_,_,q⟩:=hs
  exact False.elim q
end L2
namespace L2
open PySem PySem.Spec PyProof.Rows
section
variable{X:Cx}{x:Str}{p pos:Pos}{e:Expr}{es:List Expr}{t:TA}{id T:String}{r:List V→Hp→VK→Prop}
def Ku(r:List V→Hp→VK→Prop)(t:TA):TE:=fun σ H Q=>t σ H fun vs H1=>r vs H1 Q
theorem Bo(hc:fN X (.builtin id) r)(hg:Gl X x)(hm:X.mg x=none)(hv:bootBuiltins x=some (.builtin id))(ha:PA X (e::es) t)(hn:x≠"__name__":=by decide)(qf:(x==("__debug__":Str))=false:=by decide)
  (he:starEach (e::es) X.env=(false,eval e X.env)::starEach es X.env:=by rfl)(dq:(backTo pos (starEach es X.env)).any (·.1)=false:=by rfl):PE X (.Call (.Name x p) (e::es) [] pos) (Ku r t):=by
 intro pins s σ H Q I h
 refine wpAny_Call_Name_kw (dX I hg hm hv ?_ hn qf)
 exact PyProof.Rows.callWith_builtin1 (bj (ha pos pins s σ H _ I h) fun us s1 ⟨vs,H1,I1,r1,q1⟩=>hc pins s1 σ H1 vs us Q I1 r1 q1) he dq
theorem yR(hc:fN X (.type T) r)(hg:Gl X x)(hm:X.mg x=none)(hv:bootBuiltins x=some (.type T))(ha:PA X (e::es) t)(hn:x≠"__name__":=by decide)(qf:(x==("__debug__":Str))=false:=by decide)
  (he:starEach (e::es) X.env=(false,eval e X.env)::starEach es X.env:=by rfl)(dq:(backTo pos (starEach es X.env)).any (·.1)=false:=by rfl):PE X (.Call (.Name x p) (e::es) [] pos) (Ku r t):=by
 intro pins s σ H Q I h
 refine wpAny_Call_Name_kw (dX I hg hm hv ?_ hn qf)
 exact PyProof.Rows.callWith_type1 (bj (ha pos pins s σ H _ I h) fun us s1 ⟨vs,H1,I1,r1,q1⟩=>hc pins s1 σ H1 vs us Q I1 r1 q1) he dq
end
end L2
namespace HT
open PySem PyProof.Rows
section
open PySem.SeqAt
open PySem.AutoSeq1 (wpAny_loadPart')
open PySem.MeetsSeq PySem.MeetsSeq2 PySem.MeetsSeq3
end
section
variable{prog:Program}{w:World}{A:Around}{E:Value→Shared→Prop}{s:Shared}
theorem Du{t b:Addr}{vs ws:List Value}{Q:Value→Shared→Prop}(ht:IsTup s.heap t vs.toArray)(hb:IsTup s.heap b ws.toArray)(hv:vs≠[])
  (h1:ws=[]→Q (.ref t) s)(h2:ws≠[]→Q (.ref s.heap.objs.size) { s with heap:=s.heap.push { cls:=.type "tuple",data:=.seq (vs++ws).toArray } })
  (hsz:vs.length+ws.length≤sizeLine):wpAny (model prog w) A (binaryOp .Add (.ref t) (.ref b)) Q E s:=by
 obtain⟨⟨cls,dd,data,sl⟩,ho,hc,n,hd⟩:=id ht
 obtain⟨⟨W8,Om,data2,Gy⟩,A9,Oo,n2,hd2⟩:=id hb
 simp only at hc hd Oo hd2
 subst hc hd Oo hd2
 have e:vs.toArray++ws.toArray=(vs++ws).toArray:=by simp
 by_cases hw:ws=[]
 ·exact concat_meets ⟨_,ho,rfl⟩ ⟨_,A9,rfl⟩ noFill_tuple_add seq_tuple_add PySem.F.slot_tuple_add PySem.F.entry_tuple_add (PySem.F.args_tuple_add_2 _ _)
   (tuple_addW1 t b vs.toArray ws.toArray n n2 dd Om sl Gy (by simpa using hv) (by simp[hw])) ⟨ho,A9,h1 hw⟩
 ·refine concat_meets ⟨_,ho,rfl⟩ ⟨_,A9,rfl⟩ noFill_tuple_add seq_tuple_add PySem.F.slot_tuple_add PySem.F.entry_tuple_add (PySem.F.args_tuple_add_2 _ _)
   (tuple_addW2 t b vs.toArray ws.toArray n n2 dd Om sl Gy (by simpa using hv) (by simpa using hw) (by rw[List.size_toArray,List.size_toArray];exact hsz)) ⟨ho,A9,?_⟩
  rw[e]
  exact h2 hw
def bI(n d:Nat):Option Int→Nat
 |none=>d
 |some v=>if v<0 then(v+(n:Int)).toNat else min v.toNat n
theorem Gz(n d:Nat)(hd:d≤n)(o:Option Int):bI n d o≤n:=by
 cases o with
 |none=>exact hd
 |some v=>
  show(if v<0 then(v+(n:Int)).toNat else min v.toNat n)≤n
  by_cases hv:v<0
  ·rw[if_pos hv];omega
  ·rw[if_neg hv];exact Nat.min_le_right _ _
theorem vV(v:Int)(n d:Nat):(if v<0 then max (v+(n:Int)) 0 else min v (n:Int))=((bI n d (some v):Nat):Int):=by
 show(if v<0 then max (v+(n:Int)) 0 else min v (n:Int))=(((if v<0 then(v+(n:Int)).toNat else min v.toNat n):Nat):Int)
 by_cases hv:v<0
 ·simp only[if_pos hv];omega
 ·simp only[if_neg hv];omega
theorem vW(lo hi:Option Int)(n:Nat):Builtin.Slice.sliceAdjust lo hi 1 (n:Int)=(((bI n 0 lo:Nat):Int),((bI n n hi:Nat):Int)):=by
 have h1:¬((1:Int)<0):=by omega
 unfold Builtin.Slice.sliceAdjust
 simp only[h1,if_false]
 refine Prod.ext ?_ ?_
 ·cases lo with
  |none=>rfl
  |some v=>exact vV v n 0
 ·cases hi with
  |none=>rfl
  |some v=>exact vV v n n
theorem vX(i j:Nat):Builtin.Slice.slicePlaces (i:Int) (j:Int) 1=j - i:=by
 unfold Builtin.Slice.slicePlaces
 have h1:(1:Int) > 0:=by omega
 simp only[h1,if_true,Int.ediv_one]
 split<;>omega
theorem oS{v:Value}{o:Option Int}{Q:Option Int→Shared→Prop}(p:IsPart v o)(h:Q o s):wpAny (model prog w) A (Builtin.Slice.slicePartIndex v) Q E s:=by
 cases p with
 |none=>exact slicePart_none h
 |int i t=>exact slicePart_int h
theorem hW{sl:Addr}{vl vu:Value}{lo hi:Option Int}{n:Nat}{Q:Int×Int×Nat→Shared→Prop}(hs:s.heap.IsSliceOf sl vl vu .none)(pl:IsPart vl lo)(pu:IsPart vu hi)
  (h:Q (((bI n 0 lo:Nat):Int),1,bI n n hi - bI n 0 lo) s):wpAny (model prog w) A (Builtin.Slice.sliceApplied (.ref sl) (pure (n:Int))) Q E s:=by
 obtain⟨os,yS,ql,Dv⟩:=id hs
 unfold Builtin.Slice.sliceApplied Builtin.Slice.sliceFields
 refine wpAny_bind (wpAny_bind (wpAny_field yS Dv (x:=vl) rfl (wpAny_bind (wpAny_field yS Dv (x:=vu) rfl (wpAny_bind (wpAny_field yS Dv (x:=.none) rfl (wpAny_pure ?_)))))))
 refine wpAny_bind (slicePart_none ?_)
 show wpAny _ _ (if ((1:Int)==0)=true then _ else _) _ _ s
 rw[if_neg (by decide)]
 refine wpAny_bind (oS pl (wpAny_bind (oS pu (wpAny_bind (wpAny_pure ?_)))))
 show wpAny _ _ (match Builtin.Slice.sliceAdjust lo hi 1 (n:Int)with|(lo,hi)=>pure (lo,(1:Int),Builtin.Slice.slicePlaces lo hi 1)) _ _ s
 rw[vW lo hi n]
 show wpAny _ _ (pure (((bI n 0 lo:Nat):Int),(1:Int),Builtin.Slice.slicePlaces ((bI n 0 lo:Nat):Int) ((bI n n hi:Nat):Int) 1)) _ _ s
 rw[vX]
 exact wpAny_pure h
theorem Bp(xs:Array Value)(i k:Nat):((List.range k).filterMap fun(m:Nat)=>xs[((i:Int)+(m:Int)*1).toNat]?).toArray=((xs.toList.drop i).take k).toArray:=by
 have e:(fun(m:Nat)=>xs[((i:Int)+(m:Int)*1).toNat]?)=fun m=>xs[i+m]? :=by
  funext m
  have:((i:Int)+(m:Int)*1).toNat=i+m:=by omega
  rw[this]
 rw[e]
 have:=pick_run xs i k
 rw[List.filterMap_map]at this
 have e2:((fun x=>xs[x]?) ∘ fun x=>i+x)=fun m=>xs[i+m]? :=rfl
 rw[e2]at this
 rw[this]
theorem lO{t sl:Addr}{items:Array Value}{vl vu:Value}{lo hi:Option Int}{Q:Value→Shared→Prop}(ht:IsTup s.heap t items)(hs:s.heap.IsSliceOf sl vl vu .none)(pl:IsPart vl lo)(pu:IsPart vu hi)
  (hw:¬(bI items.size 0 lo=0∧bI items.size items.size hi=items.size))
  (h:Q (.ref s.heap.objs.size) { s with heap:=s.heap.push { cls:=.type "tuple",data:=.seq ((items.toList.drop (bI items.size 0 lo)).take (bI items.size items.size hi - bI items.size 0 lo)).toArray } })
  (hsz:items.size≤sizeLine):wpAny (model prog w) A (getItem (.ref t) (.ref sl)) Q E s:=by
 have uu:sizeOk (.seq ((items.toList.drop (bI items.size 0 lo)).take (bI items.size items.size hi - bI items.size 0 lo)).toArray):=by
  show((items.toList.drop (bI items.size 0 lo)).take (bI items.size items.size hi - bI items.size 0 lo)).toArray.size≤sizeLine
  rw[List.size_toArray,List.length_take,List.length_drop,Array.length_toList]
  omega
 have hj:bI items.size items.size hi≤items.size:=Gz _ _ (Nat.le_refl _) hi
 obtain⟨os,yS,ql,Dv⟩:=id hs
 have Kv:s.TypeIs (.ref sl) "slice":=⟨os,yS,ql⟩
 unfold getItem
 try with_reducible refine wpAny_holding ?_
 first|refine wpAny_bind (wpAny_pure ?_)|skip
 refine wpAny_bind (wpAny_sequenceKey ht.typeIs (by decide) ?_)
 refine wpAny_bind (wpAny_callSpecial?_slot (name:=Str.ofString "__getitem__") ht.typeIs PyProof.Rows.slot_tuple_getitem
  (wpAny_call_entry PyProof.Rows.slot_tuple_getitem ht.typeIs entry_tuple_getitem ?_ (args_tuple_getitem _ _)))
 show wpAny _ _ (Builtin.Tuple.tupleItemsOf (.ref t) >>= _) _ _ s
 refine wpAny_bind (tupleItemsOf_ ht ?_)
 refine wpAny_bind (wpAny_typeOf Kv ?_)
 rw[if_pos (by decide)]
 refine wpAny_bind (hW hs pl pu ?_)
 have Bq:¬((((bI items.size 0 lo:Nat):Int)==0&&(1:Int)==1&&(bI items.size items.size hi - bI items.size 0 lo)==items.size)=true):=by
  intro q
  rw[Bool.and_eq_true,Bool.and_eq_true]at q
  have q1:((bI items.size 0 lo:Nat):Int)=0:=eq_of_beq q.1.1
  have q2:bI items.size items.size hi - bI items.size 0 lo=items.size:=eq_of_beq q.2
  exact hw ⟨by omega,by omega⟩
 show wpAny _ _ (if (((bI items.size 0 lo:Nat):Int)==0&&(1:Int)==1&&(bI items.size items.size hi - bI items.size 0 lo)==items.size)=true then _ else _) _ _ s
 rw[if_neg Bq,Bp]
 first
  |exact wpAny_bind (m:=Builtin.Tuple.tupleExact _) (wpAny_newObj_type (wpAny_pure ⟨_,rfl,wpAny_pure h⟩) uu)
  |exact wpAny_bind (m:=Builtin.Tuple.tupleExact _) (wpAny_newObj_type (wpAny_bind (wpAny_pure (wpAny_pure ⟨_,rfl,wpAny_pure h⟩))) uu)
  |exact wpAny_bind (wpAny_bind (m:=Builtin.Tuple.tupleExact _) (wpAny_newObj_type (wpAny_pure (wpAny_pure ⟨_,rfl,wpAny_pure h⟩)) uu))
  |exact wpAny_bind (wpAny_bind (m:=Builtin.Tuple.tupleExact _) (wpAny_newObj_type (wpAny_pure ⟨_,rfl,wpAny_pure h⟩) uu))
end
end HT
namespace L2
open PySem PySem.Spec PyProof.Rows
abbrev TO:=St→Hp→(Option Int→Hp→Prop)→Prop
namespace Zu
set_option allowUnsafeReducibility true in
@[scoped irreducible] def _root_.L2.PO(X:Cx)(e:Option Expr)(t:TO):Prop:=
 ∀(pins:List (Addr×Obj)) (s:Shared) (σ:St) (H:Hp) (Q:Option Int→Hp→Prop),Inv X pins σ H s→t σ H Q→
  wpAny (model X.prog X.w) X.A (evalPart e X.env) (fun u s'=>∃o H',Inv X pins σ H' s'∧IsPart u o∧Q o H') X.xe s
end Zu
def Dw:TO:=fun _ H Q=>Q none H
def Kw(t:TE):TO:=fun σ H Q=>t σ H fun x H1=>∃i,x= .int i∧Q (some i) H1
section
variable{X:Cx}{e:Expr}{te:TE}{lo hi:Option Expr}{tl th:TO}{pos p2:Pos}
theorem Dx:PO X none Dw:=by
 intro pins s σ H Q I h
 rw[evalPart_none]
 exact wpAny_pure ⟨none,H,I,.none,h⟩
theorem Dy(h:PE X e te):PO X (some e) (Kw te):=by
 intro pins s σ H Q I hw
 rw[evalPart_some]
 refine bj (h pins s σ H _ I hw) fun u s1 aX=>?_
 obtain⟨x,H1,I1,r1,q1⟩:=aX
 obtain⟨i,rfl,q⟩:=q1
 obtain⟨t,rfl⟩:=r1
 exact⟨some i,H1,I1,.int i t,q⟩
def uv(X:Cx)(r:V→Option Int→Option Int→Hp→VK→Prop):Prop:=
 ∀(pins:List (Addr×Obj)) (s:Shared) (σ:St) (H:Hp) (x:V) (v vl vu:Value) (lo hi:Option Int) (sl:Addr) (Q:VK),Inv X pins σ H s→RelV x v→s.heap.IsSliceOf sl vl vu .none→IsPart vl lo→IsPart vu hi→r x lo hi H Q→
  ∃T id,typeLookup (.type T) "__getitem__" =pure (some (.builtin id))∧s.TypeIs v T∧wpAny (model X.prog X.w) X.A (getItem v (.ref sl)) (EP X pins σ Q) X.xe s
theorem uv.or{r r':V→Option Int→Option Int→Hp→VK→Prop}(h:uv X r)(h':uv X r'):uv X (fun x lo hi H Q=>r x lo hi H Q∨r' x lo hi H Q):=by
 intro pins s σ H x v vl vu lo hi sl Q I rx hs pl pu q
 rcases q with q|q
 ·exact h pins s σ H x v vl vu lo hi sl Q I rx hs pl pu q
 ·exact h' pins s σ H x v vl vu lo hi sl Q I rx hs pl pu q
def Tu(r:V→Option Int→Option Int→Hp→VK→Prop)(te:TE)(tl th:TO):TE:=fun σ H Q=>te σ H fun x H1=>tl σ H1 fun l H2=>th σ H2 fun u H3=>r x l u H3 Q
theorem Br{r:V→Option Int→Option Int→Hp→VK→Prop}(hr:uv X r)(he:PE X e te)(hl:PO X lo tl)(hu:PO X hi th):PE X (.Subscript e (.Slice lo hi none p2) pos) (Tu r te tl th):=by
 intro pins s σ H Q I h
 refine Subscript_ (bj (he pins s σ H _ I h) fun v s1 aX=>?_)
 obtain⟨x,H1,I1,r1,q1⟩:=aX
 refine wpAny_Slice (bj (hl pins s1 σ H1 _ I1 q1) fun vl s2 ⟨l,H2,I2,pl,q2⟩=>bj (hu pins s2 σ H2 _ I2 q2) fun vu s3 aX=>?_)
 obtain⟨u,H3,I3,pu,q3⟩:=aX
 rw[evalPart_none]
 refine wpAny_pure ?_
 have I4:Inv X pins σ H3 { s3 with heap:=s3.heap.push { cls:=.type "slice",data:=.fields #[vl,vu,.none] } }:=I3.kept (t':=s3.toks) fun b ob q=>Heap.get?_push_of_some _ q
 obtain⟨T,id,hT,ht,hg⟩:=hr pins { s3 with heap:=s3.heap.push { cls:=.type "slice",data:=.fields #[vl,vu,.none] } } σ H3 x v vl vu l u s3.heap.objs.size Q I4 r1 (Heap.IsSliceOf.new ..) pl pu q3
 show wpAny (model X.prog X.w) X.A (subscriptTail e (.Slice lo hi none p2) v (.ref s3.heap.objs.size)) (EP X pins σ Q) X.xe { s3 with heap:=s3.heap.push { cls:=.type "slice",data:=.fields #[vl,vu,.none] } }
 exact tail_any (ops:=[.ref s3.heap.objs.size,v]) ht hT hg (by with_unfolding_all rfl)
def jM(xs:List V)(lo hi:Option Int):List V:=(xs.drop (HT.bI xs.length 0 lo)).take (HT.bI xs.length xs.length hi - HT.bI xs.length 0 lo)
theorem mK(xs:List V)(lo hi:Option Int):(jM xs lo hi).length≤xs.length:=by
 unfold jM
 rw[List.length_take,List.length_drop]
 omega
def I_(K:PySem.W.Frag):V→Option Int→Option Int→Hp→VK→Prop:=fun x lo hi H Q=>∃a xs,x= .ref a∧dk K H a xs∧
 ¬(HT.bI xs.length 0 lo=0∧HT.bI xs.length xs.length hi=xs.length)∧∀p,H p=none→Q (.ref p) (upd H p (.tup (jM xs lo hi)))
theorem GA:uv X (I_ X.K):=by
 intro pins s σ H x v vl vu lo hi sl Q I rx hs pl pu h
 obtain⟨a,xs,rfl,hx,hw,q⟩:=h
 cases rx
 obtain⟨its,r,ht,hz⟩:=I.tuple hx
 have hlen:its.toArray.size=xs.length:=by rw[List.size_toArray];exact r.length.symm
 refine⟨"tuple",_,PyProof.Rows.slot_tuple_getitem.lookup,ht.typeIs,?_⟩
 refine HT.lO ht hs pl pu (by rw[hlen];exact hw) ?_ (by rw[hlen];exact hz)
 rw[hlen]
 refine⟨.ref s.heap.objs.size,_,I.laid (t':=s.toks) (o:=.tup (jM xs lo hi)) (fun b ob q=>Heap.get?_push_of_some _ q) (Nat.le_refl _) ?_,rfl,q _ (I.aR.fresh (Nat.le_refl _))⟩
 exact⟨Nat.le_trans (mK xs lo hi) hz,_,(r.drop (HT.bI xs.length 0 lo)).take (HT.bI xs.length xs.length hi - HT.bI xs.length 0 lo),IsTup.new _ _⟩
def yT(K:PySem.W.Frag):R2:=fun x y H Q=>∃a b xs ys,x= .ref a∧y= .ref b∧dk K H a xs∧dk K H b ys∧xs≠[]∧xs.length+ys.length≤sizeLine∧
 (ys=[]→Q (.ref a) H)∧(ys≠[]→∀p,H p=none→Q (.ref p) (upd H p (.tup (xs++ys))))
theorem Vals.qm{xs:List V}{us:List Value}(r:Vals xs us):us=[]↔xs=[]:=by
 cases r with
 |nil=>simp
 |cons _ _=>simp
theorem Dz:dm X (binaryOp .Add) (yT X.K):=by
 intro pins s σ H x y v u Q I rx ry h
 obtain⟨a,b,xs,ys,rfl,rfl,ha,hb,hx,hz,q1,q2⟩:=h
 cases rx
 cases ry
 obtain⟨its,r1,p1,_⟩:=I.tuple ha
 obtain⟨lu,r2,p2,_⟩:=I.tuple hb
 refine HT.Du p1 p2 (fun z=>hx (r1.qm.mp z)) (fun z=>⟨.ref a,H,I,rfl,q1 (r2.qm.mp z)⟩) (fun z=>?_) (by rw[←r1.length,←r2.length];exact hz)
 refine⟨.ref s.heap.objs.size,_,I.laid (t':=s.toks) (o:=.tup (xs++ys)) (fun b ob q=>Heap.get?_push_of_some _ q) (Nat.le_refl _) ?_,rfl,q2 (fun w=>z (r2.qm.mpr w)) _ (I.aR.fresh (Nat.le_refl _))⟩
 exact⟨by rw[List.length_append];exact hz,_,r1.append r2,IsTup.new _ _⟩
end
end L2
namespace L2
open PySem PySem.Spec PyProof.Rows
def yU(n:Nat)(i:Int):Option Nat:=if 0≤i then(if i<n then some i.toNat else none)else if -(n:Int)≤i then some (i+n).toNat else none
def Bs{α:Type}(xs:List α)(i:Int):Option α:=(yU xs.length i).bind fun j=>xs[j]?
theorem vY{n:Nat}{i:Int}{j:Nat}(h:yU n i=some j):seqIndex? i n=some j∧j<n∧-(n:Int)≤i∧i<n:=by
 unfold yU at h
 by_cases h0: 0≤i
 ·rw[if_pos h0]at h
  by_cases h1:i<n
  ·rw[if_pos h1]at h
   have e:i.toNat=j:=Option.some.inj h
   exact⟨by rw[seqIndex_of h0 h1,e],by omega,by omega,h1⟩
  ·rw[if_neg h1]at h;cases h
 ·rw[if_neg h0]at h
  by_cases h1: -(n:Int)≤i
  ·rw[if_pos h1]at h
   have e:(i+n).toNat=j:=Option.some.inj h
   exact⟨by rw[seqIndex_neg (by omega) h1,e],by omega,h1,by omega⟩
  ·rw[if_neg h1]at h;cases h
theorem qo{α:Type}{xs:List α}{i:Int}{v:α}(h:Bs xs i=some v):∃j,seqIndex? i xs.length=some j∧xs[j]? =some v∧j<xs.length∧-(xs.length:Int)≤i∧i<xs.length:=by
 unfold Bs at h
 cases e:yU xs.length i with
 |none=>rw[e]at h;cases h
 |some j=>
  rw[e]at h
  obtain⟨h1,h2,h3,h4⟩:=vY e
  exact⟨j,h1,h,h2,h3,h4⟩
def qp(b:Expr):Prop:=∀o i,subscripted b false o i=operate [o,i] (getItem o i)
def su(X:Cx)(r:R2):Prop:=
 ∀(value slice:Expr) (pins:List (Addr×Obj)) (s:Shared) (σ:St) (H:Hp) (x y:V) (v u:Value) (Q:VK),Inv X pins σ H s→RelV x v→RelV y u→r x y H Q→
  subscripted slice false v u=operate [v,u] (getItem v u)→wpAny (model X.prog X.w) X.A (subscriptTail value slice v u) (EP X pins σ Q) X.xe s
def Tv(X:Cx)(id:String)(r:V→List V→Hp→VK→Prop):Prop:=
 ∀(pins:List (Addr×Obj)) (s:Shared) (σ:St) (H:Hp) (x:V) (xs:List V) (v:Value) (us:List Value) (Q:VK),Inv X pins σ H s→RelV x v→Vals xs us→r x xs H Q→
  wpAny (model X.prog X.w) X.A (call (.builtin id) (v::us)) (EP X pins σ Q) X.xe s
section
variable{X:Cx}{a b:Expr}{ta tb:TE}{pos:Pos}
theorem su.or{r r':R2}(h:su X r)(h':su X r'):su X (fun x y H Q=>r x y H Q∨r' x y H Q):=by
 intro value slice pins s σ H x y v u Q I rx ry q hs
 rcases q with q|q
 ·exact h value slice pins s σ H x y v u Q I rx ry q hs
 ·exact h' value slice pins s σ H x y v u Q I rx ry q hs
theorem Kx{r:R2}(hr:su X r)(ha:PE X a ta)(hb:PE X b tb)(hs:qp b):PE X (.Subscript a b pos) (Dj r ta tb):=by
 intro pins s σ H Q I h
 exact Subscript_ (Dk ha hb I h fun v u s2 x y H2 I2 rx ry q=>hr a b pins s2 σ H2 x y v u Q I2 rx ry q (hs _ _))
def Ja(K:PySem.W.Frag):R2:=fun x y H Q=>∃p xs i v,x= .ref p∧y= .int i∧cU K H p xs∧Bs xs i=some v∧Q v H
def Jb(K:PySem.W.Frag):R2:=fun x y H Q=>∃p xs i v,x= .ref p∧y= .int i∧dk K H p xs∧Bs xs i=some v∧Q v H
def Jc:R2:=fun x y H Q=>∃z i c,x= .str z∧y= .int i∧z.length≤sizeLine∧Bs z.cps.toList i=some c∧Q (.str ⟨#[c]⟩) H
theorem DA:su X (Ja X.K):=by
 intro value slice pins s σ H x y v u Q I rx ry h hs
 obtain⟨p,xs,i,z,rfl,rfl,hq,he,q⟩:=h
 cases rx
 obtain⟨t,rfl⟩:=ry
 obtain⟨its,r,pl,hz⟩:=I.list hq
 obtain⟨j,h1,h2,h3,h4,h5⟩:=qo he
 obtain⟨w,ew,sr⟩:=r.get h2
 have hl:=r.length
 have hn:=mI
 have fin:EP X pins σ Q w s:=⟨z,H,I,sr,q⟩
 by_cases h0: 0≤i
 ·have hj:i.toNat=j:=by
   rw[seqIndex_of h0 h5]at h1
   exact Option.some.inj h1
  exact item_listR pl.isList h0 (by omega) (by rw[hj];simpa using ew) fin hs
 ·have hj:(i+(its.toArray.size:Int)).toNat=j:=by
   rw[seqIndex_neg (by omega) h4]at h1
   rw[List.size_toArray,←hl]
   exact Option.some.inj h1
  exact subscriptTail_builtinR (x:=w) pl.isList.typeIs slot_list_getitem.lookup
   (wpAny_getItem_list_neg (Q:=fun r s'=>r=w∧EP X pins σ Q r s') pl.isList (by omega) (by rw[List.size_toArray]<;>omega) (by omega) (by rw[hj];simpa using ew) ⟨rfl,fin⟩) hs
theorem GB:su X (Jb X.K):=by
 intro value slice pins s σ H x y v u Q I rx ry h hs
 obtain⟨p,xs,i,z,rfl,rfl,hq,he,q⟩:=h
 cases rx
 obtain⟨t,rfl⟩:=ry
 obtain⟨its,r,pl,hz⟩:=I.tuple hq
 obtain⟨j,h1,h2,h3,h4,h5⟩:=qo he
 obtain⟨w,ew,sr⟩:=r.get h2
 have hl:=r.length
 have hn:=mI
 have fin:EP X pins σ Q w s:=⟨z,H,I,sr,q⟩
 exact subscriptTail_builtinR (x:=w) pl.typeIs slot_tuple_getitem.lookup
  (getItem_tuple (j:=j) (Q:=fun r s'=>r=w∧EP X pins σ Q r s') pl (by omega) (by omega) (by rw[List.size_toArray,←hl];exact h1) (by simpa using ew) ⟨rfl,fin⟩) hs
theorem GC:su X Jc:=by
 intro value slice pins s σ H x y v u Q I rx ry h hs
 obtain⟨z,i,c,rfl,rfl,hz,he,q⟩:=h
 obtain⟨t,rfl⟩:=rx
 obtain⟨t',rfl⟩:=ry
 obtain⟨j,h1,h2,h3,h4,h5⟩:=qo he
 have hl:z.cps.toList.length=z.length:=by simp[Str.length]
 rw[hl]at h1 h4 h5
 have hn:=mI
 exact tail_any (typeIs_str s z t) slot_str_getitem.lookup (getItem_str (c:=c) (by
  have e1:decide (i< -(2 ^ 63:Int))=false:=decide_eq_false (by omega)
  have e2:decide (i≥2 ^ 63)=false:=decide_eq_false (by omega)
  rw[e1,e2,Bool.or_false]) (by rw[h1];simpa using h2) ⟨.str ⟨#[c]⟩,H,I.tok _,⟨_,rfl⟩,q⟩) hs
def Oq(K:PySem.W.Frag):R2:=fun x y H Q=>Ja K x y H Q∨Jb K x y H Q∨Jc x y H Q
theorem GD:su X (Oq X.K):=DA.or (GB.or GC)
theorem vZ(its:List Value)(n j:Nat)(u:Value):Obj.mapSeq (·.setIfInBounds j u) { cls:=.type "list",data:=.seq its.toArray n } = { cls:=.type "list",data:=.seq (its.set j u).toArray n }:=by
 simp[Obj.mapSeq]
theorem Inv.lst{pins:List (Addr×Obj)}{σ:St}{H:Hp}{s:Shared}{p:Addr}{xs:List V}(I:Inv X pins σ H s)(h:H p=some (.lst xs)):
  ∃(its:List Value) (n:Nat),Vals xs its∧s.heap.get? p=some { cls:=.type "list",data:=.seq its.toArray n }∧xs.length≤sizeLine:=by
 obtain⟨z,its,n,r,e⟩:=I.aR p _ h
 exact⟨its,n,r,e,z⟩
theorem Inv.GF{pins:List (Addr×Obj)}{σ:St}{H:Hp}{s:Shared}{p:Addr}{xs ys:List V}{its its':List Value}{n n':Nat}{f:Obj→Obj}(I:Inv X pins σ H s)(h:H p=some (.lst xs))
  (ho:s.heap.get? p=some { cls:=.type "list",data:=.seq its.toArray n })(hf:f { cls:=.type "list",data:=.seq its.toArray n } = { cls:=.type "list",data:=.seq its'.toArray n' })(r:Vals ys its')(hz:ys.length≤sizeLine)(t:Nat):
  Inv X pins σ (upd H p (.lst ys)) { s with heap:=s.heap.update p f,toks:=t }:=by
 have e:(s.heap.update p f).get? p=some { cls:=.type "list",data:=.seq its'.toArray n' }:=by
  rw[Heap.get?_update_self f ho (by rw[hf]<;>rfl),hf]
 refine I.write (x:=p) (e:=p) (by rw[h];trivial) (.inl rfl) (fun b u hb q=>(Heap.get?_update_other _ _ (Ne.symm hb)).trans q) ⟨_,e⟩ ?_
 exact⟨hz,its',n',r,e⟩
def Ky:V→V→V→Hp→(Hp→Prop)→Prop:=fun o i v H Q=>∃p xs k j,o= .ref p∧i= .int k∧H p=some (.lst xs)∧yU xs.length k=some j∧Q (upd H p (.lst (xs.set j v)))
theorem set_list:IW X Ky:=by
 intro pins s σ H o i v ov iv u Q I ro ri rv h
 obtain⟨p,xs,k,j,rfl,rfl,hp,hj,q⟩:=h
 cases ro
 obtain⟨t,rfl⟩:=ri
 obtain⟨its,n,r,ho,hz⟩:=I.lst hp
 obtain⟨h1,h2,h3,h4⟩:=vY hj
 have hl:=r.length
 have hn:=mI
 have I':Inv X pins σ (upd H p (.lst (xs.set j v))) { s with heap:=s.heap.update p (Obj.mapSeq (·.setIfInBounds j u)) }:=
  I.GF hp ho (vZ its n j u) (r.set rv j) (by rw[List.length_set];exact hz) s.toks
 by_cases h0: 0≤k
 ·have hk:k.toNat=j:=by
   rw[seqIndex_of h0 h4]at h1
   exact Option.some.inj h1
  exact PySem.W.ki_setAt ho h0 (by omega) (by rw[List.size_toArray,←hl];exact h4) (by rw[hk];exact⟨_,I',q⟩)
 ·have hk:(k+(its.toArray.size:Int)).toNat=j:=by
   rw[seqIndex_neg (by omega) h3]at h1
   rw[List.size_toArray,←hl]
   exact Option.some.inj h1
  exact PySem.W.ki_setBack ho (by omega) (by rw[List.size_toArray,←hl];exact h3) (by omega) (by rw[hk];exact⟨_,I',q⟩)
theorem sv(lo hi:Option Int)(n:Nat):(sliceBounds lo hi none n).1=((HT.bI n 0 lo:Nat):Int)∧(sliceBounds lo hi none n).2.1=((HT.bI n n hi:Nat):Int)∧(sliceBounds lo hi none n).2.2=1:=by
 refine⟨?_,?_,rfl⟩
 ·cases lo with
  |none=>simp[sliceBounds,HT.bI]
  |some i=>
   simp only[sliceBounds,HT.bI,Option.getD_none,show(1:Int) > 0 by decide,if_true]
   by_cases h:i<0
   ·simp only[h,if_true]<;>omega
   ·simp only[h,if_false]<;>omega
 ·cases hi with
  |none=>simp[sliceBounds,HT.bI]
  |some i=>
   simp only[sliceBounds,HT.bI,Option.getD_none,show(1:Int) > 0 by decide,if_true]
   by_cases h:i<0
   ·simp only[h,if_true]<;>omega
   ·simp only[h,if_false]<;>omega
theorem qq(its:List Value)(lo hi:Option Int):slicePick its.toArray lo hi none=((its.drop (HT.bI its.length 0 lo)).take (HT.bI its.length its.length hi - HT.bI its.length 0 lo)).toArray:=by
 obtain⟨h1,h2,h3⟩:=sv lo hi its.toArray.size
 unfold slicePick
 rw[h1,h2,h3]
 simp only[sliceRange_one,pick_run,List.size_toArray]<;>rfl
def Jd(K:PySem.W.Frag):V→Option Int→Option Int→Hp→VK→Prop:=fun x lo hi H Q=>∃a xs,x= .ref a∧cU K H a xs∧∀p,H p=none→Q (.ref p) (upd H p (.lst (jM xs lo hi)))
theorem DB:uv X (Jd X.K):=by
 intro pins s σ H x v vl vu lo hi sl Q I rx hs pl pu h
 obtain⟨a,xs,rfl,hx,q⟩:=h
 cases rx
 obtain⟨its,r,ht,hz⟩:=I.list hx
 have hlen:=r.length
 refine⟨"list",_,slot_list_getitem.lookup,ht.isList.typeIs,?_⟩
 refine wpAny_getItem_list_slice ht.isList hs pl pu .none (by simp) ?_ (by rw[List.size_toArray]<;>omega)
 rw[qq,←hlen]
 refine⟨.ref s.heap.objs.size,_,I.laid (t':=s.toks) (o:=.lst (jM xs lo hi)) (fun b ob q=>Heap.get?_push_of_some _ q) (Nat.le_refl _) ?_,rfl,q _ (I.aR.fresh (Nat.le_refl _))⟩
 exact⟨Nat.le_trans (mK xs lo hi) hz,_,0,(r.drop (HT.bI xs.length 0 lo)).take (HT.bI xs.length xs.length hi - HT.bI xs.length 0 lo),Heap.get?_push_size _ rfl⟩
theorem bu:fN X (.builtin "len") (fun xs H Q=>∃p ys,xs=[.ref p]∧(cU X.K H p ys∨dk X.K H p ys)∧Q (.int ys.length) H):=by
 intro pins s σ H xs us Q I r h
 obtain⟨p,ys,rfl,hq,q⟩:=h
 obtain⟨u,rfl,rx⟩:=vals1 r
 cases rx
 have hn:=mI
 rcases hq with hq|hq
 ·obtain⟨its,r',pl,hz⟩:=I.list hq
  have hlen:=r'.length
  exact Calls.call_len_list pl.isList (by simp only[List.size_toArray]<;>omega) ⟨.int ys.length,H,I.tok _,⟨s.toks+1,by rw[List.size_toArray,hlen]⟩,q⟩
 ·obtain⟨its,r',pl,hz⟩:=I.tuple hq
  have hlen:=r'.length
  exact len_tuple pl (by simp only[List.size_toArray]<;>omega) ⟨.int ys.length,H,I.tok _,⟨s.toks+1,by rw[List.size_toArray,hlen]⟩,q⟩
theorem sA:fN X (.type "list") (fun xs H Q=>∃p ys,xs=[.ref p]∧(cU X.K H p ys∨dk X.K H p ys)∧∀l,H l=none→Q (.ref l) (upd H l (.lst ys))):=by
 intro pins s σ H xs us Q I r h
 obtain⟨p,ys,rfl,hq,q⟩:=h
 obtain⟨u,rfl,rx⟩:=vals1 r
 cases rx
 have fin:∀(its:List Value),Vals ys its→ys.length≤sizeLine→∀(h':Heap) (c':Nat),(∀b o',s.heap.get? b=some o'→h'.get? b=some o')→
   h'.get? s.heap.objs.size=some { cls:=.type "list",dict:=none,data:=.seq its.toArray c',slots:=#[] }→EP X pins σ Q (.ref s.heap.objs.size) { s with heap:=h' }:=fun its r' hz h' c' kp e=>
  ⟨.ref s.heap.objs.size,_,I.laid (t':=s.toks) kp (Nat.le_refl _) (show bH X.prog X.w _ h' _ (.lst ys)from⟨hz,its,c',r',e⟩),rfl,q _ (I.aR.fresh (Nat.le_refl _))⟩
 rcases hq with hq|hq
 ·obtain⟨its,r',pl,hz⟩:=I.list hq
  have hlen:=r'.length
  obtain⟨o,ho,hc,n,hd⟩:=pl.isList
  exact call_list_seq p (.inl rfl) ho hc hd (fun h' c' kp e=>fin its r' hz h' c' kp e) (by simp only[List.size_toArray]<;>omega)
 ·obtain⟨its,r',pl,hz⟩:=I.tuple hq
  have hlen:=r'.length
  obtain⟨o,ho,hc,n,hd⟩:=pl
  exact call_list_seq p (.inr rfl) ho hc hd (fun h' c' kp e=>fin its r' hz h' c' kp e) (by simp only[List.size_toArray]<;>omega)
def Kz(K:PySem.W.Frag)(T:String)(x:V)(H:Hp):Prop:=match x with
 |.str _=>T= "str"
 |.int _=>T= "int"
 |.ref p=>(T= "list"∧∃xs,cU K H p xs)∨(T= "tuple"∧∃o,K.lookup p=some o∧o.cls= .type "tuple"∧o.dict=none)∨
   (T= "dict"∧((∃aD,H p=some (.dK aD))∨∃aD,H p=some (.dT aD)))∨(T= "set"∧∃S n,H p=some (.set S n))
 |_=>False
theorem GG{pins:List (Addr×Obj)}{σ:St}{H:Hp}{s:Shared}{T:String}{x:V}{v:Value}(I:Inv X pins σ H s)(r:RelV x v)(ty:Kz X.K T x H):
  s.TypeIs v T∧∀a,v= .ref a→∃ob,s.heap.get? a=some ob∧ob.dict=none:=by
 cases x with
 |str z=>
  obtain⟨t,rfl⟩:=r
  cases (show T= "str" from ty)
  exact⟨typeIs_str s z t,fun _ e=>nomatch e⟩
 |int i=>
  obtain⟨t,rfl⟩:=r
  cases (show T= "int" from ty)
  exact⟨typeIs_int s i t,fun _ e=>nomatch e⟩
 |ref p=>
  cases r
  rcases ty with⟨rfl,xs,hq⟩|⟨rfl,o,hk,hc,hd⟩|⟨rfl,hk⟩|⟨rfl,S,n,hk⟩
  ·obtain⟨its,_,pl,_⟩:=I.list hq
   refine⟨pl.isList.typeIs,fun a e=>?_⟩
   cases e
   obtain⟨o,n,e,c,hd,_⟩:=pl
   exact⟨o,e,hd⟩
  ·refine⟨⟨o,I.i_ p o hk,hc⟩,fun a e=>?_⟩
   cases e
   exact⟨o,I.i_ _ o hk,hd⟩
  ·have z:∃o,s.heap.get? p=some o∧o.ExactDict:=by
    rcases hk with⟨aD,hk⟩|⟨aD,hk⟩
    ·obtain⟨_,_,_,_,o,_,_,e,ex,_⟩:=I.aR p _ hk
     exact⟨o,e,ex⟩
    ·obtain⟨_,_,_,_,o,_,_,e,ex,_⟩:=I.aR p _ hk
     exact⟨o,e,ex⟩
   obtain⟨o,e,ex⟩:=z
   refine⟨⟨o,e,ex.1⟩,fun a e2=>?_⟩
   cases e2
   exact⟨o,e,ex.2.1⟩
  ·obtain⟨o,_,_,_,e,ex,_⟩:=I.aR p _ hk
   refine⟨⟨o,e,ex.1⟩,fun a e2=>?_⟩
   cases e2
   exact⟨o,e,ex.2.1⟩
 |_=>exact False.elim ty
def Tw(K:PySem.W.Frag)(T:String)(r:V→List V→Hp→VK→Prop)(to:TE)(t:TA):TE:=fun σ H Q=>to σ H fun x H1=>Kz K T x H1∧t σ H1 fun xs H2=>r x xs H2 Q
variable{o e:Expr}{es:List Expr}{to:TE}{t:TA}{name:Str}{apos e7:Pos}{T id:String}{r:V→List V→Hp→VK→Prop}
theorem KA(pa:PlainAttrs T)(slot:Slot T name id)(KC:typeOf (.builtin id)=pure (.type "method_descriptor"))(hm:Tv X id r)(ho:PE X o to)(ha:PA X (e::es) t)
  (yV:attributeBase o name X.env (eval o X.env)=eval o X.env:=by rfl)
  (Af:((backTo e7 (starEach (e::es) X.env)).all (fun x=>!x.1)&&(backToKw e7 (keywordEach [] X.env)).all (fun x=>x.1.isSome)
   &&decide ((e::es).length+([]:List Keyword).length+(if ([]:List Keyword).isEmpty then 0 else 1)<30))=true:=by rfl)
  (yW:(apos.endLine==e7.line)=true:=by rfl)(hs:starEach (e::es) X.env=(false,eval e X.env)::starEach es X.env:=by rfl)(uw:(backTo e7 (starEach es X.env)).any (·.1)=false:=by rfl):
  PE X (.Call (.Attribute o name apos) (e::es) [] e7) (Tw X.K T r to t):=by
 intro pins s σ H Q I h
 refine wpAny_Call_method_late yV Af yW rfl (bj (ho pins s σ H _ I h) fun v s1 aX=>?_)
 obtain⟨x,H1,I1,r1,ty,q1⟩:=aX
 obtain⟨h1,h2⟩:=GG I1 r1 ty
 refine⟨T,id,pa,slot,KC,h1,h2,?_⟩
 have hA:=ha e7 pins s1 σ H1 _ I1 q1
 rw[hs]at hA ⊢
 refine Calls.callWith_builtin (by show(false||(backTo e7 (starEach es X.env)).any (·.1))=false;rw[uw]<;>rfl) (Calls.evalArgs_plain ?_)
 exact bj hA fun us s2 ⟨vs,H2,I2,r2,q2⟩=>hm pins s2 σ H2 x vs v us Q I2 r1 r2 q2
end
end L2
namespace L2
open PySem PySem.Spec PyProof.Rows
def KD(X:Cx)(id:String)(r:V→List V→Hp→VK→Prop):Prop:=
 ∀(pins:List (Addr×Obj)) (s:Shared) (σ:St) (H:Hp) (x:V) (xs:List V) (v:Value) (us:List Value) (Q:VK),Inv X pins σ H s→RelV x v→Vals xs us→r x xs H Q→
  wpAny (model X.prog X.w) X.A (call (.builtin id) (v::us)) (EP X pins σ Q) X.xe s
theorem Vals.one:∀{x:V}{us:List Value},Vals [x] us→∃u,us=[u]∧RelV x u
 |_,_,.cons r .nil=>⟨_,rfl,r⟩
theorem Vals.two:∀{x y:V}{us:List Value},Vals [x,y] us→∃u v,us=[u,v]∧RelV x u∧RelV y v
 |_,_,_,.cons r (.cons q .nil)=>⟨_,_,rfl,r,q⟩
theorem Vals.reverse{xs:List V}{us:List Value}(h:Vals xs us):Vals xs.reverse us.reverse:=by
 induction h with
 |nil=>exact .nil
 |cons r t ih=>rw[List.reverse_cons,List.reverse_cons];exact Vals.append ih (.cons r .nil)
section
variable{X:Cx}{pins:List (Addr×Obj)}{σ:St}{H:Hp}{s:Shared}{l b:Addr}{xs ys zs:List V}
theorem Inv.Je{its its':List Value}{n:Nat}{f:Array Value→Array Value}{t':Nat}(I:Inv X pins σ H s)(hH:H l=some (.lst xs))
  (e:s.heap.get? l=some { cls:=.type "list",data:=.seq its.toArray n })(hf:f its.toArray=its'.toArray)(hv:Vals ys its')(hz:ys.length≤sizeLine):
  Inv X pins σ (upd H l (.lst ys)) { s with heap:=s.heap.update l (Obj.mapSeq f),toks:=t' }:=by
 have q:=PySem.IsL.update e f
 rw[hf]at q
 refine I.write (x:=l) (e:=l) (by rw[hH];exact trivial) (.inl rfl) (fun b' u hb hu=>(Heap.get?_update_other s.heap (Obj.mapSeq f) (Ne.symm hb)).trans hu) ⟨_,q⟩ ?_
 exact⟨hz,its',_,hv,q⟩
theorem Inv.Jf{its:List Value}{t':Nat}(I:Inv X pins σ H s)(hv:Vals ys its)(hz:ys.length≤sizeLine):
  Inv X pins σ (upd H s.heap.objs.size (.lst ys)) { s with heap:=s.heap.push { cls:=.type "list",data:=.seq its.toArray },toks:=t' }:=
 I.laid (fun _ _ q=>Heap.get?_push_of_some _ q) (Nat.le_refl _) ⟨hz,its,0,hv,Heap.get?_push_size _ rfl⟩
theorem Inv.fresh(I:Inv X pins σ H s):H s.heap.objs.size=none:=I.aR.fresh (Nat.le_refl _)
theorem Inv.v5(I:Inv X pins σ H s)(hH:H l=some (.lst xs)):xs.length≤sizeLine∧∃(its:List Value) (n:Nat),Vals xs its∧xs.length=its.length∧s.heap.get? l=some { cls:=.type "list",data:=.seq its.toArray n }:=by
 obtain⟨z,its,n,r,e⟩:=I.aR l _ hH
 exact⟨z,its,n,r,r.length,e⟩
theorem Bt{n:Nat}(h:n≤sizeLine):Builtin.List.listTooLong n=false:=by
 unfold Builtin.List.listTooLong
 exact decide_eq_false (by omega)
end
section
variable{X:Cx}
def v7:V→List V→Hp→VK→Prop:=fun x vs H Q=>∃l xs y,x= .ref l∧vs=[y]∧H l=some (.lst xs)∧xs.length<sizeLine∧Q .bb (upd H l (.lst (xs++[y])))
theorem gA:KD X "list.append" v7:=by
 intro pins s σ H x vs v us Q I rx rv h
 obtain⟨l,xs,y,rfl,rfl,hH,hz,q⟩:=h
 cases rx
 obtain⟨u,rfl,ru⟩:=rv.one
 obtain⟨z,its,n,r,hl,e⟩:=I.v5 hH
 refine call_meets F.slot_list_append ⟨_,e,rfl⟩ F.entry_list_append (F.args_list_append_2 _ _) (PySem.list_append l its.toArray n u (by rw[List.size_toArray];omega)) ⟨e,?_⟩
 refine⟨.bb,_,I.Je (its':=its++[u]) hH e (by simp) (r.append (.cons ru .nil)) ?_,rfl,q⟩
 rw[List.length_append,List.length_singleton]
 omega
def v8:V→List V→Hp→VK→Prop:=fun x vs H Q=>∃l b xs zs,x= .ref l∧vs=[.ref b]∧H l=some (.lst xs)∧H b=some (.lst zs)∧xs.length+zs.length≤sizeLine∧Q .bb (upd H l (.lst (xs++zs)))
theorem yX:KD X "list.extend" v8:=by
 intro pins s σ H x vs v us Q I rx rv h
 obtain⟨l,b,xs,zs,rfl,rfl,hH,hB,hz,q⟩:=h
 cases rx
 obtain⟨u,rfl,ru⟩:=rv.one
 cases ru
 obtain⟨z,its,n,r,hl,e⟩:=I.v5 hH
 obtain⟨z2,lu,n2,r2,Tx,e2⟩:=I.v5 hB
 have hsz:its.toArray.size+lu.toArray.size≤sizeLine:=by rw[List.size_toArray,List.size_toArray];omega
 have KG:¬(!its.toArray.isEmpty&&Builtin.List.listTooLong (its.toArray.size+lu.toArray.size))=true:=by
  rw[Bt hsz,Bool.and_false]
  exact Bool.false_ne_true
 refine call_meets F.slot_list_extend ⟨_,e,rfl⟩ F.entry_list_extend (F.args_list_extend_2 _ _)
  (AutoSeq1.list_extend_list_list_0 l its.toArray n b lu.toArray n2 KG (by rw[List.size_toArray];omega) (by omega)) ⟨e,e2,?_⟩
 refine⟨.bb,_,I.Je (its':=its++lu) hH e (by simp) (r.append r2) ?_,rfl,q⟩
 rw[List.length_append]
 omega
def DC:R2:=fun x y H Q=>∃l b xs zs,x= .ref l∧y= .ref b∧H l=some (.lst xs)∧H b=some (.lst zs)∧xs.length+zs.length≤sizeLine∧∀p,H p=none→Q (.ref p) (upd H p (.lst (xs++zs)))
theorem GH:dm X (binaryOp .Add) DC:=by
 intro pins s σ H x y v u Q I rx ry h
 obtain⟨l,b,xs,zs,rfl,rfl,hH,hB,hz,q⟩:=h
 cases rx
 cases ry
 obtain⟨z,its,n,r,hl,e⟩:=I.v5 hH
 obtain⟨z2,lu,n2,r2,Tx,e2⟩:=I.v5 hB
 refine PySem.P.add_list e e2 ?_ (by rw[List.size_toArray,List.size_toArray];omega)
 have ea:its.toArray++lu.toArray=(its++lu).toArray:=by simp
 rw[ea]
 exact⟨.ref _,_,I.Jf (t':=s.toks) (r.append r2) (by rw[List.length_append];omega),rfl,q _ I.fresh⟩
end
section
variable{prog:Program}{w:World}{A:Around}{E:Value→Shared→Prop}{s:Shared}
end
section
variable{X:Cx}
end
end L2
namespace Ot
open PySem PySem.W PySem.Calls PyProof.Rows
theorem nU{P:Params}{h:Heap}:∀(ns:List Int) (vs:List Value),WellAll P h vs (ns.map WData.int)→IntsAre vs ns:=by
 intro ns
 induction ns with
 |nil=>
  intro vs w
  rw[List.map_nil]at w
  cases w
  exact .nil
 |cons n ns ih=>
  intro vs w
  rw[List.map_cons]at w
  cases w with
  |cons a b=>
   cases a
   exact .cons _ _ (ih _ b)
theorem yY{l:OpenLaw}{n:Nat}(hn:l.most=some n){P:Params}{h:Heap}{args:List WData}{vals:List Value}
  (qr:l.row.toRowW.claim.pre args=true)(KH:WellAll P h vals args):
  ∃a vs ns,vals=[Value.ref a]∧args=[WData.list (ns.map WData.int)]∧h.get? a=some { cls:=.type "list",data:=.seq vs.toArray }∧IntsAre vs ns∧ns.length≤n:=by
 have Tz:WShape.hasAll [] args [.list .int]=true:=(pre_splitW qr).1
 have hc:l.pre.holds [] { args:=args } =true:=(pre_splitW qr).2
 obtain⟨d,r,rfl,h1,h2⟩:=hasAllW_cons Tz
 obtain rfl:=hasAllW_nil h2
 obtain⟨xs,rfl,h3⟩:=hasW_list h1
 obtain⟨ns,rfl⟩:=items_int h3
 have hlen:ns.length≤n:=by
  unfold OpenLaw.pre at hc
  have h4:(WTm.not (.lt (.lit (.int (n:Int))) (.len (.arg 0)))).holds [] { args:=[.list (ns.map .int)] } =true:=by
   have h4:=(holds_andW hc).1
   rw[hn]at h4
   exact h4
  have h5:=condW_of h4 (w_not (w_lt w_lit (w_len_list (w_arg rfl))))
  rw[List.length_map]at h5
  refine Nat.le_of_not_lt fun q=>?_
  have q':(n:Int)<((ns.length:Nat):Int):=by omega
  first
   |(rw[decide_eq_true q']at h5;exact absurd h5 (by decide))
   |(simp at h5;omega)
 cases KH with
 |cons w1 w2=>
  cases w2
  cases w1 with
  |list ho eF=>exact⟨_,_,ns,rfl,rfl,ho,nU ns _ eF,hlen⟩
theorem yZ(l:OpenLaw)(args:List WData):l.row.toRowW.claim.post args (.bool true) args=true:=
 postW_of (r:=l.row.toRowW) (X:=(true==true))
  (show WShape.has [] (.bool true) .bool=true by first|rfl|decide|simp[WShape.has,WShape.arms,WShape.armsAll])
  (show(WTm.eq .res (.lit (.bool true))).value [] { args:=args,res:=some (.bool true),after:=args } =some (.bool (true==true))from w_eq_bool (w_res rfl) w_lit) rfl
theorem ux{l:OpenLaw}{n:Nat}{q:Program}{loose:List Str}{XP:(Str→Option Value)→Heap→Prop}{YP:World→Heap→Prop}{d:DefRec}
  (hn:l.most=some n)(y0:d.params.defaults=[])
  (call:∀(w:World) (aW bg:Shared) (mg mb:Str→Option Value) (fa:Addr) (o:Obj) (pm cd doc:Value) (a:Addr) (vs:List Value) (ns:List Int),
   Ground q loose [] XP w aW mg mb bg.heap→YP w bg.heap→
   bg.heap.get? fa=some o→o.data= .func (docDef d.name d.params d.body d.scope pm cd doc)→bg.heap.CodeRec cd d.name→mg d.name=some (.ref fa)→
   bg.heap.get? a=some { cls:=.type "list",data:=.seq vs.toArray }→IntsAre vs ns→ns.length≤n→bg.gens= #[]→
   codeAny (model l.prog w) callerA (.call (.ref fa) ⟨[.ref a],[]⟩) (fun r s'=>r= .ok (.ret (.bool true))∧OldK bg.heap s'.heap∧s'.os=bg.os∧AllBare s'.gens) bg):
  WalkO q loose XP YP l.row.toRowW d [] (fun f vs=>PySem.call f vs):=by
 intro w aW bg mg mb G Y fa o pm cd doc dV kV ho hd nS hD y3 hg args vals as qr W9 Xe KH Xf
 obtain rfl:dV= .none:=Dflts.none hD y0
 obtain rfl:kV= .none:=Dflts.noKw hD
 obtain⟨a,vs,ns,rfl,rfl,DD,hints,hlen⟩:=yY hn qr KH
 refine enter_call (codeAny_mono (call w aW bg mg mb fa o pm cd doc a vs ns G Y ho (fd_plain hd) nS y3 DD hints hlen hg) fun r s' hq=>?_)
 obtain⟨rfl,h2,h3,h4⟩:=hq
 exact⟨.inl ⟨.bool true,.bool true,[],rfl,fun _=>rfl,.bool true,yZ l _,fun _=>⟨List.Pairwise.nil,fun _ hm=>(nomatch hm)⟩⟩,h2,h3,h4⟩
section
variable{prog:Program}{w:World}{A:Around}{E:Value→Shared→Prop}{s:Shared}{K:Frag}
end
end Ot
namespace L2
open PySem PySem.Spec PyProof.Rows
theorem qt:∀{vs:List Value}{ns:List Int},IntsAre vs ns→Vals (ns.map V.int) vs
 |_,_,.nil=>.nil
 |_,_,.cons n t h=>.cons ⟨t,rfl⟩ (qt h)
end L2
namespace L2
open PySem PySem.Spec PyProof.Rows
abbrev Ou{K:PySem.W.Frag}{h:Heap}(_:K.In h):PySem.W.Frag:=K
end L2
namespace L2
open PySem PySem.Spec PyProof.Rows
def aU(s:Stmt):Arguments:=match s with
 |.FunctionDef _ a _ _ _ _ _ _ _ _=>a
 |_=>{ posonlyargs:=[],args:=[],vararg:=none,kwonlyargs:=[],kw_defaults:=[],kwarg:=none,defaults:=[] }
def aP(s:Stmt):List Stmt:=match s with
 |.FunctionDef _ _ b _ _ _ _ _ _ _=>b
 |_=>[]
def ar(s:Stmt):Scope:=match s with
 |.FunctionDef _ _ _ _ _ _ sc _ _ _=>sc
 |_=>{ kind:=.function,names:=[],isGenerator:=false,isCoroutine:=false }
abbrev cQ:qe:=fun _ _ _ _ _ _=>False
abbrev E0:XK:=fun _ _ _=>False
theorem DE{X:Cx}:Passes cQ X E0:=fun _ _ _ _ _ _ _ h=>h.elim
structure d7(K:PySem.W.Frag)(x qual:Str)(st:Stmt)(f:Addr)(fd:FuncData):Prop where
 ex:∃(oc:Value) (od:Option Addr) (kV doc pm:Value) (an:Option Addr) (cf ct:Value) (k_:Array (Option Value)),
  fd=PySem.W.fnOf x qual (aU st) (aP st) (ar st) .none kV doc pm an cf ct∧K.lookup f=some ⟨oc,od,.func fd,k_⟩∧PySem.W.codeIn K cf qual=true
 kp:PySem.W.keepIn K (.ref f)=true
section
variable{P:Program}{w:World}{K:PySem.W.Frag}{mg:Str→Option Value}{base:Heap}
theorem d7.ok{x qual:Str}{st:Stmt}{f:Addr}{fd:FuncData}{N ps:List Str}{k:Nat}{sp:Sp}(F:d7 K x qual st f fd)(S:aZ N ps (ar st))(len:∀vs H Q E,sp vs H Q E→vs.length=ps.length)
  (jb:∀(cf:Value) (A:Around) (outer:List Env) (s:Shared) (H:Hp) (vs:List V) (Q:VK) (E:XK),cY k (A.deeper (envOfC qual (ar st) s.heap.objs.size f cf))→sp vs H Q E→
   ∃t,jK (lr cQ P w K mg base N qual (ar st) f cf A outer s H E).yE (aP st) t∧t { nx:=fun _ H'=>Q .bb H',rt:=Q } (start N vs) H):bL P w K mg base cQ (k+1) f fd ps sp:=by
 obtain⟨oc,od,kV,doc,pm,an,cf,ct,k_,rfl,lk,nS⟩:=F.ex
 refine Kt lk nS S len fun A outer s H vs Q E hr pq=>?_
 obtain⟨t,h,q⟩:=jb cf A outer s H vs Q E hr pq
 exact⟨t,h.yE,q⟩
theorem d7.binds{x qual:Str}{st:Stmt}{f:Addr}{fd:FuncData}{ps:List Str}(F:d7 K x qual st f fd)
  (h:∀(kV doc pm:Value) (an:Option Addr) (cf ct:Value) (us:List Value),us.length=ps.length→bindArgs (PySem.W.fnOf x qual (aU st) (aP st) (ar st) .none kV doc pm an cf ct) ⟨us,[]⟩=pure (ps.zip us)):Binds K fd ps []:=by
 obtain⟨oc,od,kV,doc,pm,an,cf,ct,k_,rfl,lk,nS⟩:=F.ex
 exact .all (h kV doc pm an cf ct)
theorem bR{x qual:Str}{st:Stmt}{f:Addr}{oc:Value}{od an:Option Addr}{k_:Array (Option Value)}{kV doc pm cf ct:Value}(l:K.lookup f=some ⟨oc,od,.func (PySem.W.fnOf x qual (aU st) (aP st) (ar st) .none kV doc pm an cf ct),k_⟩)
  (c:PySem.W.codeIn K cf qual=true)(k:PySem.W.keepIn K (.ref f)=true):d7 K x qual st f (PySem.W.fnOf x qual (aU st) (aP st) (ar st) .none kV doc pm an cf ct):=⟨⟨oc,od,kV,doc,pm,an,cf,ct,k_,rfl,l,c⟩,k⟩
end
section
variable{X:Cx}
theorem pv(i:Nat){x:Str}{pos:Pos}(hN:X.N[i]? =some x:=by rfl)(hv:CZ X.env.scope x:=by first|exact Or.inl rfl|exact Or.inr (Or.inl rfl)|exact Or.inr (Or.inr rfl))(hd:(x==("__debug__":Str))=false:=by decide)
  (nS:(x==("__classdict__":Str))=false:=by decide):PE X (.Name x pos) (C4 i):=FT hN hv hd nS
end
def Ag(H H':Hp):Prop:=∀b o,H b=some o→H' b=some o
theorem Ag.seq{K:PySem.W.Frag}{H H':Hp}{a:Addr}{xs:List V}(e:Ag H H')(h:cU K H a xs):cU K H' a xs:=by
 rcases h with(h|⟨o,h⟩)|h
 ·exact .inl (.inl (e _ _ h))
 ·exact .inl (.inr ⟨o,e _ _ h⟩)
 ·exact .inr h
end L2
namespace L2
open PySem PySem.Spec PyProof.Rows
section
variable{κ:Type}[DecidableEq κ]
def fV(aD:List (κ×V))(k:κ):Option V:=(aD.find? fun kv=>decide (kv.1=k)).map (·.2)
def putK(aD:List (κ×V))(k:κ)(v:V):List (κ×V):=
 if (aD.any fun kv=>decide (kv.1=k))=true then aD.map (fun kv=>if kv.1=k then(kv.1,v)else kv)else aD++[(k,v)]
theorem tf{p:κ×V}{r:List (κ×V)}{k:κ}(e:p.1=k):fV (p::r) k=some p.2:=by simp[fV,List.find?_cons,e]
theorem tj{p:κ×V}{r:List (κ×V)}{k:κ}(e:¬p.1=k):fV (p::r) k=fV r k:=by simp[fV,List.find?_cons,e]
theorem tm(k:κ):∀aD:List (κ×V),(aD.any fun kv=>decide (kv.1=k))=(fV aD k).isSome
 |[]=>rfl
 |p::r=>by
  rw[List.any_cons]
  by_cases e:p.1=k
  ·simp only[tf e,decide_eq_true e,Bool.true_or,Option.isSome_some]
  ·rw[tj e,decide_eq_false e,Bool.false_or];exact tm k r
theorem mL(aD:List (κ×V))(k:κ)(v:V):(putK aD k v).length≤aD.length+1:=by
 unfold putK
 split
 ·rw[List.length_map];omega
 ·rw[List.length_append,List.length_cons,List.length_nil];omega
theorem sU.y4{o:Option V}{u:Option Value}(r:sU o u):o.isSome=u.isSome:=by
 cases o with
 |none=>cases u with
  |none=>rfl
  |some _=>exact(show False from r).elim
 |some _=>cases u with
  |none=>exact(show False from r).elim
  |some _=>rfl
theorem KV.any{aD:List (κ×V)}{vs:List (κ×Value)}(r:KV aD vs)(k:κ):(aD.any fun kv=>decide (kv.1=k))=vs.any fun kv=>decide (kv.1=k):=by
 unfold KV at r
 induction r with
 |nil=>rfl
 |cons h t ih=>rw[List.any_cons,List.any_cons,ih,h.1]
theorem KV.qu{aD:List (κ×V)}{vs:List (κ×Value)}(r:KV aD vs)(k:κ){y:V}{u:Value}(ry:RelV y u):
  KV (aD.map fun kv=>if kv.1=k then(kv.1,y)else kv) (vs.map fun kv=>if kv.1=k then(kv.1,u)else kv):=by
 unfold KV at r ⊢
 induction r with
 |nil=>exact .nil
 |@cons p q ps qs h t ih=>
  rw[List.map_cons,List.map_cons]
  refine .cons ?_ ih
  obtain⟨h1,h2⟩:=h
  by_cases e:p.1=k
  ·rw[if_pos e,if_pos (h1.symm.trans e)];exact⟨h1,ry⟩
  ·rw[if_neg e,if_neg (fun z=>e (h1.trans z))];exact⟨h1,h2⟩
theorem KV.put{aD:List (κ×V)}{vs:List (κ×Value)}(r:KV aD vs)(k:κ){y:V}{u:Value}(ry:RelV y u):KV (putK aD k y) (stored vs k u):=by
 unfold putK stored
 rw[r.any k]
 by_cases e:(vs.any fun kv=>decide (kv.1=k))=true
 ·rw[if_pos e,if_pos e];exact r.qu k ry
 ·rw[if_neg e,if_neg e];exact Paired.snoc r ⟨rfl,ry⟩
theorem KV.length{aD:List (κ×V)}{vs:List (κ×Value)}(r:KV aD vs):aD.length=vs.length:=Paired.length r
end
theorem DF{P:Program}{w:World}{k:Key}{u:Value}(r:RelV (kV k) u):(cJ P w).is k u=true:=by
 cases k with
 |inl i=>obtain⟨t,e⟩:=(show ∃t,u=Value.int i t from r);subst e;exact ug P w i t
 |inr x=>obtain⟨t,e⟩:=(show ∃t,u=Value.str x t from r);subst e;exact uh P w x t
theorem qv{P:Program}{w:World}:∀{ks:List Key}{us:List Value},Vals (ks.map kV) us→ItemsAre (cJ P w) ks us
 |[],_,r=>by rw[List.map_nil]at r;cases r;exact .nil
 |k::ks,_,r=>by
  rw[List.map_cons]at r
  cases r with
  |cons h t=>exact .cons (DF h) (qv t)
abbrev KT(H:Hp):List (List Key×V)→List (List Key×Addr×Value)→Prop:=Paired fun p q=>p.1=q.1∧H q.2.1=some (.tup (p.1.map kV))∧RelV p.2 q.2.2
theorem KT.val{H:Hp}{aD:List (List Key×V)}{xs:List (List Key×Addr×Value)}(r:KT H aD xs)(k:List Key):sU (fV aD k) ((atKey xs k).map (·.2)):=by
 induction r with
 |nil=>exact True.intro
 |@cons p q ps qs h t ih=>
  obtain⟨h1,_,h2⟩:=h
  by_cases e:p.1=k
  ·have e':q.1=k:=h1.symm.trans e
   have b:atKey (q::qs) k=some q.2:=by simp[atKey,List.find?_cons,e']
   rw[tf e,b];exact h2
  ·have e':¬q.1=k:=fun z=>e (h1.trans z)
   have b:atKey (q::qs) k=atKey qs k:=by simp[atKey,List.find?_cons,e']
   rw[tj e,b];exact ih
theorem KT.qu{H:Hp}{aD:List (List Key×V)}{xs:List (List Key×Addr×Value)}(r:KT H aD xs)(k:List Key){y:V}{u:Value}(ry:RelV y u):
  KT H (aD.map fun kv=>if kv.1=k then(kv.1,y)else kv) (xs.map (putAt k u)):=by
 induction r with
 |nil=>exact .nil
 |@cons p q ps qs h t ih=>
  rw[List.map_cons,List.map_cons]
  refine .cons ?_ ih
  obtain⟨h1,h2,h3⟩:=h
  unfold putAt
  by_cases e:p.1=k
  ·rw[if_pos e,if_pos (h1.symm.trans e)];exact⟨h1,h2,ry⟩
  ·rw[if_neg e,if_neg (fun z=>e (h1.trans z))];exact⟨h1,h2,h3⟩
theorem KT.put{H:Hp}{aD:List (List Key×V)}{xs:List (List Key×Addr×Value)}(r:KT H aD xs)(k:List Key){b:Addr}{y:V}{u:Value}(hb:H b=some (.tup (k.map kV)))(ry:RelV y u):
  KT H (putK aD k y) (storedH xs k b u):=by
 have e:(aD.any fun kv=>decide (kv.1=k))=(atKey xs k).isSome:=by
  rw[tm,(r.val k).y4,Option.isSome_map]
 unfold putK storedH
 rw[e]
 by_cases q:(atKey xs k).isSome=true
 ·rw[if_pos q,if_pos q];exact r.qu k ry
 ·rw[if_neg q,if_neg q];exact Paired.snoc r ⟨rfl,hb,ry⟩
theorem KT.keeps{H H':Hp}{aD:List (List Key×V)}{xs:List (List Key×Addr×Value)}(r:KT H aD xs)(ht:∀b ys,H b=some (.tup ys)→H' b=some (.tup ys)):KT H' aD xs:=
 Paired.mw r fun _ _ z=>⟨z.1,ht _ _ z.2.1,z.2.2⟩
section
variable{P:Program}{w:World}{H:Hp}{h:Heap}{a:Addr}
theorem DG{u:HO}(ok:dZ P w H h)(e:Rd H a u):bH P w H h a u:=e.ok ok
theorem KI{aD:List (Key×V)}(ok:dZ P w H h)(e:Rd H a (.dK aD)):aD.length≤sizeLine∧(a==sysModules)=false∧∃vs,KV aD vs∧h.DictOf (cJ P w) a vs:=
 show bH P w H h a (.dK aD)from DG ok e
theorem KJ{aD:List (Key×V)}(ok:dZ P w H h)(e:H a=some (.dK aD)):aD.length≤sizeLine∧(a==sysModules)=false∧∃vs,KV aD vs∧h.DictOf (cJ P w) a vs:=KI ok (.inl e)
theorem Ah{ks:List Key}(ok:dZ P w H h)(e:H a=some (.tup (ks.map kV))):(tupleKind (cJ P w)).is h ks a:=by
 obtain⟨_,its,r,o,h1,h2,n,h3⟩:=(show bH P w H h a (.tup (ks.map kV))from ok a _ e)
 exact⟨o,its.toArray,n,h1,h2,h3,by simpa using qv r⟩
theorem DH{aD:List (List Key×V)}(ok:dZ P w H h)(e:Rd H a (.dT aD)):aD.length≤sizeLine∧(a==sysModules)=false∧
  ∃xs,KT H aD xs∧h.DictOfH (tupleKind (cJ P w)) a xs:=by
 obtain⟨z,y,xs,r,o,es,ep,h1,h2,h3,h4,h5⟩:=(show bH P w H h a (.dT aD)from DG ok e)
 refine⟨z,y,xs,r,o,es,ep,h1,h2,h3,h4,fun x hx=>?_,h5⟩
 have all:∀{l:List (List Key×V)}{m:List (List Key×Addr×Value)},KT H l m→∀x∈m,(tupleKind (cJ P w)).is h x.1 x.2.1:=by
  intro l m q
  induction q with
  |nil=>intro x hx;exact nomatch hx
  |@cons p q ps qs hq t ih=>
   intro x hx
   rcases List.mem_cons.mp hx with e|hx
   ·subst e
    exact Ah ok (by rw[←hq.1];exact hq.2.1)
   ·exact ih x hx
 exact all r x hx
theorem KL{aD:List (List Key×V)}(ok:dZ P w H h)(e:H a=some (.dT aD)):aD.length≤sizeLine∧(a==sysModules)=false∧
  ∃xs,KT H aD xs∧h.DictOfH (tupleKind (cJ P w)) a xs:=DH ok (.inl e)
end
def Ai(H:Hp)(a:Addr)(y:V)(r:Option V):Prop:=
 (∃aD k,Rd H a (.dK aD)∧y=kV k∧r=fV aD k)∨∃aD k b,Rd H a (.dT aD)∧y= .ref b∧H b=some (.tup (k.map kV))∧r=fV aD k
def qw(H:Hp)(a:Addr)(y v:V)(H':Hp):Prop:=
 (∃aD k,H a=some (.dK aD)∧y=kV k∧aD.length<sizeLine∧H'=upd H a (.dK (putK aD k v)))∨
 ∃aD k b,H a=some (.dT aD)∧y= .ref b∧H b=some (.tup (k.map kV))∧aD.length<sizeLine∧H'=upd H a (.dT (putK aD k v))
theorem Ai.k{H:Hp}{a:Addr}{aD:List (Key×V)}{k:Key}(e:H a=some (.dK aD)):Ai H a (kV k) (fV aD k):=.inl ⟨aD,k,.inl e,rfl,rfl⟩
theorem Ai.t{H:Hp}{a b:Addr}{aD:List (List Key×V)}{k:List Key}(e:H a=some (.dT aD))(eb:H b=some (.tup (k.map kV))):Ai H a (.ref b) (fV aD k):=.inr ⟨aD,k,b,.inl e,rfl,eb,rfl⟩
theorem qw.k{H:Hp}{a:Addr}{aD:List (Key×V)}{k:Key}{v:V}(e:H a=some (.dK aD))(hl:aD.length<sizeLine):qw H a (kV k) v (upd H a (.dK (putK aD k v))):=.inl ⟨aD,k,e,rfl,hl,rfl⟩
theorem qw.t{H:Hp}{a b:Addr}{aD:List (List Key×V)}{k:List Key}{v:V}(e:H a=some (.dT aD))(eb:H b=some (.tup (k.map kV)))(hl:aD.length<sizeLine):
  qw H a (.ref b) v (upd H a (.dT (putK aD k v))):=.inr ⟨aD,k,b,e,rfl,eb,hl,rfl⟩
section
variable{X:Cx}{pins:List (Addr×Obj)}{σ:St}{H:Hp}{s:Shared}{a:Addr}{y v:V}{u r:Value}{o:Option V}{A:Around}{E:Value→Shared→Prop}
theorem Inv.big(I:Inv X pins σ H s):sysModules<s.heap.objs.size:=by
 have h:mainGlobals<s.heap.objs.size:=(I.mod.glob.keeps I.bk).lt
 exact Nat.lt_trans (by decide) h
theorem v9{h':Heap}{t':Nat}{ob:HO}(I:Inv X pins σ H s)(mu:CV (H a))(hs:Heap.SameBut a s.heap h')(he:∃q,h'.get? a=some q)(new:bH X.prog X.w (upd H a ob) h' a ob):
  Inv X pins σ (upd H a ob) { s with heap:=h',toks:=t' }:=
 I.write (x:=a) (e:=a) mu (.inl rfl) (fun b q hb z=>(hs.2 b hb).trans z) he new
theorem GI{P:Program}{w:World}{H':Hp}{h':Heap}{aD:List (Key×V)}{vs:List (Key×Value)}(z:aD.length≤sizeLine)(hd:(a==sysModules)=false)(rel:KV aD vs)(dd:h'.DictOf (cJ P w) a vs):
  bH P w H' h' a (.dK aD):=⟨z,hd,vs,rel,dd⟩
theorem y7{H':Hp}{Q:Unit→Shared→Prop}(hu:A.units+1<cLine)(I:Inv X pins σ H s)(g:qw H a y v H')(ry:RelV y u)(rv:RelV v r)(h:∀s',Inv X pins σ H' s'→Q () s'):
  wpAny (model X.prog X.w) A (setItem (.ref a) u r) Q E s:=by
 rcases g with⟨aD,k,e,ey,l,eH⟩|⟨aD,k,b,e,ey,eb,l,eH⟩
 ·subst ey eH
  obtain⟨z,hd,vs,rel,dd⟩:=KJ I.aR e
  have hz:vs.length≤sizeLine:=by rw[←rel.length];exact z
  have hl:(putK aD k v).length≤sizeLine:=by have:=mL aD k v;omega
  refine wpAny_setItem_pairs (hsz:=hz) (DF ry) dd fun h' GJ hs=>h _ ?_
  have he:∃q,h'.get? a=some q:=let ⟨q,_,_,hq,_⟩:=GJ;⟨q,hq⟩
  exact v9 I (by rw[e];exact True.intro) hs he (GI hl hd (rel.put k rv) GJ)
 ·subst ey eH
  cases (show u=Value.ref b from ry)
  obtain⟨z,hd,xs,rel,dd⟩:=KL I.aR e
  have hz:xs.length≤sizeLine:=by rw[←Paired.length rel];exact z
  have hl:(putK aD k v).length≤sizeLine:=by have:=mL aD k v;omega
  refine wpAny_setItem_heap (hsz:=hz) (tupleKind_room_in1 hu) (Ah I.aR eb) dd fun h' GJ hs=>h _ ?_
  obtain⟨q,es,ep,hq,h2,h3,h4,_,h5⟩:=GJ
  refine v9 I (by rw[e];exact True.intro) hs ⟨q,hq⟩ ⟨hl,hd,_,(rel.put k eb rv).keeps fun c ys ec=>?_,q,es,ep,hq,h2,h3,h4,h5⟩
  rw[aF (JV ec e (fun z=>nomatch z))]
  exact ec
end
section
variable{X:Cx}{pins:List (Addr×Obj)}{σ:St}{H:Hp}{s:Shared}{a:Addr}{aD:List (Key×V)}{k:Key}{u:Value}{A:Around}{E:Value→Shared→Prop}
end
def DI(td ty tv:TE):TS:=fun D σ H=>tv σ H fun v H1=>td σ H1 fun x H2=>ty σ H2 fun y H3=>∃a H4,x= .ref a∧qw H3 a y v H4∧D.nx σ H4
section
variable{X:Cx}{o i e value:Expr}{pos pos' Og:Pos}{td ty tv:TE}
theorem DJ(hu:X.A.units+1<cLine)(ho:PE X o td)(hi:PE X i ty)(hv:PE X value tv)(hs:swapsWith value (some (.Subscript o i pos')) pos.line X.env=pure false):
  PS X (.Assign [.Subscript o i pos'] value pos) (DI td ty tv):=by
 intro pins s σ H D I h
 refine wpAny_Assign_Subscript (bj (hv pins s σ H _ I h) fun r s1 ⟨v,H1,I1,rv,q1⟩=>bj (ho pins s1 σ H1 _ I1 q1) fun u s2 ⟨x,H2,I2,rx,q2⟩=>bj (hi pins s2 σ H2 _ I2 q2) fun iv s3 aX=>?_) hs
 obtain⟨y,H3,I3,ry,a,H4,ex,g,q3⟩:=aX
 subst ex
 obtain rfl:u=Value.ref a:=rx
 exact y7 hu I3 g ry rv fun s4 I4=>⟨σ,H4,I4,q3⟩
end
theorem Bu{P:Program}{w:World}{H:Hp}(h:Heap)(hb:sysModules<h.objs.size):bH P w H (h.push { cls:=.type "dict",data:=.dict #[] }) h.objs.size (.dT []):=
 ⟨Nat.zero_le _,beq_eq_false_iff_ne.mpr (Ne.symm (Nat.ne_of_lt hb)),[],.nil,_,#[],0,Heap.get?_push_size _ rfl,⟨rfl,rfl,rfl⟩,rfl,rfl,List.nodup_nil⟩
def GK:TE:=fun _ H Q=>∀p,H p=none→Q (.ref p) (upd H p (.dT []))
section
variable{X:Cx}{pos:Pos}
theorem Bv:PE X (.Dict [] [] pos) GK:=fun pins s σ H Q I h=>
 wpAny_Dict_empty ⟨.ref s.heap.objs.size,_,I.laid (a:=s.heap.objs.size) (o:=.dT []) (t':=s.toks) (fun _ _ q=>Heap.get?_push_of_some _ q) (Nat.le_refl _) (Bu s.heap I.big),rfl,h _ (I.aR.fresh (Nat.le_refl _))⟩
end
section
variable{X:Cx}{pins:List (Addr×Obj)}{σ:St}{H:Hp}{s:Shared}{a:Addr}{y d:V}{u r:Value}{o:Option V}{A:Around}{E:Value→Shared→Prop}
end
section
variable{X:Cx}{o e f:Expr}{apos e7:Pos}{td ty tx:TE}
end
section
variable{X:Cx}{pins:List (Addr×Obj)}{σ:St}{H:Hp}{s:Shared}{a:Addr}{aD:List (Key×V)}{A:Around}{E:Value→Shared→Prop}
end
section
variable{X:Cx}{pins:List (Addr×Obj)}{σ:St}{H:Hp}{s:Shared}{a:Addr}{y:V}{u:Value}{A:Around}{E:Value→Shared→Prop}
end
end L2
namespace My
structure Bd(k:Nat)(x:Int):Prop where
 lt:x.natAbs<2 ^ k
theorem Bd.mono{j k:Nat}{x:Int}(h:Bd j x)(e:j≤k):Bd k x:=⟨Nat.lt_of_lt_of_le h.lt (Nat.pow_le_pow_right (by decide) e)⟩
theorem Bd.mul{j k:Nat}{x y:Int}(h:Bd j x)(g:Bd k y):Bd (j+k) (x*y):=by
 refine⟨?_⟩
 rw[Int.natAbs_mul,Nat.pow_add]
 exact Nat.mul_lt_mul_of_lt_of_lt h.lt g.lt
theorem Bd.add{j k:Nat}{x y:Int}(h:Bd j x)(g:Bd k y):Bd (max j k+1) (x+y):=by
 have h':=(h.mono (Nat.le_max_left j k)).lt
 have g':=(g.mono (Nat.le_max_right j k)).lt
 refine⟨?_⟩
 rw[Nat.pow_succ]
 omega
theorem Bd.neg{k:Nat}{x:Int}(h:Bd k x):Bd k (-x):=⟨by have:=h.lt;omega⟩
theorem Bd.sub{j k:Nat}{x y:Int}(h:Bd j x)(g:Bd k y):Bd (max j k+1) (x - y):=by
 rw[Int.sub_eq_add_neg];exact h.add g.neg
theorem Bd.of_le{k:Nat}{x y:Int}(h:Bd k y)(e:x.natAbs≤y.natAbs):Bd k x:=⟨Nat.lt_of_le_of_lt e h.lt⟩
theorem Bd.log2{k:Nat}{x:Int}(h:Bd k x)(hk: 0<k):x.natAbs.log2<k:=by
 have h:=h.lt
 by_cases z:x.natAbs=0
 ·rw[z];simpa using hk
 ·exact(Nat.log2_lt z).mpr h
theorem Bw(n m:Int):Int.gcd m (n % m)=Int.gcd n m:=by
 rw[Int.emod_def,Int.mul_comm,Int.gcd_sub_mul_right_right,Int.gcd_comm]
theorem gcd_zero(n:Int):((Int.gcd n 0:Nat):Int)=if n<0 then -n else n:=by
 rw[Int.gcd_zero_right];split<;>omega
theorem DK(n m:Int):Int.gcd (if n<0 then -n else n) (if m<0 then -m else m)=Int.gcd n m:=by
 split<;>split<;>simp[Int.gcd_neg,Int.neg_gcd]
def sg(n d:Int):Int:=if d<0 then -(Int.gcd n d:Int)else(Int.gcd n d:Int)
def nm(n d:Int):Int:=n.fdiv (sg n d)
def dn(n d:Int):Int:=d.fdiv (sg n d)
theorem qx{n d:Int}(h:d≠0):(0:Int)<(Int.gcd n d:Int):=by
 have:=Int.gcd_pos_of_ne_zero_right n h
 omega
theorem TB{n d:Int}(h:d≠0):sg n d≠0:=by
 have:=qx (n:=n) h
 unfold sg;split<;>omega
theorem Bx(n d:Int):sg n d ∣ n:=by
 unfold sg;split
 ·exact Int.neg_dvd.mpr (Int.gcd_dvd_left n d)
 ·exact Int.gcd_dvd_left n d
theorem By(n d:Int):sg n d ∣ d:=by
 unfold sg;split
 ·exact Int.neg_dvd.mpr (Int.gcd_dvd_right n d)
 ·exact Int.gcd_dvd_right n d
theorem GL(n d:Int):sg n d*nm n d=n:=Int.mul_fdiv_cancel' (Bx n d)
theorem GN(n d:Int):sg n d*dn n d=d:=Int.mul_fdiv_cancel' (By n d)
theorem TC{n d:Int}:nm n d*d=n*dn n d:=by
 have e1:=GL n d
 have e2:=GN n d
 generalize sg n d=s at*
 generalize nm n d=a at*
 generalize dn n d=b at*
 subst e1 e2
 grind
theorem qy(n d:Int):(sg n d).natAbs=Int.gcd n d:=by
 unfold sg;split<;>omega
theorem KN{n d:Int}(h:d≠0):(sg n d).natAbs≤d.natAbs:=by
 rw[qy]
 exact Nat.le_of_dvd (by omega) (Int.natAbs_dvd_natAbs.mpr (Int.gcd_dvd_right n d) |> fun z=>by simpa using z)
theorem Aj{a b:Int}(ha:a≠0)(hb:b≠0):a*b≠0:=Int.mul_ne_zero ha hb
end My
namespace My
def det(a0 a1 a2 b0 b1 b2 c0 c1 c2:Int):Int:=(a1*b2 - a2*b1)*c0+(a2*b0 - a0*b2)*c1+(a0*b1 - a1*b0)*c2
def sgn(n:Int):Int:=if 0<n then 1 else if n<0 then -1 else 0
structure Alike(x y w x' y' w':Int):Prop where
 pos: 0<w
 pos': 0<w'
 ex:x'*w=x*w'
 ey:y'*w=y*w'
def jI(x y w:Int):Int:=if w<0 then -(Int.gcd (Int.gcd x w:Int) y:Int)else(Int.gcd (Int.gcd x w:Int) y:Int)
def sx(x y w:Int):Int:=x.fdiv (jI x y w)
def sy(x y w:Int):Int:=y.fdiv (jI x y w)
def sw(x y w:Int):Int:=w.fdiv (jI x y w)
theorem pL{x y w:Int}(h:w≠0):(0:Int)<(Int.gcd (Int.gcd x w:Int) y:Int):=by
 have h1:=qx (n:=x) h
 have h2: 0<Int.gcd (Int.gcd x w:Int) y:=Int.gcd_pos_of_ne_zero_left _ (by omega)
 omega
theorem Ov(x y w:Int):(Int.gcd (Int.gcd x w:Int) y:Int) ∣ x:=Int.dvd_trans (Int.gcd_dvd_left _ _) (Int.gcd_dvd_left _ _)
theorem Ow(x y w:Int):(Int.gcd (Int.gcd x w:Int) y:Int) ∣ w:=Int.dvd_trans (Int.gcd_dvd_left _ _) (Int.gcd_dvd_right _ _)
theorem Ox(x y w:Int):(Int.gcd (Int.gcd x w:Int) y:Int) ∣ y:=Int.gcd_dvd_right _ _
theorem DL(x y w:Int):(jI x y w).natAbs=Int.gcd (Int.gcd x w:Int) y:=by unfold jI;split<;>omega
theorem uy{x y w:Int}(h:w≠0):jI x y w≠0:=by
 have:=pL (x:=x) (y:=y) h
 unfold jI;split<;>omega
theorem qz{x y w z:Int}(h:(Int.gcd (Int.gcd x w:Int) y:Int) ∣ z):jI x y w ∣ z:=by
 unfold jI;split
 ·exact Int.neg_dvd.mpr h
 ·exact h
theorem uz(x y w:Int):jI x y w*sx x y w=x:=Int.mul_fdiv_cancel' (qz (Ov x y w))
theorem uA(x y w:Int):jI x y w*sy x y w=y:=Int.mul_fdiv_cancel' (qz (Ox x y w))
theorem mM(x y w:Int):jI x y w*sw x y w=w:=Int.mul_fdiv_cancel' (qz (Ow x y w))
theorem sw_pos{x y w:Int}(h:w≠0): 0<sw x y w:=by
 have e:=mM x y w
 have g:=pL (x:=x) (y:=y) h
 unfold jI at e
 split at e
 ·refine Int.not_le.mp fun hle=>?_
  have: 0≤-(Int.gcd (Int.gcd x w:Int) y:Int)*sw x y w:=Int.mul_nonneg_of_nonpos_of_nonpos (by omega) hle
  omega
 ·refine Int.not_le.mp fun hle=>?_
  have:(Int.gcd (Int.gcd x w:Int) y:Int)*sw x y w≤0:=Int.mul_nonpos_of_nonneg_of_nonpos (by omega) hle
  omega
theorem lP{s a b:Int}(h:s≠0)(e:s*a=b):a.natAbs≤b.natAbs:=by
 have e:=congrArg Int.natAbs e
 rw[Int.natAbs_mul]at e
 rw[←e]
 exact Nat.le_mul_of_pos_left _ (by omega)
theorem KO{x y w:Int}(h:w≠0):(sx x y w).natAbs≤x.natAbs:=lP (uy h) (uz x y w)
theorem KP{x y w:Int}(h:w≠0):(sy x y w).natAbs≤y.natAbs:=lP (uy h) (uA x y w)
theorem KQ{x y w:Int}(h:w≠0):(sw x y w).natAbs≤w.natAbs:=lP (uy h) (mM x y w)
theorem mN{x y w:Int}(h:w≠0):sx x y w*w=x*sw x y w:=by
 have e1:=uz x y w;have e2:=mM x y w
 generalize jI x y w=s at *;generalize sx x y w=a at *;generalize sw x y w=b at*
 subst e1 e2;grind
theorem mO{x y w:Int}(h:w≠0):sy x y w*w=y*sw x y w:=by
 have e1:=uA x y w;have e2:=mM x y w
 generalize jI x y w=s at *;generalize sy x y w=a at *;generalize sw x y w=b at*
 subst e1 e2;grind
theorem KR{x y w:Int}(h: 0<w):Alike x y w (sx x y w) (sy x y w) (sw x y w):=⟨h,sw_pos (by omega),mN (by omega),mO (by omega)⟩
end My
namespace My
structure v_(x y w:Int):Prop where
 pos: 0<w
 low:Int.gcd (Int.gcd x w:Int) y=1
theorem wc{x y w z:Int}(h:Int.gcd (Int.gcd x w:Int) y=1){k:Int}(h1:k ∣ x*z)(h2:k ∣ w*z)(h3:k ∣ y*z):k ∣ z:=by
 have e1:k.natAbs ∣ Int.gcd (x*z) (w*z):=Int.dvd_gcd (Int.natAbs_dvd.mpr h1) (Int.natAbs_dvd.mpr h2)
 rw[Int.gcd_mul_right]at e1
 have e2:k ∣ (Int.gcd x w:Int)*z:=by
  have:(k.natAbs:Int) ∣ ((Int.gcd x w*z.natAbs:Nat):Int):=Int.natCast_dvd_natCast.mpr e1
  have h4:k ∣ ((Int.gcd x w*z.natAbs:Nat):Int):=Int.natAbs_dvd.mp this
  rw[Int.natCast_mul]at h4
  rcases Int.natAbs_eq z with hz|hz
  ·rw[hz];exact h4
  ·rw[hz,Int.mul_neg];exact Int.dvd_neg.mpr h4
 have e3:k.natAbs ∣ Int.gcd ((Int.gcd x w:Int)*z) (y*z):=Int.dvd_gcd (Int.natAbs_dvd.mpr e2) (Int.natAbs_dvd.mpr h3)
 rw[Int.gcd_mul_right,h,Nat.one_mul]at e3
 exact Int.natAbs_dvd_natAbs.mp e3
theorem jN{x y w x' y' w':Int}(h:v_ x y w)(h':v_ x' y' w')(ex:x*w'=x'*w)(ey:y*w'=y'*w):x=x'∧y=y'∧w=w':=by
 have d1:w ∣ w':=wc h.low (k:=w) (z:=w') (by rw[ex];exact Int.dvd_mul_left _ _) (Int.dvd_mul_right _ _) (by rw[ey];exact Int.dvd_mul_left _ _)
 have d2:w' ∣ w:=wc h'.low (k:=w') (z:=w) (by rw[←ex];exact Int.dvd_mul_left _ _) (Int.dvd_mul_right _ _) (by rw[←ey];exact Int.dvd_mul_left _ _)
 have p:=h.pos;have p':=h'.pos
 have e:w=w':=Int.dvd_antisymm (by omega) (by omega) d1 d2
 subst e
 exact⟨Int.eq_of_mul_eq_mul_right (by omega) ex,Int.eq_of_mul_eq_mul_right (by omega) ey,rfl⟩
theorem kI{x y w:Int}(h:w≠0):v_ (sx x y w) (sy x y w) (sw x y w):=by
 refine⟨sw_pos h,?_⟩
 have e1:=uz x y w;have e2:=uA x y w;have e3:=mM x y w
 have g:=pL (x:=x) (y:=y) h
 have ga:=DL x y w
 generalize jI x y w=s at*
 generalize sx x y w=a at*
 generalize sy x y w=b at*
 generalize sw x y w=c at*
 have q:Int.gcd (Int.gcd x w:Int) y=s.natAbs*Int.gcd (Int.gcd a c:Int) b:=by
  rw[←e1,←e2,←e3,Int.gcd_mul_left]
  have:((s.natAbs*Int.gcd a c:Nat):Int)=(s.natAbs:Int)*(Int.gcd a c:Int):=Int.natCast_mul _ _
  rw[this]
  have e4:Int.gcd ((s.natAbs:Int)*(Int.gcd a c:Int)) (s*b)=Int.gcd ((s.natAbs:Int)*(Int.gcd a c:Int)) ((s.natAbs:Int)*b):=by
   rcases Int.natAbs_eq s with hs|hs
   ·rw[←hs]
   ·have:s*b= -((s.natAbs:Int)*b):=by rw[←Int.neg_mul,←hs]
    rw[this,Int.gcd_neg]
  rw[e4,Int.gcd_mul_left]
  simp
 rw[←ga]at q
 have:s.natAbs*1=s.natAbs*Int.gcd (Int.gcd a c:Int) b:=by rw[Nat.mul_one];exact q
 exact(Nat.eq_of_mul_eq_mul_left (by omega) this).symm
theorem DM{x y w x' y' w':Int}(h:w≠0)(h':w'≠0)(ex:x*w'=x'*w)(ey:y*w'=y'*w):sx x y w=sx x' y' w'∧sy x y w=sy x' y' w'∧sw x y w=sw x' y' w':=by
 refine jN (kI h) (kI h') ?_ ?_
 ·have a:=mN (x:=x) (y:=y) h;have b:=mN (x:=x') (y:=y') h'
  refine Int.eq_of_mul_eq_mul_left (Aj h h') ?_
  generalize sx x y w=p at *;generalize sw x y w=q at *;generalize sx x' y' w'=p' at *;generalize sw x' y' w'=q' at*
  grind
 ·have a:=mO (x:=x) (y:=y) h;have b:=mO (x:=x') (y:=y') h'
  refine Int.eq_of_mul_eq_mul_left (Aj h h') ?_
  generalize sy x y w=p at *;generalize sw x y w=q at *;generalize sy x' y' w'=p' at *;generalize sw x' y' w'=q' at*
  grind
theorem DN{x y w:Int}(h:v_ x y w):sx x y w=x∧sy x y w=y∧sw x y w=w:=by
 have hp:=h.pos
 exact jN (kI (by omega)) h (mN (by omega)) (mO (by omega))
theorem qA(x y w:Int):Int.gcd (Int.gcd x y:Int) w=Int.gcd (Int.gcd x w:Int) y:=by
 have a:∀p q r:Int,Int.gcd (Int.gcd p q:Int) r=Int.gcd p (Int.gcd q r:Int):=fun p q r=>Int.gcd_assoc p q r
 rw[a,a,Int.gcd_comm y w]
theorem oT{x y w:Int}(h: 0<w):x / (Int.gcd (Int.gcd x y:Int) w:Int)=sx x y w∧y / (Int.gcd (Int.gcd x y:Int) w:Int)=sy x y w∧w / (Int.gcd (Int.gcd x y:Int) w:Int)=sw x y w:=by
 have g:=pL (x:=x) (y:=y) (w:=w) (by omega)
 have e:jI x y w=(Int.gcd (Int.gcd x y:Int) w:Int):=by unfold jI;rw[if_neg (by omega),qA]
 have g':(0:Int)≤(Int.gcd (Int.gcd x y:Int) w:Int):=by rw[qA];omega
 unfold sx sy sw
 rw[e]
 exact⟨(Int.fdiv_eq_ediv_of_nonneg _ g').symm,(Int.fdiv_eq_ediv_of_nonneg _ g').symm,(Int.fdiv_eq_ediv_of_nonneg _ g').symm⟩
theorem wd{x y w:Int}(h:w<0):(0 - x) / (Int.gcd (Int.gcd (0 - x) (0 - y):Int) (0 - w):Int)=sx x y w∧(0 - y) / (Int.gcd (Int.gcd (0 - x) (0 - y):Int) (0 - w):Int)=sy x y w∧(0 - w) / (Int.gcd (Int.gcd (0 - x) (0 - y):Int) (0 - w):Int)=sw x y w:=by
 obtain⟨a,b,c⟩:=oT (x:=0 - x) (y:=0 - y) (w:=0 - w) (by omega)
 rw[a,b,c]
 exact DM (by omega) (by omega) (by grind) (by grind)
end My
namespace My
def jc(p0 p1 p2 q0 q1 q2:Int):Bool:=if p0*q2=q0*p2 then decide (p1*q2<q1*p2)else decide (p0*q2<q0*p2)
def nV(c0 c1 c2 a0 a1 a2 b0 b1 b2:Int):Bool:=if det a0 a1 a2 b0 b1 b2 c0 c1 c2=0 then(if jc a0 a1 a2 b0 b1 b2=true then !jc c0 c1 c2 a0 a1 a2&&!jc b0 b1 b2 c0 c1 c2 else !jc c0 c1 c2 b0 b1 b2&&!jc a0 a1 a2 c0 c1 c2)else false
theorem Bz{n:Int}(h:sgn n=0):n=0:=by
 unfold sgn at h
 split at h
 ·cases h
 ·split at h
  ·cases h
  ·omega
def m0(a0 a1 a2 b0 b1 b2 c0 c1 c2 d0 d1 d2:Int):Int:=(a2*b0 - a0*b2)*(c0*d1 - c1*d0) - (a0*b1 - a1*b0)*(c2*d0 - c0*d2)
def m1(a0 a1 a2 b0 b1 b2 c0 c1 c2 d0 d1 d2:Int):Int:=(a0*b1 - a1*b0)*(c1*d2 - c2*d1) - (a1*b2 - a2*b1)*(c0*d1 - c1*d0)
def m2(a0 a1 a2 b0 b1 b2 c0 c1 c2 d0 d1 d2:Int):Int:=(a1*b2 - a2*b1)*(c2*d0 - c0*d2) - (a2*b0 - a0*b2)*(c1*d2 - c2*d1)
section
variable(a0 a1 a2 b0 b1 b2 c0 c1 c2 d0 d1 d2:Int)
def u0:Int:=b0*(a2*c2*d2) - a0*(b2*c2*d2)
def u1:Int:=b1*(a2*c2*d2) - a1*(b2*c2*d2)
def v1:Int:=d1*(a2*b2*c2) - c1*(a2*b2*d2)
def z1:Int:=c1*(a2*b2*d2) - a1*(b2*c2*d2)
end
section
variable{a0 a1 a2 b0 b1 b2 c0 c1 c2 d0 d1 d2:Int}
end
end My
namespace L2
open PySem PySem.Spec PyProof.Rows
section
variable{X:Cx}{a b:Expr}{ta tb:TE}{pos:Pos}
theorem az:dm X (binaryOp .Mult) (rI IntMulOk fun i j=>.int (i*j)):=Gp fun _ _ _ _ _ _ _ hc q=>mul_int q hc
def y8(_i j:Int):Prop:=j≠0∧j.natAbs.log2<9000
theorem dJ:dm X (binaryOp .FloorDiv) (rI y8 fun i j=>.int (i.fdiv j)):=Gp fun _ _ _ _ _ _ _ hc q=>floordiv_int hc.1 q (.inl (PyProof.noPylong_of_log2 hc.2))
theorem mP:fN X (.builtin "isinstance") (fun xs H Q=>∃x n t k,xs=[x,.ty n]∧hV X.K H x t∧PySem.W.kitOne X.K t (.type n)=some k∧Q (.bl k) H):=by
 intro pins s σ H xs us Q I r h
 obtain⟨x,n,t,k,rfl,ty,e,q⟩:=h
 obtain⟨u,w',rfl,rx,rc⟩:=vals2 r
 cases (show w'=Value.type n from rc)
 exact yO I rx ty e fun tk=>⟨.bl k,H,I.tok tk,rfl,q⟩
end
section
variable{X:Cx}{K:PySem.W.Frag}
end
theorem eJ{H:Hp}{p q:Addr}{x z:HO}(h:H p=some x)(hq:H q=none):upd H q z p=some x:=by
 rw[aF (bO h hq)];exact h
theorem nW{H:Hp}{q:Addr}{z:HO}(hq:H q=none):Ag H (upd H q z):=fun _ _ h=>eJ h hq
section
variable{P:Program}{w:World}{K:PySem.W.Frag}{mg:Str→Option Value}{base:Heap}
end
end L2
namespace My
open PySem PyProof.Rows
theorem bits_le{k:Nat}{x:Int}(h:Bd k x):PySem.Builtin.Int.intBits x≤k:=by
 unfold PySem.Builtin.Int.intBits
 split
 ·exact Nat.zero_le _
 ·rename_i z
  have z':x.natAbs≠0:=by
   intro e
   apply z
   have:x=0:=by omega
   rw[this];rfl
  have:=(Nat.log2_lt z').mpr h.lt
  omega
theorem KS{x y:Int}{j k:Nat}(hx:Bd j x)(hy:Bd k y)(h:(decide (j≤100000)&&decide (k≤100000))=true):PySem.IntMulOk x y:=by
 rw[Bool.and_eq_true,decide_eq_true_eq,decide_eq_true_eq]at h
 have e:(2:Nat) ^ 20=1048576:=by decide
 exact PySem.IntMulOk.of_bits (by have:=bits_le hx;omega) (by have:=bits_le hy;omega)
theorem GO{x y:Int}(h1: -(2 ^ 64)<x)(h2:x<2 ^ 64):PySem.IntMulOk x y:=PySem.IntMulOk.of_left (PySem.intBits_le_64 h1 h2)
theorem GP{x y:Int}(h1: -(2 ^ 64)<y)(h2:y<2 ^ 64):PySem.IntMulOk x y:=PySem.IntMulOk.of_right (PySem.intBits_le_64 h1 h2)
end My
namespace L2
open PySem PySem.Spec PyProof.Rows
theorem pM:bootBuiltins "abs" =some (.builtin "abs"):=by decide +kernel
theorem dM:bootBuiltins "len" =some (.builtin "len"):=by decide +kernel
theorem GR:bootBuiltins "max" =some (.builtin "max"):=by decide +kernel
theorem jO:bootBuiltins "isinstance" =some (.builtin "isinstance"):=by decide +kernel
theorem Ak:bootBuiltins "int" =some (.type "int"):=by decide +kernel
theorem DO:bootBuiltins "bool" =some (.type "bool"):=by decide +kernel
theorem mQ:bootBuiltins "list" =some (.type "list"):=by decide +kernel
def Pl(H:Hp)(p:Addr):Prop:=∃a b:Int,H p=some (.lst [.int a,.int b])∧0≤a∧0≤b
theorem Pl.new{H:Hp}{p:Addr}{a b:Int}(h1: 0≤a)(h2: 0≤b):Pl (upd H p (.lst [.int a,.int b])) p:=⟨a,b,bN,h1,h2⟩
theorem Oy{i j:Int}{k:Nat}(h0:j≠0)(h:My.Bd k j)(hk:(decide (0<k)&&decide (k≤9000))=true):y8 i j:=by
 rw[Bool.and_eq_true,decide_eq_true_eq,decide_eq_true_eq]at hk
 exact⟨h0,Nat.lt_of_lt_of_le (My.Bd.log2 h hk.1) hk.2⟩
end L2
namespace L2
open PySem PySem.Spec PyProof.Rows
def dz(cells:List (Str×Addr)):List (Str×NameKind)→List (Str×Addr)→List (Str×Addr)
 |[],cs=>cs
 |(n,k)::r,cs=>dz cells r (if k==.free then(match cells.lookup n with|some a=>(n,a)::cs|none=>cs)else cs)
theorem jP{env:Env}:∀(names:List (Str×NameKind)) (cs:List (Str×Addr)),(∀y∈names,y.2= .free→∃c,env.cells.lookup y.1=some c)→
  (forIn names cs (fun(x:Str×NameKind) (r:List (Str×Addr))=>(do
   if x.2==.free then
    let a ←cellOf env x.1
    pure (ForInStep.yield ((x.1,a)::r))
   else pure (ForInStep.yield r):Sem (ForInStep (List (Str×Addr))))))=(pure (dz env.cells names cs):Sem _)
 |[],cs,_=>rfl
 |(n,k)::r,cs,h=>by
  rw[List.forIn_cons]
  have hr:∀y∈r,y.2= .free→∃c,env.cells.lookup y.1=some c:=fun y hy=>h y (List.mem_cons_of_mem _ hy)
  by_cases hk:k= .free
  ·subst hk
   obtain⟨c,hc⟩:=h (n,.free) List.mem_cons_self rfl
   have eE:env.cells.lookup n=some c:=hc
   simp only[beq_self_eq_true,if_true,cellOf,eE,pure_bind,dz]
   exact jP r _ hr
  ·have hb:(k==NameKind.free)=false:=by simpa using hk
   simp only[hb,Bool.false_eq_true,if_false,pure_bind,dz]
   exact jP r _ hr
theorem gB{scope:Scope}{env:Env}(h:∀y∈scope.names,y.2= .free→∃c,env.cells.lookup y.1=some c):closureFor scope env=pure (dz env.cells scope.names []):=by
 have e:=jP (env:=env) scope.names [] h
 unfold closureFor
 simp only[bind_pure_comp]at e ⊢
 first
  |(simpa using e)
  |(rw[←e];rfl)
theorem jQ{cells:List (Str×Addr)}{x:Str}{c:Addr}:∀{names:List (Str×NameKind)}{cs:List (Str×Addr)},(dz cells names cs).lookup x=some c→(∀c',cs.lookup x=some c'→cells.lookup x=some c')→cells.lookup x=some c
 |[],cs,h,hc=>hc c h
 |(n,k)::r,cs,h,hc=>by
  refine jQ (names:=r) h fun c' eE=>?_
  by_cases hk:(k==NameKind.free)=true
  ·rw[if_pos hk]at eE
   cases e:cells.lookup n with
   |none=>rw[e]at eE;exact hc c' eE
   |some a=>
    rw[e]at eE
    by_cases hx:x=n
    ·subst hx
     simp only[List.lookup_cons,beq_self_eq_true]at eE
     rw[e];exact eE
    ·have hb:(x==n)=false:=beq_eq_false_iff_ne.mpr hx
     simp only[List.lookup_cons,hb]at eE
     exact hc c' eE
  ·rw[if_neg hk]at eE
   exact hc c' eE
theorem mR{cells:List (Str×Addr)}{x:Str}:∀{names:List (Str×NameKind)}{cs:List (Str×Addr)},(∃c,cs.lookup x=some c)→∃c,(dz cells names cs).lookup x=some c
 |[],_,h=>h
 |(n,k)::r,cs,h=>by
  refine mR (names:=r) ?_
  split
  ·split
   ·rename_i a _
    by_cases hx:x=n
    ·subst hx;exact⟨a,by simp⟩
    ·have hb:(x==n)=false:=beq_eq_false_iff_ne.mpr hx
     simpa[List.lookup_cons,hb]using h
   ·exact h
  ·exact h
theorem hZ{cells:List (Str×Addr)}{x:Str}:∀{names:List (Str×NameKind)}{cs:List (Str×Addr)},(x,NameKind.free)∈names→(∃c,cells.lookup x=some c)→∃c,(dz cells names cs).lookup x=some c
 |[],_,h,_=>nomatch h
 |(n,k)::r,cs,h,hc=>by
  rcases List.mem_cons.mp h with e|h
  ·cases e
   refine mR (names:=r) ?_
   obtain⟨c,hc⟩:=hc
   rw[if_pos (by rfl),hc]
   exact⟨c,by simp⟩
  ·exact hZ (names:=r) h hc
theorem sC{prog:Program}{w:World}{A:Around}{R:Result→Shared→Prop}{s:Shared}{elt target iter:Expr}{ifs:List Expr}{scope:Scope}{pos:Pos}{it acc:Value}{env:Env}(I:Nat→Shared→Prop)
  (turn:∀n s,I n s→wpAny (model prog w) A (pyNext it) (fun r bg=>match r with
   |none=>R (.ok .next) bg
   |some v=>wpAny (model prog w) A (letOwnedTupleGo target it v) (fun _ aW=>wpAny (model prog w) A (assign target env v) (fun _ hG=>
     wpAny (model prog w) A (forIn ifs true fun c r=>if r=true then do let ok ←isTrue c env (eval c env);pure (ForInStep.yield ok)else pure (ForInStep.yield r)) (fun ok we=>
      if ok=true then wpAny (model prog w) A (eval elt env) (fun x Al=>
       wpAny (model prog w) A (call (.builtin "list.append") [acc,x]) (fun _ Jg=>∃m,m<n∧I m Jg) (fun _ _=>False) Al) (fun _ _=>False) we
      else ∃m,m<n∧I m we) (fun _ _=>False) hG) (fun _ _=>False) aW) (fun _ _=>False) bg) (fun _ _=>False) s)
  (n:Nat)(h:I n s):
  codeAny (model prog w) A (.compLoop (.ListComp elt [⟨target,iter,ifs,0⟩] scope pos) 0 it acc env) R s:=by
 refine codeAny_loop rfl I (fun n s hI=>?_) n h
 show wpAny _ A ((compTurn (.ListComp elt [⟨target,iter,ifs,0⟩] scope pos) 0 it acc env).onRaise (fun x=>do noteFrame x env;theTreesLotGoes x)) _ _ s
 refine wpAny_noted ?_
 rw[compTurn_list]
 refine wpAny_bind (wpAny_standAt (wpAny_bind (wpAny_mono (turn n s hI) (fun r bg jE=>?_) fun _ _ h'=>h'.elim)))
 cases r with
 |none=>exact wpAny_pure jE
 |some v=>
  refine wpAny_bind (wpAny_mono jE (fun _ aW h₀=>?_) fun _ _ h'=>h'.elim)
  refine wpAny_bind (wpAny_mono h₀ (fun _ hG Oz=>wpAny_bind (wpAny_mono Oz (fun ok we Jh=>?_) fun _ _ h'=>h'.elim)) fun _ _ h'=>h'.elim)
  cases ok with
  |false=>exact wpAny_pure ⟨rfl,Jh⟩
  |true=>
   exact wpAny_bind (wpAny_bind (wpAny_mono Jh (fun x Al OA=>wpAny_bind (wpAny_mono OA (fun _ Jg OB=>wpAny_pure (wpAny_pure ⟨rfl,OB⟩)) fun _ _ h'=>h'.elim)) fun _ _ h'=>h'.elim))
abbrev Cx.fO(X:Cx)(scope:Scope)(C:Addr)(N':List Str)(aW:Shared)(bW:Hp)(fp:List Addr):Cx:=
 { X with N:=N',aW:=aW,bW:=bW,env:=compEnvC scope (dz X.env.cells scope.names []) C X.env,outer:=X.stack,ex:=fp,fn:=fun _=>false,pn:=[],xe:=fun _ _=>False }
def pA(σ:St)(cap:List (Option Nat)):St:=cap.map fun o=>match o with
 |some i=>(match σ[i]? with|some v=>v|none=>none)
 |none=>none
structure lQ(X:Cx)(scope:Scope)(N':List Str)(cap:List (Option Nat)):Prop where
 kind:scope.kind= .function
 y9:∀y∈scope.names,y.2≠.cell
 names:∀y∈scope.names,y.2= .local→scope.names.lookup y.1=some .local
 frees:∀y∈scope.names,y.2= .free→X.env.kindOf y.1=some .cell∨X.env.kindOf y.1=some .free
 len:cap.length=N'.length
 DP:∀(j i:Nat) (x:Str),cap[j]? =some (some i)→N'[j]? =some x→X.N[i]? =some x∧(x,NameKind.free)∈scope.names
 TF:∀(j i:Nat) (x:Str),cap[j]? =some (some i)→N'[j]? =some x→CZ X.env.scope x
 un:∀(j i:Nat) (x:Str),cap[j]? =some (some i)→N'[j]? =some x→∀z∈scope.names,z.1=x→z.2= .free
def eK(sc scope:Scope)(NN:List Str):List Str→List (Option Nat)→Bool
 |[],[]=>true
 |_::N,none::c=>eK sc scope NN N c
 |x::N,some i::c=>decide (NN[i]? =some x)&&decide ((x,NameKind.free)∈scope.names)&&(decide (sc.names.lookup x=some .local)||decide (sc.names.lookup x=some .cell)||decide (sc.names.lookup x=some .free))&&decide (∀z∈scope.names,z.1=x→z.2= .free)&&eK sc scope NN N c
 |_,_=>false
theorem lR{sc scope:Scope}{NN:List Str}:∀{N':List Str}{cap:List (Option Nat)},eK sc scope NN N' cap=true→cap.length=N'.length
 |[],[],_=>rfl
 |_::_,none::_,h=>congrArg (·+1) (lR (by simpa only[eK]using h))
 |_::_,some _::_,h=>congrArg (·+1) (lR (by simp only[eK,Bool.and_eq_true]at h;exact h.2))
 |[],_::_,h=>by simp[eK]at h
 |_::_,[],h=>by simp[eK]at h
theorem gp{sc scope:Scope}{NN:List Str}:∀{N':List Str}{cap:List (Option Nat)},eK sc scope NN N' cap=true→∀(j i:Nat) (x:Str),cap[j]? =some (some i)→N'[j]? =some x→
  NN[i]? =some x∧(x,NameKind.free)∈scope.names∧CZ sc x∧∀z∈scope.names,z.1=x→z.2= .free
 |[],[],_,j,i,x,e,_=>by simp at e
 |_::_,none::_,h,0,i,x,e,_=>by simp at e
 |_::_,none::_,h,j+1,i,x,e,e'=>gp (by simpa only[eK]using h) j i x (by simpa using e) (by simpa using e')
 |y::_,some k::_,h,0,i,x,e,e'=>by
  simp only[List.getElem?_cons_zero,Option.some.injEq]at e e'
  subst e e'
  simp only[eK,Bool.and_eq_true,Bool.or_eq_true,decide_eq_true_eq]at h
  obtain⟨⟨⟨⟨h1,h2⟩,h3⟩,h4⟩,_⟩:=h
  refine⟨h1,h2,?_,h4⟩
  rcases h3 with(h3|h3)|h3
  ·exact .inl h3
  ·exact .inr (.inl h3)
  ·exact .inr (.inr h3)
 |_::_,some _::_,h,j+1,i,x,e,e'=>gp (by simp only[eK,Bool.and_eq_true]at h;exact h.2) j i x (by simpa using e) (by simpa using e')
 |[],_::_,h,_,_,_,_,_=>by simp[eK]at h
 |_::_,[],h,_,_,_,_,_=>by simp[eK]at h
theorem jd{X:Cx}{sc scope:Scope}{NN N':List Str}{cap:List (Option Nat)}(e:X.env.scope=sc)(eN:X.N=NN)(h1:scope.kind= .function)(h2:∀y∈scope.names,y.2≠.cell)(h3:∀y∈scope.names,y.2= .local→scope.names.lookup y.1=some .local)
  (h4:∀y∈scope.names,y.2= .free→sc.names.lookup y.1=some .cell∨sc.names.lookup y.1=some .free)(h5:eK sc scope NN N' cap=true):lQ X scope N' cap:=by
 subst e eN
 exact⟨h1,h2,h3,h4,lR h5,fun j i x a b=>⟨(gp h5 j i x a b).1,(gp h5 j i x a b).2.1⟩,fun j i x a b=>(gp h5 j i x a b).2.2.1,fun j i x a b=>(gp h5 j i x a b).2.2.2⟩
def y_(wi:TI)(cap:List (Option Nat))(g:TG)(tt:TT)(te:TE):TE:=fun σ H Q=>wi σ H fun J H1=>∀l,H1 l=none→
 ∃W:Nat→Nat→St→Hp→Prop,(∃m,W 0 m (pA σ cap) (upd H1 l (.lst [])))∧∀i m τ H2,W i m τ H2→
  (J.stop i H2∧Q (.ref l) H2)∨(J.go i H2∧∃N:St→Hp→Prop,(∀iP H',N iP H'→∃m',m'<m∧W (i+1) m' iP H')∧
   ∀x H',J.De i H2 x H'→g x τ H' fun uB H3=>tt uB H3 fun b H4=>if b=true then te uB H4 fun y H5=>∃ys,H5 l=some (.lst ys)∧ys.length<sizeLine∧N uB (upd H5 l (.lst (ys++[y])))else N uB H4)
def eL:TT:=fun _ H Q=>Q true H
namespace Zu
set_option allowUnsafeReducibility true in
@[scoped irreducible] def _root_.L2.mS(X:Cx)(ifs:List Expr)(t:TT):Prop:=
 ∀(pins:List (Addr×Obj)) (s:Shared) (σ:St) (H:Hp) (Q:Bool→Hp→Prop),Inv X pins σ H s→t σ H Q→
  wpAny (model X.prog X.w) X.A (forIn ifs true fun c r=>if r=true then do let ok ←isTrue c X.env (eval c X.env);pure (ForInStep.yield ok)else pure (ForInStep.yield r)) (TP X pins σ Q) X.xe s
end Zu
theorem BA{X:Cx}:mS X [] eL:=fun _ _ _ H _ I h=>wpAny_tests_nil ⟨H,I,h⟩
theorem DQ{X:Cx}{c:Expr}{t:TT}(h:PT X c t):mS X [c] t:=fun pins s σ H Q I q=>wpAny_tests_one (h pins s σ H Q I q)
section
variable{X:Cx}{pos:Pos}{elt iter tg:Expr}{ifs:List Expr}{scope:Scope}{N':List Str}{cap:List (Option Nat)}{wi:TI}{g:TG}{tt:TT}{te:TE}
theorem ir{X:Cx}:∀{names:List (Str×NameKind)}{y:Str}{k:NameKind},(names.map fun(n,k)=>if (k==NameKind.free&&X.env.scope.kind==.function&&X.env.kindOf n==some .cell)then(n,NameKind.cell)else(n,k)).lookup y=some k→
  (k= .cell∨k= .free)→(∀z∈names,z.2≠.cell)→(y,NameKind.free)∈names
 |[],_,_,h,_,_=>by simp at h
 |(n,k0)::r,y,k,h,hk,hc=>by
  have TH:∀z∈r,z.2≠.cell:=fun z hz=>hc z (List.mem_cons_of_mem _ hz)
  have h0:k0≠.cell:=hc (n,k0) List.mem_cons_self
  rw[List.map_cons]at h
  dsimp only at h
  by_cases hy:y=n
  ·subst hy
   have:k0= .free:=by
    by_cases hf:k0= .free
    ·exact hf
    ·exfalso
     have hb:(k0==NameKind.free)=false:=by simpa using hf
     simp only[hb,Bool.false_and,Bool.false_eq_true,if_false,List.lookup_cons,beq_self_eq_true]at h
     cases h
     rcases hk with e|e
     ·exact h0 e
     ·exact hf e
   subst this
   exact List.mem_cons_self
  ·have hb:(y==n)=false:=beq_eq_false_iff_ne.mpr hy
   have h':(r.map fun(n,k)=>if (k==NameKind.free&&X.env.scope.kind==.function&&X.env.kindOf n==some .cell)then(n,NameKind.cell)else(n,k)).lookup y=some k:=by
    split at h<;>simpa only[List.lookup_cons,hb]using h
   exact List.mem_cons_of_mem _ (ir (X:=X) h' hk TH)
theorem lx{X:Cx}:∀{names:List (Str×NameKind)}{y:Str},(y,NameKind.free)∈names→(∀z∈names,z.1=y→z.2= .free)→∃k,(k=NameKind.cell∨k= .free)∧
  (names.map fun(n,k)=>if (k==NameKind.free&&X.env.scope.kind==.function&&X.env.kindOf n==some .cell)then(n,NameKind.cell)else(n,k)).lookup y=some k
 |[],_,h,_=>nomatch h
 |(n,k0)::r,y,h,hu=>by
  rw[List.map_cons]
  dsimp only
  by_cases hy:y=n
  ·subst hy
   have:k0= .free:=hu (y,k0) List.mem_cons_self rfl
   subst this
   split
   ·exact⟨.cell,.inl rfl,by simp⟩
   ·exact⟨.free,.inr rfl,by simp⟩
  ·have hb:(y==n)=false:=beq_eq_false_iff_ne.mpr hy
   have hm:(y,NameKind.free)∈r:=by
    rcases List.mem_cons.mp h with e|h
    ·cases e;exact absurd rfl hy
    ·exact h
   obtain⟨k,hk,e⟩:=lx (X:=X) hm fun z hz=>hu z (List.mem_cons_of_mem _ hz)
   refine⟨k,hk,?_⟩
   split<;>simpa only[List.lookup_cons,hb]using e
theorem DR{pins:List (Addr×Obj)}{σ:St}{H:Hp}{s:Shared}{fp:List Addr}{h1:Heap}{m:Str→Option Value}{t':Nat}(B:lQ X scope N' cap)
  (I:Inv X pins σ H s)(hf:∀b∈fp,iN X pins H b)(ho:∀b∈fp,∃o,s.heap.get? b=some o)(keep:∀b o,s.heap.get? b=some o→h1.get? b=some o)(qB:h1.Ns s.heap.objs.size m):
  Inv (X.fO scope s.heap.objs.size N' s H fp) [] (pA σ cap) H { s with heap:=h1,toks:=t' }:=by
 have I1:Inv X pins σ H { s with heap:=h1,toks:=t' }:=I.kept keep
 have jF:∀y c,(dz X.env.cells scope.names []).lookup y=some c→X.env.cells.lookup y=some c:=fun y c h=>jQ h fun c' eE=>by simp at eE
 refine⟨⟨I.ok.mod,B.kind,I.ok.glob,I.ok.blt,Nat.le_refl _,fun y z c e1 e2=>I.ok.inj y z c (jF y c e1) (jF z c e2),fun y hy=>?_,fun y c e _=>absurd e (by simp),I.ok.hd,I.ok.frames,.inl rfl,fun b hb=>⟨?_,fun y c e=>(hf b hb).2.2.2.2.1 y c (jF y c e)⟩,fun b o e=>I.bs b o e,Nat.le_trans I.ok.pY I.sz,fun b o e hb=>?_,fun b hb hs=>?_,I.stack,I.vH⟩,
  rfl,I.bare,Un.kept keep,⟨m,qB,fun j y v e1 e2 e3=>?_⟩,fun y c e=>I1.cell y c (jF y c e),I.aR.fresh (Nat.le_refl _),fun y c e=>(I.fj y c (jF y c e)).imp id fun z=>⟨rfl,z.2⟩,fun p hp=>absurd hp (by simp),I1.aR,?_⟩
 ·-- has
  have ud:(y,NameKind.free)∈scope.names:=by
   rcases hy with hy|hy
   ·exact ir (X:=X) (k:=.cell) hy (.inl rfl) B.y9
   ·exact ir (X:=X) (k:=.free) hy (.inr rfl) B.y9
  exact hZ ud (I.ok.has y (B.frees (y,.free) ud rfl))
 ·-- fp below Dh OC frame
  obtain⟨o,e⟩:=ho b hb
  exact Nat.ne_of_lt (Heap.lt_size e)
 ·-- base
  rcases(hf b hb).2.2.2.1 with z|z
  ·exact I.ok.sW b o e z
  ·exact absurd (Nat.lt_of_lt_of_le (Heap.lt_size e) (Nat.le_trans I.ok.pY z)) (Nat.lt_irrefl _)
 ·-- frames
  rcases List.mem_cons.mp (I.ui b hs)with z|z
  ·exact(hf b hb).2.1 z
  ·exact(hf b hb).2.2.1 z
 ·-- NS values
  have hc:∃i,cap[j]? =some (some i)∧σ[i]? =some (some v):=by
   unfold pA at e2
   rw[List.getElem?_map]at e2
   cases e:cap[j]? with
   |none=>rw[e]at e2;cases e2
   |some o=>
    rw[e]at e2
    cases o with
    |none=>simp at e2
    |some i=>
     refine⟨i,rfl,?_⟩
     simp only[Option.map_some,Option.some.injEq]at e2
     cases q:σ[i]? with
     |none=>rw[q]at e2;cases e2
     |some w=>
      rw[q]at e2
      have GS:w=some v:=e2
      rw[GS]
  obtain⟨i,hi,hv⟩:=hc
  obtain⟨hN,nR⟩:=B.DP j i y hi e1
  obtain⟨m1,_,hl⟩:=I1.loc
  obtain⟨u,r,l⟩:=hl i y v hN hv (B.TF j i y hi e1)
  refine⟨u,r,.inr ?_⟩
  obtain⟨k,hk,ek⟩:=lx (X:=X) nR (B.un j i y hi e1)
  have uk:∃c,X.env.cells.lookup y=some c∧h1.IsCell c (some u):=by
   rcases l with⟨k1,_⟩|⟨_,c,e,z⟩
   ·rcases B.frees (y,.free) nR rfl with q|q
    ·rw[show X.env.kindOf y=some NameKind.local from k1]at q;cases q
    ·rw[show X.env.kindOf y=some NameKind.local from k1]at q;cases q
   ·exact⟨c,e,z⟩
  obtain⟨c,ec,zc⟩:=uk
  obtain⟨c',OD⟩:=hZ (cs:=[]) nR ⟨c,ec⟩
  have:c'=c:=by have:=jF y c' OD;rw[ec]at this;cases this;rfl
  subst this
  refine⟨?_,c',OD,zc⟩
  rcases hk with rfl|rfl
  ·exact .inl ek
  ·exact .inr ek
 ·show(pA σ cap).length=N'.length
  unfold pA
  rw[List.length_map];exact B.len
theorem qC{RR:Value→Addr→Result→Shared→Prop}{pins:List (Addr×Obj)}{σ:St}{H2:Hp}{s2:Shared}{it:Addr}{fp:List Addr}{tn:Nat→Heap→Prop}{J:It}{Q:VK}(B:lQ X scope N' cap)(hc:X.calm=true)
  (hg:∀C aW bW fp,PG (X.fO scope C N' aW bW fp) tg g)(ht:∀C aW bW fp,mS (X.fO scope C N' aW bW fp) ifs tt)(he:∀C aW bW fp,PE (X.fO scope C N' aW bW fp) elt te)
  (I2:Inv X pins σ H2 s2)(T:Turn X.prog X.w X.K tg J fp it tn)(qa:tn 0 s2.heap)(f2:∀b∈fp,iN X pins H2 b)
  (qD:∀l,H2 l=none→∃W:Nat→Nat→St→Hp→Prop,(∃m,W 0 m (pA σ cap) (upd H2 l (.lst [])))∧∀i m τ H2,W i m τ H2→
   (J.stop i H2∧Q (.ref l) H2)∨(J.go i H2∧∃N:St→Hp→Prop,(∀iP H',N iP H'→∃m',m'<m∧W (i+1) m' iP H')∧
    ∀x H',J.De i H2 x H'→g x τ H' fun uB H3=>tt uB H3 fun b H4=>if b=true then te uB H4 fun y H5=>∃ys,H5 l=some (.lst ys)∧ys.length<sizeLine∧N uB (upd H5 l (.lst (ys++[y])))else N uB H4))
  (fin:∀(D C:Addr) (o:Obj) (m:Str→Option Value) (H5:Hp) (s5:Shared),Inv X pins σ H5 s5→iN X pins H5 C→s5.heap.get? C=some o→(∀v,o.data≠.cell v)→s5.heap.Ns C m→Q (.ref D) H5→RR (.ref D) C (.ok .next) s5):
  wpAny (model X.prog X.w) X.A (newList []) (fun acc we=>wpAny (model X.prog X.w) X.A (newFunctionEnv scope X.env.globals (dz X.env.cells scope.names []) [] X.env.qual none .none (some X.env)) (fun Ji Al=>
   codeAny (model X.prog X.w) X.A (.compStart (.ListComp elt [⟨tg,iter,ifs,0⟩] scope pos) 0 (.ref it) acc { Ji with scope:=relabel scope X.env }) (RR acc Ji.locals) Al) X.xe we) X.xe s2:=by
 refine wpAny_newObj_type (wpAny_newFunctionEnv B.y9 (by intro y hy;simp at hy) (fun jE uC Am=>?_) B.kind)
 dsimp only at uC Am ⊢
 have I3:Inv X pins σ (upd H2 s2.heap.objs.size (.lst [])) { s2 with heap:=s2.heap.push { cls:=.type "list",dict:=none,data:=.seq ([]:List Value).toArray } }:=I2.Jf (t':=s2.toks) (its:=[]) (ys:=[]) .nil (Nat.zero_le _)
 have hD:H2 s2.heap.objs.size=none:=I2.fresh
 have OE:∀b∈fp,b≠s2.heap.objs.size:=fun b hb=>by
  obtain⟨o,e,_⟩:=T.obj 0 _ qa b hb
  exact Nat.ne_of_lt (Heap.lt_size e)
 have f3:∀b∈fp,iN X pins (upd H2 s2.heap.objs.size (.lst [])) b:=fun b hb=>⟨by rw[aF (OE b hb)];exact(f2 b hb).1,(f2 b hb).2⟩
 obtain⟨W,⟨m0,w0⟩,turn⟩:=qD s2.heap.objs.size hD
 generalize GU:({ s2 with heap:=s2.heap.push { cls:=.type "list",dict:=none,data:=.seq ([]:List Value).toArray } }:Shared)=s3 at I3
 have GV:s3.heap=s2.heap.push { cls:=.type "list",dict:=none,data:=.seq ([]:List Value).toArray }:=by rw[←GU]
 have keep:∀b o,s3.heap.get? b=some o→jE.get? b=some o:=fun b o e=>by
  have da:=Heap.lt_size e
  rw[GV]at e da
  exact Am.extBut b o (Nat.ne_of_lt da) (Heap.get?_push_of_some _ e)
 have TJ:∀b∈fp,∃o,s3.heap.get? b=some o:=fun b hb=>by
  obtain⟨o,e,_⟩:=T.obj 0 _ qa b hb
  exact⟨o,by rw[GV];exact Heap.get?_push_of_some _ e⟩
 have OF:s3.heap.objs.size=(s2.heap.push { cls:=.type "list",dict:=none,data:=.seq ([]:List Value).toArray }).objs.size:=by rw[GV]
 rw[←OF]at uC ⊢
 have J0:Inv (X.fO scope s3.heap.objs.size N' s3 (upd H2 s2.heap.objs.size (.lst [])) fp) [] (pA σ cap) (upd H2 s2.heap.objs.size (.lst [])) { s3 with heap:=jE,toks:=s3.toks }:=DR (t':=s3.toks) B I3 f3 TJ keep uC
 have OG:tn 0 jE:=T.keep 0 s2.heap jE qa fun b hb o e=>keep b o (by rw[GV];exact Heap.get?_push_of_some _ e)
 have es:({ s2 with heap:=jE,toks:=s2.toks+([]:List (Str×Value)).length }:Shared)= { s3 with heap:=jE,toks:=s3.toks }:=by
  rw[←GU];rfl
 have KU:∀{s5:Shared}{H5:Hp}{OH:St},Inv (X.fO scope s3.heap.objs.size N' s3 (upd H2 s2.heap.objs.size (.lst [])) fp) [] OH H5 s5→Inv X pins σ H5 s5:=fun {s5 H5 OH} J5=>
  I3.JZ (ch:=fp) J5.os J5.base J5.aR J5.bare fun b hb=>⟨(f3 b hb).2.2.2.1,(f3 b hb).2.1,(f3 b hb).2.2.2.2.1,(f3 b hb).2.2.2.2.2⟩
 have KW:∀{H':Hp},(∀b∈fp,H' b=none)→∀b∈fp,iN (X.fO scope s3.heap.objs.size N' s3 (upd H2 s2.heap.objs.size (.lst [])) fp) [] H' b:=fun {H'} hn b hb=>
  ⟨hn b hb,(J0.ok.C1 b hb).1,J0.ok.sX b hb,.inl hb,(J0.ok.C1 b hb).2,fun p hp=>absurd hp (by simp)⟩
 have loop:codeAny (model X.prog X.w) X.A (.compLoop (.ListComp elt [⟨tg,iter,ifs,0⟩] scope pos) 0 (.ref it) (.ref s2.heap.objs.size) (compEnvC scope (dz X.env.cells scope.names []) s3.heap.objs.size X.env))
   (RR (.ref s2.heap.objs.size) s3.heap.objs.size) { s3 with heap:=jE,toks:=s3.toks }:=by
  refine sC (fun n s'=>∃i τ H',Inv (X.fO scope s3.heap.objs.size N' s3 (upd H2 s2.heap.objs.size (.lst [])) fp) [] τ H' s'∧tn i s'.heap∧(∀b∈fp,H' b=none)∧W i n τ H') ?_ m0 ⟨0,_,_,J0,OG,fun b hb=>(f3 b hb).1,w0⟩
  rintro n s4 ⟨i,τ,H4,J4,OI,OJ,w4⟩
  rcases turn i n τ H4 w4 with⟨stop,q⟩|⟨go,N,hN,step⟩
  ·refine wpAny_mono (T.done (X.fO scope s3.heap.objs.size N' s3 (upd H2 s2.heap.objs.size (.lst [])) fp) rfl rfl rfl hc i [] s4 τ H4 (fun _ _=>False) J4 (KW OJ) OI stop) (fun r s5 aX=>?_) (fun _ _ f=>f)
   obtain⟨hr,J5⟩:=aX
   subst hr
   obtain⟨m5,OK,_⟩:=J5.loc
   have I5:Inv X pins σ H4 s5:=KU J5
   obtain⟨o5,Xg,Xh,TK,TL,_⟩:=id OK
   refine fin _ _ o5 m5 H4 s5 I5 ⟨J5.free,fun e=>?_,I3.IU (Nat.le_refl _),.inr I3.sz,fun y c e z=>?_,fun p hp z=>?_⟩ TK (fun v e=>?_) OK q
   ·have:=I3.lt
    rw[←e]at this
    exact Nat.lt_irrefl _ this
   ·obtain⟨v,o,vI,_⟩:=I3.cell y c e
    have:=Heap.lt_size vI
    rw[z]at this
    exact Nat.lt_irrefl _ this
   ·have:=Heap.lt_size (I3.pin p hp).1
    rw[z]at this
    exact Nat.lt_irrefl _ this
   ·rw[TL]at e;cases e
  ·refine wpAny_mono (T.item (X.fO scope s3.heap.objs.size N' s3 (upd H2 s2.heap.objs.size (.lst [])) fp) rfl rfl rfl hc i [] s4 τ H4 (fun _ _=>False) J4 (KW OJ) OI go) (fun r s5 aX=>?_) (fun _ _ f=>f)
   obtain⟨u,hr,h5⟩:=aX
   subst hr
   refine wpAny_mono h5 (fun _ s6 aX=>?_) (fun _ _ f=>f)
   obtain⟨xv,H6,J6,r6,y6,KY,TM⟩:=aX
   have TN:=J6.pinned (KW TM) (T.obj _ _ KY)
   have again:∀{s7:Shared}{sE:St}{H7:Hp},Inv (X.fO scope s3.heap.objs.size N' s3 (upd H2 s2.heap.objs.size (.lst [])) fp) ([]++mG fp s6.heap) sE H7 s7→N sE H7→∃m,m<n∧∃i τ H',Inv (X.fO scope s3.heap.objs.size N' s3 (upd H2 s2.heap.objs.size (.lst [])) fp) [] τ H' s7∧tn i s7.heap∧(∀b∈fp,H' b=none)∧W i m τ H':=fun {s7 sE H7} J7 n7=>by
    obtain⟨m',hm,w7⟩:=hN sE H7 n7
    refine⟨m',hm,i+1,sE,H7,J7.iO,T.keep _ _ _ KY fun b hb o e=>(J7.pin (b,o) (List.mem_append_right _ (List.mem_append_right _ (hU hb e)))).1,fun b hb=>?_,w7⟩
    obtain⟨o,e,d⟩:=T.obj _ _ KY b hb
    exact(J7.pin (b,o) (List.mem_append_right _ (List.mem_append_right _ (hU hb e)))).2.1
   refine wpAny_mono (hg s3.heap.objs.size s3 (upd H2 s2.heap.objs.size (.lst [])) fp _ s6 τ H6 xv u _ TN r6 (step xv H6 y6)) (fun _ s7 aX=>?_) (fun _ _ f=>f)
   obtain⟨sE,H7,J7,q7⟩:=aX
   refine wpAny_mono (ht s3.heap.objs.size s3 (upd H2 s2.heap.objs.size (.lst [])) fp _ s7 sE H7 _ J7 q7) (fun ok s8 aX=>?_) (fun _ _ f=>f)
   obtain⟨H8,J8,q8⟩:=aX
   cases ok with
   |false=>
    rw[if_neg (by decide)]at q8 ⊢
    exact again J8 q8
   |true=>
    rw[if_pos rfl]at q8 ⊢
    refine wpAny_mono (he s3.heap.objs.size s3 (upd H2 s2.heap.objs.size (.lst [])) fp _ s8 sE H8 _ J8 q8) (fun yv s9 aX=>?_) (fun _ _ f=>f)
    obtain⟨y,H9,J9,r9,q9⟩:=aX
    obtain⟨ys,hl,hz,n9⟩:=q9
    exact wpAny_mono (gA (X:=X.fO scope s3.heap.objs.size N' s3 (upd H2 s2.heap.objs.size (.lst [])) fp) _ s9 sE H9 (.ref s2.heap.objs.size) [y] (.ref s2.heap.objs.size) [yv] (fun _ H'=>N sE H') J9 rfl (.cons r9 .nil) ⟨_,ys,y,rfl,rfl,hl,hz,n9⟩) (fun _ Xi ⟨_,Xj,TR,_,TU⟩=>again TR TU) (fun _ _ f=>f)
 rw[es]
 exact codeAny_compStart_list loop (T.self _ 0 _ _ _ OG loop)
theorem DS(B:lQ X scope N' cap)(hc:X.calm=true)
  (hi:PI X tg iter wi)(hg:∀C aW bW fp,PG (X.fO scope C N' aW bW fp) tg g)(ht:∀C aW bW fp,mS (X.fO scope C N' aW bW fp) ifs tt)(he:∀C aW bW fp,PE (X.fO scope C N' aW bW fp) elt te)
  (hs:∀x,foldedSetIterable iter X.env x=pure x:=by intro _;rfl):
  PE X (.ListComp elt [⟨tg,iter,ifs,0⟩] scope pos) (y_ wi cap g tt te):=by
 intro pins s σ H Q I h
 rw[eval_ListComp]
 refine wpAny_comprehension_free (use:=none) rfl hs (gB fun y hy hf=>I.ok.has y.1 (B.frees y hy hf)) B.kind B.names ?_
 refine bj (hi pins s σ H _ I h) fun v s1 h1=>bj h1 fun Gm s2 h2=>?_
 obtain⟨it,fp,tn,J,H2,e,I2,T,qa,f2,qD⟩:=h2
 subst e
 refine qC (RR:=fun acc C=>compPost (model X.prog X.w) X.A X.xe none (EP X pins σ Q) acc C) B hc hg ht he I2 T qa f2 qD fun D C o m H5 s5 I5 f5 ho hd hn q=>?_
 refine⟨m,hn,fun h' wg=>?_⟩
 exact⟨.ref D,H5,I5.turned (t':=s5.toks) (it:=C) (fun b o hb e=>wg.extBut b o hb e) f5.1 (fun e=>f5.2.1 e) f5.2.2.2.1 f5.2.2.2.2.1 f5.2.2.2.2.2,rfl,q⟩
theorem DT{i:Nat}{y:Str}{py wj:Pos}(B:lQ X scope N' cap)(hc:X.calm=true)
  (hi:PI X tg iter wi)(hg:∀C aW bW fp,PG (X.fO scope C N' aW bW fp) tg g)(ht:∀C aW bW fp,mS (X.fO scope C N' aW bW fp) ifs tt)(he:∀C aW bW fp,PE (X.fO scope C N' aW bW fp) elt te)
  (hN:X.N.Nodup)(KZ:X.N[i]? =some y)(hy:Loc X.env.scope y)(K0:swapsWith (.ListComp elt [⟨tg,iter,ifs,0⟩] scope pos) (some (.Name y py)) wj.line X.env=pure true)
  (hf:X.fn y=true∨X.env.scope.names.lookup y=some .local:=by first|exact .inl rfl|exact .inr rfl|assumption)
  (hs:∀x,foldedSetIterable iter X.env x=pure x:=by intro _;rfl):
  PS X (.Assign [.Name y py] (.ListComp elt [⟨tg,iter,ifs,0⟩] scope pos) wj) (Dd (y_ wi cap g tt te) (aL i)):=by
 intro pins s σ H D I h
 rw[exec_Assign_Name_used _ _ _ _ K0]
 refine wpAny_bind (wpAny_standAt (wpAny_bind ?_))
 show wpAny _ X.A (do let _ ←comprehension (.ListComp elt [⟨tg,iter,ifs,0⟩] scope pos) scope X.env _ (newList []) false (eval iter X.env) (some (assign (.Name y py) X.env))) _ _ s
 refine wpAny_bind (wpAny_mono (wpAny_comprehension_free (use:=some (assign (.Name y py) X.env)) (Q:=fun _ s'=>SP X pins D .next s') rfl hs (gB fun y hy hf=>I.ok.has y.1 (B.frees y hy hf)) B.kind B.names
  (bj (hi pins s σ H _ I h) fun v s1 h1=>bj h1 fun Gm s2 h2=>?_)) (fun _ s' hq=>wpAny_pure (wpAny_pure hq)) fun _ _ e=>e)
 obtain⟨it,fp,tn,J,H2,e,I2,T,qa,f2,qD⟩:=h2
 subst e
 refine qC (Q:=fun v H'=>aL i v σ H' D.nx) (RR:=fun acc C=>compPost (model X.prog X.w) X.A X.xe (some (assign (.Name y py) X.env)) (fun _ s'=>SP X pins D .next s') acc C) B hc hg ht he I2 T qa f2 qD fun D' C o m H5 s5 I5 f5 ho hd hn q=>?_
 show wpAny _ X.A (assign (.Name y py) X.env (.ref D')) _ _ _
 have Kg:Inv X (pins++[(C,o)]) σ H5 s5:=I5.pZ fun p hp=>by
  rcases List.mem_append.mp hp with z|z
  ·exact I5.pin p (List.mem_append_right _ z)
  ·have:p=(C,o):=by simpa using z
   subst this
   exact⟨ho,f5.1,f5.2.1,f5.2.2.1,hd⟩
 refine bj (vM (pos:=py) hN KZ hy hf (pins++[(C,o)]) s5 σ H5 (.ref D') (.ref D') _ Kg rfl q) fun _ s6 aX=>?_
 obtain⟨Kh,H6,I6,q6⟩:=aX
 obtain⟨e6,n6,_⟩:=I6.pin (C,o) (List.mem_append_right _ (List.mem_append_right _ List.mem_cons_self))
 have TV:s6.heap.Ns C m:=by
  obtain⟨o',es,ep,q1,r⟩:=hn
  rw[ho]at q1;cases q1
  exact⟨o,es,ep,e6,r⟩
 refine⟨m,TV,fun h' wg=>⟨Kh,H6,I6.iO.turned (t':=s6.toks) (it:=C) (fun b o hb e=>wg.extBut b o hb e) n6 f5.2.1 f5.2.2.2.1 f5.2.2.2.2.1 f5.2.2.2.2.2,q6⟩⟩
end
end L2
namespace L2
open PySem PySem.Spec PyProof.Rows
end L2
namespace L2
open PySem PySem.Spec PyProof.Rows
end L2
namespace L2
open PySem PySem.Spec PyProof.Rows
mutual
inductive iQ(K:PySem.W.Frag)(H:Hp):V→PyData→Prop
 |bb:iQ K H .bb .none
 |bl (b:Bool):iQ K H (.bl b) (.bool b)
 |int (i:Int):iQ K H (.int i) (.int i)
 |str (x:Str):iQ K H (.str x) (.str x)
 |tup {p:Addr}{xs:List V}{ds:List PyData}:dk K H p xs→lS K H xs ds→iQ K H (.ref p) (.tuple ds)
 |lst {p:Addr}{xs:List V}{ds:List PyData}:cU K H p xs→lS K H xs ds→iQ K H (.ref p) (.list ds)
inductive lS(K:PySem.W.Frag)(H:Hp):List V→List PyData→Prop
 |nil:lS K H [] []
 |cons {x:V}{xs:List V}{d:PyData}{ds:List PyData}:iQ K H x d→lS K H xs ds→lS K H (x::xs) (d::ds)
end
section
variable{X:Cx}{pins:List (Addr×Obj)}{σ:St}{H:Hp}{s:Shared}
mutual
theorem iQ.reads(I:Inv X pins σ H s):∀{x:V}{d:PyData},iQ X.K H x d→∀{v:Value},RelV x v→∃as,Reads s.heap v d as
 |_,_,.bb,v,r=>by cases (show v=Value.none from r);exact⟨_,.none⟩
 |_,_,.bl b,v,r=>by cases (show v=Value.bool b from r);exact⟨_,.bool b⟩
 |_,_,.int i,v,r=>by
  obtain⟨t,e⟩:=(show ∃t,v=Value.int i t from r)
  cases e
  exact⟨_,.int i t⟩
 |_,_,.str x,v,r=>by
  obtain⟨t,e⟩:=(show ∃t,v=Value.str x t from r)
  cases e
  exact⟨_,.str x t⟩
 |_,_,.tup (p:=p) h a,v,r=>by
  cases (show v=Value.ref p from r)
  obtain⟨its,hv,⟨o,ho,hc,n,hd⟩,_⟩:=I.tuple h
  obtain⟨as,ra⟩:=lS.reads I a hv
  exact⟨as,.tuple ho hc hd (by simpa using ra)⟩
 |_,_,.lst (p:=p) h a,v,r=>by
  cases (show v=Value.ref p from r)
  obtain⟨its,hv,pl,_⟩:=I.list h
  obtain⟨o,ho,hc,n,hd⟩:=pl.isList
  obtain⟨as,ra⟩:=lS.reads I a hv
  exact⟨_,.list ho hc hd (by simpa using ra)⟩
theorem lS.reads(I:Inv X pins σ H s):∀{xs:List V}{ds:List PyData},lS X.K H xs ds→∀{us:List Value},Vals xs us→∃as,ReadsAll s.heap us ds as
 |_,_,.nil,_,.nil=>⟨_,.nil⟩
 |_,_,.cons h a,_,.cons r t=>by
  obtain⟨as,ra⟩:=iQ.reads I h r
  obtain⟨bs,rb⟩:=lS.reads I a t
  exact⟨_,.cons ra rb⟩
end
end
def tu(K:PySem.W.Frag)(neg:Bool):R2:=fun x y H Q=>∃d e,iQ K H x d∧iQ K H y e∧SeqAt.shaped d=true∧SeqAt.shaped e=true∧Q (.bl (if neg then !PyData.eqv d e else PyData.eqv d e)) H
section
variable{X:Cx}
theorem GW(hu:X.A.units+64<cLine):dm X (compareOp .Eq) (tu X.K false):=by
 intro pins s σ H x y v u Q I rx ry h
 obtain⟨d,e,h1,h2,s1,s2,q⟩:=h
 obtain⟨as,ra⟩:=h1.reads I rx
 obtain⟨bs,rb⟩:=h2.reads I ry
 exact eq_dataH ra rb s1 s2 hu ⟨.bl (PyData.eqv d e),H,I,rfl,q⟩
theorem GX(hu:X.A.units+64<cLine):dm X (compareOp .NotEq) (tu X.K true):=by
 intro pins s σ H x y v u Q I rx ry h
 obtain⟨d,e,h1,h2,s1,s2,q⟩:=h
 obtain⟨as,ra⟩:=h1.reads I rx
 obtain⟨bs,rb⟩:=h2.reads I ry
 exact ne_dataH ra rb s1 s2 hu ⟨.bl (!PyData.eqv d e),H,I,rfl,q⟩
def K1(i j k:Nat)(ta:TA):TS:=fun D σ H=>ta σ H fun vs H1=>∃u v w,vs=[u,v,w]∧D.nx (((σ.set i (some u)).set j (some v)).set k (some w)) H1
theorem DU{i j k:Nat}{x y z:Str}{a b c:Expr}{ta:TA}{px py pz pt pos:Pos}{kt k2 lM}(hc:X.calm=true)(hN:X.N.Nodup)(hi:X.N[i]? =some x)(hj:X.N[j]? =some y)(hk:X.N[k]? =some z)(eI:i≠j)(K2:i≠k)(K3:j≠k)
  (hx:X.env.scope.names.lookup x=some .local)(hy:X.env.scope.names.lookup y=some .local)(hz:X.env.scope.names.lookup z=some .local)(ha:PA X [a,b,c] ta)
  (hw:swappedStores [.Tuple [.Name x px,.Name y py,.Name z pz] kt pt] (.Tuple [a,b,c] k2 lM) X.env=pure (some [x,y,z]))
  (hs:swapsWithSole [.Tuple [.Name x px,.Name y py,.Name z pz] kt pt] (.Tuple [a,b,c] k2 lM) pos.line X.env=pure false:=by rfl):
  PS X (.Assign [.Tuple [.Name x px,.Name y py,.Name z pz] kt pt] (.Tuple [a,b,c] k2 lM) pos) (K1 i j k ta):=by
 intro pins s σ H D I h
 rw[exec_Assign_arm]
 refine wpAny_bind (wpAny_standAt ?_)
 rw[hs]
 refine wpAny_bind (wpAny_pure ?_)
 rw[if_neg (by decide)]
 refine wpAny_bind (Tuple_ (bj (ha _ pins s σ H _ I h) fun us s1 aX=>?_))
 obtain⟨vs,H1,I1,r1,q1⟩:=aX
 obtain⟨v1,v2,v3,e1,q1⟩:=q1
 subst e1
 obtain⟨u1,u2,u3,rfl,ra,rb,rc⟩:∃u1 u2 u3,us=[u1,u2,u3]∧RelV v1 u1∧RelV v2 u2∧RelV v3 u3:=by
  cases r1 with
  |cons p q=>
   cases q with
   |cons p' q'=>
    cases q' with
    |cons TX TY=>
     cases TY
     exact⟨_,_,_,rfl,p,p',TX⟩
 refine wpAny_newObj_type ?_ (by show 3≤sizeLine;decide)
 have I2:Inv X pins σ H1 { s1 with heap:=s1.heap.push { cls:=.type "tuple",data:=.seq [u1,u2,u3].toArray } }:=I1.kept (t':=s1.toks) fun b o e=>Heap.get?_push_of_some _ e
 rw[hw]
 refine wpAny_bind (wpAny_pure ?_)
 show wpAny (model X.prog X.w) X.A (do rule "assign.swapped-stores";let items ←unpackItems (.ref s1.heap.objs.size) 3 none;assignInOrder [fun v=>bindName X.env z v,fun v=>bindName X.env y v,fun v=>bindName X.env x v] items.reverse;pure Flow.next) _ _ _
 refine wpAny_bind (wpAny_rule (wpAny_bind (unpackItems_tuple (items:=#[u1,u2,u3]) (I.ok.hd hc) (IsTup.new s1.heap _) fun h' mq=>?_)))
 have I3:=I2.kept (h':=h') (t':=s1.toks) fun b o e=>mq b o (Nat.ne_of_lt (Heap.lt_size e)) e
 show wpAny _ _ (assignInOrder [fun v=>bindName X.env z v,fun v=>bindName X.env y v,fun v=>bindName X.env x v] [u3,u2,u1] >>= fun _=>pure Flow.next) _ _ _
 refine wpAny_bind (assignInOrder_cons (wpAny_bindName (fk I3 hN hk (.inl hz) rc (fun s2 I4=>?_) (.inr hz))))
 refine assignInOrder_cons (wpAny_bindName (fk I4 hN hj (.inl hy) rb (fun s3 I5=>?_) (.inr hy)))
 refine assignInOrder_cons (wpAny_bindName (fk I5 hN hi (.inl hx) ra (fun s4 I6=>assignInOrder_nil (wpAny_pure ?_)) (.inr hx)))
 have es:((σ.set k (some v3)).set j (some v2)).set i (some v1)=((σ.set i (some v1)).set j (some v2)).set k (some v3):=by
  rw[List.set_comm (some v2) (some v1) (Ne.symm eI),List.set_comm (some v3) (some v1) (Ne.symm K2),List.set_comm (some v3) (some v2) (Ne.symm K3)]
 rw[es]at I6
 exact⟨_,H1,I6,q1⟩
end
section
variable{X:Cx}
theorem lz{h:Heap}{d:PyData}{e:Value→Bool}:∀{us:List Value}{ds:List PyData}{as:List Addr},ReadsAll h us ds as→(∀u d' uD,u∈us→d'∈ds→Reads h u d' uD→e u=PyData.eqv d' d)→us.any e=ds.any fun d'=>PyData.eqv d' d
 |_,_,_,.nil,_=>rfl
 |_,_,_,.cons r t,h=>by
  rw[List.any_cons,List.any_cons,h _ _ _ List.mem_cons_self List.mem_cons_self r,lz t fun u d' uD hu hd r'=>h u d' uD (List.mem_cons_of_mem _ hu) (List.mem_cons_of_mem _ hd) r']
theorem readsAll_mem{h:Heap}:∀{us:List Value}{ds:List PyData}{as:List Addr},ReadsAll h us ds as→∀u∈us,∃d'∈ds,∃uD,Reads h u d' uD
 |_,_,_,.nil,_,hu=>nomatch hu
 |_,_,_,.cons r t,u,hu=>by
  rcases List.mem_cons.mp hu with rfl|hu
  ·exact⟨_,List.mem_cons_self,_,r⟩
  ·obtain⟨d',hd,uD,r'⟩:=readsAll_mem t u hu
   exact⟨d',List.mem_cons_of_mem _ hd,uD,r'⟩
open Classical in
noncomputable def qE(h:Heap)(d:PyData)(u:Value):Bool:=if e:∃d',PyData.canLay0 d'=true∧∃as,Reads h u d' as then PyData.eqv (Classical.choose e) d else false
theorem wk{h:Heap}{d d':PyData}{u:Value}{as:List Addr}(c:PyData.canLay0 d'=true)(r:Reads h u d' as):qE h d u=PyData.eqv d' d:=by
 have e:∃d',PyData.canLay0 d'=true∧∃as,Reads h u d' as:=⟨d',c,as,r⟩
 unfold qE
 rw[dif_pos e]
 obtain⟨c1,Xk,r1⟩:=Classical.choose_spec e
 rw[SeqAt.Reads.unique _ _ _ _ _ c1 r1 r]
end
end L2
namespace L2
open PySem PySem.W PySem.Spec
abbrev vE:List Value:=[.type "ValueError",.type "Exception",.type "BaseException",.type "object"]
structure TZ(K:Frag)(C S:Addr)(cd:ClassData):Prop where
 cls:clsIn K C=some cd
 mro:cd.mro= .ref C::.ref S::vE
 nX:cd.hasDict=true
 ty:typeIn K (.ref C)=some (.type "type")
 sa:findIn K (.ref C) "__setattr__" =some (some (.builtin "object.__setattr__"))
 ga:findIn K (.ref C) "__getattribute__" =some (some (.builtin "BaseException.__getattribute__"))
 gt:findIn K (.ref C) "__getattr__" =some none
 cl:findIn K (.ref C) "__class__" =some (some (.builtin "object.__class__"))
def xm(a:Addr)(o:Obj):HO:=.ext fun h=>h.get? a=some o
def xh(a:Addr)(o:Obj):HO:=.dP o (xm a o)
abbrev xo(C:Addr)(d:Option Addr)(vs:Array Value)(sl:Array (Option Value)):Obj:=⟨.ref C,d,.fields vs,sl⟩
def OL(H:Hp):Option Addr→Option Obj→Prop
 |some dx,some od=>H dx=some (xh dx od)
 |none,none=>True
 |_,_=>False
structure An(K:Frag)(H:Hp)(a C S:Addr)(vs:List (Key×V)):Prop where
 ex:∃(cd:ClassData) (d:Option Addr) (K4:Array Value) (sl:Array (Option Value)) (BB:Option Obj),TZ K C S cd∧H a=some (xh a (xo C d K4 sl))∧OL H d BB∧
  ∀(f:Str) (v:V),(Sum.inr f,v)∈vs→findIn K (.ref C) f=some none∧∃od u,BB=some od∧lookIn f od=some (some u)∧RelV v u
theorem An.up{K:Frag}{H H':Hp}{a C S:Addr}{vs:List (Key×V)}(h:An K H a C S vs)(fz:∀p o x,H p=some (.dP o x)→H' p=some (.dP o x)):An K H' a C S vs:=by
 obtain⟨cd,d,K4,sl,BB,h1,h2,h3,h4⟩:=h.ex
 refine⟨cd,d,K4,sl,BB,h1,fz _ _ _ h2,?_,h4⟩
 cases d with
 |none=>
  cases BB with
  |none=>exact True.intro
  |some od=>exact h3
 |some dx=>
  cases BB with
  |none=>exact h3
  |some od=>exact fz _ _ _ h3
end L2
namespace Qm
open PySem
structure bD where
 params:Arguments
 body:Expr
 scope:Scope
 qual:Str
 code:Nat
 pos:Pos
 free:List Str
end Qm
namespace L2
open PySem PySem.W PySem.Spec PyProof.Rows
structure mT(H:Hp)(a:Addr)(t:Qm.bD)(vs:List V):Prop where
 ex:∃(bX:List (Str×Addr)) (pm jR:Value) (c':Addr) (oc:Obj) (fs:Array Value) (tk:Tok),H a=some (xh a (kla_obj "<lambda>" t.qual t.params t.body t.scope bX pm c' jR))∧
  H c'=some (xh c' oc)∧oc.data= .fields fs∧fs[1]? =some (.str t.qual tk)∧(∀x y c,bX.lookup x=some c→bX.lookup y=some c→x=y)∧
  (∀x c,bX.lookup x=some c→x∈t.free)∧vs.length=t.free.length∧
  ∀(i:Nat) (x:Str) (v:V),t.free[i]? =some x→vs[i]? =some v→∃c o u u0,bX.lookup x=some c∧H c=some (.dP o u0)∧o.data= .cell (some u)∧RelV v u
theorem mT.up{H H':Hp}{a:Addr}{t:Qm.bD}{vs:List V}(h:mT H a t vs)(fz:∀p o x,H p=some (.dP o x)→H' p=some (.dP o x)):mT H' a t vs:=by
 obtain⟨bX,pm,jR,c',oc,fs,tk,h1,h2,h3,h4,h5,h6,h7,h8⟩:=h.ex
 refine⟨bX,pm,jR,c',oc,fs,tk,fz _ _ _ h1,fz _ _ _ h2,h3,h4,h5,h6,h7,fun i x v e1 e2=>?_⟩
 obtain⟨c,o,u,u0,g1,g2,g3⟩:=h8 i x v e1 e2
 exact⟨c,o,u,u0,g1,fz _ _ _ g2,g3⟩
structure mU(K:Frag)(H:Hp)(cd:Addr)(q:Str)(P:Addr):Prop where
 hd:codeHdIn K cd P=true
 ex:∃ps:Array Value,H P=some (.jH ps)∧TriplesOk ps.toList∧∀pos cv,codeAmong pos ps.toList=some cv→∃c' oc fs tk,cv= .ref c'∧H c'=some (xh c' oc)∧oc.data= .fields fs∧fs[1]? =some (.str q tk)
theorem mU.up{K:Frag}{H H':Hp}{cd P:Addr}{q:Str}(h:mU K H cd q P)(fz:∀p o x,H p=some (.dP o x)→H' p=some (.dP o x))(hs:∀o,H P=some o→H' P=some o):mU K H' cd q P:=by
 obtain⟨ps,h1,h2,h3⟩:=h.ex
 refine⟨h.hd,ps,hs _ h1,h2,fun pos cv e=>?_⟩
 obtain⟨c',oc,fs,tk,g1,g2,g3⟩:=h3 pos cv e
 exact⟨c',oc,fs,tk,g1,fz _ _ _ g2,g3⟩
end L2
namespace Qm
open PySem
noncomputable section
inductive D where
 |bb|bl(b:Bool)|int(i:Int)|str(x:Str)|tup(xs:List D)|ref(n:Nat)|ty(n:String)|adr(a:Nat)|qF(t:bD)(bs:List D)
inductive Cell where
 |lst(xs:List D)
 |ro(xs:List D)
 |nX(ps:List (Str×D))
 |za(ps:List (Str×D))
 |mV(ps:List (List Int×D))
 |BC(ps:List (List (List Int)×D))
 |qG(ps:List (List (List Int)×D))
 |exc(C S:Nat)(fs:List (Str×D))
 |tab(cd:Nat)(q:Str)
def Cell.mt:Cell→Bool
 |.ro _=>false
 |.za _=>false
 |.qG _=>false
 |.exc _ _ _=>false
 |_=>true
abbrev Cells:=List Cell
abbrev Env:=List (Option D)
abbrev XE:=Env→Cells→Option (D×Cells)
abbrev XA:=Env→Cells→Option (List D×Cells)
abbrev XT:=Env→Cells→Option (Bool×Cells)
abbrev XO:=Env→Cells→Option (Option Int×Cells)
inductive Fl where
 |nx|rt(d:D)|bk|ct
abbrev XS:=Env→Cells→Option (Fl×Env×Cells)
abbrev XG:=D→Env→Cells→Option (Env×Cells)
abbrev sF:=List D→Env→Cells→Option (Env×Cells)
abbrev FN:=List D→Cells→Option (D×Cells)
structure Itm where
 ds:List D
 ks:List (Nat×Cell)
abbrev XI:=Env→Cells→Option (Itm×Cells)
abbrev G1:=D→Cells→Option (D×Cells)
abbrev G2:=D→D→Cells→Option (D×Cells)
def cD:Nat:=Classical.choose (⟨10000000,rfl⟩:∃n:Nat,n=10000000)
theorem eO:cD=10000000:=Classical.choose_spec (⟨10000000,rfl⟩:∃n:Nat,n=10000000)
def eC(d:D):XE:=fun _ c=>some (d,c)
def eV(i:Nat):XE:=fun σ c=>(σ[i]?.join).bind fun d=>some (d,c)
def e1(g:G1)(a:XE):XE:=fun σ c=>(a σ c).bind fun p=>g p.1 p.2
def e2(g:G2)(a b:XE):XE:=fun σ c=>(a σ c).bind fun p=>(b σ p.2).bind fun q=>g p.1 q.1 q.2
def nY(d:D):Option Bool:=match d with
 |.bl b=>some b
 |_=>none
def Ao(a b:XE):XE:=fun σ c=>(a σ c).bind fun p=>(nY p.1).bind fun k=>if k=true then b σ p.2 else some (.bl false,p.2)
def T4(a b:XE):XE:=fun σ c=>(a σ c).bind fun p=>(nY p.1).bind fun k=>if k=true then some (.bl true,p.2)else b σ p.2
def Ap(a:XE):XE:=fun σ c=>(a σ c).bind fun p=>(nY p.1).bind fun k=>some (.bl (!k),p.2)
def K5(t:XT)(a b:XE):XE:=fun σ c=>(t σ c).bind fun p=>if p.1=true then a σ p.2 else b σ p.2
def ao:XA:=fun _ c=>some ([],c)
def af(a:XE)(r:XA):XA:=fun σ c=>(a σ c).bind fun p=>(r σ p.2).bind fun q=>some (p.1::q.1,q.2)
def fW(a:XA):XE:=fun σ c=>(a σ c).bind fun p=>if p.1.length≤cD then some (.tup p.1,p.2)else none
def h9(a:XA):XE:=fun σ c=>(a σ c).bind fun p=>if p.1.length≤cD then some (.ref p.2.length,p.2++[.lst p.1])else none
def ax(F:FN)(ds:List D)(a:XA):XE:=fun σ c=>(a σ c).bind fun p=>F (p.1++ds) p.2
def eB(F:FN)(a:XA):XE:=fun σ c=>(a σ c).bind fun p=>F p.1 p.2
def zb:XO:=fun _ c=>some (none,c)
def fP(a:XE):XO:=fun σ c=>(a σ c).bind fun p=>match p.1 with
 |.int i=>some (some i,p.2)
 |_=>none
def zd(g:D→Option Int→Option Int→Cells→Option (D×Cells))(a:XE)(lo hi:XO):XE:=fun σ c=>(a σ c).bind fun p=>(lo σ p.2).bind fun l=>(hi σ l.2).bind fun h=>g p.1 l.1 h.1 h.2
def pN(g h:G2)(a b d:XE):XE:=fun σ c=>(a σ c).bind fun p=>(b σ p.2).bind fun q=>(g p.1 q.1 q.2).bind fun z=>(nY z.1).bind fun k=>
 if k=true then(d σ z.2).bind fun u=>h q.1 u.1 u.2 else some (.bl false,z.2)
def tV(a:XE):XT:=fun σ c=>(a σ c).bind fun p=>(nY p.1).bind fun k=>some (k,p.2)
def oR(a b:XT):XT:=fun σ c=>(a σ c).bind fun p=>if p.1=true then b σ p.2 else some (false,p.2)
def p7(a b:XT):XT:=fun σ c=>(a σ c).bind fun p=>if p.1=true then some (true,p.2)else b σ p.2
def jD(a:XT):XT:=fun σ c=>(a σ c).bind fun p=>some (!p.1,p.2)
def bP:XS:=fun σ c=>some (.nx,σ,c)
def aB(a b:XS):XS:=fun σ c=>(a σ c).bind fun p=>match p.1 with
 |.nx=>b p.2.1 p.2.2
 |_=>some p
def aI(i:Nat)(e:XE):XS:=fun σ c=>(e σ c).bind fun p=>some (.nx,σ.set i (some p.1),p.2)
def wm(e:XE)(g:XG):XS:=fun σ c=>(e σ c).bind fun p=>(g p.1 σ p.2).bind fun q=>some (.nx,q.1,q.2)
def tw(is:List Nat)(a:XA):XS:=fun σ c=>(a σ c).bind fun p=>if p.1.length=is.length then some (.nx,(is.zip p.1).foldl (fun σ q=>σ.set q.1 (some q.2)) σ,p.2)else none
def cX(t:XT)(a b:XS):XS:=fun σ c=>(t σ c).bind fun p=>if p.1=true then a σ p.2 else b σ p.2
def bC(e:XE):XS:=fun σ c=>(e σ c).bind fun p=>some (.rt p.1,σ,p.2)
def gC(e:XE):XS:=fun σ c=>(e σ c).bind fun p=>some (.nx,σ,p.2)
def aL(i:Nat):XG:=fun d σ c=>some (σ.set i (some d),c)
def p8:sF:=fun ds σ c=>match ds with
 |[]=>some (σ,c)
 |_=>none
def ja(g:XG)(r:sF):sF:=fun ds σ c=>match ds with
 |d::t=>(g d σ c).bind fun p=>r t p.1 p.2
 |[]=>none
def p9(n:Nat)(g:sF):XG:=fun d σ c=>match d with
 |.tup xs=>if xs.length=n then g xs σ c else none
 |_=>none
def stays(ks:List (Nat×Cell))(c:Cells):Prop:=∀p∈ks,c[p.1]? =some p.2
open Classical in
def gD(ks:List (Nat×Cell))(g:XG)(body:XS):List D→XS
 |[],σ,c=>if stays ks c then some (.nx,σ,c)else none
 |d::r,σ,c=>if stays ks c then(g d σ c).bind fun p=>(body p.1 p.2).bind fun q=>(match q.1 with
   |.nx=>gD ks g body r q.2.1 q.2.2
   |.ct=>gD ks g body r q.2.1 q.2.2
   |.bk=>some (.nx,q.2.1,q.2.2)
   |.rt d=>some (.rt d,q.2.1,q.2.2))else none
def dO(it:XI)(g:XG)(body:XS):XS:=fun σ c=>(it σ c).bind fun p=>gD p.1.ks g body p.1.ds σ p.2
def fE(t:XT)(b:XS):Nat→XS
 |0,_,_=>none
 |n+1,σ,c=>(t σ c).bind fun p=>if p.1=true then(b σ p.2).bind fun q=>(match q.1 with
   |.nx=>fE t b n q.2.1 q.2.2
   |.ct=>fE t b n q.2.1 q.2.2
   |.bk=>some (.nx,q.2.1,q.2.2)
   |.rt d=>some (.rt d,q.2.1,q.2.2))else some (.nx,σ,p.2)
open Classical in
def cV(t:XT)(b:XS):XS:=fun σ c=>if h:∃n r,fE t b n σ c=some r then fE t b (Classical.choose h) σ c else none
def jS(σ:Env)(cap:List (Option Nat)):Env:=cap.map fun o=>match o with
 |some i=>(match σ[i]? with|some v=>v|none=>none)
 |none=>none
open Classical in
def cW(L:Nat)(ks:List (Nat×Cell))(g:XG)(tt:XT)(te:XE):List D→Env→Cells→Option Cells
 |[],_,c=>if stays ks c then some c else none
 |d::r,τ,c=>if stays ks c then(g d τ c).bind fun p=>(tt p.1 p.2).bind fun b=>if b.1=true then(te p.1 b.2).bind fun y=>
   (match y.2[L]? with
    |some (.lst ys)=>if ys.length<cD then cW L ks g tt te r p.1 (y.2.set L (.lst (ys++[y.1])))else none
    |_=>none)else cW L ks g tt te r p.1 b.2 else none
def cR(it:XI)(cap:List (Option Nat))(g:XG)(tt:XT)(te:XE):XE:=fun σ c=>(it σ c).bind fun p=>
 (cW p.2.length p.1.ks g tt te p.1.ds (jS σ cap) (p.2++[.lst []])).bind fun c'=>some (.ref p.2.length,c')
def eL:XT:=fun _ c=>some (true,c)
def eP(n N:Nat)(b:XS):FN:=fun ds c=>if ds.length=n then(b (ds.map some++List.replicate (N - n) none) c).bind fun p=>(match p.1 with
 |.rt d=>some (d,p.2.2)
 |.nx=>some (.bb,p.2.2)
 |_=>none)else none
def bM(d:D)(c:Cells):Option (List D):=match d with
 |.tup xs=>some xs
 |.ref n=>(match c[n]? with
  |some (.lst xs)=>some xs
  |some (.ro xs)=>some xs
  |_=>none)
 |_=>none
def br(d:D)(c:Cells):Option (Nat×List D):=match d with
 |.ref n=>(match c[n]? with
  |some (.lst xs)=>some (n,xs)
  |_=>none)
 |_=>none
def pB(d:D):Option Int:=match d with
 |.int i=>some i
 |_=>none
def ii(f:Int→Int→Option D):G2:=fun x y c=>(pB x).bind fun i=>(pB y).bind fun j=>(f i j).bind fun d=>some (d,c)
def MulOk(i j:Int):Prop:=(My.Bd 90000 i∧My.Bd 90000 j)∨(My.Bd 64 i∨My.Bd 64 j)
open Classical in
def aH:G2:=ii fun i j=>if MulOk i j then some (.int (i*j))else none
def cp:G2:=ii fun i j=>some (.int (i - j))
open Classical in
def dr:G2:=ii fun i j=>if j≠0∧My.Bd 8900 j then some (.int (i.fdiv j))else none
def e9:G2:=ii fun i j=>if j≠0 then some (.int (i.fmod j))else none
def tD:G2:=ii fun i j=>if 0≤j∧j≤100∧i.natAbs<1000 then some (.int (i ^ j.toNat))else none
def sG:G2:=ii fun i j=>some (.bl (decide (i<j)))
def BD:G2:=ii fun i j=>some (.bl (decide (i≤j)))
def sH:G2:=ii fun i j=>some (.bl (decide (j<i)))
def T5:G2:=ii fun i j=>some (.bl (decide (j≤i)))
def bA:G2:=fun x y c=>match x,y with
 |.int i,.int j=>some (.int (i+j),c)
 |.tup xs,.tup ys=>if xs≠[]∧xs.length+ys.length≤cD then some (.tup (xs++ys),c)else none
 |x,y=>(br x c).bind fun p=>(br y c).bind fun q=>if p.2.length+q.2.length≤cD then some (.ref c.length,c++[.lst (p.2++q.2)])else none
def Aq:G1:=fun x c=>(pB x).bind fun i=>some (.int (-i),c)
def omap{α β:Type}(f:α→Option β):List α→Option (List β)
 |[]=>some []
 |x::xs=>(f x).bind fun d=>(omap f xs).bind fun ds=>some (d::ds)
def data(c:Cells):Nat→D→Option PyData
 |0,_=>none
 |k+1,d=>match d with
  |.bb=>some .none
  |.int i=>some (.int i)
  |.str x=>if x.cps.all (·<1114112)=true then some (.str x)else none
  |.tup xs=>(omap (data c k) xs).bind fun ds=>some (.tuple ds)
  |.ref n=>(match c[n]? with
   |some (.lst xs)=>(omap (data c k) xs).bind fun ds=>some (.list ds)
   |some (.ro xs)=>(omap (data c k) xs).bind fun ds=>some (.list ds)
   |_=>none)
  |_=>none
open Classical in
def nZ(x y:D)(c:Cells):Option Bool:=match x,y with
 |.bl a,.bl b=>some (a==b)
 |x,y=>(data c 6 x).bind fun d=>(data c 6 y).bind fun e=>some (decide (d=e))
def iR:G2:=fun x y c=>(nZ x y c).bind fun b=>some (.bl b,c)
def iS:G2:=fun x y c=>(nZ x y c).bind fun b=>some (.bl (!b),c)
def W_:G2:=fun x y c=>match y with
 |.bb=>some (.bl (match x with|.bb=>true|_=>false),c)
 |_=>none
def lT:G2:=fun x y c=>match y with
 |.bb=>some (.bl (match x with|.bb=>false|_=>true),c)
 |_=>none
open Classical in
def K6(x y:D)(c:Cells):Option Bool:=(bM y c).bind fun xs=>(data c 5 x).bind fun d=>(omap (data c 5) xs).bind fun ds=>some (decide (d∈ds))
def BE:G2:=fun x y c=>(K6 x y c).bind fun b=>some (.bl b,c)
def pC(n:Nat)(i:Int):Option Nat:=if 0≤i then(if i<n then some i.toNat else none)else if -(n:Int)≤i then some (i+n).toNat else none
def fZ{α:Type}(xs:List α)(i:Int):Option α:=(pC xs.length i).bind fun j=>xs[j]?
def aA:G2:=fun x y c=>(bM x c).bind fun xs=>(pB y).bind fun i=>(fZ xs i).bind fun d=>some (d,c)
def ze(n d:Nat):Option Int→Nat
 |none=>d
 |some v=>if v<0 then(v+n).toNat else min v.toNat n
def cutD{α:Type}(xs:List α)(lo hi:Option Int):List α:=(xs.drop (ze xs.length 0 lo)).take (ze xs.length xs.length hi - ze xs.length 0 lo)
def lA(x:D)(lo hi:Option Int)(c:Cells):Option (D×Cells):=match x with
 |.tup xs=>some (.tup (cutD xs lo hi),c)
 |x=>(bM x c).bind fun xs=>some (.ref c.length,c++[.lst (cutD xs lo hi)])
def Ar(o i:XE):XG:=fun d σ c=>(o σ c).bind fun p=>(i σ p.2).bind fun q=>(br p.1 q.2).bind fun l=>(pB q.1).bind fun k=>(pC l.2.length k).bind fun j=>some (σ,q.2.set l.1 (.lst (l.2.set j d)))
def one(g:G1):FN:=fun ds c=>match ds with
 |[x]=>g x c
 |_=>none
def two(g:G2):FN:=fun ds c=>match ds with
 |[x,y]=>g x y c
 |_=>none
def tE:FN:=one fun x c=>(pB x).bind fun i=>some (.int (if i<0 then -i else i),c)
def cy:FN:=one fun x c=>(bM x c).bind fun xs=>some (.int xs.length,c)
def As:FN:=one fun x c=>match x with
 |.int i=>some (.int i,c)
 |.bl k=>some (.int (if k then 1 else 0),c)
 |_=>none
def n8:FN:=two (ii fun i j=>some (.int (if j > i then j else i)))
def K7:FN:=two (ii fun i j=>some (.int (if j<i then j else i)))
def qH:FN:=one fun x c=>(bM x c).bind fun xs=>some (.ref c.length,c++[.lst xs])
def uE(n:String)(d:D)(c:Cells):Option Bool:=match d with
 |.int _=>if n= "int" then some true else if n= "bool" then some false else none
 |.bl _=>if n= "bool" then some true else none
 |.tup _=>if n= "tuple" then some true else none
 |.ref m=>(match c[m]? with
  |some (.lst _)=>if n= "list" then some true else none
  |_=>none)
 |_=>none
def gE:FN:=two fun x y c=>match y with
 |.ty n=>(uE n x c).bind fun k=>some (.bl k,c)
 |_=>none
def Jj(xs ys:List D):List D:=(xs.zip ys).map fun p=>.tup [p.1,p.2]
def eM(g:D→FN)(o:XE)(a:XA):XE:=fun σ c=>(o σ c).bind fun p=>(br p.1 p.2).bind fun _=>(a σ p.2).bind fun q=>g p.1 q.1 q.2
def cH(o:D):FN:=one fun y c=>(br o c).bind fun l=>if l.2.length<cD then some (.bb,c.set l.1 (.lst (l.2++[y])))else none
def jT(o:D):FN:=one fun y c=>(br o c).bind fun l=>(br y c).bind fun z=>if l.2.length+z.2.length≤cD then some (.bb,c.set l.1 (.lst (l.2++z.2)))else none
def IX(a:XE):XI:=fun σ c=>(a σ c).bind fun p=>match p.1 with
 |.tup xs=>some (⟨xs,[]⟩,p.2)
 |_=>none
def fX(a:XE):XI:=fun σ c=>(a σ c).bind fun p=>match p.1 with
 |.ref n=>(p.2[n]?).bind fun z=>(bM (.ref n) p.2).bind fun xs=>some (⟨xs,[(n,z)]⟩,p.2)
 |_=>none
def dI(lo:Int)(n:Nat):List D:=(List.range n).map fun(i:Nat)=>.int (lo+i)
structure DV(j:Int):Prop where
 lo: -(2 ^ 62)≤j
 hi:j<2 ^ 62
open Classical in
def cx(a:XA):XI:=fun σ c=>(a σ c).bind fun p=>match p.1 with
 |[.int j]=>if DV j then some (⟨dI 0 j.toNat,[]⟩,p.2)else none
 |_=>none
open Classical in
def jL(a:XA):XI:=fun σ c=>(a σ c).bind fun p=>match p.1 with
 |[.int i,.int j]=>if DV i∧DV j then some (⟨dI i (j - i).toNat,[]⟩,p.2)else none
 |_=>none
theorem je{t:XT}{b:XS}:∀{n k:Nat}{σ:Env}{c:Cells}{r},fE t b n σ c=some r→fE t b (n+k) σ c=some r
 |0,_,_,_,_,h=>by simp[fE]at h
 |n+1,k,σ,c,r,h=>by
  rw[show n+1+k=(n+k)+1 by omega]
  simp only[fE]at h ⊢
  cases ht:t σ c with
  |none=>rw[ht]at h;simp at h
  |some p=>
   rw[ht]at h
   simp only[Option.bind_some]at h ⊢
   split
   ·rename_i hp
    rw[if_pos hp]at h
    cases hb:b σ p.2 with
    |none=>rw[hb]at h;simp at h
    |some q=>
     rw[hb]at h
     simp only[Option.bind_some]at h ⊢
     obtain⟨f,σ',c'⟩:=q
     cases f with
     |nx=>exact je h
     |ct=>exact je h
     |bk=>exact h
     |rt d=>exact h
   ·rename_i hp
    rw[if_neg hp]at h
    exact h
theorem qI{t:XT}{b:XS}{n:Nat}{σ:Env}{c:Cells}{r}(h:fE t b n σ c=some r):cV t b σ c=some r:=by
 have hx:∃n r,fE t b n σ c=some r:=⟨n,r,h⟩
 unfold cV
 rw[dif_pos hx]
 obtain⟨r',h'⟩:=Classical.choose_spec hx
 have h1:=je (k:=n) h'
 have h2:=je (k:=Classical.choose hx) h
 rw[Nat.add_comm]at h2
 rw[h']
 exact h1.symm.trans h2
theorem qJ{t:XT}{b:XS}{σ:Env}{c:Cells}{r}(h:cV t b σ c=some r):∃n,fE t b n σ c=some r:=by
 unfold cV at h
 split at h
 ·exact⟨_,h⟩
 ·cases h
theorem f_{t:XT}{b:XS}{σ:Env}{c c':Cells}(h:t σ c=some (false,c')):cV t b σ c=some (.nx,σ,c'):=
 qI (n:=1) (by simp[fE,h])
theorem lU{t:XT}{b:XS}{σ σ':Env}{c c' c2:Cells}{r}(h:t σ c=some (true,c'))(hb:b σ c'=some (.nx,σ',c2))(hr:cV t b σ' c2=some r):cV t b σ c=some r:=by
 obtain⟨n,hn⟩:=qJ hr
 exact qI (n:=n+1) (by simp[fE,h,hb,hn])
end
end Qm
namespace L2
open PySem PySem.Spec PyProof.Rows
theorem aE{α β:Type}{x:Option α}{f:α→Option β}{z:β}(h:x.bind f=some z):∃a,x=some a∧f a=some z:=by
 cases x with
 |none=>cases h
 |some a=>exact⟨a,rfl,h⟩
theorem jU{n:Nat}(h:n≤Qm.cD):n≤sizeLine:=Nat.le_trans h (by rw[Qm.eO,sizeLine_eq];decide)
theorem qK{n:Nat}(h:n<Qm.cD):n<sizeLine:=Nat.lt_of_lt_of_le h (by rw[Qm.eO,sizeLine_eq];decide)
mutual
inductive RD(K:PySem.W.Frag)(ρ:Nat→Addr)(N:Nat)(H:Hp):Qm.D→V→Prop
 |bb:RD K ρ N H .bb .bb
 |bl (b:Bool):RD K ρ N H (.bl b) (.bl b)
 |int (i:Int):RD K ρ N H (.int i) (.int i)
 |str (x:Str):RD K ρ N H (.str x) (.str x)
 |ty (n:String):RD K ρ N H (.ty n) (.ty n)
 |tup {p:Addr}{xs:List V}{ds:List Qm.D}:H p=some (.tup xs)→RA K ρ N H ds xs→RD K ρ N H (.tup ds) (.ref p)
 |ref {n:Nat}:n<N→RD K ρ N H (.ref n) (.ref (ρ n))
 |adr (a:Nat):RD K ρ N H (.adr a) (.ref a)
 |qF {a:Addr}{t:Qm.bD}{ds:List Qm.D}{vs:List V}:mT H a t vs→RA K ρ N H ds vs→RD K ρ N H (.qF t ds) (.ref a)
inductive RA(K:PySem.W.Frag)(ρ:Nat→Addr)(N:Nat)(H:Hp):List Qm.D→List V→Prop
 |nil:RA K ρ N H [] []
 |cons {d:Qm.D}{ds:List Qm.D}{x:V}{xs:List V}:RD K ρ N H d x→RA K ρ N H ds xs→RA K ρ N H (d::ds) (x::xs)
end
structure Up(K:PySem.W.Frag)(ρ:Nat→Addr)(N:Nat)(H:Hp)(aM:Nat→Addr)(N':Nat)(H':Hp):Prop where
 agree:∀n,n<N→aM n=ρ n
 len:N≤N'
 ts:∀p xs,H p=some (.tup xs)→H' p=some (.tup xs)
 fz:∀p o x,H p=some (.dP o x)→H' p=some (.dP o x)
section
variable{K:PySem.W.Frag}{ρ aM wo:Nat→Addr}{N N' OM:Nat}{H H' DW:Hp}
theorem Up.refl:Up K ρ N H ρ N H:=⟨fun _ _=>rfl,Nat.le_refl _,fun _ _ h=>h,fun _ _ _ h=>h⟩
theorem Up.trans(a:Up K ρ N H aM N' H')(b:Up K aM N' H' wo OM DW):Up K ρ N H wo OM DW:=
 ⟨fun n h=>(b.agree n (Nat.lt_of_lt_of_le h a.len)).trans (a.agree n h),Nat.le_trans a.len b.len,fun p xs h=>b.ts p xs (a.ts p xs h),fun p o x h=>b.fz p o x (a.fz p o x h)⟩
mutual
theorem RD.up(u:Up K ρ N H aM N' H'):∀{d:Qm.D}{v:V},RD K ρ N H d v→RD K aM N' H' d v
 |_,_,.bb=>.bb
 |_,_,.bl b=>.bl b
 |_,_,.int i=>.int i
 |_,_,.str x=>.str x
 |_,_,.ty n=>.ty n
 |_,_,.adr a=>.adr a
 |_,_,.qF h a=>.qF (h.up u.fz) (RA.up u a)
 |_,_,.tup h a=>.tup (u.ts _ _ h) (RA.up u a)
 |_,_,.ref (n:=n) h=>by rw[←u.agree n h];exact .ref (Nat.lt_of_lt_of_le h u.len)
theorem RA.up(u:Up K ρ N H aM N' H'):∀{ds:List Qm.D}{vs:List V},RA K ρ N H ds vs→RA K aM N' H' ds vs
 |_,_,.nil=>.nil
 |_,_,.cons h a=>.cons (RD.up u h) (RA.up u a)
end
theorem RA.length:∀{ds:List Qm.D}{vs:List V},RA K ρ N H ds vs→ds.length=vs.length
 |_,_,.nil=>rfl
 |_,_,.cons _ a=>congrArg (·+1) (RA.length a)
theorem RA.append:∀{ds es:List Qm.D}{vs us:List V},RA K ρ N H ds vs→RA K ρ N H es us→RA K ρ N H (ds++es) (vs++us)
 |_,_,_,_,.nil,b=>b
 |_,_,_,_,.cons h a,b=>.cons h (RA.append a b)
theorem RA.get:∀{ds:List Qm.D}{vs:List V}{i:Nat}{d:Qm.D},RA K ρ N H ds vs→ds[i]? =some d→∃v,vs[i]? =some v∧RD K ρ N H d v
 |_,_,_,_,.nil,e=>by simp at e
 |_,_,0,_,.cons h _,e=>by simp at e;subst e;exact⟨_,rfl,h⟩
 |_,_,i+1,d,.cons _ a,e=>by
  obtain⟨v,h1,h2⟩:=RA.get (i:=i) (d:=d) a (by simpa using e)
  exact⟨v,by simpa using h1,h2⟩
theorem RA.take:∀{ds:List Qm.D}{vs:List V} (n:Nat),RA K ρ N H ds vs→RA K ρ N H (ds.take n) (vs.take n)
 |_,_,0,_=>.nil
 |_,_,_+1,.nil=>.nil
 |_,_,n+1,.cons h a=>.cons h (RA.take n a)
theorem RA.drop:∀{ds:List Qm.D}{vs:List V} (n:Nat),RA K ρ N H ds vs→RA K ρ N H (ds.drop n) (vs.drop n)
 |_,_,0,a=>a
 |_,_,_+1,.nil=>.nil
 |_,_,n+1,.cons _ a=>RA.drop n a
theorem RA.set{d:Qm.D}{v:V}(r:RD K ρ N H d v):∀{ds:List Qm.D}{vs:List V} (n:Nat),RA K ρ N H ds vs→RA K ρ N H (ds.set n d) (vs.set n v)
 |_,_,_,.nil=>.nil
 |_,_,0,.cons _ a=>.cons r a
 |_,_,n+1,.cons h a=>.cons h (RA.set r n a)
theorem RA.one{d:Qm.D}{v:V}(h:RD K ρ N H d v):RA K ρ N H [d] [v]:=.cons h .nil
theorem RA.iT{d:Qm.D}{vs:List V}(h:RA K ρ N H [d] vs):∃v,vs=[v]∧RD K ρ N H d v:=by
 cases h with
 |cons r t=>cases t;exact⟨_,rfl,r⟩
theorem RA.tF{d e:Qm.D}{vs:List V}(h:RA K ρ N H [d,e] vs):∃v u,vs=[v,u]∧RD K ρ N H d v∧RD K ρ N H e u:=by
 cases h with
 |cons r t=>obtain⟨u,rfl,q⟩:=RA.iT t;exact⟨_,_,rfl,r,q⟩
theorem RA.ON{vs:List V}(h:RA K ρ N H [] vs):vs=[]:=by cases h;rfl
theorem RD.dA{i:Int}{v:V}(h:RD K ρ N H (.int i) v):v= .int i:=by cases h;rfl
theorem RD.qL{b:Bool}{v:V}(h:RD K ρ N H (.bl b) v):v= .bl b:=by cases h;rfl
theorem RD.Jk{v:V}(h:RD K ρ N H .bb v):v= .bb:=by cases h;rfl
theorem RD.mZ{ds:List Qm.D}{v:V}(h:RD K ρ N H (.tup ds) v):∃p xs,v= .ref p∧H p=some (.tup xs)∧RA K ρ N H ds xs:=by cases h with|tup a b=>exact⟨_,_,rfl,a,b⟩
theorem RD.oU{n:Nat}{v:V}(h:RD K ρ N H (.ref n) v):v= .ref (ρ n)∧n<N:=by cases h with|ref h=>exact⟨rfl,h⟩
end
def Au(K:PySem.W.Frag)(H:Hp)(a:Addr)(xs:List V):Prop:=(∃o,H a=some (.dP o (.lst xs)))∨cU K (fun _=>none) a xs
theorem Au.seq{K:PySem.W.Frag}{H:Hp}{a:Addr}{xs:List V}(h:Au K H a xs):cU K H a xs:=by
 rcases h with⟨o,h⟩|h
 ·exact .inl (.inr ⟨o,h⟩)
 ·rcases h with(h|⟨o,h⟩)|h
  ·cases h
  ·cases h
  ·exact .inr h
inductive RK(K:PySem.W.Frag)(ρ:Nat→Addr)(N:Nat)(H:Hp):List (Str×Qm.D)→List (Key×V)→Prop
 |nil:RK K ρ N H [] []
 |cons {k:Str}{d:Qm.D}{ds:List (Str×Qm.D)}{x:V}{xs:List (Key×V)}:RD K ρ N H d x→RK K ρ N H ds xs→RK K ρ N H ((k,d)::ds) ((.inr k,x)::xs)
theorem RK.up{K:PySem.W.Frag}{ρ aM:Nat→Addr}{N N':Nat}{H H':Hp}(u:Up K ρ N H aM N' H'):∀{ds:List (Str×Qm.D)}{vs:List (Key×V)},RK K ρ N H ds vs→RK K aM N' H' ds vs
 |_,_,.nil=>.nil
 |_,_,.cons h a=>.cons (h.up u) (RK.up u a)
inductive du(K:PySem.W.Frag)(ρ:Nat→Addr)(N:Nat)(H:Hp):List (List Int×Qm.D)→List (List Key×V)→Prop
 |nil:du K ρ N H [] []
 |cons {k:List Int}{d:Qm.D}{ds:List (List Int×Qm.D)}{x:V}{xs:List (List Key×V)}:RD K ρ N H d x→du K ρ N H ds xs→du K ρ N H ((k,d)::ds) ((k.map Sum.inl,x)::xs)
inductive pD(K:PySem.W.Frag)(ρ:Nat→Addr)(N:Nat)(H:Hp):List (List (List Int)×Qm.D)→List (List (List Key)×V)→Prop
 |nil:pD K ρ N H [] []
 |cons {k:List (List Int)}{d:Qm.D}{ds:List (List (List Int)×Qm.D)}{x:V}{xs:List (List (List Key)×V)}:RD K ρ N H d x→pD K ρ N H ds xs→pD K ρ N H ((k,d)::ds) ((k.map (List.map Sum.inl),x)::xs)
theorem du.up{K:PySem.W.Frag}{ρ aM:Nat→Addr}{N N':Nat}{H H':Hp}(u:Up K ρ N H aM N' H'):∀{ds:List (List Int×Qm.D)}{vs:List (List Key×V)},du K ρ N H ds vs→du K aM N' H' ds vs
 |_,_,.nil=>.nil
 |_,_,.cons h a=>.cons (h.up u) (du.up u a)
theorem pD.up{K:PySem.W.Frag}{ρ aM:Nat→Addr}{N N':Nat}{H H':Hp}(u:Up K ρ N H aM N' H'):∀{ds:List (List (List Int)×Qm.D)}{vs:List (List (List Key)×V)},pD K ρ N H ds vs→pD K aM N' H' ds vs
 |_,_,.nil=>.nil
 |_,_,.cons h a=>.cons (h.up u) (pD.up u a)
def CO(K:PySem.W.Frag)(ρ:Nat→Addr)(N:Nat)(H:Hp)(a:Addr):Qm.Cell→Prop
 |.lst ds=>∃vs,H a=some (.lst vs)∧RA K ρ N H ds vs
 |.ro ds=>∃vs,Au K H a vs∧RA K ρ N H ds vs
 |.nX ds=>∃vs,H a=some (.dK vs)∧RK K ρ N H ds vs
 |.za ds=>∃o vs,H a=some (.dP o (.dK vs))∧RK K ρ N H ds vs
 |.mV ds=>∃vs,H a=some (.dT vs)∧du K ρ N H ds vs
 |.BC ds=>∃vs,H a=some (.dU vs)∧pD K ρ N H ds vs
 |.qG ds=>∃o vs,H a=some (.dP o (.dU vs))∧pD K ρ N H ds vs
 |.exc C S ds=>∃vs,An K H a C S vs∧RK K ρ N H ds vs
 |.tab cd q=>mU K H cd q a
structure RS(K:PySem.W.Frag)(ρ:Nat→Addr)(c:Qm.Cells)(H:Hp):Prop where
 inj:∀(i j:Nat) (z y:Qm.Cell),c[i]? =some z→c[j]? =some y→z.mt=true→y.mt=true→ρ i=ρ j→i=j
 ok:∀(n:Nat) (z:Qm.Cell),c[n]? =some z→CO K ρ c.length H (ρ n) z
structure RE(K:PySem.W.Frag)(ρ:Nat→Addr)(N:Nat)(H:Hp)(env:Qm.Env)(σ:St):Prop where
 len:env.length=σ.length
 at_:∀(i:Nat) (d:Qm.D),env[i]? =some (some d)→∃v:V,σ[i]? =some (some v)∧RD K ρ N H d v
structure Nx(K:PySem.W.Frag)(ρ:Nat→Addr)(c:Qm.Cells)(H:Hp)(aM:Nat→Addr)(c':Qm.Cells)(H':Hp):Prop where
 up:Up K ρ c.length H aM c'.length H'
 rs:RS K aM c' H'
section
variable{K:PySem.W.Frag}{ρ aM wo:Nat→Addr}{N N':Nat}{c c' pE:Qm.Cells}{H H' DW:Hp}{env:Qm.Env}{σ:St}
theorem RE.up(h:RE K ρ N H env σ)(u:Up K ρ N H aM N' H'):RE K aM N' H' env σ:=⟨h.len,fun i d e=>let ⟨v,h1,h2⟩:=h.at_ i d e;⟨v,h1,h2.up u⟩⟩
theorem Nx.refl(r:RS K ρ c H):Nx K ρ c H ρ c H:=⟨Up.refl,r⟩
theorem Nx.trans(a:Nx K ρ c H aM c' H')(b:Nx K aM c' H' wo pE DW):Nx K ρ c H wo pE DW:=⟨a.up.trans b.up,b.rs⟩
theorem CO.up{a:Addr}{z:Qm.Cell}(h:CO K ρ N H a z)(u:Up K ρ N H aM N' H')(hs:∀o,H a=some o→H' a=some o):CO K aM N' H' a z:=by
 cases z with
 |lst ds=>obtain⟨vs,h1,h2⟩:=h;exact⟨vs,hs _ h1,h2.up u⟩
 |ro ds=>
  obtain⟨vs,h1,h2⟩:=h
  refine⟨vs,?_,h2.up u⟩
  rcases h1 with⟨o,h1⟩|h1
  ·exact .inl ⟨o,hs _ h1⟩
  ·exact .inr h1
 |nX ds=>obtain⟨vs,h1,h2⟩:=h;exact⟨vs,hs _ h1,h2.up u⟩
 |za ds=>obtain⟨o,vs,h1,h2⟩:=h;exact⟨o,vs,hs _ h1,h2.up u⟩
 |mV ds=>obtain⟨vs,h1,h2⟩:=h;exact⟨vs,hs _ h1,h2.up u⟩
 |BC ds=>obtain⟨vs,h1,h2⟩:=h;exact⟨vs,hs _ h1,h2.up u⟩
 |qG ds=>obtain⟨o,vs,h1,h2⟩:=h;exact⟨o,vs,hs _ h1,h2.up u⟩
 |exc C S ds=>obtain⟨vs,h1,h2⟩:=h;exact⟨vs,h1.up u.fz,h2.up u⟩
 |tab cd q=>exact mU.up h u.fz hs
theorem CO.obj{a:Addr}{z:Qm.Cell}(h:CO K ρ N H a z)(m:z.mt=true):∃o,H a=some o∧(∀xs,o≠.tup xs)∧∀q x,o≠.dP q x:=by
 cases z with
 |lst ds=>obtain⟨vs,h1,_⟩:=h;exact⟨_,h1,(fun _ z=>by cases z),(fun _ _ z=>by cases z)⟩
 |ro ds=>cases m
 |za ds=>cases m
 |nX ds=>obtain⟨vs,h1,_⟩:=h;exact⟨_,h1,(fun _ z=>by cases z),(fun _ _ z=>by cases z)⟩
 |mV ds=>obtain⟨vs,h1,_⟩:=h;exact⟨_,h1,(fun _ z=>by cases z),(fun _ _ z=>by cases z)⟩
 |BC ds=>obtain⟨vs,h1,_⟩:=h;exact⟨_,h1,(fun _ z=>by cases z),(fun _ _ z=>by cases z)⟩
 |qG ds=>cases m
 |exc C S ds=>cases m
 |tab cd q=>obtain⟨ps,h1,_⟩:=mU.ex h;exact⟨_,h1,(fun _ z=>by cases z),(fun _ _ z=>by cases z)⟩
theorem RE.set{d:Qm.D}{v:V}{i:Nat}(h:RE K ρ N H env σ)(r:RD K ρ N H d v):RE K ρ N H (env.set i (some d)) (σ.set i (some v)):=by
 refine⟨by rw[List.length_set,List.length_set];exact h.len,fun j e he=>?_⟩
 rw[List.getElem?_set]at he ⊢
 have hl:=h.len
 by_cases eI:i=j
 ·rw[if_pos eI]at he ⊢
  subst eI
  split at he
  ·rename_i da
   rw[if_pos (by omega)]
   cases he
   exact⟨v,rfl,r⟩
  ·cases he
 ·rw[if_neg eI]at he ⊢
  exact h.at_ j e he
theorem Nx.same(r:RS K ρ c H)(e:Ag H H'):Nx K ρ c H ρ c H':=by
 have u:Up K ρ c.length H ρ c.length H':=⟨fun _ _=>rfl,Nat.le_refl _,fun p xs h=>e _ _ h,fun p o x h=>e _ _ h⟩
 exact⟨u,r.inj,fun n z hz=>(r.ok n z hz).up u (fun o h=>e _ _ h)⟩
theorem Nx.Av(r:RS K ρ c H){l:Addr}(hl:H l=none){z:Qm.Cell}{o:HO}(hz:∀aM N' H',Up K ρ c.length H aM N' H'→H' l=some o→CO K aM N' H' l z):Nx K ρ c H (fun n=>if n=c.length then l else ρ n) (c++[z]) (upd H l o)∧RD K (fun n=>if n=c.length then l else ρ n) (c++[z]).length (upd H l o) (.ref c.length) (.ref l):=by
 have hlen:(c++[z]).length=c.length+1:=by simp
 have u:Up K ρ c.length H (fun n=>if n=c.length then l else ρ n) (c++[z]).length (upd H l o):=by
  refine⟨fun n h=>if_neg (by omega),by omega,fun p xs h=>eJ h hl,fun p o x h=>eJ h hl⟩
 refine⟨⟨u,fun i j x y h1 h2 m1 m2 e=>?_,fun n z' BF=>?_⟩,?_⟩
 ·have Xl:i<c.length+1:=by rw[←hlen];exact(List.getElem?_eq_some_iff.mp h1).1
  have Xm:j<c.length+1:=by rw[←hlen];exact(List.getElem?_eq_some_iff.mp h2).1
  have fresh:∀k y,k<c.length→(c++[z])[k]? =some y→y.mt=true→ρ k≠l:=fun k y hk hz m e'=>by
   rw[List.getElem?_append_left hk]at hz
   obtain⟨o',h',_⟩:=(r.ok k _ hz).obj m
   rw[e',hl]at h';cases h'
  by_cases hi:i=c.length<;>by_cases hj:j=c.length
  ·omega
  ·exfalso
   simp only[hi,if_true,if_neg hj]at e
   exact fresh j y (by omega) h2 m2 e.symm
  ·exfalso
   simp only[hj,if_true,if_neg hi]at e
   exact fresh i x (by omega) h1 m1 e
  ·simp only[if_neg hi,if_neg hj]at e
   rw[List.getElem?_append_left (by omega)]at h1 h2
   exact r.inj i j x y h1 h2 m1 m2 e
 ·have lt:n<c.length+1:=by rw[←hlen];exact(List.getElem?_eq_some_iff.mp BF).1
  by_cases hn:n=c.length
  ·subst hn
   have:z'=z:=by simpa using BF.symm
   subst this
   simp only[if_true]
   exact hz _ _ _ u bN
  ·simp only[if_neg hn]
   rw[List.getElem?_append_left (by omega)]at BF
   exact(r.ok n z' BF).up u (fun o h=>eJ h hl)
 ·have:=RD.ref (K:=K) (ρ:=fun n=>if n=c.length then l else ρ n) (N:=(c++[z]).length) (H:=upd H l o) (n:=c.length) (by omega)
  simpa using this
theorem Nx.alloc(r:RS K ρ c H){l:Addr}(hl:H l=none){ds:List Qm.D}{vs:List V}(a:RA K ρ c.length H ds vs):Nx K ρ c H (fun n=>if n=c.length then l else ρ n) (c++[.lst ds]) (upd H l (.lst vs))∧RD K (fun n=>if n=c.length then l else ρ n) (c++[Qm.Cell.lst ds]).length (upd H l (.lst vs)) (.ref c.length) (.ref l):=
 Nx.Av r hl fun _ _ _ u h=>⟨vs,h,a.up u⟩
theorem Nx.Jl(r:RS K ρ c H){n:Nat}{y z:Qm.Cell}(hn:c[n]? =some y)(my:y.mt=true){o:HO}(hz:∀N' H',Up K ρ c.length H ρ N' H'→H' (ρ n)=some o→CO K ρ N' H' (ρ n) z):Nx K ρ c H ρ (c.set n z) (upd H (ρ n) o):=by
 obtain⟨w,hw,hk⟩:=(r.ok n _ hn).obj my
 have da:n<c.length:=(List.getElem?_eq_some_iff.mp hn).1
 have DX:∀{p:Addr}{q:HO},H p=some q→((∃ys,q= .tup ys)∨∃o x,q= .dP o x)→p≠ρ n:=fun {p q} h h1 e=>by
  rw[e,hw]at h;cases h
  rcases h1 with⟨_,rfl⟩|⟨_,_,rfl⟩
  ·exact hk.1 _ rfl
  ·exact hk.2 _ _ rfl
 have u:Up K ρ c.length H ρ (c.set n z).length (upd H (ρ n) o):=by
  refine⟨fun _ _=>rfl,by rw[List.length_set];exact Nat.le_refl _,fun p ys h=>?_,fun p q x h=>?_⟩
  ·rw[aF (DX h (.inl ⟨_,rfl⟩))];exact h
  ·rw[aF (DX h (.inr ⟨_,_,rfl⟩))];exact h
 have look:∀{j:Nat}{x:Qm.Cell},j≠n→(c.set n z)[j]? =some x→c[j]? =some x:=fun {j x} hj hx=>by
  rw[List.getElem?_set,if_neg (fun e=>hj e.symm)]at hx;exact hx
 have back:∀{j:Nat}{x:Qm.Cell},(c.set n z)[j]? =some x→x.mt=true→∃x',c[j]? =some x'∧x'.mt=true:=fun {j x} hx m=>by
  by_cases hj:j=n
  ·subst hj;exact⟨y,hn,my⟩
  ·exact⟨x,look hj hx,m⟩
 refine⟨u,fun i j p q h1 h2 m1 m2 e=>?_,fun j x hx=>?_⟩
 ·obtain⟨_,g1,w1⟩:=back h1 m1
  obtain⟨_,g2,w2⟩:=back h2 m2
  exact r.inj i j _ _ g1 g2 w1 w2 e
 ·by_cases hj:j=n
  ·subst hj
   have:x=z:=by
    rw[List.getElem?_set,if_pos rfl,if_pos da]at hx;cases hx;rfl
   subst this
   exact hz _ _ u bN
  ·have mq:=look hj hx
   by_cases hm:x.mt=true
   ·have hp:ρ j≠ρ n:=fun e=>hj (r.inj j n _ _ mq hn hm my e)
    exact(r.ok j _ mq).up u (fun ys h=>by rw[aF hp];exact h)
   ·cases x with
    |lst zs=>exact absurd rfl hm
    |nX zs=>exact absurd rfl hm
    |mV zs=>exact absurd rfl hm
    |BC zs=>exact absurd rfl hm
    |tab cd q=>exact absurd rfl hm
    |za zs=>
     obtain⟨o',zf,h1,h2⟩:=r.ok j _ mq
     exact⟨o',zf,by rw[aF (DX h1 (.inr ⟨_,_,rfl⟩))];exact h1,h2.up u⟩
    |qG zs=>
     obtain⟨o',zf,h1,h2⟩:=r.ok j _ mq
     exact⟨o',zf,by rw[aF (DX h1 (.inr ⟨_,_,rfl⟩))];exact h1,h2.up u⟩
    |exc C S zs=>
     obtain⟨zf,h1,h2⟩:=r.ok j _ mq
     exact⟨zf,h1.up u.fz,h2.up u⟩
    |ro zs=>
     obtain⟨zf,h1,h2⟩:=r.ok j _ mq
     refine⟨zf,?_,h2.up u⟩
     rcases h1 with⟨o,h1⟩|h1
     ·exact .inl ⟨o,by rw[aF (DX h1 (.inr ⟨_,_,rfl⟩))];exact h1⟩
     ·exact .inr h1
theorem Nx.put(r:RS K ρ c H){n:Nat}{xs:List Qm.D}(hn:c[n]? =some (.lst xs)){ds:List Qm.D}{vs:List V}(a:RA K ρ c.length H ds vs):Nx K ρ c H ρ (c.set n (.lst ds)) (upd H (ρ n) (.lst vs)):=
 Nx.Jl r hn rfl fun _ _ u h=>⟨vs,h,a.up u⟩
theorem RS.lst(r:RS K ρ c H){n:Nat}{ds:List Qm.D}(h:c[n]? =some (.lst ds)):∃vs,H (ρ n)=some (.lst vs)∧RA K ρ c.length H ds vs:=r.ok n _ h
theorem RS.seq(r:RS K ρ c H){d:Qm.D}{ds:List Qm.D}{v:V}(h:RD K ρ c.length H d v)(e:Qm.bM d c=some ds):∃p vs,v= .ref p∧(cU K H p vs∨H p=some (.tup vs))∧RA K ρ c.length H ds vs:=by
 unfold Qm.bM at e
 split at e
 ·cases e
  obtain⟨p,xs,rfl,h1,h2⟩:=h.mZ
  exact⟨p,xs,rfl,.inr h1,h2⟩
 ·rename_i n
  obtain⟨rfl,hn⟩:=h.oU
  split at e
  ·rename_i xs hx
   cases e
   obtain⟨vs,h1,h2⟩:=r.lst hx
   exact⟨_,vs,rfl,.inl (cU.of h1),h2⟩
  ·rename_i xs hx
   cases e
   obtain⟨vs,h1,h2⟩:=r.ok n _ hx
   exact⟨_,vs,rfl,.inl h1.seq,h2⟩
  ·cases e
 ·cases e
theorem uF{d:Qm.D}{c:Qm.Cells}{ds:List Qm.D}(e:Qm.bM d c=some ds):d= .tup ds∨∃n,d= .ref n:=by
 unfold Qm.bM at e
 split at e
 ·cases e;exact .inl rfl
 ·exact .inr ⟨_,rfl⟩
 ·cases e
theorem RS.DY(r:RS K ρ c H){n:Nat}{ds:List Qm.D}{v:V}(h:RD K ρ c.length H (.ref n) v)(e:Qm.bM (.ref n) c=some ds):∃vs,v= .ref (ρ n)∧cU K H (ρ n) vs∧RA K ρ c.length H ds vs:=by
 obtain⟨rfl,hn⟩:=h.oU
 unfold Qm.bM at e
 dsimp only at e
 split at e
 ·rename_i xs hx
  cases e
  obtain⟨vs,h1,h2⟩:=r.lst hx
  exact⟨vs,rfl,cU.of h1,h2⟩
 ·rename_i xs hx
  cases e
  obtain⟨vs,h1,h2⟩:=r.ok n _ hx
  exact⟨vs,rfl,h1.seq,h2⟩
 ·cases e
theorem RS.br(r:RS K ρ c H){d:Qm.D}{n:Nat}{ds:List Qm.D}{v:V}(h:RD K ρ c.length H d v)(e:Qm.br d c=some (n,ds)):d= .ref n∧c[n]? =some (.lst ds)∧∃vs,v= .ref (ρ n)∧H (ρ n)=some (.lst vs)∧RA K ρ c.length H ds vs:=by
 unfold Qm.br at e
 split at e
 ·obtain⟨rfl,hn⟩:=h.oU
  split at e
  ·rename_i xs hx
   cases e
   obtain⟨vs,h1,h2⟩:=r.lst hx
   exact⟨rfl,hx,vs,rfl,h1,h2⟩
  ·cases e
 ·cases e
end
def TQ(K:PySem.W.Frag)(f:Qm.XE):TE:=fun σ H Q=>∃ρ env c d c',RS K ρ c H∧RE K ρ c.length H env σ∧f env c=some (d,c')∧∀aM v H',Nx K ρ c H aM c' H'→RD K aM c'.length H' d v→Q v H'
def AQ(K:PySem.W.Frag)(f:Qm.XA):TA:=fun σ H Q=>∃ρ env c ds c',RS K ρ c H∧RE K ρ c.length H env σ∧f env c=some (ds,c')∧∀aM vs H',Nx K ρ c H aM c' H'→RA K aM c'.length H' ds vs→Q vs H'
def BQ(K:PySem.W.Frag)(f:Qm.XT):TT:=fun σ H Q=>∃ρ env c b c',RS K ρ c H∧RE K ρ c.length H env σ∧f env c=some (b,c')∧∀aM H',Nx K ρ c H aM c' H'→Q b H'
def OQ(K:PySem.W.Frag)(f:Qm.XO):TO:=fun σ H Q=>∃ρ env c o c',RS K ρ c H∧RE K ρ c.length H env σ∧f env c=some (o,c')∧∀aM H',Nx K ρ c H aM c' H'→Q o H'
def OO(K:PySem.W.Frag)(ρ:Nat→Addr)(c:Qm.Cells)(H:Hp)(env:Qm.Env)(D:Ends):Qm.Fl→Prop
 |.nx=>∀σ,RE K ρ c.length H env σ→D.nx σ H
 |.bk=>∀σ,RE K ρ c.length H env σ→D.bk σ H
 |.ct=>∀σ,RE K ρ c.length H env σ→D.ct σ H
 |.rt d=>∀v,RD K ρ c.length H d v→D.rt v H
def SQ(K:PySem.W.Frag)(f:Qm.XS):TS:=fun D σ H=>∃ρ env c fl bQ c',RS K ρ c H∧RE K ρ c.length H env σ∧f env c=some (fl,bQ,c')∧∀aM H',Nx K ρ c H aM c' H'→OO K aM c' H' bQ D fl
def GQ(K:PySem.W.Frag)(g:Qm.XG):TG:=fun v σ H Q=>∃ρ env c d bQ c',RS K ρ c H∧RE K ρ c.length H env σ∧RD K ρ c.length H d v∧g d env c=some (bQ,c')∧∀aM H' σ',Nx K ρ c H aM c' H'→RE K aM c'.length H' bQ σ'→Q σ' H'
def T6(K:PySem.W.Frag)(g:Qm.sF):um:=fun vs σ H Q=>∃ρ env c ds bQ c',RS K ρ c H∧RE K ρ c.length H env σ∧RA K ρ c.length H ds vs∧g ds env c=some (bQ,c')∧∀aM H' σ',Nx K ρ c H aM c' H'→RE K aM c'.length H' bQ σ'→Q σ' H'
def DZ(K:PySem.W.Frag)(zg:Nat→Addr)(N0:Nat)(H0:Hp)(m:Qm.Itm)(J:It):Prop:=∀ρ c H,Up K zg N0 H0 ρ c.length H→RS K ρ c H→Qm.stays m.ks c→
 (∀i,i<m.ds.length→J.go i H)∧J.stop m.ds.length H∧∀i d x H',m.ds[i]? =some d→J.De i H x H'→Nx K ρ c H ρ c H'∧RD K ρ c.length H' d x
def IQ(K:PySem.W.Frag)(f:Qm.XI):TI:=fun σ H R=>∃ρ env c m c',RS K ρ c H∧RE K ρ c.length H env σ∧f env c=some (m,c')∧∀aM J H',Nx K ρ c H aM c' H'→DZ K aM c'.length H' m J→R J H'
abbrev QE(X:Cx)(e:Expr)(f:Qm.XE):Prop:=PE X e (TQ X.K f)
abbrev QA(X:Cx)(es:List Expr)(f:Qm.XA):Prop:=PA X es (AQ X.K f)
abbrev QT(X:Cx)(e:Expr)(f:Qm.XT):Prop:=PT X e (BQ X.K f)
abbrev QW(X:Cx)(e:Expr)(f:Qm.XT):Prop:=PW X e (BQ X.K f)
abbrev QO(X:Cx)(e:Option Expr)(f:Qm.XO):Prop:=PO X e (OQ X.K f)
abbrev QS(X:Cx)(e:Stmt)(f:Qm.XS):Prop:=PS X e (SQ X.K f)
abbrev sI(X:Cx)(e:List Stmt)(f:Qm.XS):Prop:=jK X e (SQ X.K f)
abbrev QG(X:Cx)(e:Expr)(f:Qm.XG):Prop:=PG X e (GQ X.K f)
abbrev GY(X:Cx)(e:List Expr)(f:Qm.sF):Prop:=vL X e (T6 X.K f)
abbrev QI(X:Cx)(tg e:Expr)(f:Qm.XI):Prop:=PI X tg e (IQ X.K f)
abbrev Aw(X:Cx)(e:List Expr)(f:Qm.XT):Prop:=mS X e (BQ X.K f)
section
variable{X:Cx}
theorem PE.imp{e:Expr}{t t':TE}(h:PE X e t)(k:∀σ H Q,t' σ H Q→t σ H Q):PE X e t':=fun pins s σ H Q I q=>h pins s σ H Q I (k σ H Q q)
theorem PT.imp{e:Expr}{t t':TT}(h:PT X e t)(k:∀σ H Q,t' σ H Q→t σ H Q):PT X e t':=fun pins s σ H Q I q=>h pins s σ H Q I (k σ H Q q)
theorem PW.imp{e:Expr}{t t':TT}(h:PW X e t)(k:∀σ H Q,t' σ H Q→t σ H Q):PW X e t':=fun wh pins s σ H Q I q=>h wh pins s σ H Q I (k σ H Q q)
theorem PA.imp{e:List Expr}{t t':TA}(h:PA X e t)(k:∀σ H Q,t' σ H Q→t σ H Q):PA X e t':=fun pos pins s σ H Q I q=>h pos pins s σ H Q I (k σ H Q q)
theorem PS.imp{e:Stmt}{t t':TS}(h:PS X e t)(k:∀D σ H,t' D σ H→t D σ H):PS X e t':=fun pins s σ H D I q=>h pins s σ H D I (k D σ H q)
theorem jK.imp{e:List Stmt}{t t':TS}(h:jK X e t)(k:∀D σ H,t' D σ H→t D σ H):jK X e t':=fun pins s σ H D I q=>h pins s σ H D I (k D σ H q)
theorem PO.imp{e:Option Expr}{t t':TO}(h:PO X e t)(k:∀σ H Q,t' σ H Q→t σ H Q):PO X e t':=fun pins s σ H Q I q=>h pins s σ H Q I (k σ H Q q)
theorem PG.imp{e:Expr}{t t':TG}(h:PG X e t)(k:∀v σ H Q,t' v σ H Q→t v σ H Q):PG X e t':=fun pins s σ H x v Q I r q=>h pins s σ H x v Q I r (k x σ H Q q)
theorem vL.imp{e:List Expr}{t t':um}(h:vL X e t)(k:∀v σ H Q,t' v σ H Q→t v σ H Q):vL X e t':=fun pins s σ H x v Q I r q=>h pins s σ H x v Q I r (k x σ H Q q)
theorem PI.imp{tg e:Expr}{t t':TI}(h:PI X tg e t)(k:∀σ H Q,t' σ H Q→t σ H Q):PI X tg e t':=fun pins s σ H R I q=>h pins s σ H R I (k σ H R q)
theorem mS.imp{e:List Expr}{t t':TT}(h:mS X e t)(k:∀σ H Q,t' σ H Q→t σ H Q):mS X e t':=fun pins s σ H Q I q=>h pins s σ H Q I (k σ H Q q)
end
end L2
namespace L2
open PySem PySem.Spec PyProof.Rows
section
variable{X:Cx}{a b e:Expr}{es:List Expr}{fa fb fc fe:Qm.XE}{ft fu:Qm.XT}{pos:Pos}
theorem ae(i:Nat)(h:PE X e (C4 i)):QE X e (Qm.eV i):=h.imp <| by
 rintro σ H Q ⟨ρ,env,c,d,c',rs,re,e,k⟩
 unfold Qm.eV at e
 obtain⟨d',e1,e2⟩:=aE e
 cases e2
 have e3:env[i]? =some (some d):=by
  cases h:env[i]? with
  |none=>rw[h]at e1;cases e1
  |some o=>rw[h]at e1;rw[show o=some d from e1]
 obtain⟨v,h1,h2⟩:=re.at_ i d e3
 exact⟨v,h1,k ρ v H (Nx.refl rs) h2⟩
theorem tG{v:V}(d:Qm.D)(h:PE X e (tC v))(r:∀ρ N H,RD X.K ρ N H d v):QE X e (Qm.eC d):=h.imp <| by
 rintro σ H Q ⟨ρ,env,c,d',c',rs,re,e,k⟩
 unfold Qm.eC at e
 cases e
 exact k ρ v H (Nx.refl rs) (r _ _ _)
theorem ai{i:Int}{j pos}:QE X (.Constant (.int i) j pos) (Qm.eC (.int i)):=tG _ FU fun _ _ _=>.int i
theorem iu{i:Bool}{j pos}:QE X (.Constant (.bool i) j pos) (Qm.eC (.bl i)):=tG _ J1 fun _ _ _=>.bl i
theorem pO{j pos}:QE X (.Constant .none j pos) (Qm.eC .bb):=tG _ FV fun _ _ _=>.bb
def fQ(K:PySem.W.Frag)(r:R2)(g:Qm.G2):Prop:=∀ρ c H x y d c' v u Q,RS K ρ c H→RD K ρ c.length H x v→RD K ρ c.length H y u→g x y c=some (d,c')→(∀aM w H',Nx K ρ c H aM c' H'→RD K aM c'.length H' d w→Q w H')→r v u H Q
theorem uG{K:PySem.W.Frag}{r:R2}{g:Qm.G2}(hl:fQ K r g){σ:St}{H:Hp}{Q:VK}(h:TQ K (Qm.e2 g fa fb) σ H Q):Dj r (TQ K fa) (TQ K fb) σ H Q:=by
 obtain⟨ρ,env,c,d,c',rs,re,e,k⟩:=h
 obtain⟨p,e1,e⟩:=aE e
 obtain⟨q,e2,e3⟩:=aE e
 exact⟨ρ,env,c,p.1,p.2,rs,re,e1,fun aJ v H1 n1 r1=>⟨aJ,env,p.2,q.1,q.2,n1.rs,re.up n1.up,e2,fun iw u H2 n2 r2=>
  hl iw q.2 H2 p.1 q.1 d c' v u Q n2.rs (r1.up n2.up) r2 e3 fun aM w H' n3 r3=>k aM w H' (n1.trans (n2.trans n3)) r3⟩⟩
theorem av{op:Operator}{r:R2}{g:Qm.G2}(ho:dm X (binaryOp op) r)(hl:fQ X.K r g)(ha:QE X a fa)(hb:QE X b fb):QE X (.BinOp a op b pos) (Qm.e2 g fa fb):=(Kj ho ha hb).imp fun _ _ _ h=>uG hl h
theorem kJ{op:CmpOp}{r:R2}{g:Qm.G2}(ho:dm X (compareOp op) r)(hl:fQ X.K r g)(ha:QE X a fa)(hb:QE X b fb)(hm:behindInMarks op b=false):QE X (.Compare a [op] [b] pos) (Qm.e2 g fa fb):=(Dm ho ha hb hm).imp fun _ _ _ h=>uG hl h
theorem K8{r:R2}{g:Qm.G2}(hr:su X r)(hl:fQ X.K r g)(ha:QE X a fa)(hb:QE X b fb)(hs:qp b):QE X (.Subscript a b pos) (Qm.e2 g fa fb):=(Kx hr ha hb hs).imp fun _ _ _ h=>uG hl h
theorem eQ{d:Qm.D}{i:Int}(h:Qm.pB d=some i):d= .int i:=by
 unfold Qm.pB at h
 split at h
 ·cases h;rfl
 ·cases h
theorem pP{d:Qm.D}{i:Bool}(h:Qm.nY d=some i):d= .bl i:=by
 unfold Qm.nY at h
 split at h
 ·cases h;rfl
 ·cases h
theorem pQ{K:PySem.W.Frag}{C:Int→Int→Prop}{g:Int→Int→V}{f:Int→Int→Option Qm.D}(h:∀i j d,f i j=some d→C i j∧∀ρ N H,RD K ρ N H d (g i j)):fQ K (rI C g) (Qm.ii f):=by
 intro ρ c H x y d c' v u Q rs rx ry e k
 obtain⟨i,e1,e⟩:=aE e
 obtain⟨j,e2,e⟩:=aE e
 obtain⟨d',e3,e⟩:=aE e
 cases e
 cases eQ e1;cases eQ e2
 cases rx.dA;cases ry.dA
 obtain⟨hc,hr⟩:=h i j d e3
 exact⟨i,j,rfl,rfl,hc,k ρ _ H (Nx.refl rs) (hr _ _ _)⟩
theorem m6{K:PySem.W.Frag}{g:Int→Int→V}{f:Int→Int→Option Qm.D}(h:∀i j d,f i j=some d→∀ρ N H,RD K ρ N H d (g i j)):fQ K (mH g) (Qm.ii f):=by
 intro ρ c H x y d c' v u Q rs rx ry e k
 obtain⟨i,e1,e⟩:=aE e
 obtain⟨j,e2,e⟩:=aE e
 obtain⟨d',e3,e⟩:=aE e
 cases e
 cases eQ e1;cases eQ e2
 cases rx.dA;cases ry.dA
 exact⟨i,j,rfl,rfl,k ρ _ H (Nx.refl rs) (h i j d e3 _ _ _)⟩
theorem cg{K:PySem.W.Frag}:fQ K (mH fun i j=>.int (i - j)) Qm.cp:=m6 fun i j d e ρ N H=>by cases e;exact .int _
theorem aC{K:PySem.W.Frag}:fQ K (rI IntMulOk fun i j=>.int (i*j)) Qm.aH:=pQ fun i j d e=>by
 split at e
 ·rename_i h
  cases e
  refine⟨?_,fun _ _ _=>.int _⟩
  have Xn:(2:Nat) ^ 64=18446744073709551616:=by decide
  rcases h with h|h|h
  ·exact My.KS h.1 h.2 rfl
  ·have:=h.lt
   exact My.GO (by omega) (by omega)
  ·have:=h.lt
   exact My.GP (by omega) (by omega)
 ·cases e
theorem eR{K:PySem.W.Frag}:fQ K (rI y8 fun i j=>.int (i.fdiv j)) Qm.dr:=pQ fun i j d e=>by
 split at e
 ·rename_i h
  cases e
  exact⟨Oy h.1 h.2 rfl,fun _ _ _=>.int _⟩
 ·cases e
theorem h_{K:PySem.W.Frag}:fQ K (rI (fun _ j=>j≠0) fun i j=>.int (i.fmod j)) Qm.e9:=pQ fun i j d e=>by
 split at e
 ·rename_i h
  cases e
  exact⟨h,fun _ _ _=>.int _⟩
 ·cases e
theorem uH{K:PySem.W.Frag}:fQ K (rI I0 fun i j=>.int (i ^ j.toNat)) Qm.tD:=pQ fun i j d e=>by
 split at e
 ·rename_i h
  cases e
  exact⟨⟨h.1,by omega,by(have:=h.2.2;have:(2:Nat) ^ 64=18446744073709551616:=(by decide);omega)⟩,fun _ _ _=>.int _⟩
 ·cases e
theorem lV{K:PySem.W.Frag}:fQ K (mH fun i j=>.bl (decide (i<j))) Qm.sG:=m6 fun i j d e ρ N H=>by cases e;exact .bl _
theorem zh{K:PySem.W.Frag}:fQ K (mH fun i j=>.bl (decide (i≤j))) Qm.BD:=m6 fun i j d e ρ N H=>by cases e;exact .bl _
theorem qM{K:PySem.W.Frag}:fQ K (mH fun i j=>.bl (decide (j<i))) Qm.sH:=m6 fun i j d e ρ N H=>by cases e;exact .bl _
theorem bG{K:PySem.W.Frag}:fQ K (fun x y H Q=>(mH fun i j=>.int (i+j)) x y H Q∨(yT K x y H Q∨DC x y H Q)) Qm.bA:=by
 intro ρ c H x y d c' v u Q rs rx ry e k
 unfold Qm.bA at e
 split at e
 ·cases e
  cases rx.dA;cases ry.dA
  exact .inl ⟨_,_,rfl,rfl,k ρ _ H (Nx.refl rs) (.int _)⟩
 ·rename_i xs ys
  split at e
  ·rename_i h
   cases e
   obtain⟨p,vs,rfl,h1,a1⟩:=rx.mZ
   obtain⟨q,us,rfl,h2,a2⟩:=ry.mZ
   have l1:=a1.length
   have l2:=a2.length
   refine .inr (.inl ⟨p,q,vs,us,rfl,rfl,dk.of h1,dk.of h2,?_,jU (by omega),fun z=>?_,fun _ l hl=>?_⟩)
   ·intro z;subst z
    have:xs=[]:=List.length_eq_zero_iff.mp (by simpa using l1)
    exact h.1 this
   ·subst z
    have:ys=[]:=List.length_eq_zero_iff.mp (by simpa using l2)
    subst this
    rw[List.append_nil]at k
    exact k ρ _ H (Nx.refl rs) (.tup h1 a1)
   ·have n:=Nx.same rs (nW (z:=.tup (vs++us)) hl)
    exact k ρ _ _ n (.tup bN ((a1.append a2).up n.up))
  ·cases e
 ·obtain⟨p,e1,e⟩:=aE e
  obtain⟨q,e2,e⟩:=aE e
  split at e
  ·rename_i h
   cases e
   obtain⟨_,hp,vs,rfl,h1,a1⟩:=rs.br rx e1
   obtain⟨_,hq,us,rfl,h2,a2⟩:=rs.br ry e2
   have l1:=a1.length
   have l2:=a2.length
   refine .inr (.inr ⟨_,_,vs,us,rfl,rfl,h1,h2,jU (by omega),fun l hl=>?_⟩)
   obtain⟨n,r⟩:=Nx.alloc rs hl (a1.append a2)
   exact k _ _ _ n r
  ·cases e
theorem bh:dm X (binaryOp .Add) (fun x y H Q=>(mH fun i j=>.int (i+j)) x y H Q∨(yT X.K x y H Q∨DC x y H Q)):=Gq.or (Dz.or GH)
theorem K9{K:PySem.W.Frag}:fQ K (Oq K) Qm.aA:=by
 intro ρ c H x y d c' v u Q rs rx ry e k
 obtain⟨xs,e1,e⟩:=aE e
 obtain⟨i,e2,e⟩:=aE e
 obtain⟨d',e3,e⟩:=aE e
 cases e
 cases eQ e2
 cases ry.dA
 obtain⟨p,vs,rfl,h,a⟩:=rs.seq rx e1
 obtain⟨j,hj,hx⟩:=aE (show(Qm.pC xs.length i).bind (fun j=>xs[j]?)=some d from e3)
 obtain⟨w,hw,sr⟩:=a.get hx
 have OP:Bs vs i=some w:=by
  show(yU vs.length i).bind (fun j=>vs[j]?)=some w
  rw[←a.length,show yU xs.length i=some j from hj]
  exact hw
 rcases h with h|h
 ·exact .inl ⟨p,vs,i,w,rfl,rfl,h,OP,k ρ _ H (Nx.refl rs) sr⟩
 ·exact .inr (.inl ⟨p,vs,i,w,rfl,rfl,dk.of h,OP,k ρ _ H (Nx.refl rs) sr⟩)
theorem aj(ha:QE X a fa)(hb:QE X b fb)(hs:qp b):QE X (.Subscript a b pos) (Qm.e2 Qm.aA fa fb):=K8 GD K9 ha hb hs
theorem Ax(ha:QE X a fa):QE X (.UnaryOp .USub a pos) (Qm.e1 Qm.Aq fa):=(Kk Gr ha).imp <| by
 rintro σ H Q ⟨ρ,env,c,d,c',rs,re,e,k⟩
 obtain⟨p,e1,e⟩:=aE e
 obtain⟨i,e2,e⟩:=aE e
 cases e
 refine⟨ρ,env,c,p.1,p.2,rs,re,e1,fun aJ v H1 n1 r1=>?_⟩
 rw[eQ e2]at r1
 cases r1.dA
 exact⟨i,rfl,k aJ _ H1 n1 (.int _)⟩
theorem Ay{op}(h:QE X a fa):QE X (.BoolOp op [a] pos) fa:=Ga h
theorem Az{rest:List Expr}(ha:QE X a fa)(hb:QE X (.BoolOp .And (b::rest) pos) fb):QE X (.BoolOp .And (a::b::rest) pos) (Qm.Ao fa fb):=(Gb ha hb).imp <| by
 rintro σ H Q ⟨ρ,env,c,d,c',rs,re,e,k⟩
 obtain⟨p,e1,e⟩:=aE e
 obtain⟨i,e2,e⟩:=aE e
 refine⟨ρ,env,c,p.1,p.2,rs,re,e1,fun aJ v H1 n1 r1=>?_⟩
 rw[pP e2]at r1
 cases r1.qL
 refine⟨i,rfl,?_⟩
 split at e
 ·rename_i hi
  rw[if_pos hi]
  exact⟨aJ,env,p.2,d,c',n1.rs,re.up n1.up,e,fun aM w H' n r=>k aM w H' (n1.trans n) r⟩
 ·rename_i hi
  rw[if_neg hi]
  cases e
  exact k aJ _ H1 n1 (.bl _)
theorem AA(ha:QE X a fa):QE X (.UnaryOp .Not a pos) (Qm.Ap fa):=(Gd ha).imp <| by
 rintro σ H Q ⟨ρ,env,c,d,c',rs,re,e,k⟩
 obtain⟨p,e1,e⟩:=aE e
 obtain⟨i,e2,e⟩:=aE e
 cases e
 refine⟨ρ,env,c,p.1,p.2,rs,re,e1,fun aJ v H1 n1 r1=>?_⟩
 rw[pP e2]at r1
 cases r1.qL
 exact⟨i,rfl,k aJ _ H1 n1 (.bl _)⟩
theorem BG{c0:Expr}(hc:QT X c0 ft)(ha:QE X a fa)(hb:QE X b fb):QE X (.IfExp c0 a b pos) (Qm.K5 ft fa fb):=(Bh hc ha hb).imp <| by
 rintro σ H Q ⟨ρ,env,c,d,c',rs,re,e,k⟩
 obtain⟨p,e1,e⟩:=aE e
 refine⟨ρ,env,c,p.1,p.2,rs,re,e1,fun aJ H1 n1=>?_⟩
 split at e
 ·rename_i hi
  rw[if_pos hi]
  exact⟨aJ,env,p.2,d,c',n1.rs,re.up n1.up,e,fun aM w H' n r=>k aM w H' (n1.trans n) r⟩
 ·rename_i hi
  rw[if_neg hi]
  exact⟨aJ,env,p.2,d,c',n1.rs,re.up n1.up,e,fun aM w H' n r=>k aM w H' (n1.trans n) r⟩
theorem BH{K:PySem.W.Frag}{r r':R2}{g g':Qm.G2}(hl:fQ K r g)(i9:fQ K r' g'){σ:St}{H:Hp}{Q:VK}(h:TQ K (Qm.pN g g' fa fb fc) σ H Q):Ad r r' (TQ K fa) (TQ K fb) (TQ K fc) σ H Q:=by
 obtain⟨ρ,env,c,d,c',rs,re,e,k⟩:=h
 obtain⟨p,e1,e⟩:=aE e
 obtain⟨q,e2,e⟩:=aE e
 obtain⟨z,e3,e⟩:=aE e
 obtain⟨i,e4,e⟩:=aE e
 refine⟨ρ,env,c,p.1,p.2,rs,re,e1,fun aJ v H1 n1 r1=>⟨aJ,env,p.2,q.1,q.2,n1.rs,re.up n1.up,e2,fun iw u H2 n2 r2=>?_⟩⟩
 refine hl iw q.2 H2 p.1 q.1 z.1 z.2 v u _ n2.rs (r1.up n2.up) r2 e3 fun uI w H3 n3 r3=>?_
 rw[pP e4]at r3
 cases r3.qL
 refine⟨i,rfl,?_⟩
 split at e
 ·rename_i hi
  rw[if_pos hi]
  obtain⟨s,e5,e⟩:=aE e
  refine⟨uI,env,z.2,s.1,s.2,n3.rs,re.up (n1.trans (n2.trans n3)).up,e5,fun m8 w4 H4 n4 r4=>?_⟩
  exact i9 m8 s.2 H4 q.1 s.1 d c' u w4 Q n4.rs ((r2.up n3.up).up n4.up) r4 e fun K_ w5 H5 n5 r5=>k K_ w5 H5 (n1.trans (n2.trans (n3.trans (n4.trans n5)))) r5
 ·rename_i hi
  rw[if_neg hi]
  cases e
  exact k uI _ H3 (n1.trans (n2.trans n3)) (.bl _)
theorem ak:QA X [] Qm.ao:=Gs.imp <| by
 rintro σ H Q ⟨ρ,env,c,ds,c',rs,re,e,k⟩
 cases e
 exact k ρ [] H (Nx.refl rs) .nil
theorem ag{fr:Qm.XA}(ha:QE X e fa)(hr:QA X es fr)(hs:starEach (e::es) X.env=(false,eval e X.env)::starEach es X.env:=by rfl):QA X (e::es) (Qm.af fa fr):=(Ds ha hr hs).imp <| by
 rintro σ H Q ⟨ρ,env,c,ds,c',rs,re,e,k⟩
 obtain⟨p,e1,e⟩:=aE e
 obtain⟨q,e2,e⟩:=aE e
 cases e
 exact⟨ρ,env,c,p.1,p.2,rs,re,e1,fun aJ v H1 n1 r1=>⟨aJ,env,p.2,q.1,q.2,n1.rs,re.up n1.up,e2,fun iw vs H2 n2 r2=>k iw (v::vs) H2 (n1.trans n2) (.cons (r1.up n2.up) r2)⟩⟩
theorem gc{x1}{f:Qm.XA}(h:QA X es f):QE X (.Tuple es x1 pos) (Qm.fW f):=(Gu h).imp <| by
 rintro σ H Q ⟨ρ,env,c,d,c',rs,re,e,k⟩
 obtain⟨p,e1,e⟩:=aE e
 split at e
 ·rename_i hz
  cases e
  refine⟨ρ,env,c,p.1,p.2,rs,re,e1,fun aJ vs H1 n1 r1=>⟨jU (by rw[←r1.length];exact hz),fun l hl=>?_⟩⟩
  have n:=Nx.same n1.rs (nW (z:=.tup vs) hl)
  exact k aJ _ _ (n1.trans n) (.tup bN (r1.up n.up))
 ·cases e
theorem gd{f:Qm.XA}(h:QA X es f):QE X (.List es pos) (Qm.h9 f):=(Gv h).imp <| by
 rintro σ H Q ⟨ρ,env,c,d,c',rs,re,e,k⟩
 obtain⟨p,e1,e⟩:=aE e
 split at e
 ·rename_i hz
  cases e
  refine⟨ρ,env,c,p.1,p.2,rs,re,e1,fun aJ vs H1 n1 r1=>⟨jU (by rw[←r1.length];exact hz),fun l hl=>?_⟩⟩
  obtain⟨n,r⟩:=Nx.alloc n1.rs hl r1
  exact k _ _ _ (n1.trans n) r
 ·cases e
def dv(K:PySem.W.Frag)(F:Qm.FN):Sp:=fun vs H Q _=>∃ρ c ds d c',RS K ρ c H∧RA K ρ c.length H ds vs∧F ds c=some (d,c')∧∀aM v H',Nx K ρ c H aM c' H'→RD K aM c'.length H' d v→Q v H'
theorem D0{K:PySem.W.Frag}{F:Qm.FN}{f:Qm.XA}{ds:List Qm.D}{mJ:List V}{E:XK}(hd:∀ρ N H,RA K ρ N H ds mJ){σ:St}{H:Hp}{Q:VK}(h:TQ K (Qm.ax F ds f) σ H Q):yP (dv K F) mJ E (AQ K f) σ H Q:=by
 obtain⟨ρ,env,c,d,c',rs,re,e,k⟩:=h
 obtain⟨p,e1,e⟩:=aE e
 exact⟨ρ,env,c,p.1,p.2,rs,re,e1,fun aJ vs H1 n1 r1=>⟨aJ,p.2,p.1++ds,d,c',n1.rs,r1.append (hd _ _ _),e,fun aM v H' n r=>k aM v H' (n1.trans n) r⟩⟩
theorem ay{k:Nat}{f:Addr}{fd:FuncData}{ps:List Str}{F:Qm.FN}{mJ:List V}{ds:List Value}{x:Str}{p:Pos}{fx:Qm.XA}(qs:List Qm.D)(G:bL X.prog X.w X.K X.mg X.base cQ k f fd ps (dv X.K F))(hr:cY k X.A)(hg:Gl X x)(hm:X.mg x=some (.ref f))(hk:PySem.W.keepIn X.K (.ref f)=true)(hb:Binds X.K fd ps ds)(hd:Vals mJ ds)(hq:∀ρ N H,RA X.K ρ N H qs mJ)
  (ha:QA X (e::es) fx)(qf:(x==("__debug__":Str))=false:=by decide)(he:starEach (e::es) X.env=(false,eval e X.env)::starEach es X.env:=by rfl)(dq:(backTo pos (starEach es X.env)).any (·.1)=false:=by rfl):
  QE X (.Call (.Name x p) (e::es) [] pos) (Qm.ax F qs fx):=(Dt (E:=E0) G hr hg hm hk hb hd DE ha qf he dq).imp fun _ _ _ h=>D0 hq h
def qN(K:PySem.W.Frag)(r:List V→Hp→VK→Prop)(F:Qm.FN):Prop:=∀ρ c H ds d c' vs Q,RS K ρ c H→RA K ρ c.length H ds vs→F ds c=some (d,c')→(∀aM w H',Nx K ρ c H aM c' H'→RD K aM c'.length H' d w→Q w H')→r vs H Q
theorem D1{K:PySem.W.Frag}{r:List V→Hp→VK→Prop}{F:Qm.FN}(hl:qN K r F){f:Qm.XA}{σ:St}{H:Hp}{Q:VK}(h:TQ K (Qm.eB F f) σ H Q):Ku r (AQ K f) σ H Q:=by
 obtain⟨ρ,env,c,d,c',rs,re,e,k⟩:=h
 obtain⟨p,e1,e⟩:=aE e
 exact⟨ρ,env,c,p.1,p.2,rs,re,e1,fun aJ vs H1 n1 r1=>hl aJ p.2 H1 p.1 d c' vs Q n1.rs r1 e fun aM v H' n r=>k aM v H' (n1.trans n) r⟩
theorem bz{id:String}{r:List V→Hp→VK→Prop}{F:Qm.FN}{x:Str}{p:Pos}{f:Qm.XA}(hc:fN X (.builtin id) r)(hl:qN X.K r F)(hg:Gl X x)(hm:X.mg x=none)(hv:bootBuiltins x=some (.builtin id))(ha:QA X (e::es) f)(hn:x≠"__name__":=by decide)(qf:(x==("__debug__":Str))=false:=by decide)
  (he:starEach (e::es) X.env=(false,eval e X.env)::starEach es X.env:=by rfl)(dq:(backTo pos (starEach es X.env)).any (·.1)=false:=by rfl):QE X (.Call (.Name x p) (e::es) [] pos) (Qm.eB F f):=(Bo hc hg hm hv ha hn qf he dq).imp fun _ _ _ h=>D1 hl h
theorem gF{id:String}{r:List V→Hp→VK→Prop}{F:Qm.FN}{x:Str}{p:Pos}{f:Qm.XA}(hc:fN X (.type id) r)(hl:qN X.K r F)(hg:Gl X x)(hm:X.mg x=none)(hv:bootBuiltins x=some (.type id))(ha:QA X (e::es) f)(hn:x≠"__name__":=by decide)(qf:(x==("__debug__":Str))=false:=by decide)
  (he:starEach (e::es) X.env=(false,eval e X.env)::starEach es X.env:=by rfl)(dq:(backTo pos (starEach es X.env)).any (·.1)=false:=by rfl):QE X (.Call (.Name x p) (e::es) [] pos) (Qm.eB F f):=(yR hc hg hm hv ha hn qf he dq).imp fun _ _ _ h=>D1 hl h
end
end L2
namespace L2
open PySem PySem.Spec PyProof.Rows
section
variable{X:Cx}{a b e:Expr}{es:List Expr}{fa fb fc fe:Qm.XE}{ft fu:Qm.XT}{pos:Pos}
theorem D2{K:PySem.W.Frag}{t:TE}{f:Qm.XE}(ht:∀σ H Q,TQ K f σ H Q→t σ H Q){σ:St}{H:Hp}{Q:Bool→Hp→Prop}(h:BQ K (Qm.tV f) σ H Q):t σ H fun x H1=>∃k,x= .bl k∧Q k H1:=by
 obtain⟨ρ,env,c,d,c',rs,re,e,k⟩:=h
 obtain⟨p,e1,e⟩:=aE e
 obtain⟨i,e2,e⟩:=aE e
 cases e
 refine ht σ H _ ⟨ρ,env,c,p.1,p.2,rs,re,e1,fun aJ v H1 n1 r1=>?_⟩
 rw[pP e2]at r1
 cases r1.qL
 exact⟨_,rfl,k aJ H1 n1⟩
theorem jf(h:QE X e fe)(he:∀whole,isTrue e X.env whole=(do let v ←whole;standAt e.pos;holding [v] (truthy v)):=by intro _;rfl):QT X e (Qm.tV fe):=(FW h he).imp fun _ _ _ q=>D2 (fun _ _ _ z=>z) q
theorem bt{op:CmpOp}{r:R2}{g:Qm.G2}(ho:dm X (compareOp op) r)(hl:fQ X.K r g)(ha:QE X a fa)(hb:QE X b fb)(hm:behindInMarks op b=false):QT X (.Compare a [op] [b] pos) (Qm.tV (Qm.e2 g fa fb)):=(Dp ho ha hb hm).imp fun _ _ _ q=>D2 (fun _ _ _ z=>uG hl z) q
theorem BI{op yL:CmpOp}{r r':R2}{g g':Qm.G2}{c0:Expr}(ho:dm X (compareOp op) r)(hl:fQ X.K r g)(mF:dm X (compareOp yL) r')(i9:fQ X.K r' g')(ha:QE X a fa)(hb:QE X b fb)(hc:QE X c0 fc)
  (hm:lastMarks [op,yL] [b,c0]=false:=by with_unfolding_all rfl):QT X (.Compare a [op,yL] [b,c0] pos) (Qm.tV (Qm.pN g g' fa fb fc)):=(Bm ho mF ha hb hc hm).imp fun _ _ _ q=>D2 (fun _ _ _ z=>BH hl i9 z) q
theorem wq(ha:QT X a ft):QW X (.BoolOp .And [a] pos) ft:=C6 ha
theorem uJ(ha:QT X a ft):QW X (.BoolOp .Or [a] pos) ft:=FY ha
theorem AB{rest:List Expr}(ha:QT X a ft)(hb:QW X (.BoolOp .And (b::rest) pos) fu):QW X (.BoolOp .And (a::b::rest) pos) (Qm.oR ft fu):=(FZ ha hb).imp <| by
 rintro σ H Q ⟨ρ,env,c,d,c',rs,re,e,k⟩
 obtain⟨p,e1,e⟩:=aE e
 refine⟨ρ,env,c,p.1,p.2,rs,re,e1,fun aJ H1 n1=>?_⟩
 split at e
 ·rename_i hi
  rw[if_pos hi]
  exact⟨aJ,env,p.2,d,c',n1.rs,re.up n1.up,e,fun aM H' n=>k aM H' (n1.trans n)⟩
 ·rename_i hi
  rw[if_neg hi]
  cases e
  exact k aJ H1 n1
theorem uK{rest:List Expr}(ha:QT X a ft)(hb:QW X (.BoolOp .Or (b::rest) pos) fu):QW X (.BoolOp .Or (a::b::rest) pos) (Qm.p7 ft fu):=(J2 ha hb).imp <| by
 rintro σ H Q ⟨ρ,env,c,d,c',rs,re,e,k⟩
 obtain⟨p,e1,e⟩:=aE e
 refine⟨ρ,env,c,p.1,p.2,rs,re,e1,fun aJ H1 n1=>?_⟩
 split at e
 ·rename_i hi
  rw[if_pos hi]
  cases e
  exact k aJ H1 n1
 ·rename_i hi
  rw[if_neg hi]
  exact⟨aJ,env,p.2,d,c',n1.rs,re.up n1.up,e,fun aM H' n=>k aM H' (n1.trans n)⟩
theorem m_(ha:QT X a ft):QT X (.UnaryOp .Not a pos) (Qm.jD ft):=(F_ ha).imp <| by
 rintro σ H Q ⟨ρ,env,c,d,c',rs,re,e,k⟩
 obtain⟨p,e1,e⟩:=aE e
 cases e
 exact⟨ρ,env,c,p.1,p.2,rs,re,e1,fun aJ H1 n1=>k aJ H1 n1⟩
theorem D3:QO X none Qm.zb:=Dx.imp <| by
 rintro σ H Q ⟨ρ,env,c,d,c',rs,re,e,k⟩
 cases e
 exact k ρ H (Nx.refl rs)
theorem qO(h:QE X e fe):QO X (some e) (Qm.fP fe):=(Dy h).imp <| by
 rintro σ H Q ⟨ρ,env,c,d,c',rs,re,e,k⟩
 obtain⟨p,e1,e⟩:=aE e
 refine⟨ρ,env,c,p.1,p.2,rs,re,e1,fun aJ v H1 n1 r1=>?_⟩
 split at e
 ·rename_i i hi
  cases e
  rw[hi]at r1
  cases r1.dA
  exact⟨_,rfl,k aJ H1 n1⟩
 ·cases e
theorem n_{K:PySem.W.Frag}{ρ:Nat→Addr}{N:Nat}{H:Hp}{ds:List Qm.D}{vs:List V}(a:RA K ρ N H ds vs)(lo hi:Option Int):RA K ρ N H (Qm.cutD ds lo hi) (jM vs lo hi):=by
 have e:∀n d o,Qm.ze n d o=HT.bI n d o:=fun n d o=>by cases o<;>rfl
 unfold Qm.cutD jM
 rw[e,e,a.length]
 exact(a.drop _).take _
end
section
variable{prog:Program}{w:World}{A:Around}{E:Value→Shared→Prop}{s:Shared}
theorem jV{t sl:Addr}{items:Array Value}{vl vu:Value}{lo hi:Option Int}{Q:Value→Shared→Prop}(ht:IsTup s.heap t items)(hs:s.heap.IsSliceOf sl vl vu .none)(pl:IsPart vl lo)(pu:IsPart vu hi)
  (hw:HT.bI items.size 0 lo=0∧HT.bI items.size items.size hi=items.size)(h:Q (.ref t) s):wpAny (model prog w) A (getItem (.ref t) (.ref sl)) Q E s:=by
 obtain⟨os,yS,ql,Dv⟩:=id hs
 have Kv:s.TypeIs (.ref sl) "slice":=⟨os,yS,ql⟩
 unfold getItem
 try with_reducible refine wpAny_holding ?_
 first|refine wpAny_bind (wpAny_pure ?_)|skip
 refine wpAny_bind (wpAny_sequenceKey ht.typeIs (by decide) ?_)
 refine wpAny_bind (wpAny_callSpecial?_slot (name:=Str.ofString "__getitem__") ht.typeIs PyProof.Rows.slot_tuple_getitem
  (wpAny_call_entry PyProof.Rows.slot_tuple_getitem ht.typeIs entry_tuple_getitem ?_ (args_tuple_getitem _ _)))
 show wpAny _ _ (Builtin.Tuple.tupleItemsOf (.ref t) >>= _) _ _ s
 refine wpAny_bind (tupleItemsOf_ ht ?_)
 refine wpAny_bind (wpAny_typeOf Kv ?_)
 rw[if_pos (by decide)]
 refine wpAny_bind (HT.hW hs pl pu ?_)
 have OR:(((HT.bI items.size 0 lo:Nat):Int)==0&&(1:Int)==1&&(HT.bI items.size items.size hi - HT.bI items.size 0 lo)==items.size)=true:=by
  rw[hw.1,hw.2];simp
 show wpAny _ _ (if (((HT.bI items.size 0 lo:Nat):Int)==0&&(1:Int)==1&&(HT.bI items.size items.size hi - HT.bI items.size 0 lo)==items.size)=true then _ else _) _ _ s
 rw[if_pos OR]
 unfold Builtin.Tuple.tupleIsExact
 refine wpAny_bind (wpAny_bind (wpAny_typeOf ht.typeIs (wpAny_pure ?_)))
 rw[if_pos (by decide)]
 refine wpAny_bind (wpAny_rule ?_)
 exact wpAny_pure ⟨_,rfl,wpAny_pure h⟩
end
section
variable{X:Cx}{a b e:Expr}{es:List Expr}{fa fb fc fe:Qm.XE}{ft fu:Qm.XT}{pos p2:Pos}{lo hi:Option Expr}{fl fh:Qm.XO}
def D4(K:PySem.W.Frag):V→Option Int→Option Int→Hp→VK→Prop:=fun x lo hi H Q=>∃a xs,x= .ref a∧dk K H a xs∧(HT.bI xs.length 0 lo=0∧HT.bI xs.length xs.length hi=xs.length)∧Q (.ref a) H
theorem D5:uv X (D4 X.K):=by
 intro pins s σ H x v vl vu lo hi sl Q I rx hs pl pu h
 obtain⟨a,xs,rfl,hx,hw,q⟩:=h
 cases rx
 obtain⟨its,r,ht,hz⟩:=I.tuple hx
 have hlen:its.toArray.size=xs.length:=by rw[List.size_toArray];exact r.length.symm
 refine⟨"tuple",_,PyProof.Rows.slot_tuple_getitem.lookup,ht.typeIs,?_⟩
 exact jV ht hs pl pu (by rw[hlen];exact hw) ⟨.ref a,H,I,rfl,q⟩
def Jm(K:PySem.W.Frag):V→Option Int→Option Int→Hp→VK→Prop:=fun x lo hi H Q=>I_ K x lo hi H Q∨(D4 K x lo hi H Q∨Jd K x lo hi H Q)
theorem GZ:uv X (Jm X.K):=GA.or (D5.or DB)
theorem G0{K:PySem.W.Frag}{ρ:Nat→Addr}{c c':Qm.Cells}{H:Hp}{x d:Qm.D}{v:V}{lo hi:Option Int}{Q:VK}(rs:RS K ρ c H)(rx:RD K ρ c.length H x v)(e:Qm.lA x lo hi c=some (d,c'))(k:∀aM w H',Nx K ρ c H aM c' H'→RD K aM c'.length H' d w→Q w H'):Jm K v lo hi H Q:=by
 unfold Qm.lA at e
 split at e
 ·rename_i xs
  cases e
  obtain⟨p,vs,rfl,h1,a1⟩:=rx.mZ
  by_cases hw:HT.bI vs.length 0 lo=0∧HT.bI vs.length vs.length hi=vs.length
  ·refine .inr (.inl ⟨p,vs,rfl,dk.of h1,hw,?_⟩)
   have:jM vs lo hi=vs:=by
    unfold jM
    rw[hw.1,hw.2];simp
   have a2:=n_ a1 lo hi
   rw[this]at a2
   exact k ρ _ H (Nx.refl rs) (.tup h1 a2)
  ·refine .inl ⟨p,vs,rfl,dk.of h1,hw,fun l hl=>?_⟩
   have n:=Nx.same rs (nW (z:=.tup (jM vs lo hi)) hl)
   exact k ρ _ _ n (.tup bN ((n_ a1 lo hi).up n.up))
 ·rename_i x' lL
  obtain⟨xs,e1,e⟩:=aE e
  cases e
  rcases uF e1 with z|⟨n,z⟩
  ·exact absurd z (lL xs)
  ·subst z
   obtain⟨vs,rfl,h,a⟩:=rs.DY rx e1
   refine .inr (.inr ⟨_,vs,rfl,h,fun l hl=>?_⟩)
   obtain⟨n,r⟩:=Nx.alloc rs hl (n_ a lo hi)
   exact k _ _ _ n r
theorem tH(he:QE X e fe)(hl:QO X lo fl)(hu:QO X hi fh):QE X (.Subscript e (.Slice lo hi none p2) pos) (Qm.zd Qm.lA fe fl fh):=(Br GZ he hl hu).imp <| by
 rintro σ H Q ⟨ρ,env,c,d,c',rs,re,e,k⟩
 obtain⟨p,e1,e⟩:=aE e
 obtain⟨l,e2,e⟩:=aE e
 obtain⟨h,e3,e⟩:=aE e
 exact⟨ρ,env,c,p.1,p.2,rs,re,e1,fun aJ v H1 n1 r1=>⟨aJ,env,p.2,l.1,l.2,n1.rs,re.up n1.up,e2,fun iw H2 n2=>⟨iw,env,l.2,h.1,h.2,n2.rs,re.up (n1.trans n2).up,e3,fun uI H3 n3=>
  G0 n3.rs ((r1.up n2.up).up n3.up) e fun aM w H' n r=>k aM w H' (n1.trans (n2.trans (n3.trans n))) r⟩⟩⟩
def Lb(K:PySem.W.Frag)(r:V→List V→Hp→VK→Prop)(g:Qm.D→Qm.FN):Prop:=∀ρ c H x ds d c' v vs Q,RS K ρ c H→RD K ρ c.length H x v→RA K ρ c.length H ds vs→g x ds c=some (d,c')→(∀aM w H',Nx K ρ c H aM c' H'→RD K aM c'.length H' d w→Q w H')→r v vs H Q
theorem T7{K:PySem.W.Frag}{ρ:Nat→Addr}{c:Qm.Cells}{H:Hp}{x:Qm.D}{v:V}{z:Nat×List Qm.D}(rs:RS K ρ c H)(rx:RD K ρ c.length H x v)(e:Qm.br x c=some z):Kz K "list" v H:=by
 obtain⟨_,_,vs,rfl,h,_⟩:=rs.br rx e
 exact .inl ⟨rfl,_,cU.of h⟩
theorem wt{name:Str}{id:String}{r:V→List V→Hp→VK→Prop}{g:Qm.D→Qm.FN}{o:Expr}{fo:Qm.XE}{f:Qm.XA}{apos e7:Pos}(slot:Slot "list" name id)(KC:typeOf (.builtin id)=pure (.type "method_descriptor"))(hm:KD X id r)(hl:Lb X.K r g)(ho:QE X o fo)(ha:QA X (e::es) f)
  (yV:attributeBase o name X.env (eval o X.env)=eval o X.env:=by rfl)
  (Af:((backTo e7 (starEach (e::es) X.env)).all (fun x=>!x.1)&&(backToKw e7 (keywordEach [] X.env)).all (fun x=>x.1.isSome)
   &&decide ((e::es).length+([]:List Keyword).length+(if ([]:List Keyword).isEmpty then 0 else 1)<30))=true:=by rfl)
  (yW:(apos.endLine==e7.line)=true:=by rfl)(hs:starEach (e::es) X.env=(false,eval e X.env)::starEach es X.env:=by rfl)(uw:(backTo e7 (starEach es X.env)).any (·.1)=false:=by rfl):
  QE X (.Call (.Attribute o name apos) (e::es) [] e7) (Qm.eM g fo f):=(KA PySem.F.plainAttrs_list slot KC hm ho ha yV Af yW hs uw).imp <| by
 rintro σ H Q ⟨ρ,env,c,d,c',rs,re,e,k⟩
 obtain⟨p,e1,e⟩:=aE e
 obtain⟨z,e2,e⟩:=aE e
 obtain⟨q,e3,e⟩:=aE e
 exact⟨ρ,env,c,p.1,p.2,rs,re,e1,fun aJ v H1 n1 r1=>⟨T7 n1.rs r1 e2,aJ,env,p.2,q.1,q.2,n1.rs,re.up n1.up,e3,fun iw vs H2 n2 r2=>
  hl iw q.2 H2 p.1 q.1 d c' v vs Q n2.rs (r1.up n2.up) r2 e fun aM w H' n r=>k aM w H' (n1.trans (n2.trans n)) r⟩⟩
theorem jg{K:PySem.W.Frag}:Lb K v7 Qm.cH:=by
 intro ρ c H x ds d c' v vs Q rs rx ra e k
 unfold Qm.cH Qm.one at e
 split at e
 ·rename_i y
  obtain⟨l,e1,e⟩:=aE e
  obtain⟨u,rfl,ry⟩:=ra.iT
  split at e
  ·rename_i hz
   cases e
   obtain⟨_,hn,ws,rfl,h,a⟩:=rs.br rx e1
   have n:=Nx.put rs hn (a.append (RA.one ry))
   exact⟨_,ws,u,rfl,rfl,h,qK (by rw[←a.length];exact hz),k ρ _ _ n .bb⟩
  ·cases e
 ·cases e
theorem zi{K:PySem.W.Frag}:Lb K v8 Qm.jT:=by
 intro ρ c H x ds d c' v vs Q rs rx ra e k
 unfold Qm.jT Qm.one at e
 split at e
 ·rename_i y
  obtain⟨l,e1,e⟩:=aE e
  obtain⟨z,e2,e⟩:=aE e
  obtain⟨u,rfl,ry⟩:=ra.iT
  split at e
  ·rename_i hz
   cases e
   obtain⟨_,hn,ws,rfl,h,a⟩:=rs.br rx e1
   obtain⟨_,wu,us,rfl,h2,a2⟩:=rs.br ry e2
   have n:=Nx.put rs hn (a.append a2)
   exact⟨_,_,ws,us,rfl,rfl,h,h2,jU (by rw[←a.length,←a2.length];exact hz),k ρ _ _ n .bb⟩
  ·cases e
 ·cases e
theorem ia{g:Qm.G1}{ds:List Qm.D}{c:Qm.Cells}{z}(h:Qm.one g ds c=some z):∃x,ds=[x]∧g x c=some z:=by
 unfold Qm.one at h
 split at h
 ·exact⟨_,rfl,h⟩
 ·cases h
theorem AD{g:Qm.G2}{ds:List Qm.D}{c:Qm.Cells}{z}(h:Qm.two g ds c=some z):∃x y,ds=[x,y]∧g x y c=some z:=by
 unfold Qm.two at h
 split at h
 ·exact⟨_,_,rfl,h⟩
 ·cases h
theorem pR{K:PySem.W.Frag}:qN K (fun xs H Q=>∃i,xs=[.int i]∧Q (.int (if i<0 then -i else i)) H) Qm.tE:=by
 intro ρ c H ds d c' vs Q rs ra e k
 obtain⟨x,rfl,e⟩:=ia e
 obtain⟨v,rfl,rx⟩:=ra.iT
 obtain⟨i,e1,e⟩:=aE e
 cases e
 cases eQ e1
 cases rx.dA
 exact⟨i,rfl,k ρ _ H (Nx.refl rs) (.int _)⟩
theorem dN{K:PySem.W.Frag}:qN K (fun xs H Q=>∃p ys,xs=[.ref p]∧(cU K H p ys∨dk K H p ys)∧Q (.int ys.length) H) Qm.cy:=by
 intro ρ c H ds d c' vs Q rs ra e k
 obtain⟨x,rfl,e⟩:=ia e
 obtain⟨v,rfl,rx⟩:=ra.iT
 obtain⟨xs,e1,e⟩:=aE e
 cases e
 obtain⟨p,ws,rfl,h,a⟩:=rs.seq rx e1
 exact⟨p,ws,rfl,h.imp id dk.of,k ρ _ H (Nx.refl rs) (by rw[a.length];exact .int _)⟩
theorem wx{K:PySem.W.Frag}:qN K (fun xs H Q=>(∃i,xs=[.int i]∧Q (.int i) H)∨∃k,xs=[.bl k]∧Q (.int (if k then 1 else 0)) H) Qm.As:=by
 intro ρ c H ds d c' vs Q rs ra e k
 obtain⟨x,rfl,e'⟩:=ia e
 obtain⟨v,rfl,rx⟩:=ra.iT
 split at e'
 ·cases e'
  cases rx.dA
  exact .inl ⟨_,rfl,k ρ _ H (Nx.refl rs) (.int _)⟩
 ·cases e'
  cases rx.qL
  exact .inr ⟨_,rfl,k ρ _ H (Nx.refl rs) (.int _)⟩
 ·cases e'
theorem Lc{f:Int→Int→Option Qm.D}{x y d:Qm.D}{c c':Qm.Cells}(h:Qm.ii f x y c=some (d,c')):∃i j,x= .int i∧y= .int j∧f i j=some d∧c'=c:=by
 obtain⟨i,e1,e⟩:=aE h
 obtain⟨j,e2,e⟩:=aE e
 obtain⟨z,e3,e⟩:=aE e
 cases e
 exact⟨i,j,eQ e1,eQ e2,e3,rfl⟩
theorem D6{K:PySem.W.Frag}:qN K (fun xs H Q=>∃i j,xs=[.int i,.int j]∧Q (.int (if j > i then j else i)) H) Qm.n8:=by
 intro ρ c H ds d c' vs Q rs ra e k
 obtain⟨x,y,rfl,e⟩:=AD e
 obtain⟨v,u,rfl,rx,ry⟩:=ra.tF
 obtain⟨i,j,rfl,rfl,e,rfl⟩:=Lc e
 cases e
 cases rx.dA;cases ry.dA
 exact⟨i,j,rfl,k ρ _ H (Nx.refl rs) (.int _)⟩
theorem D7{K:PySem.W.Frag}:qN K (fun xs H Q=>∃p ys,xs=[.ref p]∧(cU K H p ys∨dk K H p ys)∧∀l,H l=none→Q (.ref l) (upd H l (.lst ys))) Qm.qH:=by
 intro ρ c H ds d c' vs Q rs ra e k
 obtain⟨x,rfl,e⟩:=ia e
 obtain⟨v,rfl,rx⟩:=ra.iT
 obtain⟨xs,e1,e⟩:=aE e
 cases e
 obtain⟨p,ws,rfl,h,a⟩:=rs.seq rx e1
 refine⟨p,ws,rfl,h.imp id dk.of,fun l hl=>?_⟩
 obtain⟨n,r⟩:=Nx.alloc rs hl a
 exact k _ _ _ n r
end
end L2
namespace L2
open PySem PySem.Spec PyProof.Rows
section
variable{X:Cx}{a b e tg:Expr}{es:List Expr}{fa fb fc fe:Qm.XE}{ft fu:Qm.XT}{pos:Pos}{st:Stmt}{rest:List Stmt}{fs fr:Qm.XS}{fg:Qm.XG}
theorem bf:sI X [] Qm.bP:=C7.imp <| by
 rintro D σ H ⟨ρ,env,c,fl,bQ,c',rs,re,e,k⟩
 cases e
 exact k ρ H (Nx.refl rs) σ re
theorem aq(h1:QS X st fs)(h2:sI X rest fr):sI X (st::rest) (Qm.aB fs fr):=(Bj h1 h2).imp <| by
 rintro D σ H ⟨ρ,env,c,fl,bQ,c',rs,re,e,k⟩
 obtain⟨p,e1,e⟩:=aE e
 obtain⟨f,e2,c2⟩:=p
 cases f with
 |nx=>exact⟨ρ,env,c,.nx,e2,c2,rs,re,e1,fun aJ H1 n1 σ1 pF=>⟨aJ,e2,c2,fl,bQ,c',n1.rs,pF,e,fun aM H' n=>k aM H' (n1.trans n)⟩⟩
 |rt d=>cases e;exact⟨ρ,env,c,.rt d,bQ,c',rs,re,e1,fun aJ H1 n1=>k aJ H1 n1⟩
 |bk=>cases e;exact⟨ρ,env,c,.bk,bQ,c',rs,re,e1,fun aJ H1 n1=>k aJ H1 n1⟩
 |ct=>cases e;exact⟨ρ,env,c,.ct,bQ,c',rs,re,e1,fun aJ H1 n1=>k aJ H1 n1⟩
theorem aw(h1:QS X st fs):sI X [st] fs:=C8 h1
theorem jW(he:QE X e fe)(hs:swapsWith e none pos.line X.env=pure false:=by rfl):QS X (.Expr e pos) (Qm.gC fe):=(C9 he hs).imp <| by
 rintro D σ H ⟨ρ,env,c,fl,bQ,c',rs,re,e,k⟩
 obtain⟨p,e1,e⟩:=aE e
 cases e
 exact⟨ρ,env,c,p.1,p.2,rs,re,e1,fun aJ v H1 n1 _=>k aJ H1 n1 σ (re.up n1.up)⟩
theorem aQ(he:QE X e fe):QS X (.Return (some e) pos) (Qm.bC fe):=(Ge he).imp <| by
 rintro D σ H ⟨ρ,env,c,fl,bQ,c',rs,re,e,k⟩
 obtain⟨p,e1,e⟩:=aE e
 cases e
 exact⟨ρ,env,c,p.1,p.2,rs,re,e1,fun aJ v H1 n1 r1=>k aJ H1 n1 v r1⟩
theorem bZ{c0:Expr}{x y:List Stmt}(hc:QT X c0 ft)(ha:sI X x fs)(hb:sI X y fr):QS X (.If c0 x y pos) (Qm.cX ft fs fr):=(Kc hc ha hb).imp <| by
 rintro D σ H ⟨ρ,env,c,fl,bQ,c',rs,re,e,k⟩
 obtain⟨p,e1,e⟩:=aE e
 refine⟨ρ,env,c,p.1,p.2,rs,re,e1,fun aJ H1 n1=>?_⟩
 split at e
 ·rename_i hi
  rw[if_pos hi]
  exact⟨aJ,env,p.2,fl,bQ,c',n1.rs,re.up n1.up,e,fun aM H' n=>k aM H' (n1.trans n)⟩
 ·rename_i hi
  rw[if_neg hi]
  exact⟨aJ,env,p.2,fl,bQ,c',n1.rs,re.up n1.up,e,fun aM H' n=>k aM H' (n1.trans n)⟩
theorem aK{i:Nat}{x:Str}{pos':Pos}(hN:X.N.Nodup)(hi:X.N[i]? =some x)(hx:Loc X.env.scope x)(he:QE X e fe)(hs:swapsWith e (some (.Name x pos')) pos.line X.env=pure false:=by rfl)(hf:X.fn x=true∨X.env.scope.names.lookup x=some .local:=by first|exact .inl rfl|exact .inr rfl|assumption):
  QS X (.Assign [.Name x pos'] e pos) (Qm.aI i fe):=(Gi hN hi hx he hs hf).imp <| by
 rintro D σ H ⟨ρ,env,c,fl,bQ,c',rs,re,e,k⟩
 obtain⟨p,e1,e⟩:=aE e
 cases e
 exact⟨ρ,env,c,p.1,p.2,rs,re,e1,fun aJ v H1 n1 r1=>k aJ H1 n1 _ ((re.up n1.up).set r1)⟩
theorem AE(he:QE X e fe)(hg:QG X tg fg)(hs:swapsWithSole [tg] e pos.line X.env=pure false:=by rfl)(hw:swappedStores [tg] e X.env=pure none:=by rfl)
  (h1:(assignEach [tg] X.env).map (·.2)=[assign tg X.env]:=by rfl):QS X (.Assign [tg] e pos) (Qm.wm fe fg):=(Gh he hg hs hw h1).imp <| by
 rintro D σ H ⟨ρ,env,c,fl,bQ,c',rs,re,e,k⟩
 obtain⟨p,e1,e⟩:=aE e
 obtain⟨q,e2,e⟩:=aE e
 cases e
 exact⟨ρ,env,c,p.1,p.2,rs,re,e1,fun aJ v H1 n1 r1=>⟨aJ,env,p.2,p.1,q.1,q.2,n1.rs,re.up n1.up,r1,e2,fun aM H' σ' n Ld=>k aM H' (n1.trans n) σ' Ld⟩⟩
theorem D8{i j:Nat}{x y:Str}{f:Qm.XA}{px py pt:Pos}{kt k2 lM}(hc:X.calm=true)(hN:X.N.Nodup)(hi:X.N[i]? =some x)(hj:X.N[j]? =some y)(eI:i≠j)
  (hx:X.env.scope.names.lookup x=some .local)(hy:X.env.scope.names.lookup y=some .local)(ha:QA X [a,b] f)
  (hw:swappedStores [.Tuple [.Name x px,.Name y py] kt pt] (.Tuple [a,b] k2 lM) X.env=pure (some [x,y]))
  (hs:swapsWithSole [.Tuple [.Name x px,.Name y py] kt pt] (.Tuple [a,b] k2 lM) pos.line X.env=pure false:=by rfl):
  QS X (.Assign [.Tuple [.Name x px,.Name y py] kt pt] (.Tuple [a,b] k2 lM) pos) (Qm.tw [i,j] f):=(Gj hc hN hi hj eI hx hy ha hw hs).imp <| by
 rintro D σ H ⟨ρ,env,c,fl,bQ,c',rs,re,e,k⟩
 obtain⟨p,e1,e⟩:=aE e
 split at e
 ·rename_i hl
  cases e
  refine⟨ρ,env,c,p.1,p.2,rs,re,e1,fun aJ vs H1 n1 r1=>?_⟩
  obtain⟨ds,c2⟩:=p
  match ds,hl,r1 with
  |[d1,d2],_,r1=>
   obtain⟨v,u,rfl,ra,rb⟩:=r1.tF
   exact⟨v,u,rfl,k aJ H1 n1 _ (((re.up n1.up).set ra).set rb)⟩
 ·cases e
theorem D9{i j l:Nat}{x y z:Str}{d0:Expr}{f:Qm.XA}{px py pz pt:Pos}{kt k2 lM}(hc:X.calm=true)(hN:X.N.Nodup)(hi:X.N[i]? =some x)(hj:X.N[j]? =some y)(hk:X.N[l]? =some z)(eI:i≠j)(K2:i≠l)(K3:j≠l)
  (hx:X.env.scope.names.lookup x=some .local)(hy:X.env.scope.names.lookup y=some .local)(hz:X.env.scope.names.lookup z=some .local)(ha:QA X [a,b,d0] f)
  (hw:swappedStores [.Tuple [.Name x px,.Name y py,.Name z pz] kt pt] (.Tuple [a,b,d0] k2 lM) X.env=pure (some [x,y,z]))
  (hs:swapsWithSole [.Tuple [.Name x px,.Name y py,.Name z pz] kt pt] (.Tuple [a,b,d0] k2 lM) pos.line X.env=pure false:=by rfl):
  QS X (.Assign [.Tuple [.Name x px,.Name y py,.Name z pz] kt pt] (.Tuple [a,b,d0] k2 lM) pos) (Qm.tw [i,j,l] f):=(DU hc hN hi hj hk eI K2 K3 hx hy hz ha hw hs).imp <| by
 rintro D σ H ⟨ρ,env,c,fl,bQ,c',rs,re,e,k⟩
 obtain⟨p,e1,e⟩:=aE e
 split at e
 ·rename_i hl
  cases e
  refine⟨ρ,env,c,p.1,p.2,rs,re,e1,fun aJ vs H1 n1 r1=>?_⟩
  obtain⟨ds,c2⟩:=p
  match ds,hl,r1 with
  |[d1,d2,d3],_,.cons ra r2=>
   obtain⟨v,u,rfl,rb,rc⟩:=r2.tF
   exact⟨_,v,u,rfl,k aJ H1 n1 _ ((((re.up n1.up).set ra).set rb).set rc)⟩
 ·cases e
theorem cq{i:Nat}{x:Str}(hN:X.N.Nodup)(hi:X.N[i]? =some x)(hx:Loc X.env.scope x)(hf:X.fn x=true∨X.env.scope.names.lookup x=some .local:=by first|exact .inl rfl|exact .inr rfl|assumption):QG X (.Name x pos) (Qm.aL i):=(vM hN hi hx hf).imp <| by
 rintro v σ H Q ⟨ρ,env,c,d,bQ,c',rs,re,rd,e,k⟩
 cases e
 exact k ρ H _ (Nx.refl rs) (re.set rd)
theorem D_:GY X [] Qm.p8:=Dc.imp <| by
 rintro vs σ H Q ⟨ρ,env,c,ds,bQ,c',rs,re,ra,e,k⟩
 unfold Qm.p8 at e
 split at e
 ·cases e
  exact⟨ra.ON,k ρ H σ (Nx.refl rs) re⟩
 ·cases e
theorem tI{Ea:Qm.sF}(h1:QG X e fg)(h2:GY X es Ea)(hs:(assignEach (e::es) X.env).map (·.2)=assign e X.env::(assignEach es X.env).map (·.2):=by rfl):GY X (e::es) (Qm.ja fg Ea):=(Bk h1 h2 hs).imp <| by
 rintro vs σ H Q ⟨ρ,env,c,ds,bQ,c',rs,re,ra,e,k⟩
 unfold Qm.ja at e
 split at e
 ·rename_i d t
  obtain⟨p,e1,e⟩:=aE e
  cases ra with
  |cons r1 r2=>
   exact⟨_,_,rfl,ρ,env,c,d,p.1,p.2,rs,re,r1,e1,fun aJ H1 σ1 n1 pF=>⟨aJ,p.1,p.2,t,bQ,c',n1.rs,pF,r2.up n1.up,e,fun aM H' σ' n Ld=>k aM H' σ' (n1.trans n) Ld⟩⟩
 ·cases e
theorem G3{k0:Nat}{Ea:Qm.sF}{n:Nat}(hc:X.calm=true)(h:GY X es Ea)(hn:(assignEach es X.env).length=n:=by rfl)(fM:(assignEach es X.env).findIdx? (·.1)=none:=by rfl):QG X (.Tuple es k0 pos) (Qm.p9 n Ea):=(Gf hc h hn fM).imp <| by
 rintro v σ H Q ⟨ρ,env,c,d,bQ,c',rs,re,rd,e,k⟩
 unfold Qm.p9 at e
 split at e
 ·rename_i xs
  split at e
  ·rename_i hl
   obtain⟨p,vs,rfl,h1,a1⟩:=rd.mZ
   exact⟨p,vs,rfl,dk.of h1,by rw[←a1.length];exact hl,ρ,env,c,xs,bQ,c',rs,re,a1,e,k⟩
  ·cases e
 ·cases e
theorem G4{o i:Expr}{fo fi:Qm.XE}(ho:QE X o fo)(hi:QE X i fi)
  (ha:∀v,assign (.Subscript o i pos) X.env v=(do
   let ov ←holding [v] (eval o X.env)
   let iv ←holding [v,ov] (eval i X.env)
   standAt pos
   holding [v,ov,iv] (setItem ov iv v)
   release [v,ov,iv] []):=by intro _;rfl):QG X (.Subscript o i pos) (Qm.Ar fo fi):=(Gg ho hi set_list ha).imp <| by
 rintro v σ H Q ⟨ρ,env,c,d,bQ,c',rs,re,rd,e,k⟩
 obtain⟨p,e1,e⟩:=aE e
 obtain⟨q,e2,e⟩:=aE e
 obtain⟨l,e3,e⟩:=aE e
 obtain⟨m,e4,e⟩:=aE e
 obtain⟨j,e5,e⟩:=aE e
 cases e
 refine⟨ρ,env,c,p.1,p.2,rs,re,e1,fun aJ v1 H1 n1 r1=>⟨aJ,env,p.2,q.1,q.2,n1.rs,re.up n1.up,e2,fun iw v2 H2 n2 r2=>?_⟩⟩
 rw[eQ e4]at r2
 cases r2.dA
 obtain⟨_,hn,ws,rfl,h,a⟩:=n2.rs.br (r1.up n2.up) e3
 have n:=Nx.put n2.rs hn (RA.set (rd.up (n1.trans n2).up) j a)
 refine⟨_,ws,m,j,rfl,rfl,h,by rw[←a.length];exact e5,?_⟩
 exact k iw _ σ (n1.trans (n2.trans n)) (re.up (n1.trans (n2.trans n)).up)
theorem lB{K:PySem.W.Frag}{ρ:Nat→Addr}{c:Qm.Cells}{H:Hp}(rs:RS K ρ c H){n:Nat}{z:Qm.Cell}{c0:Qm.Cells}{xs:List Qm.D}(h0:c0[n]? =some z)(h1:Qm.bM (.ref n) c0=some xs)(h:c[n]? =some z):∃vs,cU K H (ρ n) vs∧RA K ρ c.length H xs vs:=by
 have hn:n<c.length:=(List.getElem?_eq_some_iff.mp h).1
 have e:Qm.bM (.ref n) c=some xs:=by
  unfold Qm.bM at h1 ⊢
  dsimp only at h1 ⊢
  rw[h0]at h1;rw[h];exact h1
 obtain⟨vs,_,h2,h3⟩:=rs.DY (.ref hn) e
 exact⟨vs,h2,h3⟩
theorem jX(h:QE X e fe):QI X tg e (Qm.fX fe):=(Dg h).imp <| by
 rintro σ H R ⟨ρ,env,c,m,c',rs,re,e,k⟩
 obtain⟨p,e1,e⟩:=aE e
 refine⟨ρ,env,c,p.1,p.2,rs,re,e1,fun aJ v H1 n1 r1=>?_⟩
 split at e
 ·rename_i n hx
  obtain⟨z,e2,e⟩:=aE e
  obtain⟨xs,e3,e⟩:=aE e
  cases e
  rw[hx]at r1
  obtain⟨hv,hn⟩:=r1.oU
  subst hv
  obtain⟨vs,h1,a1⟩:=lB n1.rs e2 e3 e2
  refine⟨_,rfl,⟨vs,h1⟩,k aJ _ H1 n1 fun iw c2 H2 u2 OS qa=>?_⟩
  obtain⟨ws,h2,a2⟩:=lB OS e2 e3 (qa (n,z) (by simp))
  rw[u2.agree n hn]at h2
  refine⟨fun i hi=>⟨ws,ws[i]'(by rw[←a2.length];exact hi),h2,List.getElem?_eq_getElem _⟩,⟨ws,h2,by rw[a2.length];exact Nat.le_refl _⟩,fun i d x H' hd hy=>?_⟩
  obtain⟨rfl,hy⟩:=hy
  obtain⟨v,hv,rv⟩:=a2.get hd
  have:=hy ws h2
  rw[hv]at this;cases this
  exact⟨Nx.refl OS,rv⟩
 ·cases e
theorem Eb{lo:Int}{n i:Nat}{d:Qm.D}(h:(Qm.dI lo n)[i]? =some d):i<n∧d= .int (lo+i):=by
 unfold Qm.dI at h
 rw[List.getElem?_map]at h
 by_cases hi:i<n
 ·rw[List.getElem?_range hi]at h
  cases h
  exact⟨hi,rfl⟩
 ·rw[List.getElem?_eq_none_iff.mpr (by simpa using Nat.le_of_not_lt hi)]at h
  cases h
theorem AF{K:PySem.W.Frag}{ρ:Nat→Addr}{N:Nat}{H:Hp}{lo:Int}{n:Nat}:DZ K ρ N H ⟨Qm.dI lo n,[]⟩ (Df lo n):=fun ρ c H u rs _=>by
 have hl:(Qm.dI lo n).length=n:=by simp[Qm.dI]
 refine⟨fun i hi=>by show i<n;rw[←hl];exact hi,by show n≤(Qm.dI lo n).length;omega,fun i d x H' hd hy=>?_⟩
 obtain⟨rfl,rfl⟩:=hy
 obtain⟨_,rfl⟩:=Eb hd
 exact⟨Nx.refl rs,.int _⟩
theorem dC{f:Qm.XA}{p:Pos}(hg:Gl X "range")(hm:X.mg "range" =none)(ha:QA X [a] f)(hs:starEach [a] X.env=[(false,eval a X.env)]:=by rfl):QI X tg (.Call (.Name "range" p) [a] [] pos) (Qm.cx f):=(yH hg hm ha hs).imp <| by
 rintro σ H R ⟨ρ,env,c,m,c',rs,re,e,k⟩
 obtain⟨p,e1,e⟩:=aE e
 refine⟨ρ,env,c,p.1,p.2,rs,re,e1,fun aJ vs H1 n1 r1=>?_⟩
 split at e
 ·rename_i j hj
  split at e
  ·rename_i hb
   cases e
   rw[hj]at r1
   obtain⟨v,rfl,rv⟩:=r1.iT
   cases rv.dA
   exact⟨j,rfl,hb.1,hb.2,k aJ _ H1 n1 AF⟩
  ·cases e
 ·cases e
theorem zj{f:Qm.XA}{p:Pos}(hg:Gl X "range")(hm:X.mg "range" =none)(ha:QA X [a,b] f)(hs:starEach [a,b] X.env=[(false,eval a X.env),(false,eval b X.env)]:=by rfl)(kZ:starEach [b] X.env=[(false,eval b X.env)]:=by rfl):QI X tg (.Call (.Name "range" p) [a,b] [] pos) (Qm.jL f):=(yI hg hm ha hs kZ).imp <| by
 rintro σ H R ⟨ρ,env,c,m,c',rs,re,e,k⟩
 obtain⟨p,e1,e⟩:=aE e
 refine⟨ρ,env,c,p.1,p.2,rs,re,e1,fun aJ vs H1 n1 r1=>?_⟩
 split at e
 ·rename_i i j hj
  split at e
  ·rename_i hb
   cases e
   rw[hj]at r1
   obtain⟨v,u,rfl,rv,ru⟩:=r1.tF
   cases rv.dA;cases ru.dA
   exact⟨i,j,rfl,⟨hb.1.1,hb.1.2,hb.2.1,hb.2.2⟩,k aJ _ H1 n1 AF⟩
  ·cases e
 ·cases e
theorem ib{body:List Stmt}{fi:Qm.XI}(hp:PassesOwn (model X.prog X.w) X.A X.env X.xe)(hc:X.calm=true)(hi:QI X tg e fi)(hg:QG X tg fg)(hb:sI X body fs)
  (hs:∀x,foldedSetIterable e X.env x=pure x:=by intro _;rfl):QS X (.For tg e body [] pos) (Qm.dO fi fg fs):=(Gn hp hc hi hg hb hs).imp <| by
 rintro D σ H ⟨ρ,env,c,fl,bQ,c',rs,re,e,k⟩
 obtain⟨m,e1,e⟩:=aE e
 refine⟨ρ,env,c,m.1,m.2,rs,re,e1,fun zg J H0 n0 it=>?_⟩
 refine⟨fun i q σ' H'=>q=m.1.ds.length - i∧i≤m.1.ds.length∧∃aJ dB c1,Nx X.K zg m.2 H0 aJ c1 H'∧RE X.K aJ c1.length H' dB σ'∧Qm.gD m.1.ks fg fs (m.1.ds.drop i) dB c1=some (fl,bQ,c'),⟨_,rfl,Nat.zero_le _,zg,env,m.2,Nx.refl n0.rs,re.up n0.up,e⟩,?_⟩
 rintro i q σ1 H1 ⟨rfl,hi,aJ,dB,c1,n1,pF,e1⟩
 by_cases da:i<m.1.ds.length
 ·rw[List.drop_eq_getElem_cons da]at e1
  unfold Qm.gD at e1
  split at e1
  ·rename_i fM
   obtain⟨go,_,yl⟩:=it aJ c1 H1 n1.up n1.rs fM
   obtain⟨p,e2,e1⟩:=aE e1
   obtain⟨q,e3,e1⟩:=aE e1
   refine .inr ⟨go i da,fun σ' H'=>i+1≤m.1.ds.length∧∃aJ dB c1,Nx X.K zg m.2 H0 aJ c1 H'∧RE X.K aJ c1.length H' dB σ'∧Qm.gD m.1.ks fg fs (m.1.ds.drop (i+1)) dB c1=some (fl,bQ,c'),fun σ' H' h=>⟨m.1.ds.length - (i+1),by omega,rfl,h⟩,fun x H2 hy=>?_⟩
   obtain⟨n2,r2⟩:=yl i _ x H2 (List.getElem?_eq_getElem da) hy
   refine⟨aJ,dB,c1,_,p.1,p.2,n2.rs,pF.up n2.up,r2,e2,fun uI H3 nT n3 BJ=>?_⟩
   obtain⟨f,qP,c4⟩:=q
   refine⟨uI,p.1,p.2,f,qP,c4,n3.rs,BJ,e3,fun m8 H4 n4=>?_⟩
   have nn:=n1.trans (n2.trans (n3.trans n4))
   cases f with
   |nx=>exact fun zk qQ=>⟨da,m8,qP,c4,nn,qQ,e1⟩
   |ct=>exact fun zk qQ=>⟨da,m8,qP,c4,nn,qQ,e1⟩
   |bk=>cases e1;exact fun zk qQ=>k m8 H4 (n0.trans nn) zk qQ
   |rt d=>cases e1;exact fun v rv=>k m8 H4 (n0.trans nn) v rv
  ·cases e1
 ·have wy:i=m.1.ds.length:=by omega
  subst wy
  rw[List.drop_length]at e1
  unfold Qm.gD at e1
  split at e1
  ·rename_i fM
   obtain⟨_,stop,_⟩:=it aJ c1 H1 n1.up n1.rs fM
   cases e1
   exact .inl ⟨stop,k aJ H1 (n0.trans n1) σ1 pF⟩
  ·cases e1
theorem oe{c0:Expr}{body:List Stmt}(hp:PassesOwn (model X.prog X.w) X.A X.env X.xe)(hc:QT X c0 ft)(hb:sI X body fs):QS X (.While c0 body [] pos) (Qm.cV ft fs):=(Bl hp hc hb).imp <| by
 rintro D σ H ⟨ρ,env,c,fl,bQ,c',rs,re,e,k⟩
 obtain⟨n,e⟩:=Qm.qJ e
 refine⟨fun q σ' H'=>∃aJ dB c1,Nx X.K ρ c H aJ c1 H'∧RE X.K aJ c1.length H' dB σ'∧Qm.fE ft fs q dB c1=some (fl,bQ,c'),⟨n,ρ,env,c,Nx.refl rs,re,e⟩,?_⟩
 rintro q σ1 H1 ⟨aJ,dB,c1,n1,pF,e1⟩
 cases q with
 |zero=>simp[Qm.fE]at e1
 |succ q=>
  simp only[Qm.fE]at e1
  obtain⟨p,e2,e1⟩:=aE e1
  refine⟨aJ,dB,c1,p.1,p.2,n1.rs,pF,e2,fun iw H2 n2=>?_⟩
  split at e1
  ·rename_i hi
   rw[if_pos hi]
   obtain⟨r,e3,e1⟩:=aE e1
   refine⟨fun σ' H'=>∃aJ dB c1,Nx X.K ρ c H aJ c1 H'∧RE X.K aJ c1.length H' dB σ'∧Qm.fE ft fs q dB c1=some (fl,bQ,c'),fun σ' H' h=>⟨q,Nat.lt_succ_self _,h⟩,?_⟩
   obtain⟨f,qP,c4⟩:=r
   refine⟨iw,dB,p.2,f,qP,c4,n2.rs,pF.up n2.up,e3,fun m8 H4 n4=>?_⟩
   have nn:=n1.trans (n2.trans n4)
   cases f with
   |nx=>exact fun zk qQ=>⟨m8,qP,c4,nn,qQ,e1⟩
   |ct=>exact fun zk qQ=>⟨m8,qP,c4,nn,qQ,e1⟩
   |bk=>cases e1;exact fun zk qQ=>k m8 H4 nn zk qQ
   |rt d=>cases e1;exact fun v rv=>k m8 H4 nn v rv
  ·rename_i hi
   rw[if_neg hi]
   cases e1
   exact k iw H2 (n1.trans n2) σ1 (pF.up n2.up)
theorem fm:Aw X [] Qm.eL:=BA.imp <| by
 rintro σ H Q ⟨ρ,env,c,b,c',rs,re,e,k⟩
 cases e
 exact k ρ H (Nx.refl rs)
theorem BK{c0:Expr}(h:QT X c0 ft):Aw X [c0] ft:=DQ h
theorem RE.pA{K:PySem.W.Frag}{ρ:Nat→Addr}{N:Nat}{H:Hp}{env:Qm.Env}{σ:St}(re:RE K ρ N H env σ)(cap:List (Option Nat)):RE K ρ N H (Qm.jS env cap) (pA σ cap):=by
 refine⟨by simp[Qm.jS,L2.pA],fun j d h=>?_⟩
 unfold Qm.jS at h
 unfold L2.pA
 rw[List.getElem?_map]at h ⊢
 cases e:cap[j]? with
 |none=>rw[e]at h;cases h
 |some o=>
  rw[e]at h
  cases o with
  |none=>simp at h
  |some i=>
   simp only[Option.map_some,Option.some.injEq]at h
   cases e2:env[i]? with
   |none=>rw[e2]at h;cases h
   |some w=>
    rw[e2]at h
    have h':w=some d:=h
    subst h'
    obtain⟨v,h1,h2⟩:=re.at_ i d e2
    refine⟨v,?_,h2⟩
    simp[h1]
theorem wz{K:PySem.W.Frag}{fi:Qm.XI}{cap:List (Option Nat)}{σ:St}{H:Hp}{Q:VK}(h:TQ K (Qm.cR fi cap fg ft fe) σ H Q):y_ (IQ K fi) cap (GQ K fg) (BQ K ft) (TQ K fe) σ H Q:=by
 obtain⟨ρ,env,c,d,c',rs,re,e,k⟩:=h
 obtain⟨m,e1,e⟩:=aE e
 obtain⟨cz,e2,e⟩:=aE e
 cases e
 refine⟨ρ,env,c,m.1,m.2,rs,re,e1,fun zg J H0 n0 it l hl=>?_⟩
 obtain⟨na,ra⟩:=Nx.alloc n0.rs hl (ds:=[]) (vs:=[]) .nil
 generalize T8:(fun n=>if n=m.2.length then l else zg n)=Ec at na ra
 have hL:Ec m.2.length=l:=by rw[←T8];simp
 have hlen:(m.2++[Qm.Cell.lst []]).length=m.2.length+1:=by simp
 have fin:∀{aJ:Nat→Addr}{c1:Qm.Cells}{H1:Hp},Nx K Ec (m.2++[.lst []]) (upd H0 l (.lst [])) aJ c1 H1→aJ m.2.length=l:=fun n=>by rw[n.up.agree _ (by rw[hlen];omega),hL]
 refine⟨fun i q τ H'=>q=m.1.ds.length - i∧i≤m.1.ds.length∧∃aJ dB c1,Nx K Ec (m.2++[.lst []]) (upd H0 l (.lst [])) aJ c1 H'∧RE K aJ c1.length H' dB τ∧Qm.cW m.2.length m.1.ks fg ft fe (m.1.ds.drop i) dB c1=some c',
  ⟨_,rfl,Nat.zero_le _,Ec,_,_,Nx.refl na.rs,((re.up n0.up).up na.up).pA cap,e2⟩,?_⟩
 rintro i q τ H1 ⟨rfl,hi,aJ,dB,c1,n1,pF,e1⟩
 have OT:=it aJ c1 H1 (na.up.trans n1.up) n1.rs
 by_cases da:i<m.1.ds.length
 ·rw[List.drop_eq_getElem_cons da]at e1
  unfold Qm.cW at e1
  split at e1
  ·rename_i fM
   obtain⟨go,_,yl⟩:=OT fM
   obtain⟨p,e2,e1⟩:=aE e1
   obtain⟨b,e3,e1⟩:=aE e1
   refine .inr ⟨go i da,fun τ H'=>i+1≤m.1.ds.length∧∃aJ dB c1,Nx K Ec (m.2++[.lst []]) (upd H0 l (.lst [])) aJ c1 H'∧RE K aJ c1.length H' dB τ∧Qm.cW m.2.length m.1.ks fg ft fe (m.1.ds.drop (i+1)) dB c1=some c',fun σ' H' h=>⟨m.1.ds.length - (i+1),by omega,rfl,h⟩,fun x H2 hy=>?_⟩
   obtain⟨n2,r2⟩:=yl i _ x H2 (List.getElem?_eq_getElem da) hy
   refine⟨aJ,dB,c1,_,p.1,p.2,n2.rs,pF.up n2.up,r2,e2,fun uI H3 nT n3 BJ=>?_⟩
   refine⟨uI,p.1,p.2,b.1,b.2,n3.rs,BJ,e3,fun m8 H4 n4=>?_⟩
   have nn:=n1.trans (n2.trans (n3.trans n4))
   split at e1
   ·rename_i hb
    dsimp only
    rw[if_pos hb]
    obtain⟨y,e4,e1⟩:=aE e1
    refine⟨m8,p.1,b.2,y.1,y.2,n4.rs,BJ.up n4.up,e4,fun K_ yv H5 n5 r5=>?_⟩
    have Ed:=nn.trans n5
    split at e1
    ·rename_i ys OU
     split at e1
     ·rename_i hz
      obtain⟨vs,h5,a5⟩:=Ed.rs.lst OU
      rw[fin Ed]at h5
      have n6:=Nx.put Ed.rs OU (a5.append (RA.one r5))
      rw[fin Ed]at n6
      refine⟨vs,h5,qK (by rw[←a5.length];exact hz),da,K_,p.1,_,Ed.trans n6,(BJ.up (n4.trans (n5.trans n6)).up),e1⟩
     ·cases e1
    ·cases e1
   ·rename_i hb
    dsimp only
    rw[if_neg hb]
    exact⟨da,m8,p.1,b.2,nn,BJ.up n4.up,e1⟩
  ·cases e1
 ·have wy:i=m.1.ds.length:=by omega
  subst wy
  rw[List.drop_length]at e1
  unfold Qm.cW at e1
  split at e1
  ·rename_i fM
   obtain⟨_,stop,_⟩:=OT fM
   cases e1
   refine .inl ⟨stop,k aJ _ H1 (n0.trans (na.trans n1)) ?_⟩
   rw[←fin n1]
   exact .ref (Nat.lt_of_lt_of_le (by rw[hlen];omega) n1.up.len)
  ·cases e1
theorem Ee{tg:Expr}{scope:Scope}{N':List Str}{cap:List (Option Nat)}{ifs:List Expr}{fi:Qm.XI}(B:lQ X scope N' cap)(hc:X.calm=true)
  (hi:QI X tg b fi)(hg:∀C aW bW fp,QG (X.fO scope C N' aW bW fp) tg fg)(ht:∀C aW bW fp,Aw (X.fO scope C N' aW bW fp) ifs ft)(he:∀C aW bW fp,QE (X.fO scope C N' aW bW fp) e fe)
  (hs:∀x,foldedSetIterable b X.env x=pure x:=by intro _;rfl):
  QE X (.ListComp e [⟨tg,b,ifs,0⟩] scope pos) (Qm.cR fi cap fg ft fe):=(DS B hc hi hg ht he hs).imp fun _ _ _ h=>wz h
theorem iU{i:Nat}{tg:Expr}{y:Str}{py wj:Pos}{scope:Scope}{N':List Str}{cap:List (Option Nat)}{ifs:List Expr}{fi:Qm.XI}(B:lQ X scope N' cap)(hc:X.calm=true)
  (hi:QI X tg b fi)(hg:∀C aW bW fp,QG (X.fO scope C N' aW bW fp) tg fg)(ht:∀C aW bW fp,Aw (X.fO scope C N' aW bW fp) ifs ft)(he:∀C aW bW fp,QE (X.fO scope C N' aW bW fp) e fe)
  (hN:X.N.Nodup)(KZ:X.N[i]? =some y)(hy:Loc X.env.scope y)(K0:swapsWith (.ListComp e [⟨tg,b,ifs,0⟩] scope pos) (some (.Name y py)) wj.line X.env=pure true)
  (hf:X.fn y=true∨X.env.scope.names.lookup y=some .local:=by first|exact .inl rfl|exact .inr rfl|assumption)
  (hs:∀x,foldedSetIterable b X.env x=pure x:=by intro _;rfl):
  QS X (.Assign [.Name y py] (.ListComp e [⟨tg,b,ifs,0⟩] scope pos) wj) (Qm.aI i (Qm.cR fi cap fg ft fe)):=(DT B hc hi hg ht he hN KZ hy K0 hf hs).imp <| by
 rintro D σ H ⟨ρ,env,c,fl,bQ,c',rs,re,e,k⟩
 obtain⟨p,e1,e⟩:=aE e
 cases e
 exact wz ⟨ρ,env,c,p.1,p.2,rs,re,e1,fun aJ v H1 n1 r1=>k aJ H1 n1 _ ((re.up n1.up).set r1)⟩
theorem kK{K:PySem.W.Frag}{n:Nat}{N:List Str}{B:Qm.XS}{vs:List V}{H:Hp}{Q:VK}{E:XK}(hn:n≤N.length)(h:dv K (Qm.eP n N.length B) vs H Q E):vs.length=n∧SQ K B { nx:=fun _ H'=>Q .bb H',rt:=Q } (start N vs) H:=by
 obtain⟨ρ,c,ds,d,c',rs,ra,e,k⟩:=h
 unfold Qm.eP at e
 split at e
 ·rename_i hl
  obtain⟨p,e1,e⟩:=aE e
  obtain⟨f,bQ,c2⟩:=p
  have hv:vs.length=n:=by rw[←ra.length];exact hl
  refine⟨hv,ρ,_,c,f,bQ,c2,rs,⟨?_,fun i d hd=>?_⟩,e1,fun aM H' nx=>?_⟩
  ·simp[start,hl,hv]
  ·have hi:i<ds.length:=by
    by_cases hi:i<ds.length
    ·exact hi
    ·exfalso
     rw[List.getElem?_append_right (by simp;omega)]at hd
     have:=List.mem_of_getElem? hd
     have:=List.eq_of_mem_replicate this
     cases this
   rw[List.getElem?_append_left (by simpa using hi),List.getElem?_map]at hd
   cases e:ds[i]? with
   |none=>rw[e]at hd;cases hd
   |some d'=>
    rw[e]at hd
    cases hd
    obtain⟨v,h1,h2⟩:=ra.get e
    refine⟨v,?_,h2⟩
    unfold start
    rw[List.getElem?_append_left (by have:=ra.length;simp;omega),List.getElem?_map,h1]
    rfl
  ·cases f with
   |nx=>cases e;exact fun σ' _=>k aM .bb H' nx .bb
   |rt d=>cases e;exact fun v rv=>k aM v H' nx rv
   |bk=>cases e
   |ct=>cases e
 ·cases e
end
section
variable{P:Program}{w:World}{K:PySem.W.Frag}{mg:Str→Option Value}{base:Heap}
theorem d7.fR{x qual:Str}{st:Stmt}{f:Addr}{fd:FuncData}{N ps:List Str}{k n m:Nat}{B:Qm.XS}{FF:Qm.FN}(F:d7 K x qual st f fd)(S:aZ N ps (ar st))(hn:ps.length=n)(hm:N.length=m)(hN:n≤m)(hF:FF=Qm.eP n m B)
  (jb:∀(cf:Value) (A:Around) (outer:List Env) (s:Shared) (H:Hp) (E:XK),cY k (A.deeper (envOfC qual (ar st) s.heap.objs.size f cf))→
   sI (lr cQ P w K mg base N qual (ar st) f cf A outer s H E).yE (aP st) B):bL P w K mg base cQ (k+1) f fd ps (dv K FF):=by
 subst hm hF
 exact F.ok S (fun vs H Q E h=>by rw[(kK hN h).1,hn]) fun cf A outer s H vs Q E hr h=>⟨_,jb cf A outer s H E hr,(kK hN h).2⟩
end
end L2
namespace L2
open PySem PySem.Spec PyProof.Rows
section
variable{prog:Program}{w:World}{A:Around}{E:Value→Shared→Prop}{s:Shared}
def OV(h:Heap)(z TI TO:Addr)(f0 f1:Value):Prop:=h.get? z=some { cls:=.type "zip",dict:=none,data:=.fields #[f0,f1,.bool false,.ref TI,.ref TO],slots:=#[] }
def uL(h:Heap)(T:Addr)(a b:Value):Prop:=h.get? T=some { cls:=.type "tuple",data:=.seq #[a,b] }
structure G5(z TI TO i1 i2 t1 t2:Addr):Prop where
 nd: [z,TI,TO,i1,i2].Nodup
 n1:t1∉[z,TI,TO,i1,i2]
 n2:t2∉[z,TI,TO,i1,i2]
def Le(h:Heap)(f0:Value):Prop:=f0= .none∨∃T o,f0=rawInt (T:Addr)∧h.get? T=some o
structure Ef(h:Heap)(z TI TO i1 i2 t1 t2:Addr)(xs ys:Array Value)(k:Nat):Prop where
 ap:G5 z TI TO i1 i2 t1 t2
 rc:∃f0 b1,OV h z TI TO f0 (.bool b1)∧Le h f0
 ti:uL h TI (.ref i1) (.ref i2)
 to:∃a b,uL h TO a b
 j1:h.IsTupleIter i1 t1 k
 j2:h.IsTupleIter i2 t2 k
 l1:h.IsTuple t1 xs
 l2:h.IsTuple t2 ys
theorem Ef.type{z TI TO i1 i2 t1 t2:Addr}{xs ys:Array Value}{k:Nat}(Z:Ef s.heap z TI TO i1 i2 t1 t2 xs ys k):s.TypeIs (.ref z) "zip":=by
 obtain⟨f0,b1,h,_⟩:=Z.rc
 exact⟨_,h,rfl⟩
end
end L2
namespace L2
open PySem PySem.Spec PyProof.Rows
section
variable{prog:Program}{w:World}{A:Around}{E:Value→Shared→Prop}{s:Shared}
theorem Ef.at{h h':Heap}{z TI TO i1 i2 t1 t2:Addr}{xs ys:Array Value}{k:Nat}(Z:Ef h z TI TO i1 i2 t1 t2 xs ys k)(up:∀c,c∈[z,TI,TO,i1,i2,t1,t2]→∀o,h.get? c=some o→h'.get? c=some o)(al:∀c o,h.get? c=some o→∃o',h'.get? c=some o'):Ef h' z TI TO i1 i2 t1 t2 xs ys k:=by
 obtain⟨D,⟨f0,b1,hz,hf⟩,gI,⟨a,b,gO⟩,j1,j2,l1,l2⟩:=Z
 refine⟨D,⟨f0,b1,up _ (by simp) _ hz,?_⟩,up _ (by simp) _ gI,⟨a,b,up _ (by simp) _ gO⟩,j1.at fun o e=>up _ (by simp) o e,j2.at fun o e=>up _ (by simp) o e,l1.at fun o e=>up _ (by simp) o e,l2.at fun o e=>up _ (by simp) o e⟩
 rcases hf with e|⟨T,o,e,g⟩
 ·exact .inl e
 ·obtain⟨o',g'⟩:=al _ _ g
  exact .inr ⟨T,o',e,g'⟩
end
end L2
namespace L2
open PySem PySem.Spec PyProof.Rows
structure Jn(h:Heap)(b0:Nat)(xs ys:Array Value)(Ts:List Addr)(k:Nat):Prop where
 len:Ts.length=k
 nd:Ts.Nodup
 new:∀T∈Ts,b0≤T∧T<h.objs.size
 at_:∀(i:Nat) (T:Addr),Ts[i]? =some T→∃x y,xs[i]? =some x∧ys[i]? =some y∧uL h T x y
theorem Jn.nil{h:Heap}{b0:Nat}{xs ys:Array Value}:Jn h b0 xs ys [] 0:=⟨rfl,List.nodup_nil,fun _ h=>(nomatch h),fun i T h=>by simp at h⟩
section
variable{prog:Program}{w:World}{A:Around}{s:Shared}{R:Result→Shared→Prop}
end
section
variable{prog:Program}{w:World}{A:Around}{E:Value→Shared→Prop}{s:Shared}
end
end L2
namespace L2
open PySem PySem.Spec PyProof.Rows
section
variable{X:Cx}{pins:List (Addr×Obj)}{σ:St}{H H':Hp}{s:Shared}{h':Heap}
end
section
variable{X:Cx}
end
end L2
namespace L2
open PySem PySem.Spec PyProof.Rows
section
variable{X:Cx}{e1 e2:Expr}{p0 p1 p2 pos:Pos}{f:Qm.XA}
theorem RA.zip{K:PySem.W.Frag}{ρ:Nat→Addr}{N:Nat}{H:Hp}:∀{xs ys:List Qm.D}{vs us:List V}{Ts:List Addr},RA K ρ N H xs vs→RA K ρ N H ys us→Ts.length=min vs.length us.length→(∀(i:Nat) (T:Addr) (x y:V),Ts[i]? =some T→vs[i]? =some x→us[i]? =some y→H T=some (.tup [x,y]))→RA K ρ N H (Qm.Jj xs ys) (Ts.map V.ref)
 |[],_,_,_,Ts,.nil,_,hl,_=>by
  have:Ts=[]:=List.length_eq_zero_iff.mp (by simpa using hl)
  subst this
  exact .nil
 |_::_,[],_,_,Ts,.cons _ _,.nil,hl,_=>by
  have:Ts=[]:=List.length_eq_zero_iff.mp (by simpa using hl)
  subst this
  exact .nil
 |x::xs,y::ys,v::vs,u::us,Ts,.cons r1 a1,.cons r2 a2,hl,h=>by
  cases Ts with
  |nil=>simp at hl
  |cons T Ts=>
   refine .cons (.tup (h 0 T v u rfl rfl rfl) (.cons r1 (.cons r2 .nil))) (RA.zip a1 a2 (by simp at hl ⊢;omega) fun i T' x y h1 h2 h3=>h (i+1) T' x y (by simpa using h1) (by simpa using h2) (by simpa using h3))
end
end L2
namespace L2
open PySem PySem.Spec PyProof.Rows
end L2
namespace L2
open PySem PySem.Spec PyProof.Rows
section
variable{prog:Program}{w:World}{A:Around}{E:Value→Shared→Prop}{s:Shared}
def Eg(h:Heap)(a t:Addr)(i:Int):Prop:=∃o,h.get? a=some o∧o.cls= .type "reversed"∧o.data= .fields #[.ref t,rawInt i]
theorem Eg.at{h h':Heap}{a t:Addr}{i:Int}(x:Eg h a t i)(e:∀o,h.get? a=some o→h'.get? a=some o):Eg h' a t i:=let ⟨o,ho,r⟩:=x;⟨o,e _ ho,r⟩
end
end L2
namespace L2
open PySem PySem.Spec PyProof.Rows
section
variable{prog:Program}{w:World}{A:Around}{E:Value→Shared→Prop}{s:Shared}{I:Addr}{fp wr:List Addr}{G:Array GenState→Array GenState→Prop}{n:Nat}{P:Nat→Value→Prop}{St:Nat→Shared→Prop}
end
end L2
namespace L2
open PySem PySem.Spec PyProof.Rows
section
variable{prog:Program}{w:World}{A:Around}{E:Value→Shared→Prop}{s:Shared}{I:Addr}{fp wr:List Addr}{G:Array GenState→Array GenState→Prop}{P:Nat→Value→Prop}{St:Nat→Shared→Prop}
end
section
variable{X:Cx}
end
end L2
namespace Qm
open PySem
def Lf:FN:=fun ds c=>match ds with
 |[.tup xs]=>if xs.isEmpty=true then none else some (.tup xs.reverse,c)
 |_=>none
def Xa(a:XE):XI:=fun σ c=>match a σ c with
 |some (.tup _,_)=>IX a σ c
 |_=>fX a σ c
end Qm
namespace L2
open PySem PySem.Spec PyProof.Rows
section
variable{X:Cx}{e1:Expr}{p0 p1 p2 pos:Pos}{f:Qm.XA}
theorem RA.snoc{K:PySem.W.Frag}{ρ:Nat→Addr}{N:Nat}{H:Hp}:∀{xs ys:List Qm.D}{vs us:List V},RA K ρ N H xs vs→RA K ρ N H ys us→RA K ρ N H (xs++ys) (vs++us)
 |[],_,_,_,.nil,h=>h
 |_::_,_,_,_,.cons r t,h=>.cons r (RA.snoc t h)
theorem RA.back{K:PySem.W.Frag}{ρ:Nat→Addr}{N:Nat}{H:Hp}:∀{xs:List Qm.D}{vs:List V},RA K ρ N H xs vs→RA K ρ N H xs.reverse vs.reverse
 |[],_,.nil=>.nil
 |_::_,_,.cons r t=>by
  rw[List.reverse_cons,List.reverse_cons]
  exact RA.snoc (RA.back t) (.cons r .nil)
end
end L2
namespace L2
open PySem PySem.Spec PyProof.Rows
mutual
def nb:PyData→Bool
 |.none=>true
 |.int _=>true
 |.str _=>true
 |.tuple ds=>qR ds
 |.list ds=>qR ds
 |_=>false
def qR:List PyData→Bool
 |[]=>true
 |d::ds=>nb d&&qR ds
end
section
variable{K:PySem.W.Frag}{ρ:Nat→Addr}{c:Qm.Cells}{H:Hp}
theorem uM{k:Nat}(rs:RS K ρ c H)(ih:∀{x:Qm.D}{v:V}{d:PyData},RD K ρ c.length H x v→Qm.data c k x=some d→iQ K H v d∧PyData.canLay0 d=true∧d.depth≤k∧nb d=true):
  ∀{xs:List Qm.D}{vs:List V}{ds:List PyData},RA K ρ c.length H xs vs→Qm.omap (Qm.data c k) xs=some ds→lS K H vs ds∧PyData.canLayAll0 ds=true∧PyData.depthAll ds≤k∧qR ds=true
 |[],_,ds,a,h=>by
  cases a
  cases h
  exact⟨.nil,rfl,Nat.zero_le _,rfl⟩
 |x::xs,_,ds,a,h=>by
  cases a with
  |cons r a=>
   obtain⟨d,h1,h⟩:=aE h
   obtain⟨es,h2,h⟩:=aE h
   cases h
   obtain⟨a1,a2,a3,a4⟩:=ih r h1
   obtain⟨b1,b2,b3,b4⟩:=uM rs ih a h2
   exact⟨.cons a1 b1,by simp[PyData.canLayAll0,a2,b2],by simp only[PyData.depthAll];omega,by simp[qR,a4,b4]⟩
theorem ng(rs:RS K ρ c H):∀(k:Nat) {x:Qm.D}{v:V}{d:PyData},RD K ρ c.length H x v→Qm.data c k x=some d→iQ K H v d∧PyData.canLay0 d=true∧d.depth≤k∧nb d=true
 |0,_,_,_,_,h=>by simp[Qm.data]at h
 |k+1,x,v,d,r,h=>by
  have A:∀{xs:List Qm.D}{vs:List V}{ds:List PyData},RA K ρ c.length H xs vs→Qm.omap (Qm.data c k) xs=some ds→lS K H vs ds∧PyData.canLayAll0 ds=true∧PyData.depthAll ds≤k∧qR ds=true:=fun {xs vs ds}=>uM (k:=k) rs (fun r h=>ng rs k r h)
  cases x with
  |bb=>simp[Qm.data]at h;subst h;cases r.Jk;exact⟨.bb,rfl,Nat.zero_le _,rfl⟩
  |int i=>simp[Qm.data]at h;subst h;cases r.dA;exact⟨.int i,rfl,Nat.zero_le _,rfl⟩
  |bl b=>simp[Qm.data]at h
  |str b=>
   simp only[Qm.data]at h
   split at h
   ·rename_i hb
    cases h
    cases r
    exact⟨.str b,hb,Nat.zero_le _,rfl⟩
   ·cases h
  |ty b=>simp[Qm.data]at h
  |adr b=>simp[Qm.data]at h
  |qF t bs=>simp[Qm.data]at h
  |tup xs=>
   simp only[Qm.data]at h
   obtain⟨ds,h1,h⟩:=aE h
   cases h
   obtain⟨p,vs,rfl,g,a⟩:=r.mZ
   obtain⟨a1,a2,a3,a4⟩:=A a h1
   exact⟨.tup (dk.of g) a1,by simpa[PyData.canLay0]using a2,by simp only[PyData.depth];omega,by simpa[nb]using a4⟩
  |ref n=>
   simp only[Qm.data]at h
   have hs:∀{xs:List Qm.D},Qm.bM (.ref n) c=some xs→(Qm.omap (Qm.data c k) xs).bind (fun ds=>some (PyData.list ds))=some d→iQ K H v d∧PyData.canLay0 d=true∧d.depth≤k+1∧nb d=true:=fun {xs} e h=>by
    obtain⟨ds,h1,h⟩:=aE h
    cases h
    obtain⟨vs,rfl,g,a⟩:=rs.DY r e
    obtain⟨a1,a2,a3,a4⟩:=A a h1
    exact⟨.lst g a1,by simpa[PyData.canLay0]using a2,by simp only[PyData.depth];omega,by simpa[nb]using a4⟩
   cases e:c[n]? with
   |none=>rw[e]at h;cases h
   |some z=>
    rw[e]at h
    cases z with
    |lst xs=>exact hs (by simp[Qm.bM,e]) h
    |ro xs=>exact hs (by simp[Qm.bM,e]) h
    |nX xs=>cases h
    |za xs=>cases h
    |mV xs=>cases h
    |BC xs=>cases h
    |qG xs=>cases h
    |exc C S xs=>cases h
    |tab cd q=>cases h
end
mutual
theorem nh:∀(d e:PyData),nb d=true→nb e=true→(PyData.eqv d e=true↔d=e)
 |.none,e,_,he=>by cases e<;>simp_all [PyData.eqv,nb]
 |.int i,e,_,he=>by cases e<;>simp_all [PyData.eqv,nb]
 |.tuple ds,e,hd,he=>by
  cases e<;>simp_all [PyData.eqv,nb]
  exact og _ _ hd he
 |.list ds,e,hd,he=>by
  cases e<;>simp_all [PyData.eqv,nb]
  exact og _ _ hd he
 |.bool _,_,h,_=>by simp[nb]at h
 |.str a,e,_,he=>by cases e<;>simp_all [PyData.eqv,nb]
 |.dict _,_,h,_=>by simp[nb]at h
theorem og:∀(ds es:List PyData),qR ds=true→qR es=true→(PyData.eqvAll ds es=true↔ds=es)
 |[],[],_,_=>by simp[PyData.eqvAll]
 |[],_::_,_,_=>by simp[PyData.eqvAll]
 |_::_,[],_,_=>by simp[PyData.eqvAll]
 |d::ds,e::es,hd,he=>by
  simp only[qR,Bool.and_eq_true]at hd he
  simp only[PyData.eqvAll,Bool.and_eq_true,List.cons.injEq]
  rw[nh d e hd.1 he.1,og ds es hd.2 he.2]
end
section
variable{X:Cx}
theorem AG{x y:Qm.D}{c:Qm.Cells}{b:Bool}(h:Qm.nZ x y c=some b):(∃p q,x= .bl p∧y= .bl q∧b=(p==q))∨∃d e,Qm.data c 6 x=some d∧Qm.data c 6 y=some e∧(b=true↔d=e):=by
 unfold Qm.nZ at h
 split at h
 ·cases h;exact .inl ⟨_,_,rfl,rfl,rfl⟩
 ·obtain⟨d,h1,h⟩:=aE h
  obtain⟨e,h2,h⟩:=aE h
  cases h
  exact .inr ⟨d,e,h1,h2,by simp⟩
theorem wA{K:PySem.W.Frag}{ρ:Nat→Addr}{c:Qm.Cells}{H:Hp}{x y:Qm.D}{v u:V}{d e:PyData}{b:Bool}(rs:RS K ρ c H)(rx:RD K ρ c.length H x v)(ry:RD K ρ c.length H y u)(h1:Qm.data c 6 x=some d)(h2:Qm.data c 6 y=some e)(hb:b=true↔d=e):
  iQ K H v d∧iQ K H u e∧SeqAt.shaped d=true∧SeqAt.shaped e=true∧PyData.eqv d e=b:=by
 obtain⟨a1,a2,a3,a4⟩:=ng rs 6 rx h1
 obtain⟨b1,b2,b3,b4⟩:=ng rs 6 ry h2
 refine⟨a1,b1,by simp[SeqAt.shaped,a2];omega,by simp[SeqAt.shaped,b2];omega,?_⟩
 have:=nh d e a4 b4
 cases b with
 |true=>exact this.mpr (hb.mp rfl)
 |false=>
  cases q:PyData.eqv d e with
  |false=>rfl
  |true=>exact absurd (hb.mpr (this.mp q)) (by decide)
theorem dY(hu:X.A.units+64<cLine):dm X (compareOp .Eq) (fun x y H Q=>Kl x y H Q∨tu X.K false x y H Q):=Kn.or (GW hu)
theorem ic(hu:X.A.units+64<cLine):dm X (compareOp .NotEq) (fun x y H Q=>Km x y H Q∨tu X.K true x y H Q):=Ko.or (GX hu)
theorem fS{K:PySem.W.Frag}:fQ K (fun x y H Q=>Kl x y H Q∨tu K false x y H Q) Qm.iR:=by
 intro ρ c H x y d c' v u Q rs rx ry e k
 obtain⟨b,e1,e⟩:=aE e
 cases e
 rcases AG e1 with⟨p,q,rfl,rfl,rfl⟩|⟨dd,ee,h1,h2,hb⟩
 ·cases rx.qL;cases ry.qL
  exact .inl ⟨rfl,by rw[pK];exact k ρ _ H (Nx.refl rs) (.bl _)⟩
 ·obtain⟨a1,a2,a3,a4,a5⟩:=wA rs rx ry h1 h2 hb
  refine .inr ⟨dd,ee,a1,a2,a3,a4,?_⟩
  rw[if_neg (by decide),a5]
  exact k ρ _ H (Nx.refl rs) (.bl _)
theorem jY{K:PySem.W.Frag}:fQ K (fun x y H Q=>Km x y H Q∨tu K true x y H Q) Qm.iS:=by
 intro ρ c H x y d c' v u Q rs rx ry e k
 obtain⟨b,e1,e⟩:=aE e
 cases e
 rcases AG e1 with⟨p,q,rfl,rfl,rfl⟩|⟨dd,ee,h1,h2,hb⟩
 ·cases rx.qL;cases ry.qL
  exact .inl ⟨rfl,by rw[pK];exact k ρ _ H (Nx.refl rs) (.bl _)⟩
 ·obtain⟨a1,a2,a3,a4,a5⟩:=wA rs rx ry h1 h2 hb
  refine .inr ⟨dd,ee,a1,a2,a3,a4,?_⟩
  rw[if_pos rfl,a5]
  exact k ρ _ H (Nx.refl rs) (.bl _)
def Eh(x:Qm.D):Bool:=match x with|.bb=>true|_=>false
theorem RD.Ei{K:PySem.W.Frag}{ρ:Nat→Addr}{N:Nat}{H:Hp}{x:Qm.D}{v:V}(r:RD K ρ N H x v):decide (v= .bb)=Eh x:=by
 cases r<;>simp[Eh]
theorem wC{K:PySem.W.Frag}:fQ K (fun x y H Q=>y= .bb∧Q (.bl (!decide (x= .bb))) H) Qm.lT:=by
 intro ρ c H x y d c' v u Q rs rx ry e k
 unfold Qm.lT at e
 split at e
 ·cases e
  cases ry.Jk
  refine⟨rfl,?_⟩
  rw[rx.Ei]
  refine k ρ _ H (Nx.refl rs) ?_
  cases x<;>exact .bl _
 ·cases e
theorem kit_is(K:PySem.W.Frag):PySem.W.kitOne K (.type "int") (.type "int")=some true∧PySem.W.kitOne K (.type "int") (.type "bool")=some false∧PySem.W.kitOne K (.type "bool") (.type "bool")=some true∧PySem.W.kitOne K (.type "bool") (.type "int")=some true∧PySem.W.kitOne K (.type "tuple") (.type "tuple")=some true∧PySem.W.kitOne K (.type "list") (.type "list")=some true:=
 ⟨by with_unfolding_all rfl,by with_unfolding_all rfl,by with_unfolding_all rfl,by with_unfolding_all rfl,by with_unfolding_all rfl,by with_unfolding_all rfl⟩
theorem qS{K:PySem.W.Frag}:qN K (fun xs H Q=>∃x n t k,xs=[x,.ty n]∧hV K H x t∧PySem.W.kitOne K t (.type n)=some k∧Q (.bl k) H) Qm.gE:=by
 intro ρ c H ds d c' vs Q rs ra e k
 obtain⟨x,y,rfl,e'⟩:=AD e
 obtain⟨v,u,rfl,rx,ry⟩:=ra.tF
 obtain⟨k1,k2,k3,k4,k5,k6⟩:=kit_is K
 split at e'
 ·rename_i n
  obtain⟨b,e1,e2⟩:=aE e'
  cases e2
  have hu:u= .ty n:=by cases ry;rfl
  subst hu
  unfold Qm.uE at e1
  split at e1
  ·cases rx.dA
   split at e1
   ·rename_i hn;cases e1;subst hn;exact⟨_,_,_,_,rfl,.int _,k1,k ρ _ H (Nx.refl rs) (.bl _)⟩
   ·split at e1
    ·rename_i hn;cases e1;subst hn;exact⟨_,_,_,_,rfl,.int _,k2,k ρ _ H (Nx.refl rs) (.bl _)⟩
    ·cases e1
  ·cases rx.qL
   split at e1
   ·rename_i hn;cases e1;subst hn;exact⟨_,_,_,_,rfl,.bl _,k3,k ρ _ H (Nx.refl rs) (.bl _)⟩
   ·cases e1
  ·obtain⟨p,ws,rfl,g,_⟩:=rx.mZ
   split at e1
   ·rename_i hn;cases e1;subst hn;exact⟨_,_,_,_,rfl,.tup g,k5,k ρ _ H (Nx.refl rs) (.bl _)⟩
   ·cases e1
  ·rename_i m
   obtain⟨rfl,_⟩:=rx.oU
   split at e1
   ·rename_i ws hw
    obtain⟨us,g,_⟩:=rs.lst hw
    split at e1
    ·rename_i hn;cases e1;subst hn;exact⟨_,_,_,_,rfl,.lst g,k6,k ρ _ H (Nx.refl rs) (.bl _)⟩
    ·cases e1
   ·cases e1
  ·cases e1
 ·cases e'
end
end L2
namespace L2
open PySem PySem.Spec PyProof.Rows
section
variable{X:Cx}
def Jo(K:PySem.W.Frag)(neg:Bool):R2:=fun x y H Q=>∃(p:Addr) (xs:List V) (d:PyData) (ds:List PyData),y= .ref p∧(cU K H p xs∨dk K H p xs)∧iQ K H x d∧lS K H xs ds∧SeqAt.shaped d=true∧d.depth≤8∧(∀e∈ds,PyData.canLay0 e=true)∧Q (.bl (if neg then !(ds.any fun e=>PyData.eqv e d)else ds.any fun e=>PyData.eqv e d)) H
theorem AH{pins:List (Addr×Obj)}{σ:St}{H:Hp}{s:Shared}{x:V}{xs:List V}{v:Value}{its:List Value}{d:PyData}{ds:List PyData}(hu:X.A.units+64<cLine)(I:Inv X pins σ H s)(rx:RelV x v)(hv:Vals xs its)(hx:iQ X.K H x d)(G6:lS X.K H xs ds)(sd:SeqAt.shaped d=true)(dd:d.depth≤8)(BL:∀e∈ds,PyData.canLay0 e=true):
  (∀y∈its.toArray,SeqAt.EqAt X.A.in1 s y v (qE s.heap d y))∧its.toArray.any (qE s.heap d)=ds.any fun e=>PyData.eqv e d:=by
 obtain⟨as,ra⟩:=hx.reads I rx
 obtain⟨bs,rb⟩:=G6.reads I hv
 have ea:its.any (qE s.heap d)=ds.any fun e=>PyData.eqv e d:=lz rb fun u' d' uD _ hd r'=>wk (BL d' hd) r'
 refine⟨fun y' ud=>?_,by simpa using ea⟩
 have hm:y'∈its:=by simpa using ud
 obtain⟨d',hd,uD,r'⟩:=readsAll_mem rb y' hm
 rw[wk (BL d' hd) r']
 refine SeqAt.eqAt_reads d' d _ _ _ _ _ _ r' ra (BL d' hd) (SeqAt.canLay_of_shaped sd) ?_
 have h1:min d'.depth d.depth≤d.depth:=Nat.min_le_right _ _
 have h2:X.A.in1.units≤X.A.units+1:=by simp[Around.in1,Around.units]
 show X.A.in1.units+_<cLine
 omega
theorem G7(hu:X.A.units+64<cLine):dm X (compareOp .In) (Jo X.K false):=by
 intro pins s σ H x y v u Q I rx ry h
 obtain⟨p,xs,d,ds,rfl,hp,hx,G6,sd,dd,BL,q⟩:=h
 cases (show u=Value.ref p from ry)
 rcases hp with hp|hp
 ·obtain⟨its,hv,pl,_⟩:=I.list hp
  obtain⟨h1,h2⟩:=AH hu I rx hv hx G6 sd dd BL
  refine SeqAt.in_listAt (qE s.heap d) pl.isList h1 ⟨.bl _,H,I,rfl,?_⟩
  rw[h2];exact q
 ·obtain⟨its,hv,pl,_⟩:=I.tuple hp
  obtain⟨h1,h2⟩:=AH hu I rx hv hx G6 sd dd BL
  refine SeqAt.in_tupleAt (qE s.heap d) pl h1 ⟨.bl _,H,I,rfl,?_⟩
  rw[h2];exact q
theorem oV:∀{ds:List PyData},PyData.canLayAll0 ds=true→∀e∈ds,PyData.canLay0 e=true
 |[],_,e,he=>nomatch he
 |d::ds,h,e,he=>by
  simp only[PyData.canLayAll0,Bool.and_eq_true]at h
  rcases List.mem_cons.mp he with rfl|he
  ·exact h.1
  ·exact oV h.2 e he
theorem wD:∀{ds:List PyData},qR ds=true→∀e∈ds,nb e=true
 |[],_,e,he=>nomatch he
 |d::ds,h,e,he=>by
  simp only[qR,Bool.and_eq_true]at h
  rcases List.mem_cons.mp he with rfl|he
  ·exact h.1
  ·exact wD h.2 e he
theorem G8{K:PySem.W.Frag}{ρ:Nat→Addr}{c:Qm.Cells}{H:Hp}{x y:Qm.D}{v u:V}{b:Bool}(rs:RS K ρ c H)(rx:RD K ρ c.length H x v)(ry:RD K ρ c.length H y u)(h:Qm.K6 x y c=some b):
  ∃(p:Addr) (xs:List V) (d:PyData) (ds:List PyData),u= .ref p∧(cU K H p xs∨dk K H p xs)∧iQ K H v d∧lS K H xs ds∧SeqAt.shaped d=true∧d.depth≤8∧(∀e∈ds,PyData.canLay0 e=true)∧(ds.any fun e=>PyData.eqv e d)=b:=by
 obtain⟨xs,h1,h⟩:=aE h
 obtain⟨d,h2,h⟩:=aE h
 obtain⟨ds,h3,h⟩:=aE h
 cases h
 obtain⟨p,vs,rfl,hp,a⟩:=rs.seq ry h1
 obtain⟨a1,a2,a3,a4⟩:=ng rs 5 rx h2
 obtain⟨b1,b2,b3,b4⟩:=uM (k:=5) rs (fun r h=>ng rs 5 r h) a h3
 refine⟨p,vs,d,ds,rfl,hp.imp id dk.of,a1,b1,by simp[SeqAt.shaped,a2];omega,by omega,oV b2,?_⟩
 rw[Bool.eq_iff_iff]
 simp only[List.any_eq_true,decide_eq_true_eq]
 constructor
 ·rintro⟨e,he,q⟩
  rw[nh e d (wD b4 e he) a4]at q
  exact q ▸ he
 ·intro hd
  exact⟨d,hd,(nh d d a4 a4).mpr rfl⟩
theorem Lg{K:PySem.W.Frag}:fQ K (Jo K false) Qm.BE:=by
 intro ρ c H x y d c' v u Q rs rx ry e k
 obtain⟨b,e1,e⟩:=aE e
 cases e
 obtain⟨p,xs,dd,ds,rfl,a1,a2,a3,a4,a5,a6,a7⟩:=G8 rs rx ry e1
 refine⟨p,xs,dd,ds,rfl,a1,a2,a3,a4,a5,a6,?_⟩
 rw[if_neg (by decide),a7]
 exact k ρ _ H (Nx.refl rs) (.bl _)
end
end L2
namespace Qm
open PySem
noncomputable section
def T9:G2:=fun x y c=>match x with
 |.ref n=>(match c[n]? with
  |some (.ro xs)=>(br y c).bind fun q=>if xs.length+q.2.length≤cD then some (.ref c.length,c++[.lst (xs++q.2)])else none
  |_=>none)
 |_=>none
end
end Qm
namespace L2
open PySem PySem.Spec PyProof.Rows
section
variable{X:Cx}
end
end L2
namespace L2
open PySem PySem.Spec PyProof.Rows
def bc:List Int→List Int→Bool
 |[],_=>false
 |_::_,[]=>true
 |a::r,b::t=>if a=b then bc r t else decide (a > b)
section
variable{prog:Program}{w:World}{A:Around}{E:Value→Shared→Prop}{s:Shared}
end
theorem ints_of:∀{ns:List Int}{us:List Value},Vals (ns.map V.int) us→IntsAre us ns
 |[],_,h=>by cases h;exact .nil
 |n::ns,_,h=>by
  cases h with
  |cons r t=>
   obtain⟨k,rfl⟩:=r
   exact .cons n k (ints_of t)
section
variable{X:Cx}
end
end L2
namespace L2
open PySem PySem.Spec PyProof.Rows
section
variable{prog:Program}{w:World}{A:Around}
end
section
variable{X:Cx}
end
end L2
namespace L2
open PySem PySem.Spec PyProof.Rows PySem.W
theorem BM{P:Program}{w:World}{H:Hp}{h:Heap}{a:Addr}{o:HO}(x:bH P w H h a o):∃u,h.get? a=some u:=by
 cases o with
 |lst xs=>obtain⟨_,_,_,_,e⟩:=x;exact⟨_,e⟩
 |tup xs=>obtain⟨_,_,_,ob,e,_⟩:=x;exact⟨_,e⟩
 |dK aD=>obtain⟨_,_,_,_,o,_,_,e,_⟩:=x;exact⟨_,e⟩
 |dT aD=>obtain⟨_,_,_,_,o,_,_,e,_⟩:=x;exact⟨_,e⟩
 |dU aD=>obtain⟨_,_,_,_,o,_,_,e,_⟩:=x;exact⟨_,e⟩
 |set S n=>obtain⟨o,_,_,_,e,_⟩:=x;exact⟨_,e⟩
 |ins C dx fs=>obtain⟨_,_,_,e,_⟩:=x;exact⟨_,e⟩
 |own y=>exact x
 |xd fs=>obtain⟨_,⟨_,_,_,e,_⟩,_⟩:=x;exact⟨_,e⟩
 |dI lo hi=>obtain⟨_,_,_,e⟩:=x;exact⟨_,e⟩
 |dP ob u=>obtain⟨e,_⟩:=x;exact⟨_,e⟩
 |jH ps=>exact⟨_,show h.get? a=some _ from x⟩
 |met f y=>exact⟨_,show h.get? a=some _ from x⟩
 |ext φ=>obtain⟨_,e,_⟩:=x;exact e
section
variable{X:Cx}{pins:List (Addr×Obj)}{σ:St}{H:Hp}{s:Shared}
theorem Inv.uN{h':Heap}{m:Str→Option Value}{D:Addr}{out:List Value}{xs:List V}{c:Nat}(I:Inv X pins σ H s)(hm:s.heap.Ns X.env.locals m)(F:Fr X.base X.env.locals h' m)
  (N:News X.base X.env.locals h' ((D,listOf out.toArray c)::iK X.base s.heap X.env.locals))(hD:∀q∈iK X.base s.heap X.env.locals,q.1<D)(r:Vals xs out)(hz:xs.length≤sizeLine):
  Inv X pins σ (upd H D (.lst xs)) { s with heap:=h' }∧H D=none:=by
 have d1:=N _ List.mem_cons_self
 have kp:∀b o,b≠X.env.locals→s.heap.get? b=some o→h'.get? b=some o:=fun b o hb e=>by
  cases q:X.base.get? b with
  |some u=>
   have:=I.bk b u q
   rw[e]at this;cases this
   exact F.keep b _ q
  |none=>exact(N (b,o) (List.mem_cons_of_mem _ (mE hb q e))).1
 have sD:s.heap.get? D=none:=by
  cases q:s.heap.get? D with
  |none=>rfl
  |some o=>exact absurd (hD (D,o) (mE d1.2.1 d1.2.2 q)) (Nat.lt_irrefl _)
 have wF:H D=none:=by
  cases q:H D with
  |none=>rfl
  |some u=>
   obtain⟨o,e⟩:=BM (I.aR D u q)
   rw[sD]at e;cases e
 refine⟨?_,wF⟩
 have ne:∀{b:Addr}{u:HO},H b=some u→b≠D:=fun q=>bO q wF
 refine I.step (ch:=[]) (fun b hb=>by cases hb) (fun b o h1 _ _ e _=>kp b o h1 e) (fun b o h1 _ _ e _=>⟨o.slots,kp b o h1 e⟩) (fun b o _ e q=>?_) (fun b o _ e=>?_) (fun b xs q=>by rw[aF (ne q)];exact q) (fun b o u q=>by rw[aF (ne q)];exact q) (fun b ps q=>⟨#[],by rw[aF (ne q),Array.append_empty];exact q⟩) (fun m' hn=>?_) ?_ I.bare
 ·rw[aF (fun z=>by rw[z,sD]at e;cases e)];exact q
 ·by_cases hb:b=X.env.locals
  ·obtain⟨o',_,_,ho,_⟩:=F.ns
   exact⟨o',by rw[hb];exact ho⟩
  ·exact⟨o,kp b o hb e⟩
 ·have:m'=m:=funext fun x=>hn.agree hm x
  rw[this];exact F.ns
 ·intro b u e
  by_cases hb:b=D
  ·subst hb;rw[bN]at e;cases e
   exact⟨hz,out,c,r,d1.1⟩
  ·rw[aF hb]at e
   have nL:∀{b:Addr}{u:HO},H b=some u→b≠X.env.locals:=fun q=>bO q I.free
   refine(I.aR b u e).mB (fun d v hd q=>kp d v ?_ q) (fun d q=>by rw[aF (ne q)];exact q) fun d xs q=>by rw[aF (ne q)];exact q
   rcases hd with rfl|hd
   ·exact nL e
   ·exact nL hd
end
section
variable{prog:Program}{w:World}{A:Around}{s:Shared}{Q:Bool→Shared→Prop}
theorem jh{fin:Bool}:∀{xs ys:List Value}{x y:List Int} (i:Nat),IntsAre xs x→IntsAre ys y→(xs.length≠ys.length∨xs.length=ys.length→fin=decide (xs.length<ys.length))→Q (bc y x) s→KatLex prog w A true fin Q (xs.zip ys) i s
 |[],ys,_,y,i,.nil,hy,hf,h=>by
  refine(show Q fin s from ?_)
  rw[hf (by omega)]
  cases hy with
  |nil=>simpa[bc]using h
  |cons _ _ _=>simpa[bc]using h
 |_,_,_,_,i,.cons n t (vs:=vs) (ns:=ns) hx,.nil,hf,h=>by
  refine(show Q fin s from ?_)
  rw[hf (by omega)]
  simpa[bc]using h
 |_,_,_,_,i,.cons n t (vs:=vs) (ns:=ns) hx,.cons k u (vs:=ws) (ns:=ms) hy,hf,h=>by
  refine(show wpAny (model prog w) A (eqBool (.int n t) (.int k u)) _ _ s from wpAny_eqBool_int ?_)
  by_cases hk:n=k
  ·subst hk
   rw[beq_self_eq_true,if_pos rfl]
   refine jh (i+1) hx hy (fun _=>?_) (by simpa[bc]using h)
   have:=hf (by omega)
   simpa using this
  ·rw[beq_eq_false_iff_ne.mpr hk,if_neg (by decide)]
   have e:bc (k::ms) (n::ns)=decide (n<k):=by simp[bc,Ne.symm hk]
   rw[e]at h
   cases hi:(i==0)with
   |true=>exact oneLt_int h
   |false=>exact kat_one _ _ (lt_int h)
end
section
variable{X:Cx}
theorem BN{its:List Value}{n:Int}{ns:List Int}(h:IntsAre its (n::ns)):∃t,its.toArray[0]? =some (.int n t):=by
 cases h with
 |cons n t r=>exact⟨t,by simp⟩
theorem qT{M:Model}{h:Heap}{n:Int}{t:Tok}:Looks M h (typeOf (.int n t)) (.type "int"):=fun _ _ _ s _ q=>wpAny_pure q
end
end L2
namespace L2
open PySem PySem.Spec PyProof.Rows
section
variable{prog:Program}{w:World}{A:Around}{E:Value→Shared→Prop}
end
section
variable{X:Cx}{pos:Pos}
end
end L2
namespace Qm
open PySem
noncomputable section
def bc:List Int→List Int→Bool
 |[],_=>false
 |_::_,[]=>true
 |a::r,b::t=>if a=b then bc r t else decide (a > b)
def nums(xs:List D):Option (List Int):=omap pB xs
def Lh(xs:List D):Option (List D×List D×List Int×List Int):=match xs with
 |[.tup xs,.tup ys]=>(nums xs).bind fun ns=>(nums ys).bind fun ms=>if ns≠[]∧ms≠[] then some (xs,ys,ns,ms)else none
 |_=>none
def NT:FN:=fun ds c=>match ds with
 |[.ref l]=>(bM (.ref l) c).bind fun zs=>(Lh zs).bind fun q=>some (.ref c.length,c++[.lst (if bc q.2.2.1 q.2.2.2=true then [.tup q.2.1,.tup q.1] else [.tup q.1,.tup q.2.1])])
 |_=>none
end
end Qm
namespace L2
open PySem PySem.Spec PyProof.Rows
theorem zm:bootBuiltins "sorted" =some (.builtin "sorted"):=by decide +kernel
theorem pS:∀x y:List Int,bc x y=Qm.bc x y
 |[],y=>by cases y<;>rfl
 |_::_,[]=>rfl
 |a::r,b::t=>by simp only[bc,Qm.bc];rw[pS r t]
section
variable{K:PySem.W.Frag}
theorem wG{ρ:Nat→Addr}{N:Nat}{H:Hp}:∀{xs:List Qm.D}{vs:List V}{ns:List Int},RA K ρ N H xs vs→Qm.nums xs=some ns→vs=ns.map V.int
 |[],_,ns,a,h=>by cases a;cases h;rfl
 |x::xs,_,ns,a,h=>by
  cases a with
  |cons r a=>
   obtain⟨i,h1,h⟩:=aE h
   obtain⟨ms,h2,h⟩:=aE h
   cases h
   rw[eQ h1]at r
   cases r.dA
   rw[wG a h2]
   rfl
end
section
variable{X:Cx}{pos:Pos}{es:List Expr}
end
end L2
namespace Qm
open PySem
noncomputable section
def T_(d:D):Option Str:=match d with
 |.str x=>some x
 |_=>none
def AI(d:D)(c:Cells):Option (Nat×List (Str×D)):=match d with
 |.ref n=>(match c[n]? with
  |some (.nX ps)=>some (n,ps)
  |_=>none)
 |_=>none
def OW{α:Type}(ps:List (Str×α))(k:Str)(d:α):List (Str×α):=
 if (ps.any fun p=>decide (p.1=k))=true then ps.map (fun p=>if p.1=k then(p.1,d)else p)else ps++[(k,d)]
def DI(o k v:XE):XS:=fun σ c=>(v σ c).bind fun w=>(o σ w.2).bind fun p=>(k σ p.2).bind fun q=>(AI p.1 q.2).bind fun l=>(T_ q.1).bind fun x=>if l.2.length<cD then some (.nx,σ,q.2.set l.1 (.nX (OW l.2 x w.1)))else none
end
end Qm
namespace PySem
open Sem (wp)
section
variable{prog:Program}{w:World}{K:Type}[DecidableEq K]{knd:KeyKind prog w K}{A:Around}{E:Value→Shared→Prop}{s:Shared}
end
end PySem
namespace L2
open PySem PySem.Spec PyProof.Rows
section
variable{K:PySem.W.Frag}{ρ aM:Nat→Addr}{N:Nat}{c c':Qm.Cells}{H H':Hp}
theorem RS.nX(r:RS K ρ c H){n:Nat}{ps:List (Str×Qm.D)}(h:c[n]? =some (.nX ps)):∃us,H (ρ n)=some (.dK us)∧RK K ρ c.length H ps us:=r.ok n _ h
theorem RS.AI(r:RS K ρ c H){d:Qm.D}{n:Nat}{ps:List (Str×Qm.D)}{v:V}(h:RD K ρ c.length H d v)(e:Qm.AI d c=some (n,ps)):d= .ref n∧c[n]? =some (.nX ps)∧∃us,v= .ref (ρ n)∧H (ρ n)=some (.dK us)∧RK K ρ c.length H ps us:=by
 unfold Qm.AI at e
 split at e
 ·obtain⟨rfl,hn⟩:=h.oU
  split at e
  ·rename_i xs hx
   cases e
   obtain⟨vs,h1,h2⟩:=r.nX hx
   exact⟨rfl,hx,vs,rfl,h1,h2⟩
  ·cases e
 ·cases e
end
section
variable{X:Cx}{a b e:Expr}{es:List Expr}{fa fb fc fe:Qm.XE}{pos apos e7:Pos}
end
end L2
namespace L2
open PySem PySem.Spec PyProof.Rows
section
variable{X:Cx}
end
section
variable{K:PySem.W.Frag}{ρ:Nat→Addr}{c:Qm.Cells}{H:Hp}
end
end L2
namespace L2
open PySem PySem.Spec PyProof.Rows
theorem bL.none{P:Program}{w:World}{K:PySem.W.Frag}{mg:Str→Option Value}{base:Heap}{k:Nat}{f:Addr}{fd:FuncData}{ps:List Str}{F:Qm.FN}(h:∀ds c,F ds c=Option.none):bL P w K mg base cQ k f fd ps (dv K F):=
 ⟨fun vs H Q E ⟨_,_,_,_,_,_,_,e,_⟩=>(by rw[h]at e;cases e),fun A outer s H args us vs Q E _ _ _ _ ⟨_,_,_,_,_,_,_,e,_⟩=>(by rw[h]at e;cases e)⟩
end L2
namespace L2
open PySem PySem.Spec PyProof.Rows
end L2
namespace L2
open PySem PySem.Spec PyProof.Rows
section
variable{X:Cx}{es:List Expr}{fr:Qm.XA}{p:Pos}
end
end L2
namespace L2
open PySem PySem.Spec PyProof.Rows
section
variable{X:Cx}{pins:List (Addr×Obj)}{σ:St}{H:Hp}{s:Shared}{h':Heap}
theorem Inv.Li{ch:List Addr}{T:Addr}{o:HO}{t':Nat}(I:Inv X pins σ H s)(iM:∀b∈ch,iN X pins H b)(k:∀b u,b∉ch→s.heap.get? b=some u→h'.get? b=some u)(hT:s.heap.objs.size≤T)(new:bH X.prog X.w (upd H T o) h' T o):
  Inv X pins σ (upd H T o) { s with heap:=h',toks:=t' }:=by
 have hn:H T=none:=I.aR.fresh hT
 have ne:∀b u,s.heap.get? b=some u→b≠T:=fun b u e=>Nat.ne_of_lt (Nat.lt_of_lt_of_le (Heap.lt_size e) hT)
 have nc:∀b u,H b=some u→b∉ch:=fun b u e hb=>by rw[(iM b hb).1]at e;cases e
 refine I.step (g':=s.gens) (d':=s.drawn) (ch:=ch) (fun b hb=>⟨(iM b hb).2.2.2.1,(iM b hb).2.1,(iM b hb).2.2.2.2.1,(iM b hb).2.2.2.2.2⟩) (fun b u _ _ hc e _=>k b u hc e) (fun b u _ _ hc e _=>⟨u.slots,k b u hc e⟩) (fun b u _ e z=>by rw[aF (ne b u e)];exact z)
  (fun b u hc e=>⟨u,k b u hc e⟩) (fun b xs e=>by rw[aF (bO e hn)];exact e) (fun b u v e=>by rw[aF (bO e hn)];exact e) (fun b ps e=>⟨#[],by rw[aF (bO e hn),e];simp⟩) (fun m hm=>?_) (fun b u e=>?_) I.bare
 ·obtain⟨ob,es,ep,ho,r⟩:=hm
  exact⟨ob,es,ep,k _ ob (fun z=>(iM _ z).2.1 rfl) ho,r⟩
 ·by_cases hb:b=T
  ·subst hb
   rw[bN]at e
   cases e
   exact new
  ·rw[aF hb]at e
   refine(I.aR b u e).mB (fun c v hc q=>k c v ?_ q) (fun c q=>by rw[aF (bO q hn)];exact q) fun c xs q=>by rw[aF (bO q hn)];exact q
   rcases hc with z|z
   ·rw[z];exact nc b u e
   ·exact nc c _ z
end
section
variable{X:Cx}{e1 e2:Expr}{p0 p1 p2 pos:Pos}{f:Qm.XA}{es:List Expr}{k0:Nat}
end
end L2
namespace Qm
open PySem
noncomputable section
end
end Qm
namespace L2
open PySem PySem.Spec PyProof.Rows
section
variable{K:PySem.W.Frag}
end
section
variable{X:Cx}{e1:Expr}{p0 p1 p2 pos:Pos}{f:Qm.XA}{es:List Expr}{k0:Nat}
end
end L2
namespace L2
open PySem PySem.Spec PyProof.Rows
section
variable{X:Cx}{pins:List (Addr×Obj)}{σ:St}{H:Hp}{s:Shared}{h':Heap}
end
section
variable{X:Cx}{tg l:Expr}{tl:TE}
end
section
variable{K:PySem.W.Frag}{ρ aM:Nat→Addr}{N:Nat}{c c':Qm.Cells}{H H':Hp}
theorem RK.at_:∀{ps:List (Str×Qm.D)}{us:List (Key×V)},RK K ρ N H ps us→∀{i:Nat}{p:Str×Qm.D},ps[i]? =some p→∃kv,us[i]? =some kv∧kv.1= .inr p.1
 |_,_,.nil,i,p,h=>by simp at h
 |_,_,.cons (k:=k') _ a,0,p,h=>by simp at h;subst h;exact⟨_,rfl,rfl⟩
 |_,_,.cons _ a,i+1,p,h=>by
  obtain⟨kv,h1,h2⟩:=RK.at_ a (i:=i) (p:=p) (by simpa using h)
  exact⟨kv,by simpa using h1,h2⟩
end
section
variable{X:Cx}{e a b tg:Expr}{fe fa fb:Qm.XE}{pos:Pos}
end
end L2
namespace L2
open PySem PySem.Spec PyProof.Rows
section
variable{X:Cx}{pins:List (Addr×Obj)}{σ:St}{H:Hp}{s:Shared}
end
end L2
namespace Qm
open PySem
noncomputable section
end
end Qm
namespace Qm
open PySem
noncomputable section
end
end Qm
namespace L2
open PySem PySem.Spec PyProof.Rows
section
variable{X:Cx}
end
section
variable{K:PySem.W.Frag}{ρ:Nat→Addr}{c:Qm.Cells}{H:Hp}
end
end L2
namespace PySem
open Sem (wp)
open AutoSeq1 (wpAny_loadPart')
open MeetsSeq MeetsSeq2 MeetsSeq3 SeqRoads2
section
variable{P:Program}{W:World}
variable{A:Around}{E:Value→Shared→Prop}{s:Shared}
end
end PySem
namespace L2
open PySem PySem.Spec PyProof.Rows
section
variable{X:Cx}
end
section
variable{K:PySem.W.Frag}{ρ:Nat→Addr}{c:Qm.Cells}{H:Hp}
end
end L2
namespace Qm
open PySem
noncomputable section
def Ua(a:XA):XI:=fun σ c=>(a σ c).bind fun p=>match p.1 with
 |[.ref n,.ref m]=>(p.2[n]?).bind fun z=>(p.2[m]?).bind fun y=>(br (.ref n) p.2).bind fun l=>(br (.ref m) p.2).bind fun k=>some (⟨Jj l.2 k.2,[(n,z),(m,y)]⟩,p.2)
 |_=>none
def gq:FN:=fun ds c=>match ds with
 |[.ref n]=>(br (.ref n) c).bind fun l=>if l.2.length≤cD then some (.ref c.length,c++[.lst l.2.reverse])else none
 |_=>none
end
end Qm
namespace PySem
open Sem (wp)
theorem BO:typeLookup (.type "list_reverseiterator") "__len__" =pure none:=by rw[typeLookup_type,builtinLookup_eq_fast];kernel_rfl
theorem Ej:typeLookup (.type "list_reverseiterator") "__length_hint__" =pure (some (.builtin "list_reverseiterator.__length_hint__")):=by rw[typeLookup_type,builtinLookup_eq_fast];kernel_rfl
section
variable{prog:Program}{w:World}{A:Around}{E:Value→Shared→Prop}{s:Shared}{I:Addr}{fp wr:List Addr}{G:Array GenState→Array GenState→Prop}{n:Nat}{P:Nat→Value→Prop}{St:Nat→Shared→Prop}
theorem Ek{R:Result→Shared→Prop}(W:WalksS prog w A.in1 I fp wr G n P St)(hT:∀i s,St i s→s.TypeIs (.ref I) "list_reverseiterator")(S:Addr)(res:Value)(fM:St 0 s)(sJ:S∉fp)(hI:I∈fp)
  {nn:Nat}(hS:s.heap.get? S=some { cls:=.type "list",data:=.seq #[] nn })
  (hR:∀s' e_ c',Moved (S::wr) G s s'→s'.heap.get? S=some { cls:=.type "list",dict:=none,data:=.seq e_ c',slots:=#[] }→ItemsOf P e_ n→R (.ok (.ret res)) s')(hn:n≤sizeLine):
  wpAny (model prog w) A.in1 (Builtin.List.listExtendWith (.ref S) (.ref I) res)
   (fun fin s'=>match fin with|.done f=>R (.ok f) s'|.again c'=>c'.quiet=true∧codeAny (model prog w) A c' R s') (fun e s'=>R (.error e) s') s:=by
 have ty:=hT 0 _ fM
 have two:Builtin.List.listSameRef (.ref S) (.ref I)=false:=by
  have:S≠I:=by rintro rfl;exact sJ hI
  simp[Builtin.List.listSameRef,this]
 refine wpAny_bind (wpAny_typeOf ty ?_)
 rw[if_neg (by rw[two];decide)]
 refine wpAny_bind (W.self 0 _ _ _ fM (wpAny_bind (wpAny_holding (wpAny_bind (wpAny_specialOf ty BO (show wpAny _ _ (specialOf _ (Str.ofString "__length_hint__") >>= _) _ _ _ from wpAny_bind (wpAny_specialOf ty Ej ?_)))))))
 generalize Jp:("list_reverseiterator.__length_hint__":String)=nm
 have cut:splitId nm=some ("list_reverseiterator","__length_hint__"):=by rw[←Jp];decide +kernel
 wp_delta
 rw[cut,←Jp]
 refine wpAny_bind (wpAny_isInstance (b:=true) ty (by rw[isSubtype_type];kernel_rfl) (wpAny_pure ?_))
 rw[if_neg (by decide)]
 exact wpAny_pure ⟨plainId_quiet F.plain_extend_loop _,codeAny_extend_loopS W hn _ sJ _ n 0 _ _ _ rfl (Nat.zero_le _) fM hS (ItemsOf.nil P) hR⟩
theorem BP{R:Result→Shared→Prop}(W:WalksS prog w A.in1 I fp wr G n P St)(hT:∀i s,St i s→s.TypeIs (.ref I) "list_reverseiterator")(S:Addr)(fM:St 0 s)(sJ:S∉fp)(hI:I∈fp)
  (hS:s.heap.get? S=some { cls:=.type "list",data:=.seq #[] })
  (hR:∀s' e_ c',Moved (S::wr) G s s'→s'.heap.get? S=some { cls:=.type "list",dict:=none,data:=.seq e_ c',slots:=#[] }→ItemsOf P e_ n→R (.ok (.ret .none)) s')(hn:n≤sizeLine):
  wpAny (model prog w) A.in1 (Builtin.«list.__init__» ⟨[.ref S,.ref I],[]⟩)
   (fun fin s'=>match fin with|.done f=>R (.ok f) s'|.again c'=>c'.quiet=true∧codeAny (model prog w) A c' R s') (fun e s'=>R (.error e) s') s:=by
 show wpAny _ A.in1 (Builtin.List.listItems (.ref S) >>= fun old=>Builtin.List.listUpdate (.ref S) (fun _=>#[]) >>= fun _=>letGo old.toList.reverse >>= fun _=>Builtin.List.listExtendWith (.ref S) (.ref I) .none) _ _ s
 refine wpAny_bind (m:=Builtin.List.listItems (.ref S)) ?_
 unfold Builtin.List.listItems
 refine wpAny_bind (wpAny_seqItems hS rfl (wpAny_pure ?_))
 show wpAny _ A.in1 (updateSeq S (fun _=>#[]) >>= fun _=>letGo ([]:List Value).reverse >>= fun _=>Builtin.List.listExtendWith (.ref S) (.ref I) .none) _ _ s
 refine wpAny_bind (wpAny_updateSeq hS rfl ?_)
 have Lj:=Heap.get?_update_self (Obj.mapSeq (fun _=>(#[]:Array Value))) hS rfl
 have OX:∀b o,b≠S→s.heap.get? b=some o→(s.heap.update S (Obj.mapSeq (fun _=>(#[]:Array Value)))).get? b=some o:=fun b o hb e=>(Heap.get?_update_other _ _ (Ne.symm hb)).trans e
 refine wpAny_bind (wpAny_letGo (Ek (hn:=hn) W hT S .none (W.frame 0 s _ s.toks fM (Nat.le_refl _) fun b hb o e=>OX b o (fun h=>sJ (h ▸ hb)) e) sJ hI Lj fun s' e_ c' hm uO ni=>?_))
 exact hR s' e_ c' (Moved.trans W.gtrans ((Moved.refl W.grefl).then_heap (Nat.le_refl _) (fun b o hb e=>OX b o (fun h=>hb (h ▸ List.mem_cons_self)) e)) hm) uO ni
theorem qU{Q:Value→Shared→Prop}(W:WalksS prog w A.in1.in1 I fp wr G n P St)(hT:∀i s,St i s→s.TypeIs (.ref I) "list_reverseiterator")(fM:St 0 s)(Ub:∀b∈fp,b<s.heap.objs.size)(hI:I∈fp)
  (hQ:∀s' e_ c',Moved (s.heap.objs.size::wr) G { s with heap:=s.heap.push { cls:=.type "list",data:=.seq #[] } } s'→s'.heap.get? s.heap.objs.size=some { cls:=.type "list",dict:=none,data:=.seq e_ c',slots:=#[] }→ItemsOf P e_ n→Q (.ref s.heap.objs.size) s')(hn:n≤sizeLine):
  wpAny (model prog w) A (call (.type "list") [.ref I]) Q E s:=by
 have sJ:s.heap.objs.size∉fp:=fun hm=>Nat.lt_irrefl _ (Ub _ hm)
 refine callType_codes (Q₁:=fun obj bg=>obj= .ref s.heap.objs.size∧bg= { s with heap:=s.heap.push { cls:=.type "list",data:=.seq #[] } }) F.called_list (F.typeCall_list_1 _) F.entry_list_init (code_list_new _ ⟨rfl,rfl⟩) fun obj bg jE=>?_
 obtain⟨rfl,rfl⟩:=jE
 have hS:(s.heap.push { cls:=.type "list",data:=.seq #[] }).get? s.heap.objs.size=some { cls:=.type "list",data:=.seq #[] }:=Heap.get?_push_size _ rfl
 exact⟨⟨_,hS,rfl⟩,F.args_list_init_2 _ _,BP (hn:=hn) W hT _ (W.frame 0 s _ s.toks fM (Nat.le_refl _) fun b _ o e=>Heap.get?_push_of_some _ e) sJ hI hS fun s' e_ c' hm uO ni=>⟨rfl,hQ s' e_ c' hm uO ni⟩⟩
end
end PySem
namespace L2
open PySem PySem.Spec PyProof.Rows
theorem zo{its:List Value}{acc:Array Value}(h:ItemsOf (fun i v=>its.toArray[its.toArray.size - 1 - i]? =some v) acc its.toArray.size):acc.toList=its.reverse:=by
 obtain⟨h1,h2⟩:=h
 apply List.ext_getElem?
 intro j
 have el:acc.toList.length=its.length:=by simpa using h1
 by_cases hj:j<its.length
 ·have e1:acc[j]? =some (acc[j]'(by rw[h1];simpa using hj)):=Array.getElem?_eq_getElem _
  have e2:=h2 j _ e1
  rw[List.getElem?_reverse hj,show acc.toList[j]? =acc[j]? by simp,e1,←e2]
  simp
 ·rw[List.getElem?_eq_none (by omega),List.getElem?_eq_none (by rw[List.length_reverse];omega)]
def BR(K:PySem.W.Frag)(t:TA):TE:=fun σ H Q=>t σ H fun vs H1=>∃a xs,vs=[.ref a]∧cU K H1 a xs∧∀l,H1 l=none→Q (.ref l) (upd H1 l (.lst xs.reverse))
section
variable{X:Cx}
theorem wH{p0 p1 p2 pos:Pos}{e:Expr}{f:TA}(hc:X.calm=true)(hg:Gl X "list")(hm:X.mg "list" =none)(oh:Gl X "reversed")(qV:X.mg "reversed" =none)(ha:PA X [e] f)
  (hs:starEach [.Call (.Name "reversed" p1) [e] [] p2] X.env=[(false,eval (.Call (.Name "reversed" p1) [e] [] p2) X.env)]:=by rfl)
  (kZ:starEach [e] X.env=(false,eval e X.env)::starEach [] X.env:=by rfl)(dq:(backTo p2 (starEach [] X.env)).any (·.1)=false:=by rfl):
  PE X (.Call (.Name "list" p0) [.Call (.Name "reversed" p1) [e] [] p2] [] pos) (BR X.K f):=by
 intro pins s σ H Q I h
 refine wpAny_Call_Name_kw (dX I hg hm (u:=.type "list") (by decide +kernel) ?_)
 refine PyProof.Rows.callWith_type1 ?_ hs rfl
 rw[hs]
 show wpAny _ _ (spliced [(false,eval (.Call (.Name "reversed" p1) [e] [] p2) X.env)]) _ _ _
 refine Calls.spliced_cons ?_
 refine wpAny_Call_Name_kw (dX I oh qV (u:=.type "reversed") (by decide +kernel) ?_)
 refine PyProof.Rows.callWith_type1 (bj (ha p2 pins s σ H _ I h) fun us s1 aX=>?_) kZ dq
 obtain⟨vs,H1,I1,r1,q1⟩:=aX
 obtain⟨t,xs,rfl,ht,q⟩:=q1
 obtain⟨u1,rfl,ra⟩:=vals1 r1
 cases (show u1=Value.ref t from ra)
 obtain⟨its,hv,tt,hz⟩:=I1.list ht
 have hlen:=hv.length
 have hsz:its.toArray.size≤sizeLine:=by simp only[List.size_toArray];omega
 refine call_reversed_list (l:=t) (items:=its.toArray) tt.isList (Calls.spliced_nil ?_)
 have I2:Inv X pins σ H1 { s1 with heap:=s1.heap.push (revObj t ((its.toArray.size:Int) - 1)) }:=I1.kept (t':=s1.toks) fun b o e=>Heap.get?_push_of_some _ e
 have hit:(s1.heap.push (revObj t ((its.toArray.size:Int) - 1))).IsRevIter s1.heap.objs.size t ((its.toArray.size:Int) - 1):=⟨_,Heap.get?_push_size _ rfl,rfl,rfl⟩
 have OY:(s1.heap.push (revObj t ((its.toArray.size:Int) - 1))).IsList t its.toArray:=Heap.IsList.push tt.isList _
 have G9:t<s1.heap.objs.size:=by obtain⟨o,ho,_⟩:=tt.isList;exact Heap.lt_size ho
 have Uc:t≠s1.heap.objs.size:=Nat.ne_of_lt G9
 have OZ:H1 s1.heap.objs.size=none:=I1.fresh
 have Ud:iN X pins H1 s1.heap.objs.size:=I1.Ac (Nat.le_refl _) OZ
 have es:s1.heap.objs.size<(s1.heap.push (revObj t ((its.toArray.size:Int) - 1))).objs.size:=by rw[Heap.size_push];exact Nat.lt_succ_self _
 generalize s1.heap.objs.size=p at*
 generalize GU:({ s1 with heap:=s1.heap.push (revObj t ((its.toArray.size:Int) - 1)) }:Shared)=s3 at*
 have hh:s3.heap=s1.heap.push (revObj t ((its.toArray.size:Int) - 1)):=by rw[←GU]
 rw[←hh]at hit OY es
 have W:=(Walks.listRev (prog:=X.prog) (w:=X.w) (A:=X.A.in1.in1) (I.ok.hd hc) p t Uc its.toArray).toS
 refine qU W (fun i s' st=>Heap.IsRevIter.typeIs st.2.1) ⟨Nat.zero_le _,by simpa using hit,OY⟩ (fun b hb=>?_) (by simp) (fun s' acc cc hm hS ni=>?_) hsz
 ·have:b=p∨b=t:=by simpa using hb
  rcases this with rfl|rfl
  ·exact es
  ·exact Nat.lt_trans G9 es
 ·have ea:=zo ni
  have wg:s'= { s3 with heap:=s'.heap,toks:=s'.toks }:=by
   obtain⟨c1,c2,c3,c4,c5⟩:=s'
   obtain⟨d1,d2,d3,d4,d5⟩:=s3
   have q1:=hm.gens;have q2:=hm.drawn;have q3:=hm.os
   simp only at q1 q2 q3
   subst q1 q2 q3
   rfl
  have hL:H1 s3.heap.objs.size=none:=I2.fresh
  have Xo:p≠s3.heap.objs.size:=Nat.ne_of_lt es
  have k3:∀b o,b≠p→b≠s3.heap.objs.size→s3.heap.get? b=some o→s'.heap.get? b=some o:=fun b o h1 h2 e=>hm.heap b o (by simp[h1,h2]) (Heap.get?_push_of_some _ e)
  have Ue:Vals xs.reverse its.reverse:=hv.reverse
  have Ug:xs.reverse.length≤sizeLine:=by rw[List.length_reverse];exact hz
  have Uh:acc=its.reverse.toArray:=by rw[←ea]
  have uO:s'.heap.get? s3.heap.objs.size=some { cls:=.type "list",dict:=none,data:=.seq its.reverse.toArray cc,slots:=#[] }:=by rw[←Uh];exact hS
  have I4:Inv X pins σ (upd H1 s3.heap.objs.size (.lst xs.reverse)) { s3 with heap:=s'.heap,toks:=s'.toks }:=I2.Li (ch:=[p]) (t':=s'.toks) (fun b hb=>by rw[List.mem_singleton.mp hb];exact Ud) (fun b u hb e=>k3 b u (by simpa using hb) (Nat.ne_of_lt (Heap.lt_size e)) e) (Nat.le_refl _) ⟨Ug,its.reverse,cc,Ue,uO⟩
  rw[wg]
  exact⟨.ref s3.heap.objs.size,_,I4,rfl,q _ hL⟩
theorem wI{e1:Expr}{p0 p1 p2 pos:Pos}{f:Qm.XA}(hg:Gl X "list")(hm:X.mg "list" =none)(oh:Gl X "reversed")(qV:X.mg "reversed" =none)(ha:QA X [e1] f)(hc:X.calm=true:=by rfl)
  (hs:starEach [.Call (.Name "reversed" p1) [e1] [] p2] X.env=[(false,eval (.Call (.Name "reversed" p1) [e1] [] p2) X.env)]:=by rfl)
  (kZ:starEach [e1] X.env=(false,eval e1 X.env)::starEach [] X.env:=by rfl)(dq:(backTo p2 (starEach [] X.env)).any (·.1)=false:=by rfl):
  QE X (.Call (.Name "list" p0) [.Call (.Name "reversed" p1) [e1] [] p2] [] pos) (Qm.eB Qm.gq f):=(wH hc hg hm oh qV ha hs kZ dq).imp <| by
 rintro σ H Q ⟨ρ,env,c,d,c',rs,re,e,k⟩
 obtain⟨p,ea,e⟩:=aE e
 refine⟨ρ,env,c,p.1,p.2,rs,re,ea,fun aJ vs H1 n1 r1=>?_⟩
 unfold Qm.gq at e
 split at e
 ·rename_i n hp
  obtain⟨l,e3,e⟩:=aE e
  split at e
  ·cases e
   rw[hp]at r1
   obtain⟨v,rfl,rx⟩:=r1.iT
   obtain⟨hv,hn⟩:=rx.oU
   subst hv
   obtain⟨dn,Ll,ws,_,h1,a1⟩:=n1.rs.br (d:=.ref n) (.ref hn) (show Qm.br (.ref n) p.2=some (l.1,l.2)from e3)
   have Ui:l.1=n:=by cases dn;rfl
   rw[Ui]at h1
   refine⟨_,ws,rfl,cU.of h1,fun a Uj=>?_⟩
   obtain⟨n2,r2⟩:=Nx.alloc n1.rs Uj (RA.back a1)
   exact k _ _ _ (n1.trans n2) r2
  ·cases e
 ·cases e
end
end L2
namespace L2
open PySem PySem.Spec PyProof.Rows
section
variable{X:Cx}{e1 e2:Expr}{p0 p1 p2 pos:Pos}{f:Qm.XA}{es:List Expr}{k0:Nat}
end
end L2
namespace PySem
open Sem (wp)
open AutoSeq1 (wpAny_loadPart')
open MeetsSeq MeetsSeq2 MeetsSeq3 SeqRoads2
section
variable{P:Program}{W:World}
end
end PySem
namespace L2
open PySem PySem.Spec PyProof.Rows
section
variable{X:Cx}
end
end L2
namespace Qm
open PySem
noncomputable section
def AJ(tab:List (Nat×FN))(f:XE)(a:XA):XE:=fun σ c=>(f σ c).bind fun p=>match p.1 with
 |.adr x=>(tab.lookup x).bind fun F=>(a σ p.2).bind fun q=>F q.1 q.2
 |_=>none
def jZ(lo:Int)(n:Nat):List D:=(List.range n).map fun(i:Nat)=>.int (lo+i*2)
open Classical in
def uP(a:XA):XI:=fun σ c=>(a σ c).bind fun p=>match p.1 with
 |[.int i,.int j,.int k]=>if k=2∧DV i∧DV j then some (⟨jZ i ((j - i+1) / 2).toNat,[]⟩,p.2)else none
 |_=>none
end
end Qm
namespace L2
open PySem PySem.Spec PyProof.Rows
structure wJ(X:Cx)(f:Addr)(F:Qm.FN):Prop where
 ex:∃(k:Nat) (fd:FuncData) (ps:List Str),bL X.prog X.w X.K X.mg X.base cQ k f fd ps (dv X.K F)∧cY k X.A∧PySem.W.keepIn X.K (.ref f)=true∧Binds X.K fd ps []
section
variable{X:Cx}{e:Expr}{es:List Expr}{x:Str}{p pos:Pos}{fx:Qm.XA}{fe:Qm.XE}
theorem lookup_mem{tab:List (Nat×Qm.FN)}{a:Nat}{F:Qm.FN}(h:tab.lookup a=some F):(a,F)∈tab:=by
 induction tab with
 |nil=>cases h
 |cons q r ih=>
  obtain⟨b,G⟩:=q
  rw[List.lookup_cons]at h
  cases hb:(a==b)with
  |true=>
   rw[hb]at h
   cases h
   have:a=b:=by simpa using hb
   subst this
   exact List.mem_cons_self ..
  |false=>
   rw[hb]at h
   exact List.mem_cons_of_mem _ (ih h)
theorem BS(tab:List (Nat×Qm.FN))(hT:∀q∈tab,wJ X q.1 q.2)(hv:QE X (.Name x p) fe)(ha:QA X (e::es) fx)
  (he:starEach (e::es) X.env=(false,eval e X.env)::starEach es X.env:=by rfl)(dq:(backTo pos (starEach es X.env)).any (·.1)=false:=by rfl):
  QE X (.Call (.Name x p) (e::es) [] pos) (Qm.AJ tab fe fx):=by
 intro pins s σ H Q I ⟨ρ,env,c,d,c',rs,re,h,k⟩
 obtain⟨q,e1,h⟩:=aE h
 split at h
 ·rename_i a hq
  obtain⟨F,e2,h⟩:=aE h
  obtain⟨r,e3,h⟩:=aE h
  obtain⟨lv,fd,ps,G,hr,hk,hb⟩:=(hT _ (lookup_mem e2)).ex
  refine wpAny_Call_Name_kw (bj (hv pins s σ H (fun v H1=>v= .ref a∧∃aJ,Nx X.K ρ c H aJ q.2 H1) I ⟨ρ,env,c,q.1,q.2,rs,re,e1,fun aJ v H1 n1 r1=>?_⟩) fun u s1 ⟨v,H1,I1,rv,Lm,aJ,n1⟩=>?_)
  ·rw[hq]at r1
   cases r1
   exact⟨rfl,aJ,n1⟩
  ·subst Lm
   cases (show u=Value.ref a from rv)
   have t1:yP (dv X.K F) [] E0 (AQ X.K fx) σ H1 Q:=⟨aJ,env,q.2,r.1,r.2,n1.rs,re.up n1.up,e3,fun iw vs H2 n2 r2=>⟨iw,r.2,r.1,d,c',n2.rs,by simpa using r2,h,fun aM v H' n r=>k aM v H' ((n1.trans n2).trans n) r⟩⟩
   refine PySem.W.callWith_K (h₀:=X.base) I.ok.mod.CY hk (bj (ha pos pins s1 σ H1 _ I1 t1) fun us s2 ⟨vs,H2,I2,r,q⟩=>⟨I2.i_,?_⟩) he dq
   exact Ae G hr hb .nil DE I2 r q
 ·cases h
theorem Ln{a:Nat}(hg:Gl X x)(hm:X.mg x=some (.ref a))(hd:(x==("__debug__":Str))=false:=by decide):QE X (.Name x pos) (Qm.eC (.adr a)):=
 tG (.adr a) (C5 (v:=.ref a) hg hm rfl hd) fun _ _ _=>.adr a
end
def AK(lo:Int)(n:Nat):It:=⟨fun i _=>i<n,fun i H x H'=>H'=H∧x= .int (lo+i*2),fun i _=>n≤i⟩
theorem uQ{P:Program}{w:World}{K:PySem.W.Frag}{tg:Expr}(it:Addr)(lo:Int)(n:Nat):Turn P w K tg (AK lo n) [it] it (fun i h=>IsRangeIter h it (lo+(i:Nat)*2) ((n:Int) - (i:Nat)) 2) where
 mem:=by simp
 obj:=fun i h st b hb=>by
  have e:b=it:=by simpa using hb
  subst e
  exact⟨_,st,fun v z=>by
   have z':Data.fields _=Data.cell v:=z
   cases z'⟩
 keep:=fun i h h' st k=>k it (by simp) _ st
 item:=by
  intro X hP hw hK hc i pins s σ H E I hf st hg
  subst hP hw hK
  obtain⟨f0,f1,f2,f3,f4,f5⟩:=hf it (by simp)
  have W:=Walks.range (prog:=X.prog) (w:=X.w) (I.ok.hd hc) it lo 2 n
  refine W.item i s _ _ hg st fun v h' tk hv vN kk=>?_
  obtain⟨t,rfl⟩:=hv
  have I1:Inv X pins σ H { s with heap:=h',toks:=tk }:=I.turned (fun b o hb e=>kk b o (by simpa using hb) e) f0 f1 f3 f4 f5
  exact⟨_,rfl,yF (s:={ s with heap:=h',toks:=tk }) (n:="range_iterator") vN rfl rfl (by decide) ⟨.int (lo+i*2),H,I1,⟨t,rfl⟩,⟨rfl,rfl⟩,vN,fun b hb=>(hf b hb).1⟩⟩
 done:=by
  intro X hP hw hK hc i pins s σ H E I hf st hg
  subst hP hw hK
  obtain⟨f0,f1,f2,f3,f4,f5⟩:=hf it (by simp)
  exact wpAny_pyNext_range_end (I.ok.hd hc) st (by have:n≤i:=hg;omega) fun h' eb=>⟨rfl,I.turned (t':=s.toks) (fun b o hb e=>eb b o hb e) f0 f1 f3 f4 f5⟩
 self:=fun _ _ _ _ _ st h=>wpAny_pyIter_rangeiter st h
section
variable{X:Cx}{tg:Expr}
theorem G_{lo hi:Int}(h1: -(2 ^ 62)≤lo)(h2:lo<2 ^ 62)(h3: -(2 ^ 62)≤hi)(h4:hi<2 ^ 62):Builtin.Range.small lo hi 2=true:=by
 have e:Builtin.Range.rangeSize lo hi 2=if lo<hi then(hi - lo - 1) / 2+1 else 0:=by
  unfold Builtin.Range.rangeSize
  rw[if_pos (by decide)]
 unfold Builtin.Range.small
 rw[e]
 simp only[Builtin.Range.rangeFitsLong,Bool.and_eq_true,Bool.or_eq_true,decide_eq_true_eq,beq_iff_eq,show(2:Int) > 0 by decide,if_true]
 split<;>omega
theorem zp{pins:List (Addr×Obj)}{σ:St}{H:Hp}{s:Shared}{R:It→Hp→Prop}{E:Value→Shared→Prop}{lo hi:Int}{t u v:Tok}{tk:Nat}(I:Inv X pins σ H s)(h1: -(2 ^ 62)≤lo)(h2:lo<2 ^ 62)(h3: -(2 ^ 62)≤hi)(h4:hi<2 ^ 62)
  (q:R (AK lo ((hi - lo+1) / 2).toNat) H):wpAny (model X.prog X.w) X.A (pyIter (.ref s.heap.objs.size)) (Kd X pins σ tg R) E { s with heap:=s.heap.push { cls:=.type "range",data:=.fields #[.int lo t,.int hi u,.int 2 v] },toks:=tk }:=by
 refine wpAny_pyIter_range (IsRange.new ..) (G_ h1 h2 h3 h4) ?_
 have I1:Inv X pins σ H { s with heap:=s.heap.push { cls:=.type "range",data:=.fields #[.int lo t,.int hi u,.int 2 v] },toks:=tk }:=I.kept fun b o e=>Heap.get?_push_of_some _ e
 refine⟨(s.heap.push { cls:=.type "range",data:=.fields #[.int lo t,.int hi u,.int 2 v] }).objs.size,[(s.heap.push { cls:=.type "range",data:=.fields #[.int lo t,.int hi u,.int 2 v] }).objs.size],_,_,H,rfl,
  I1.kept (t':=tk) fun b o e=>Heap.get?_push_of_some _ e,uQ _ lo ((hi - lo+1) / 2).toNat,?_,fun b hb=>?_,q⟩
 ·have e1:lo+((0:Nat):Int)*2=lo:=by simp
  have e2:((((hi - lo+1) / 2).toNat:Nat):Int) - ((0:Nat):Int)=Builtin.Range.rangeSize lo hi 2:=by
   unfold Builtin.Range.rangeSize
   rw[if_pos (by decide)]
   split<;>omega
  show IsRangeIter _ _ (lo+((0:Nat):Int)*2) (((((hi - lo+1) / 2).toNat:Nat):Int) - ((0:Nat):Int)) 2
  rw[e1,e2]
  exact Heap.get?_push_size _ rfl
 ·have e:b=(s.heap.push { cls:=.type "range",data:=.fields #[.int lo t,.int hi u,.int 2 v] }).objs.size:=by simpa using hb
  subst e
  exact I1.Ac (Nat.le_refl _) (I1.aR.fresh (Nat.le_refl _))
def Ha(ta:TA):TI:=fun σ H R=>ta σ H fun vs H1=>∃i j:Int,vs=[.int i,.int j,.int 2]∧(-(2 ^ 62)≤i∧i<2 ^ 62∧-(2 ^ 62)≤j∧j<2 ^ 62)∧R (AK i ((j - i+1) / 2).toNat) H1
theorem zq{a b d:Expr}{ta:TA}{p pos:Pos}(hg:Gl X "range")(hm:X.mg "range" =none)(ha:PA X [a,b,d] ta)(hs:starEach [a,b,d] X.env=(false,eval a X.env)::starEach [b,d] X.env:=by rfl)(dq:(backTo pos (starEach [b,d] X.env)).any (·.1)=false:=by rfl):
  PI X tg (.Call (.Name "range" p) [a,b,d] [] pos) (Ha ta):=by
 intro pins s σ H R I h
 refine Call_ (dX I hg hm boot_range (PyProof.Rows.callWith_type1 (bj (ha pos pins s σ H _ I h) fun us s1 aX=>?_) hs dq))
 obtain⟨vs,H1,I1,r1,q1⟩:=aX
 obtain⟨i,j,e,⟨q1,q2,q3,q4⟩,q⟩:=q1
 subst e
 cases r1 with
 |cons r rr=>
  cases rr with
  |cons r' rr=>
   cases rr with
   |cons Uk rr=>
    cases rr
    obtain⟨t,rfl⟩:=r
    obtain⟨t',rfl⟩:=r'
    obtain⟨Xp,rfl⟩:=Uk
    exact call_range_3 (by decide) (zp I1 q1 q2 q3 q4 q) (Or.inl (PyProof.noPylong_of_log2 (by decide +kernel)))
theorem El{K:PySem.W.Frag}{ρ:Nat→Addr}{N:Nat}{H:Hp}{lo:Int}{n:Nat}:DZ K ρ N H ⟨Qm.jZ lo n,[]⟩ (AK lo n):=by
 intro aM c' H' _ Ul _
 refine⟨fun i hi=>by show i<n;simpa[Qm.jZ]using hi,by show n≤(Qm.jZ lo n).length;simp[Qm.jZ],fun i d x H2 hd hy=>?_⟩
 obtain⟨rfl,rfl⟩:=hy
 unfold Qm.jZ at hd
 rw[List.getElem?_map]at hd
 cases q:(List.range n)[i]? with
 |none=>rw[q]at hd;cases hd
 |some j=>
  rw[q]at hd
  cases hd
  have:j=i:=by
   obtain⟨h1,h2⟩:=List.getElem?_eq_some_iff.mp q
   simpa using h2.symm
  subst this
  exact⟨Nx.refl Ul,.int _⟩
theorem zr{a b d:Expr}{f:Qm.XA}{p pos:Pos}(hg:Gl X "range")(hm:X.mg "range" =none)(ha:QA X [a,b,d] f)(hs:starEach [a,b,d] X.env=(false,eval a X.env)::starEach [b,d] X.env:=by rfl)(dq:(backTo pos (starEach [b,d] X.env)).any (·.1)=false:=by rfl):
  QI X tg (.Call (.Name "range" p) [a,b,d] [] pos) (Qm.uP f):=(zq hg hm ha hs dq).imp <| by
 rintro σ H R ⟨ρ,env,c,m,c',rs,re,e,k⟩
 obtain⟨p,e1,e⟩:=aE e
 refine⟨ρ,env,c,p.1,p.2,rs,re,e1,fun aJ vs H1 n1 r1=>?_⟩
 split at e
 ·rename_i i j kk hj
  split at e
  ·rename_i hb
   cases e
   obtain⟨rfl,hi,O0⟩:=hb
   rw[hj]at r1
   cases r1 with
   |cons rv rr=>
    obtain⟨v2,v3,rfl,ru,sr⟩:=rr.tF
    cases rv.dA;cases ru.dA;cases sr.dA
    exact⟨i,j,rfl,⟨hi.1,hi.2,O0.1,O0.2⟩,k aJ _ H1 n1 El⟩
  ·cases e
 ·cases e
end
end L2
namespace Qm
open PySem
noncomputable section
def k1(d:D):Option (List Int):=match d with
 |.tup xs=>nums xs
 |_=>none
def k2(d:D):Option (List (List Int)):=match d with
 |.tup xs=>omap k1 xs
 |_=>none
def Lo(k:List Int):D:=.tup (k.map .int)
section
variable{κ α:Type}[DecidableEq κ]
def Em(ps:List (κ×α))(k:κ):Option α:=(ps.find? fun p=>decide (p.1=k)).map (·.2)
def wK(ps:List (κ×α))(k:κ)(d:α):List (κ×α):=
 if (ps.any fun p=>decide (p.1=k))=true then ps.map (fun p=>if p.1=k then(p.1,d)else p)else ps++[(k,d)]
end
def lC(d:D)(c:Cells):Option (Nat×List (List Int×D)):=match d with
 |.ref n=>(match c[n]? with
  |some (.mV ps)=>some (n,ps)
  |_=>none)
 |_=>none
def uR:XE:=fun _ c=>some (.ref c.length,c++[.mV []])
def kL(o k v:XE):XS:=fun σ c=>(v σ c).bind fun w=>(o σ w.2).bind fun p=>(k σ p.2).bind fun q=>(lC p.1 q.2).bind fun l=>(k1 q.1).bind fun x=>if l.2.length<cD then some (.nx,σ,q.2.set l.1 (.mV (wK l.2 x w.1)))else none
def j3:FN:=one fun x c=>(lC x c).bind fun l=>if l.2.length≤cD then some (.ref c.length,c++[.lst (l.2.map fun p=>Lo p.1)])else none
end
end Qm
namespace L2
open PySem PySem.Spec PyProof.Rows
abbrev j4(k:List Int):List Key:=k.map Sum.inl
abbrev Um(k:List (List Int)):List (List Key):=k.map (List.map Sum.inl)
section
variable{K:PySem.W.Frag}{ρ aM:Nat→Addr}{N N':Nat}{H H':Hp}
theorem uS{x y:List Int}(h:j4 x=j4 y):x=y:=(List.map_inj_right fun _ _ e=>Sum.inl.inj e).mp h
theorem du.length:∀{ps:List (List Int×Qm.D)}{us:List (List Key×V)},du K ρ N H ps us→ps.length=us.length
 |_,_,.nil=>rfl
 |_,_,.cons _ a=>congrArg (·+1) (du.length a)
theorem du.val:∀{ps:List (List Int×Qm.D)}{us:List (List Key×V)},du K ρ N H ps us→∀k,(Qm.Em ps k=none∧fV us (j4 k)=none)∨∃d v,Qm.Em ps k=some d∧fV us (j4 k)=some v∧RD K ρ N H d v
 |_,_,.nil,_=>.inl ⟨rfl,rfl⟩
 |_,_,.cons (k:=k0) (d:=d) (x:=x) r a,k=>by
  by_cases hk:k0=k
  ·subst hk
   exact .inr ⟨d,x,by simp[Qm.Em],by simp[fV],r⟩
  ·have wL:¬j4 k0=j4 k:=fun e=>hk (uS e)
   rcases du.val a k with⟨h1,h2⟩|⟨d',v',h1,h2,h3⟩
   ·refine .inl ⟨?_,?_⟩
    ·unfold Qm.Em at h1 ⊢
     rw[List.find?_cons]
     simp only[hk,decide_false]
     exact h1
    ·unfold fV at h2 ⊢
     rw[List.find?_cons]
     simp only[wL,decide_false]
     exact h2
   ·refine .inr ⟨d',v',?_,?_,h3⟩
    ·unfold Qm.Em at h1 ⊢
     rw[List.find?_cons]
     simp only[hk,decide_false]
     exact h1
    ·unfold fV at h2 ⊢
     rw[List.find?_cons]
     simp only[wL,decide_false]
     exact h2
theorem du.any:∀{ps:List (List Int×Qm.D)}{us:List (List Key×V)},du K ρ N H ps us→∀k,(ps.any fun p=>decide (p.1=k))=us.any fun kv=>decide (kv.1=j4 k)
 |_,_,.nil,_=>rfl
 |_,_,.cons (k:=k0) r a,k=>by
  rw[List.any_cons,List.any_cons,du.any a k]
  by_cases hk:k0=k
  ·subst hk;simp
  ·have wL:¬j4 k0=j4 k:=fun e=>hk (uS e)
   simp[hk,wL]
theorem du.qu{d:Qm.D}{v:V}(r:RD K ρ N H d v):∀{ps:List (List Int×Qm.D)}{us:List (List Key×V)},du K ρ N H ps us→∀k,du K ρ N H (ps.map fun p=>if p.1=k then(p.1,d)else p) (us.map fun kv=>if kv.1=j4 k then(kv.1,v)else kv)
 |_,_,.nil,_=>.nil
 |_,_,.cons (k:=k0) r0 a,k=>by
  rw[List.map_cons,List.map_cons]
  by_cases hk:k0=k
  ·subst hk
   simp only[if_true]
   exact .cons r (du.qu r a k0)
  ·have wL:¬j4 k0=j4 k:=fun e=>hk (uS e)
   simp only[if_neg hk,if_neg wL]
   exact .cons r0 (du.qu r a k)
theorem du.append:∀{ps qs:List (List Int×Qm.D)}{us vs:List (List Key×V)},du K ρ N H ps us→du K ρ N H qs vs→du K ρ N H (ps++qs) (us++vs)
 |_,_,_,_,.nil,b=>b
 |_,_,_,_,.cons h a,b=>.cons h (du.append a b)
theorem du.put{d:Qm.D}{v:V}(r:RD K ρ N H d v){ps:List (List Int×Qm.D)}{us:List (List Key×V)}(a:du K ρ N H ps us)(k:List Int):du K ρ N H (Qm.wK ps k d) (putK us (j4 k) v):=by
 unfold Qm.wK putK
 rw[a.any k]
 split
 ·exact a.qu r k
 ·exact a.append (.cons r .nil)
theorem du.at_:∀{ps:List (List Int×Qm.D)}{us:List (List Key×V)}{i:Nat}{p:List Int×Qm.D},du K ρ N H ps us→ps[i]? =some p→∃v,us[i]? =some (j4 p.1,v)∧RD K ρ N H p.2 v
 |_,_,_,_,.nil,e=>by simp at e
 |_,_,0,_,.cons h _,e=>by simp at e;subst e;exact⟨_,rfl,h⟩
 |_,_,i+1,p,.cons _ a,e=>by
  obtain⟨v,h1,h2⟩:=du.at_ (i:=i) (p:=p) a (by simpa using e)
  exact⟨v,by simpa using h1,h2⟩
end
section
variable{K:PySem.W.Frag}{ρ aM:Nat→Addr}{N N':Nat}{H H':Hp}
theorem pD.at_:∀{ps:List (List (List Int)×Qm.D)}{us:List (List (List Key)×V)}{i:Nat}{p:List (List Int)×Qm.D},pD K ρ N H ps us→ps[i]? =some p→∃v,us[i]? =some (Um p.1,v)∧RD K ρ N H p.2 v
 |_,_,_,_,.nil,e=>by simp at e
 |_,_,0,_,.cons h _,e=>by simp at e;subst e;exact⟨_,rfl,h⟩
 |_,_,i+1,p,.cons _ a,e=>by
  obtain⟨v,h1,h2⟩:=pD.at_ (i:=i) (p:=p) a (by simpa using e)
  exact⟨v,by simpa using h1,h2⟩
end
end L2
namespace L2
open PySem PySem.Spec PyProof.Rows
section
variable{K:PySem.W.Frag}{ρ:Nat→Addr}{N:Nat}{H:Hp}
theorem zt{xs:List Qm.D}{is:List Int}(h:Qm.nums xs=some is):xs=is.map Qm.D.int:=by
 unfold Qm.nums at h
 induction xs generalizing is with
 |nil=>cases h;rfl
 |cons x xs ih=>
  unfold Qm.omap at h
  obtain⟨d,h1,h⟩:=aE h
  obtain⟨ds,h2,h⟩:=aE h
  cases h
  rw[ih h2]
  cases x<;>simp[Qm.pB]at h1
  subst h1
  rfl
theorem wM:∀{is:List Int}{vs:List V},RA K ρ N H (is.map Qm.D.int) vs→vs=is.map V.int
 |[],_,h=>by cases h;rfl
 |i::is,_,h=>by
  cases h with
  |cons r a=>
   cases r.dA
   rw[wM a]
   rfl
theorem wN(is:List Int):(is.map (Sum.inl:Int→Key)).map kV=is.map V.int:=by rw[List.map_map];rfl
theorem Lq{d:Qm.D}{v:V}{is:List Int}(r:RD K ρ N H d v)(h:Qm.k1 d=some is):∃b,v= .ref b∧H b=some (.tup ((j4 is).map kV)):=by
 unfold Qm.k1 at h
 split at h
 ·obtain⟨b,vs,rfl,h1,a⟩:=r.mZ
  rw[zt h]at a
  refine⟨b,rfl,?_⟩
  rw[wN,←wM a]
  exact h1
 ·cases h
theorem j5:∀(is:List Int),RA K ρ N H (is.map Qm.D.int) (is.map V.int)
 |[]=>.nil
 |i::is=>.cons (.int i) (j5 is)
theorem Hb{is:List Int}{a:Addr}(h:H a=some (.tup ((j4 is).map kV))):RD K ρ N H (Qm.Lo is) (.ref a):=by
 rw[wN]at h
 exact .tup h (j5 is)
end
section
variable{K:PySem.W.Frag}{ρ:Nat→Addr}{c:Qm.Cells}{H:Hp}
theorem RS.lC(r:RS K ρ c H){d:Qm.D}{n:Nat}{ps:List (List Int×Qm.D)}{v:V}(h:RD K ρ c.length H d v)(e:Qm.lC d c=some (n,ps)):d= .ref n∧c[n]? =some (.mV ps)∧∃us,v= .ref (ρ n)∧H (ρ n)=some (.dT us)∧du K ρ c.length H ps us:=by
 unfold Qm.lC at e
 split at e
 ·obtain⟨rfl,hn⟩:=h.oU
  split at e
  ·rename_i xs hx
   cases e
   obtain⟨us,h1,h2⟩:=r.ok n _ hx
   exact⟨rfl,hx,us,rfl,h1,h2⟩
  ·cases e
 ·cases e
theorem Nx.Lr(r:RS K ρ c H){n:Nat}{xs:List (List Int×Qm.D)}(hn:c[n]? =some (.mV xs)){ds:List (List Int×Qm.D)}{vs:List (List Key×V)}(a:du K ρ c.length H ds vs):Nx K ρ c H ρ (c.set n (.mV ds)) (upd H (ρ n) (.dT vs)):=
 Nx.Jl r hn rfl fun _ _ u h=>⟨vs,h,a.up u⟩
end
section
variable{X:Cx}{pos:Pos}
theorem BU:QE X (.Dict [] [] pos) Qm.uR:=Bv.imp <| by
 rintro σ H Q ⟨ρ,env,c,d,c',rs,re,e,k⟩
 cases e
 intro p hp
 obtain⟨n,r⟩:=Nx.Av (z:=.mV []) (o:=.dT []) rs hp (fun _ _ _ _ h=>⟨[],h,.nil⟩)
 exact k _ _ _ n r
theorem BV{o i value:Expr}{fo fi fv:Qm.XE}{pos':Pos}(hu:X.A.units+64<cLine)(ho:QE X o fo)(hi:QE X i fi)(hv:QE X value fv)(hs:swapsWith value (some (.Subscript o i pos')) pos.line X.env=pure false:=by rfl):
  QS X (.Assign [.Subscript o i pos'] value pos) (Qm.kL fo fi fv):=(DJ (by omega) ho hi hv hs).imp <| by
 rintro D σ H ⟨ρ,env,c,fl,bQ,c',rs,re,e,k⟩
 obtain⟨w,e1,e⟩:=aE e
 obtain⟨p,e2,e⟩:=aE e
 obtain⟨q,e3,e⟩:=aE e
 obtain⟨l,e4,e⟩:=aE e
 obtain⟨x,e5,e⟩:=aE e
 split at e
 ·rename_i hz
  cases e
  refine⟨ρ,env,c,w.1,w.2,rs,re,e1,fun aJ v H1 n1 r1=>⟨aJ,env,w.2,p.1,p.2,n1.rs,re.up n1.up,e2,fun iw u H2 n2 r2=>⟨iw,env,p.2,q.1,q.2,n2.rs,re.up (n1.trans n2).up,e3,fun uI y H3 n3 r3=>?_⟩⟩⟩
  obtain⟨b,rfl,hb⟩:=Lq r3 e5
  obtain⟨_,hc,us,hv,h1,a1⟩:=n3.rs.lC (r2.up n3.up) e4
  cases hv
  have n4:=Nx.Lr n3.rs hc (du.put ((r1.up n2.up).up n3.up) a1 x)
  have nn:=n1.trans (n2.trans (n3.trans n4))
  exact⟨_,_,rfl,qw.t (k:=j4 x) h1 hb (qK (by rw[←a1.length];exact hz)),k uI _ nn σ (re.up nn.up)⟩
 ·cases e
end
end L2
namespace L2
open PySem PySem.Spec PyProof.Rows
section
variable{P:Program}{w:World}{H:Hp}{h:Heap}{a:Addr}
theorem lD:∀(as:List Addr),Vals (as.map V.ref) (as.map Value.ref)
 |[]=>.nil
 |a::as=>.cons (show Value.ref a=Value.ref a from rfl) (lD as)
theorem KT.len{aD:List (List Key×V)}{xs:List (List Key×Addr×Value)}(r:KT H aD xs):aD.length=xs.length:=by
 induction r with
 |nil=>rfl
 |cons _ _ ih=>simp[ih]
theorem KT.addrs{aD:List (List Key×V)}{xs:List (List Key×Addr×Value)}(r:KT H aD xs):Paired (fun(kv:List Key×V) (a:Addr)=>H a=some (.tup (kv.1.map kV))) aD (xs.map (·.2.1)):=by
 induction r with
 |nil=>exact .nil
 |cons h _ ih=>exact .cons h.2.1 ih
end
section
variable{X:Cx}
theorem wO{K:Type}[DecidableEq K]{knd:HeapKind X.prog X.w K}{es:Array DictEntry}{xs:List (K×Addr×Value)}{acc:Array Value}(he:es.toList=xs.map (entryOfKey knd))(h:ItemsOf (fun i v=>∃e,es[i]? =some e∧v=e.key) acc es.size):acc.toList=(xs.map (·.2.1)).map Value.ref:=by
 obtain⟨h1,h2⟩:=h
 apply List.ext_getElem?
 intro i
 have hl:es.size=xs.length:=by rw[←Array.length_toList,he,List.length_map]
 by_cases hi:i<es.size
 ·have e1:acc[i]? =some (acc[i]'(by omega)):=Array.getElem?_eq_getElem _
  obtain⟨e,e2,e3⟩:=h2 i _ e1
  have e4:es.toList[i]? =some e:=by simpa using e2
  rw[he,List.getElem?_map]at e4
  rw[show acc.toList[i]? =acc[i]? by simp,e1,e3,List.getElem?_map,List.getElem?_map]
  cases hx:xs[i]? with
  |none=>rw[hx]at e4;cases e4
  |some x=>rw[hx]at e4;cases e4;rfl
 ·rw[List.getElem?_eq_none (by simp;omega),List.getElem?_eq_none (by simp;omega)]
def AL(H0:Unit):List V→Hp→VK→Prop:=fun xs H Q=>∃p us,xs=[.ref p]∧Rd H p (.dT us)∧∀l as,H l=none→Paired (fun(kv:List Key×V) (a:Addr)=>H a=some (.tup (kv.1.map kV))) us as→Q (.ref l) (upd H l (.lst (as.map V.ref)))
theorem oW(hc:X.calm=true):fN X (.type "list") (AL ()):=by
 intro pins s σ H xs us Q I r h
 obtain⟨p,aD,rfl,hp,q⟩:=h
 obtain⟨u,rfl,rx⟩:=vals1 r
 cases (show u=Value.ref p from rx)
 obtain⟨z,nd,ys,rel,ob,es,ep,h1,h2,h3,h4,h5,h6⟩:=DH I.aR hp
 have hl:es.size=ys.length:=by rw[←Array.length_toList,h4,List.length_map]
 have Xq:=rel.len
 refine PySem.W.kdl_call (NW nd) (I.ok.hd hc) ⟨ob,h1,h2,h3⟩ (by omega) fun h' tk acc c' hk hD ni=>?_
 have ea:=wO h4 ni
 refine⟨.ref s.heap.objs.size,_,I.laid (t':=tk) hk (Nat.le_refl _) (show bH X.prog X.w _ h' _ (.lst ((ys.map (·.2.1)).map V.ref))from⟨by simp;omega,acc.toList,c',?_,by simpa using hD⟩),rfl,q _ _ (I.aR.fresh (Nat.le_refl _)) rel.addrs⟩
 rw[ea]
 exact lD _
end
end L2
namespace PySem
section
variable{prog:Program}{w:World}{K:Type}[DecidableEq K]{knd:HeapKind prog w K}{A:Around}{E:Value→Shared→Prop}{s:Shared}
end
end PySem
namespace L2
open PySem PySem.Spec PyProof.Rows
section
variable{K:Type}[DecidableEq K]
end
section
variable{X:Cx}{o i e f:Expr}{pos apos e7:Pos}{td ty tx:TE}
end
section
variable{X:Cx}{o i b:Expr}{pos apos e7 p0 p1 p2 lp:Pos}{fo fb:Qm.XE}
end
theorem qW{K:PySem.W.Frag}:qN K (AL ()) Qm.j3:=by
 intro ρ c H ds d c' vs Q rs ra e k
 obtain⟨x,rfl,e⟩:=ia e
 obtain⟨v,rfl,rx⟩:=ra.iT
 obtain⟨l,e1,e⟩:=aE e
 split at e
 ·cases e
  obtain⟨_,hc,us,rfl,h1,a1⟩:=rs.lC rx e1
  refine⟨_,us,rfl,.inl h1,fun q as hq pa=>?_⟩
  have Uo:∀{ps:List (List Int×Qm.D)}{us:List (List Key×V)}{as:List Addr},du K ρ c.length H ps us→Paired (fun(kv:List Key×V) (a:Addr)=>H a=some (.tup (kv.1.map kV))) us as→RA K ρ c.length H (ps.map fun p=>Qm.Lo p.1) (as.map V.ref):=by
   intro ps us as a p
   induction a generalizing as with
   |nil=>cases p;exact .nil
   |cons r a ih=>
    cases p with
    |cons h1 t=>exact .cons (Hb h1) (ih t)
  obtain⟨n,r⟩:=Nx.alloc rs hq (Uo a1 pa)
  exact k _ _ _ n r
 ·cases e
end L2
namespace L2
open PySem PySem.Spec PyProof.Rows
section
variable{X:Cx}{o:Expr}{p0 pos apos e7:Pos}{td:TE}{fo:Qm.XE}
end
end L2
namespace PySem
set_option maxRecDepth 100000
end PySem
namespace L2
open PySem PySem.Spec PyProof.Rows
section
variable{X:Cx}{pins:List (Addr×Obj)}{σ:St}{H:Hp}{A:Around}{E:Value→Shared→Prop}
end
end L2
namespace L2
open PySem PySem.Spec PyProof.Rows
section
variable{X:Cx}
end
end L2
namespace PySem
set_option maxRecDepth 100000
section
variable{prog:Program}{w:World}{A:Around}{E:Value→Shared→Prop}{s:Shared}{z TI TO i1 i2:Addr}{f0 f1 x y a b:Value}
end
end PySem
namespace PySem
section
variable{prog:Program}{w:World}{A:Around}{E:Value→Shared→Prop}{s:Shared}{z TI TO:Addr}{f0 f1:Value}
end
end PySem
namespace L2
open PySem PySem.Spec PyProof.Rows
end L2
namespace PySem
section
variable{prog:Program}{w:World}{A:Around}{E:Value→Shared→Prop}{s:Shared}
end
end PySem
namespace L2
open PySem PySem.Spec PyProof.Rows
section
variable{X:Cx}{e1 e2 tg:Expr}{p1 p2:Pos}{f:Qm.XA}
end
end L2
namespace L2
open PySem PySem.Spec PyProof.Rows
section
variable{X:Cx}{e1 e2 tg:Expr}{p1 p2:Pos}{f:Qm.XA}
end
end L2
namespace Qm
open PySem
noncomputable section
end
end Qm
namespace Qm
open PySem
noncomputable section
end
end Qm
namespace PySem
open Sem (wp)
section
variable{prog:Program}{w:World}{A:Around}{E:Value→Shared→Prop}{s:Shared}
end
end PySem
namespace L2
open PySem PySem.Spec PyProof.Rows
section
variable{X:Cx}
end
end L2
namespace L2
open PySem PySem.Spec PyProof.Rows
theorem En{X:Cx}:∀q∈([]:List (Nat×Qm.FN)),wJ X q.1 q.2:=fun q h=>nomatch h
theorem BW{X:Cx}{a:Nat}{F:Qm.FN}{l:List (Nat×Qm.FN)}{k:Nat}{fd:FuncData}{ps:List Str}(h:bL X.prog X.w X.K X.mg X.base cQ k a fd ps (dv X.K F))(hr:cY k X.A)(hk:PySem.W.keepIn X.K (.ref a)=true)(hb:Binds X.K fd ps [])(r:∀q∈l,wJ X q.1 q.2):∀q∈(a,F)::l,wJ X q.1 q.2:=fun q m=>by
 rcases List.mem_cons.mp m with rfl|m
 ·exact⟨⟨k,fd,ps,h,hr,hk,hb⟩⟩
 ·exact r q m
def spT(K:PySem.W.Frag)(F:Nat→Nat→Qm.FN):Sp:=fun vs H Q E=>∀x y,x≠y→dv K (F x y) vs H Q E
end L2
namespace PySem
open Sem (wp)
open AutoSeq1 (wpAny_loadPart')
end PySem
namespace L2
open PySem PySem.Spec PyProof.Rows
section
variable{X:Cx}
end
end L2
namespace Qm
open PySem
noncomputable section
def AM(n:Nat)(fb:XE):FN:=fun ds c=>if ds.length=n then fb (ds.map some) c else none
def qX:List Nat→Env→Option (List D)
 |[],_=>some []
 |i::r,σ=>(σ[i]?.join).bind fun d=>(qX r σ).bind fun ds=>some (d::ds)
def wQ(t:bD)(n:Nat)(is:List Nat):XE:=fun σ c=>match c[n]? with
 |some (.tab cd q)=>if cd=t.code∧q=t.qual then(qX is σ).bind fun bs=>some (.qF t bs,c)else none
 |_=>none
open Classical in
def qY:List (bD×FN)→bD→Option FN
 |[],_=>none
 |(u,F)::r,t=>if u=t then some F else qY r t
def jj(tab:List (Nat×FN))(lt:List (bD×FN))(f:XE)(a:XA):XE:=fun σ c=>(f σ c).bind fun q=>match q.1 with
 |.adr b=>(tab.lookup b).bind fun F=>(a σ q.2).bind fun r=>F r.1 r.2
 |.qF t bs=>(qY lt t).bind fun F=>(a σ q.2).bind fun r=>F (r.1++bs) r.2
 |_=>none
end
end Qm
namespace L2
open PySem PySem.W PySem.Spec PyProof.Rows
abbrev Ls(P:Program)(w:World)(K:Frag)(mg:Str→Option Value)(base:Heap)(N:List Str)(t:Qm.bD)(f c':Addr)(bX:List (Str×Addr))(A:Around)(outer:List Env)(s:Shared)(H:Hp):Cx where
 prog:=P
 w:=w
 K:=K
 mg:=mg
 base:=base
 A:=A.deeper (envX t.qual t.scope s.heap.objs.size f (.ref c') bX)
 N:=N
 aW:=s
 bW:=H
 env:=envX t.qual t.scope s.heap.objs.size f (.ref c') bX
 outer:=outer
 stack:=envX t.qual t.scope s.heap.objs.size f (.ref c') bX::outer
 ex:=[]
 calm:=true
 fn:=fun _=>false
 pn:=[]
 xe:=fun _ _=>False
structure tJ(N ps:List Str)(t:Qm.bD):Prop where
 kind:t.scope.kind= .function
 co:t.scope.isCoroutine=false
 gen:t.scope.isGenerator=false
 nd:N.Nodup
 pre:N=ps++t.free
 par:∀x∈ps,t.scope.names.lookup x=some .local
 fr:∀x∈t.free,t.scope.names.lookup x=some .free
 AN:∀y∈t.scope.names,y.2≠.cell
 free:∀x,t.scope.names.lookup x=some .free→x∈t.free
 bind:∀(bX:List (Str×Addr)) (pm cf ct:Value) (us:List Value),us.length=ps.length→bindArgs (kla_fn "<lambda>" t.qual t.params t.body t.scope bX pm cf ct) ⟨us,[]⟩=pure (ps.zip us)
theorem nj{x:Str}{u:Value}:∀{l:List (Str×Value)},(l.map (·.1)).Nodup→(x,u)∈l→l.lookup x=some u
 |[],_,h=>nomatch h
 |(y,v)::r,nd,h=>by
  rw[List.map_cons,List.nodup_cons]at nd
  rcases List.mem_cons.mp h with e|h
  ·cases e;simp
  ·have:x≠y:=fun e=>nd.1 (by rw[←e];exact List.mem_map_of_mem (f:=(·.1)) h)
   rw[List.lookup_cons,show(x==y)=false by simpa using this]
   exact nj nd.2 h
theorem wR{x:Str}{u:Value}{ps:List Str}{us:List Value}{i:Nat}(nd:ps.Nodup)(h1:ps[i]? =some x)(h2:us[i]? =some u):(ps.zip us).reverse.lookup x=some u:=by
 refine nj ?_ (List.mem_reverse.mpr (List.mem_of_getElem? (i:=i) ?_))
 ·rw[List.map_reverse]
  refine List.pairwise_reverse.mpr (List.Pairwise.imp (fun h=>Ne.symm h) ?_)
  have:((ps.zip us).map (·.1)).Sublist ps:=by
   clear nd h1 h2
   induction ps generalizing us with
   |nil=>simp
   |cons p ps ih=>
    cases us with
    |nil=>simp
    |cons u us=>simpa using ih (us:=us)
  exact nd.sublist this
 ·rw[List.getElem?_zip_eq_some]
  exact⟨h1,h2⟩
section
variable{P:Program}{w:World}{K:Frag}{mg:Str→Option Value}{base:Heap}{N ps:List Str}{t:Qm.bD}{k:Nat}{fb:Qm.XE}
structure uT(P:Program)(w:World)(K:Frag)(mg:Str→Option Value)(base:Heap)(k:Nat)(t:Qm.bD)(F:Qm.FN):Prop where
 run:∀(A:Around) (outer:List Env) (s:Shared) (H:Hp) (f:Addr) (us:List Value) (vs bs:List V) (Q:VK) (E:XK),cY k A→vT P w K mg base A outer s H→mT H f t bs→Vals vs us→dv K F (vs++bs) H Q E→
  codeAny (model P w) A (.call (.ref f) ⟨us,[]⟩) (CR cQ outer P w H s Q E) s
theorem Hc{n:Nat}(S:tJ N ps t)(hn:N.length=n)(jb:∀(f c':Addr) (bX:List (Str×Addr)) (A:Around) (outer:List Env) (s:Shared) (H:Hp),cY k (A.deeper (envX t.qual t.scope s.heap.objs.size f (.ref c') bX))→QE (Ls P w K mg base N t f c' bX A outer s H) t.body fb):
  uT P w K mg base (k+1) t (Qm.AM n fb):=by
 refine⟨fun A outer s H f us vs bs Q E hr e0 L r pq=>?_⟩
 obtain⟨bX,pm,jR,c',oc,fs,tk,h1,h2,h3,h4,h5,h6,h7,h8⟩:=L.ex
 obtain⟨ρ,c,ds,d,c2,rs,ra,e,kq⟩:=pq
 unfold Qm.AM at e
 split at e
 ·rename_i hl
  have Lu:vs.length+bs.length=n:=by rw[←hl,ra.length,List.length_append]
  have Xr:ps.length+t.free.length=n:=by rw[←hn,S.pre,List.length_append]
  have O2:vs.length=ps.length:=by omega
  have Uq:us.length=ps.length:=by rw[←r.length];exact O2
  have g0:s.heap.get? f=some (kla_obj "<lambda>" t.qual t.params t.body t.scope bX pm c' jR):=(e0.aR f _ h1).1
  have lim:s.heap.NoLimit:=e0.mod.nolimit.keeps fun b o e=>(e0.bs b o e).1
  refine kla_callFunE hr.depth g0 rfl S.co S.gen rfl ⟨c',oc,fs,tk,rfl,(e0.aR c' _ h2).1,h3,h4⟩ ?_
  rw[S.bind bX pm (.ref c') jR us Uq]
  have O3:∀y∈ps.zip us,t.scope.names.lookup y.1=some .local:=fun y hy=>S.par y.1 (List.of_mem_zip (a:=y.1) (b:=y.2) hy).1
  refine wpAny_pure (wpAny_newFunctionEnv S.AN O3 (fun h' qB Eo=>?_) S.kind)
  have hk:∀b o,s.heap.get? b=some o→h'.get? b=some o:=fun b o e=>Eo.extBut b o (Nat.ne_of_lt (Heap.lt_size e)) (Heap.get?_push_of_some _ e)
  refine⟨lim.keeps hk,?_⟩
  show codeAny _ _ (.expr t.body (envX t.qual t.scope s.heap.objs.size f (.ref c') bX)) _ _
  have I:Inv (Ls P w K mg base N t f c' bX A outer s H) [] ((vs++bs).map some) H { s with heap:=h',toks:=s.toks+(ps.zip us).length }:=by
   have ur:∀b:Addr,b∉(Ls P w K mg base N t f c' bX A outer s H).ex:=fun b z=>absurd (show b∈([]:List Addr)from z) (by simp)
   have cl:∀x c,bX.lookup x=some c→∃o u u0,H c=some (.dP o u0)∧o.data= .cell (some u):=fun x c hx=>by
    obtain⟨i,hi⟩:=List.getElem?_of_mem (h6 x c hx)
    have Lv:i<bs.length:=by rw[h7];exact(List.getElem?_eq_some_iff.mp hi).1
    obtain⟨c1,o,u,u0,g1,g2,g3,_⟩:=h8 i x bs[i] hi (List.getElem?_eq_getElem Lv)
    rw[hx]at g1;cases g1
    exact⟨o,u,u0,g2,g3⟩
   refine⟨⟨e0.mod,S.kind,rfl,rfl,Nat.le_refl _,h5,fun y hy=>?_,fun y c z=>absurd z (by simp),fun _=>hr.hd,Around.frames_deeper e0.frames,.inr ⟨rfl,rfl⟩,fun b z=>absurd z (ur b),e0.bs,e0.pY,fun b _ _=>ur b,fun b z=>absurd z (ur b),e0.iL,e0.vF⟩,
    rfl,e0.bare,Un.kept hk,⟨_,qB,fun i x v q1 q2 q3=>?_⟩,fun y c hy=>?_,e0.aR.fresh (Nat.le_refl _),fun y c hy=>?_,fun p hp=>absurd (show p∈([]:List (Addr×Obj))from hp) (by simp),e0.aR.kept hk,?_⟩
   ·have hy:t.scope.names.lookup y=some .cell∨t.scope.names.lookup y=some .free:=hy
    rcases hy with hy|hy
    ·exact absurd rfl (S.AN _ (PySem.mem_of_lookup hy))
    ·obtain⟨i,hi⟩:=List.getElem?_of_mem (S.free y hy)
     have Lv:i<bs.length:=by rw[h7];exact(List.getElem?_eq_some_iff.mp hi).1
     obtain⟨c1,o,u,u0,g1,_⟩:=h8 i y bs[i] hi (List.getElem?_eq_getElem Lv)
     exact⟨c1,g1⟩
   ·have q1:N[i]? =some x:=q1
    rw[S.pre]at q1
    rw[List.getElem?_map]at q2
    have Ep:(vs++bs)[i]? =some v:=by
     cases z:(vs++bs)[i]? with
     |none=>rw[z]at q2;cases q2
     |some y=>rw[z]at q2;cases q2;rfl
    by_cases hi:i<ps.length
    ·rw[List.getElem?_append_left hi]at q1
     rw[List.getElem?_append_left (by omega)]at Ep
     obtain⟨u,hu,rv⟩:=r.get Ep
     refine⟨u,rv,.inl ⟨S.par x (List.mem_of_getElem? q1),?_⟩⟩
     have Gx:ps.Nodup:=by have:=S.nd;rw[S.pre]at this;exact(List.nodup_append.mp this).1
     exact wR Gx q1 hu
    ·rw[List.getElem?_append_right (by omega)]at q1 Ep
     rw[O2]at Ep
     obtain⟨c1,o,u,u0,g1,g2,g3,g4⟩:=h8 _ x v q1 Ep
     exact⟨u,g4,.inr ⟨.inr (S.fr x (List.mem_of_getElem? q1)),c1,g1,o,hk _ _ (e0.aR c1 _ g2).1,g3⟩⟩
   ·obtain⟨o,u,u0,g2,g3⟩:=cl y c hy
    exact⟨_,o,hk _ _ (e0.aR c _ g2).1,g3⟩
   ·obtain⟨o,u,u0,g2,g3⟩:=cl y c hy
    exact .inr ⟨rfl,o,_,g2⟩
   ·rw[List.length_map,List.length_append];exact Lu.trans hn.symm
  have re:RE K ρ c.length H (ds.map some) ((vs++bs).map some):=by
   refine⟨by rw[List.length_map,List.length_map];exact ra.length,fun i d hd=>?_⟩
   rw[List.getElem?_map]at hd
   cases z:ds[i]? with
   |none=>rw[z]at hd;cases hd
   |some d'=>
    rw[z]at hd;cases hd
    obtain⟨v,e1,e2⟩:=ra.get z
    exact⟨v,by rw[List.getElem?_map,e1];rfl,e2⟩
  refine kla_codeExpr (wpAny_mono (jb f c' bX A outer s H (hr.deeper _) [] _ ((vs++bs).map some) H Q I ⟨ρ,ds.map some,c,d,c2,rs,re,e,kq⟩) (fun u s' hu=>?_) fun _ _ z=>False.elim z)
  obtain⟨v,H',J,rv,q⟩:=hu
  exact⟨v,H',J.os,J.bare,J.base,J.aR,rv,q⟩
 ·cases e
end
end L2
namespace L2
open PySem PySem.W PySem.Spec PyProof.Rows
structure Er(X:Cx)(t:Qm.bD)(F:Qm.FN):Prop where
 ex:∃k:Nat,uT X.prog X.w X.K X.mg X.base k t F∧cY k X.A
theorem mT.fnAt{P:Program}{w:World}{H:Hp}{h:Heap}{a:Addr}{t:Qm.bD}{vs:List V}(L:mT H a t vs)(ok:dZ P w H h):FnAt a h:=by
 obtain⟨bX,pm,jR,c',oc,fs,tk,h1,_⟩:=L.ex
 exact⟨_,_,_,_,(ok a _ h1).1⟩
theorem zu{lt:List (Qm.bD×Qm.FN)}{t:Qm.bD}{F:Qm.FN}(h:Qm.qY lt t=some F):(t,F)∈lt:=by
 induction lt with
 |nil=>cases h
 |cons q r ih=>
  obtain⟨u,G⟩:=q
  unfold Qm.qY at h
  split at h
  ·rename_i e
   cases h
   subst e
   exact List.mem_cons_self ..
  ·exact List.mem_cons_of_mem _ (ih h)
section
variable{X:Cx}{e:Expr}{es:List Expr}{x:Str}{p pos:Pos}{fx:Qm.XA}{fe:Qm.XE}
theorem BX(tab:List (Nat×Qm.FN))(lt:List (Qm.bD×Qm.FN))(hT:∀q∈tab,wJ X q.1 q.2)(hL:∀q∈lt,Er X q.1 q.2)(hv:QE X (.Name x p) fe)(ha:QA X (e::es) fx)
  (he:starEach (e::es) X.env=(false,eval e X.env)::starEach es X.env:=by rfl)(dq:(backTo pos (starEach es X.env)).any (·.1)=false:=by rfl):
  QE X (.Call (.Name x p) (e::es) [] pos) (Qm.jj tab lt fe fx):=by
 intro pins s σ H Q I ⟨ρ,env,c,d,c',rs,re,h,k⟩
 obtain⟨q,e1,h⟩:=aE h
 split at h
 ·rename_i a hq
  obtain⟨F,e2,h⟩:=aE h
  obtain⟨r,e3,h⟩:=aE h
  refine BS tab hT hv ha he dq pins s σ H Q I ⟨ρ,env,c,d,c',rs,re,?_,k⟩
  unfold Qm.AJ
  rw[e1]
  simp only[Option.bind_some,hq,e2,e3]
  exact h
 ·rename_i t bs hq
  obtain⟨F,e2,h⟩:=aE h
  obtain⟨r,e3,h⟩:=aE h
  obtain⟨lv,G,hr⟩:=(hL _ (zu e2)).ex
  refine wpAny_Call_Name_kw (bj (hv pins s σ H (fun v H1=>∃a BY,v= .ref a∧mT H1 a t BY∧∃aJ,Nx X.K ρ c H aJ q.2 H1∧RA X.K aJ q.2.length H1 bs BY) I ⟨ρ,env,c,q.1,q.2,rs,re,e1,fun aJ v H1 n1 r1=>?_⟩) fun u s1 ⟨v,H1,I1,rv,a,BY,Lm,La,aJ,n1,rb⟩=>?_)
  ·rw[hq]at r1
   cases r1 with
   |qF l b=>exact⟨_,_,rfl,l,aJ,n1,b⟩
  ·subst Lm
   cases (show u=Value.ref a from rv)
   have t1:AQ X.K fx σ H1 (fun vs H2=>mT H2 a t BY∧dv X.K F (vs++BY) H2 Q E0):=
    ⟨aJ,env,q.2,r.1,r.2,n1.rs,re.up n1.up,e3,fun iw vs H2 n2 r2=>⟨La.up n2.up.fz,iw,r.2,r.1++bs,d,c',n2.rs,r2.append (rb.up n2.up),h,fun aM v H' n r=>k aM v H' ((n1.trans n2).trans n) r⟩⟩
   refine callWith_F (La.fnAt I1.aR) (bj (ha pos pins s1 σ H1 _ I1 t1) fun us s2 ⟨vs,H2,I2,r,L2,q⟩=>⟨L2.fnAt I2.aR,?_⟩) he dq
   refine wpAny_call (codeAny_mono (G.run X.A X.stack s2 H2 a us vs BY Q E0 hr I2.I9 L2 r q) fun r s' hq=>?_)
   cases r with
   |error e=>exact False.elim hq
   |ok fl=>
    cases fl with
    |ret u=>exact I2.after hq
    |next=>exact False.elim hq
    |brk=>exact False.elim hq
    |cont=>exact False.elim hq
 ·cases h
end
end L2
namespace L2
open PySem PySem.W PySem.Spec PyProof.Rows
theorem oX{cells:List (Str×Addr)}{x:Str}{c:Addr}:∀{names:List (Str×NameKind)}{cs:List (Str×Addr)},(dz cells names cs).lookup x=some c→(x,NameKind.free)∈names∨∃c',cs.lookup x=some c'
 |[],cs,h=>.inr ⟨c,h⟩
 |(n,k)::r,cs,h=>by
  rcases oX (names:=r) h with g|⟨c',g⟩
  ·exact .inl (List.mem_cons_of_mem _ g)
  ·by_cases hk:(k==NameKind.free)=true
   ·rw[if_pos hk]at g
    have ix:k= .free:=by simpa using hk
    cases e:cells.lookup n with
    |none=>rw[e]at g;exact .inr ⟨c',g⟩
    |some a=>
     rw[e]at g
     by_cases hx:x=n
     ·rw[hx,ix];exact .inl List.mem_cons_self
     ·have hb:(x==n)=false:=beq_eq_false_iff_ne.mpr hx
      simp only[List.lookup_cons,hb]at g
      exact .inr ⟨c',g⟩
   ·rw[if_neg hk]at g
    exact .inr ⟨c',g⟩
theorem oj{pos:Pos}{a b:Int}{c cv:Value}(l:List Value)(h:TriplesOk l)(hn:codeAmong pos (l++[rawInt a,rawInt b,c])=some cv):codeAmong pos l=some cv∨cv=c:=by
 fun_induction TriplesOk l with
 |case1=>
  simp only[List.nil_append,codeAmong,rawInt]at hn
  split at hn
  ·cases hn;exact .inr rfl
  ·cases hn
 |case2 a' t b' u x rest ih=>
  simp only[List.cons_append,codeAmong]at hn ⊢
  split at hn
  ·rename_i hc;rw[if_pos hc];exact .inl hn
  ·rename_i hc;rw[if_neg hc];exact ih h hn
 |case3 l h1 h2=>exact h.elim
def qZ(h:Heap)(cs:List Addr)(H:Hp):Hp:=fun b=>if b∈cs then(match H b with
 |none=>(h.get? b).map (xh b)
 |some z=>some z)else H b
theorem dc{h:Heap}{cs:List Addr}{H:Hp}{b:Addr}{z:HO}(e:H b=some z):qZ h cs H b=some z:=by
 unfold qZ
 split
 ·rw[e]
 ·exact e
theorem iV{h:Heap}{cs:List Addr}{H:Hp}{b:Addr}(e:b∉cs):qZ h cs H b=H b:=if_neg e
theorem om{h:Heap}{cs:List Addr}{H:Hp}{b:Addr}{o:Obj}(e:b∈cs)(n:H b=none)(g:h.get? b=some o):qZ h cs H b=some (xh b o):=by
 unfold qZ
 rw[if_pos e,n,g]
 rfl
theorem zv{P:Program}{w:World}{H:Hp}{h:Heap}{a:Addr}{o:Obj}(e:h.get? a=some o):bH P w H h a (xh a o):=
 ⟨e,e,⟨o,e⟩,fun _ _ q k=>k o q⟩
section
variable{X:Cx}{pins:List (Addr×Obj)}{σ:St}{H:Hp}{s:Shared}{cs:List Addr}
theorem Inv.freeze(I:Inv X pins σ H s)(ql:∀b∈cs,∃x,X.env.cells.lookup x=some b∧X.fn x=false)(dQ:∀x c,X.env.cells.lookup x=some c→X.aW.heap.objs.size≤c):Inv X pins σ (qZ s.heap cs H) s:=by
 have here:∀b∈cs,∃o v,s.heap.get? b=some o∧o.data= .cell v:=fun b hb=>by
  obtain⟨x,e,_⟩:=ql b hb
  obtain⟨v,o,h1,h2⟩:=I.cell x b e
  exact⟨o,v,h1,h2⟩
 refine⟨I.ok,I.os,I.bare,⟨I.base.keep,I.base.slot,fun b o e n hx=>?_,I.base.there,fun b xs e=>dc (I.base.mC b xs e),fun b o u e=>dc (I.base.jC b o u e),fun b ps e=>?_⟩,I.loc,I.cell,?_,fun x c e=>?_,fun p hp=>?_,fun b u e=>?_,I.len⟩
 ·have hb:b∉cs:=fun z=>by
   obtain⟨x,e',_⟩:=ql b z
   exact absurd (Nat.lt_of_lt_of_le (Heap.lt_size e) (dQ x b e')) (Nat.lt_irrefl _)
  rw[iV hb];exact I.base.free b o e n hx
 ·obtain⟨more,q⟩:=I.base.ll b ps e
  exact⟨more,dc q⟩
 ·have hb:X.env.locals∉cs:=fun z=>by
   obtain⟨x,e',_⟩:=ql _ z
   exact I.vG x _ e' rfl
  rw[iV hb];exact I.free
 ·by_cases hb:c∈cs
  ·obtain⟨y,e',hf⟩:=ql c hb
   have:y=x:=I.ok.inj y x c e' e
   subst this
   obtain⟨o,v,g,_⟩:=here c hb
   rcases I.fj y c e with n|⟨_,o',u,n⟩
   ·exact .inr ⟨hf,o,_,om hb n g⟩
   ·exact .inr ⟨hf,o',u,dc n⟩
  ·rcases I.fj x c e with n|⟨f,o',u,n⟩
   ·exact .inl (by rw[iV hb];exact n)
   ·exact .inr ⟨f,o',u,dc n⟩
 ·obtain⟨e,n,ne,nf,d⟩:=I.pin p hp
  have hb:p.1∉cs:=fun hz=>by
   obtain⟨o,v,g,dd⟩:=here _ hz
   rw[e]at g;cases g
   exact d v dd
  exact⟨e,by rw[iV hb];exact n,ne,nf,d⟩
 ·cases q:H b with
  |some z=>
   rw[dc q]at e;cases e
   exact(I.aR b _ q).mB (fun _ _ _ g=>g) (fun _ g=>dc g) fun _ _ g=>dc g
  |none=>
   by_cases hb:b∈cs
   ·obtain⟨o,v,g,_⟩:=here b hb
    rw[om hb q g]at e;cases e
    exact zv g
   ·rw[iV hb,q]at e;cases e
theorem Inv.tabled{P c':Addr}{ps more:Array Value}{oc:Obj}{h':Heap}{tk:Nat}(I:Inv X pins σ H s)(hP:H P=some (.jH ps))(hx:Heap.ExtBut P s.heap h')(zw:s.heap.objs.size≤c')(vI:h'.get? c'=some oc)(Hd:h'.get? P=some (tabObj (ps++more))):
  Inv X pins σ (upd (upd H P (.jH (ps++more))) c' (xh c' oc)) { s with heap:=h',toks:=tk }:=by
 have Ur:∀b o,s.heap.get? b=some o→b≠c':=fun b o e=>Nat.ne_of_lt (Nat.lt_of_lt_of_le (Heap.lt_size e) zw)
 have Lw:∀b o,H b=some o→b≠c':=fun b o e=>Nat.ne_of_lt (Nat.lt_of_lt_of_le (I.aR.lt e) zw)
 have O4:∀b o,H b=some o→(∀ps,o≠.jH ps)→b≠P:=fun b o e d z=>by subst z;rw[hP]at e;cases e;exact d _ rfl
 have He:∀b,H b=none→b≠P:=fun b e z=>by subst z;rw[hP]at e;cases e
 have up:∀b o,H b=some o→(∀ps,o≠.jH ps)→upd (upd H P (.jH (ps++more))) c' (xh c' oc) b=some o:=fun b o e d=>by rw[aF (Lw b o e),aF (O4 b o e d)];exact e
 refine I.step (g':=s.gens) (d':=s.drawn) (ch:=[]) (fun _ z=>nomatch z) (fun b o _ _ _ e n=>hx b o (He b n) e) (fun b o _ _ _ e n=>⟨o.slots,hx b o (He b n) e⟩) (fun b o _ e n=>?_) (fun b o _ e=>?_) (fun b xs e=>up b _ e fun _ z=>by cases z) (fun b o u e=>up b _ e fun _ z=>by cases z)
  (fun b Xs e=>?_) (fun m hm=>hm.extBut hx (He _ I.free)) (fun b u e=>?_) I.bare
 ·rw[aF (Ur b o e),aF (He b n)];exact n
 ·by_cases hb:b=P
  ·subst hb;exact⟨_,Hd⟩
  ·exact⟨o,hx b o hb e⟩
 ·by_cases hb:b=P
  ·subst hb
   rw[hP]at e;cases e
   exact⟨more,by rw[aF (Lw _ _ hP),bN]⟩
  ·exact⟨#[],by rw[aF (Lw b _ e),aF hb,e];simp⟩
 ·by_cases hc:b=c'
  ·subst hc;rw[bN]at e;cases e;exact zv vI
  ·rw[aF hc]at e
   by_cases hb:b=P
   ·subst hb;rw[bN]at e;cases e;exact Hd
   ·rw[aF hb]at e
    refine(I.aR b u e).mB (fun c v Bf g=>hx c v ?_ g) (fun c g=>up c _ g fun _ z=>by cases z) fun c xs g=>up c _ g fun _ z=>by cases z
    rcases Bf with rfl|Bf
    ·exact hb
    ·exact O4 c _ Bf fun _ z=>by cases z
end
section
variable{K:Frag}{ρ aM:Nat→Addr}{N N':Nat}{H H':Hp}
theorem CO.Us{a:Addr}{z:Qm.Cell}(h:CO K ρ N H a z)(m:z.mt=false)(u:Up K ρ N H aM N' H'):CO K aM N' H' a z:=by
 cases z with
 |lst ds=>cases m
 |nX ds=>cases m
 |mV ds=>cases m
 |BC ds=>cases m
 |tab cd q=>cases m
 |ro ds=>
  obtain⟨vs,h1,h2⟩:=h
  refine⟨vs,?_,h2.up u⟩
  rcases h1 with⟨o,h1⟩|h1
  ·exact .inl ⟨o,u.fz _ _ _ h1⟩
  ·exact .inr h1
 |za ds=>obtain⟨o,vs,h1,h2⟩:=h;exact⟨o,vs,u.fz _ _ _ h1,h2.up u⟩
 |qG ds=>obtain⟨o,vs,h1,h2⟩:=h;exact⟨o,vs,u.fz _ _ _ h1,h2.up u⟩
 |exc C S ds=>obtain⟨vs,h1,h2⟩:=h;exact⟨vs,h1.up u.fz,h2.up u⟩
end
end L2
namespace L2
open PySem PySem.W PySem.Spec PyProof.Rows
section
variable{X:Cx}{pins:List (Addr×Obj)}{σ:St}{H:Hp}{s:Shared}
theorem tK{K:Frag}{ρ:Nat→Addr}{N:Nat}{env:Qm.Env}{Ns:List Str}(re:RE K ρ N H env σ):∀{is:List Nat}{xs:List Str}{bs:List Qm.D},is.length=xs.length→(∀(j i:Nat) (x:Str),is[j]? =some i→xs[j]? =some x→Ns[i]? =some x)→Qm.qX is env=some bs→
  ∃vs,RA K ρ N H bs vs∧vs.length=xs.length∧∀(j:Nat) (x:Str) (v:V),xs[j]? =some x→vs[j]? =some v→∃i:Nat,Ns[i]? =some x∧σ[i]? =some (some v)
 |[],[],bs,_,_,h=>by
  cases h
  exact⟨[],.nil,rfl,fun j x v e _=>by simp at e⟩
 |[],_::_,_,hl,_,_=>by simp at hl
 |_::_,[],_,hl,_,_=>by simp at hl
 |i::is,x::xs,bs,hl,hx,h=>by
  unfold Qm.qX at h
  obtain⟨d,e1,h⟩:=aE h
  obtain⟨ds,e2,h⟩:=aE h
  cases h
  have BZ:env[i]? =some (some d):=by
   cases z:env[i]? with
   |none=>rw[z]at e1;cases e1
   |some y=>rw[z]at e1;cases y with
    |none=>cases e1
    |some w=>cases e1;rfl
  obtain⟨v,h1,h2⟩:=re.at_ i d BZ
  obtain⟨vs,g1,g2,g3⟩:=tK re (is:=is) (xs:=xs) (bs:=ds) (by simpa using hl) (fun j i' x' q1 q2=>hx (j+1) i' x' (by simpa using q1) (by simpa using q2)) e2
  refine⟨v::vs,.cons h2 g1,by simp[g2],fun j y w q1 q2=>?_⟩
  cases j with
  |zero=>simp at q1 q2;subst q1;subst q2;exact⟨i,hx 0 i x rfl rfl,h1⟩
  |succ j=>exact g3 j y w (by simpa using q1) (by simpa using q2)
theorem Hf{K:Frag}{ρ:Nat→Addr}{c:Qm.Cells}{H1 H3:Hp}{n:Nat}{cd:Nat}{q:Str}{ps:Array Value}{f:Addr}{o:Obj}(rs:RS K ρ c H)(Es:c[n]? =some (.tab cd q))(hP:H (ρ n)=some (.jH ps))(h1:∀b z,H b=some z→H1 b=some z)(h3:∀b z,H1 b=some z→b≠ρ n→H3 b=some z)
  (T3:mU K H3 cd q (ρ n))(hf:H3 f=none):Nx K ρ c H ρ c (upd H3 f (xh f o)):=by
 have up:∀b z,H3 b=some z→upd H3 f (xh f o) b=some z:=fun b z e=>eJ e hf
 have go:∀b z,H b=some z→b≠ρ n→upd H3 f (xh f o) b=some z:=fun b z e ne=>up b z (h3 b z (h1 b z e) ne)
 have u:Up K ρ c.length H ρ c.length (upd H3 f (xh f o)):=⟨fun _ _=>rfl,Nat.le_refl _,fun p xs e=>go p _ e (fun z=>by rw[z,hP]at e;cases e),fun p ob x e=>go p _ e (fun z=>by rw[z,hP]at e;cases e)⟩
 refine⟨u,rs.inj,fun j z hz=>?_⟩
 cases hm:z.mt with
 |false=>exact(rs.ok j z hz).Us hm u
 |true=>
  by_cases hj:j=n
  ·subst hj
   rw[Es]at hz;cases hz
   exact T3.up (fun p ob x e=>up p _ e) fun ob e=>up _ _ e
  ·have hp:ρ j≠ρ n:=fun e=>hj (rs.inj j n _ _ hz Es hm rfl e)
   exact(rs.ok j z hz).up u fun ob e=>go _ _ e hp
theorem Hg{t:Qm.bD}{n:Nat}{is:List Nat}(Et:X.env.code= .ref t.code)(Lx:X.env.qual++"<lambda>" =t.qual)(y0:defaultsOf t.params X.env=([],[]))
  (O5:∀y∈t.scope.names,y.2= .free→y.1∈t.free)(wU:∀x∈t.free,(x,NameKind.free)∈t.scope.names∧X.env.scope.names.lookup x=some .cell∧X.fn x=false)
  (hlen:is.length=t.free.length)(Ut:∀(j i:Nat) (x:Str),is[j]? =some i→t.free[j]? =some x→X.N[i]? =some x)(dQ:∀x c,X.env.cells.lookup x=some c→X.aW.heap.objs.size≤c):
  QE X (.Lambda t.params t.body t.scope t.pos) (Qm.wQ t n is):=by
 intro pins s σ H Q I ⟨ρ,env,c,d,c2,rs,re,h,k⟩
 unfold Qm.wQ at h
 split at h
 ·rename_i cd q Es
  split at h
  ·rename_i hh
   obtain⟨e1,e2⟩:=hh
   subst e1 e2
   obtain⟨bs,e3,h⟩:=aE h
   cases h
   have T:mU X.K H t.code t.qual (ρ n):=rs.ok n _ Es
   obtain⟨ps,hP,ht,eF⟩:=T.ex
   have CH:CodeHd s.heap t.code (ρ n):=codeHd_of_K I.i_ T.hd
   have gP:s.heap.get? (ρ n)=some (tabObj ps):=I.aR _ _ hP
   obtain⟨bm,ob,b1,b2,b3,b4,b5,b6⟩:=I.mod.bmain
   have Ly:=I.mod.glob
   have hg:s.heap.Ns mainGlobals X.mg:=Ly.keeps I.bk
   have Uu:mainGlobals≠ρ n:=fun z=>by
    obtain⟨o,es,ep,e,_⟩:=Ly
    have:=(I.bs _ _ e).2
    rw[z,hP]at this;cases this
   have Uv:bm≠ρ n:=fun z=>by
    have:=(I.bs _ _ b3).2
    rw[z,hP]at this;cases this
   have Uw:bm≠mainGlobals:=fun z=>by
    obtain⟨o,es,ep,e,hd,_⟩:=Ly
    rw[z,e]at b3;cases b3
    rw[hd]at b6;cases b6
   have hB:s.heap.BuiltinsAt X.mg (ρ n):=⟨bm,ob,b1,b2,Uw,Uv,I.bk _ _ b3,b4,b5,b6⟩
   have Lz:=gB (scope:=t.scope) (env:=X.env) fun y hy e=>I.ok.has y.1 (.inl (wU _ (O5 y hy e)).2.1)
   generalize LA:dz X.env.cells t.scope.names []=bX at Lz
   have jF:∀x c,bX.lookup x=some c→X.env.cells.lookup x=some c:=fun x c e=>by
    rw[←LA]at e
    exact jQ e fun c' eE=>by simp at eE
   have O6:∀x c,bX.lookup x=some c→x∈t.free:=fun x c e=>by
    rw[←LA]at e
    rcases oX e with g|⟨_,g⟩
    ·exact O5 (x,.free) g rfl
    ·simp at g
   have O7:∀x∈t.free,∃c,bX.lookup x=some c:=fun x hx=>by
    rw[←LA]
    exact hZ (wU x hx).1 (I.ok.has x (.inl (wU x hx).2.1))
   have ql:∀b∈t.free.filterMap (fun x=>bX.lookup x),∃x,X.env.cells.lookup x=some b∧X.fn x=false:=fun b hb=>by
    obtain⟨x,hx,e⟩:=List.mem_filterMap.mp hb
    exact⟨x,jF x b e,(wU x hx).2.2⟩
   have I1:=I.freeze ql dQ
   generalize O8:qZ s.heap (t.free.filterMap fun x=>bX.lookup x) H=H1 at I1
   have h1:∀b z,H b=some z→H1 b=some z:=fun b z e=>by rw[←O8];exact dc e
   obtain⟨vs,ra,Lu,Ux⟩:=tK (Ns:=X.N) re hlen Ut e3
   have DP:∀(i:Nat) (x:Str) (v:V),t.free[i]? =some x→vs[i]? =some v→∃c o u u0,bX.lookup x=some c∧H1 c=some (.dP o u0)∧o.data= .cell (some u)∧RelV v u:=fun i x v q1 q2=>by
    have hx:=List.mem_of_getElem? q1
    obtain⟨j,g1,g2⟩:=Ux i x v q1 q2
    obtain⟨m,hn,hl⟩:=I.loc
    obtain⟨u,rv,lk⟩:=hl j x v g1 g2 (.inr (.inl (wU x hx).2.1))
    obtain⟨c1,ec⟩:=O7 x hx
    rcases lk with⟨kk,_⟩|⟨_,c3,e4,o,ho,hd⟩
    ·have k2:X.env.scope.names.lookup x=some .local:=kk
     rw[(wU x hx).2.1]at k2;cases k2
    ·rw[jF x c1 ec]at e4;cases e4
     have hm:c1∈t.free.filterMap (fun x=>bX.lookup x):=List.mem_filterMap.mpr ⟨x,hx,ec⟩
     rcases I.fj x c1 (jF x c1 ec)with n0|⟨_,o',u',n0⟩
     ·exact⟨c1,o,u,_,ec,by rw[←O8];exact om hm n0 ho,hd,rv⟩
     ·have e5:s.heap.get? c1=some o':=(I.aR c1 _ n0).1
      rw[ho]at e5;cases e5
      exact⟨c1,o,u,u',ec,h1 _ _ n0,hd,rv⟩
   have Hh:=h1 _ _ hP
   -- Dh end
   have fin:∀(H3:Hp) (s3:Shared) (jR:Value) (c':Addr) (oc:Obj) (fs:Array Value) (tk:Tok) (Hi:Nat),Inv X pins σ H3 s3→(∀b z,H1 b=some z→b≠ρ n→H3 b=some z)→mU X.K H3 t.code t.qual (ρ n)→H3 c'=some (xh c' oc)→oc.data= .fields fs→fs[1]? =some (.str t.qual tk)→
     EP X pins σ Q (.ref s3.heap.objs.size) { s3 with heap:=s3.heap.push (kla_obj "<lambda>" t.qual t.params t.body t.scope bX ((X.mg "__name__").getD .none) c' jR),toks:=Hi }:=fun H3 s3 jR c' oc fs tk Hi I3 h3 T3 g1 g2 g3=>by
    have hf:H3 s3.heap.objs.size=none:=I3.aR.fresh (Nat.le_refl _)
    have nx:=Hf (o:=kla_obj "<lambda>" t.qual t.params t.body t.scope bX ((X.mg "__name__").getD .none) c' jR) rs Es hP h1 h3 T3 hf
    have go:∀b z,H1 b=some z→b≠ρ n→upd H3 s3.heap.objs.size (xh s3.heap.objs.size (kla_obj "<lambda>" t.qual t.params t.body t.scope bX ((X.mg "__name__").getD .none) c' jR)) b=some z:=fun b z e ne=>eJ (h3 b z e ne) hf
    refine⟨.ref s3.heap.objs.size,_,I3.laid (fun b u e=>Heap.get?_push_of_some _ e) (Nat.le_refl _) (zv (Heap.get?_push_size _ rfl)),rfl,k ρ _ _ nx (.qF ⟨bX,_,jR,c',oc,fs,tk,bN,eJ g1 hf,g2,g3,fun x y c e1 e2=>I.ok.inj x y c (jF x c e1) (jF y c e2),O6,Lu,fun i x v q1 q2=>?_⟩ (ra.up nx.up))⟩
    obtain⟨c1,o,u,u0,a1,a2,a3,a4⟩:=DP i x v q1 q2
    exact⟨c1,o,u,u0,a1,go _ _ a2 (fun z=>by rw[z,Hh]at a2;cases a2),a3,a4⟩
   refine kla_eval y0 ?_
   rw[Lx]
   cases LB:codeAmong t.pos ps.toList with
   |none=>
    refine kla_makeFunction Lz I.ok.glob hg Et CH gP ht LB Uu hB fun c' jR h' tk hx zw da O9 Hd=>?_
    obtain⟨c4,oc,fs,tq,ec,vI,hd,hv⟩:=O9
    cases ec
    have I3:=I1.tabled (tk:=tk) Hh hx zw vI Hd
    refine fin _ { s with heap:=h',toks:=tk } jR c' oc fs tq tk I3 (fun b z e ne=>?_) ⟨T.hd,ps++#[rawInt t.pos.line,rawInt t.pos.col,.ref c'],?_,?_,?_⟩ bN hd hv
    ·rw[aF (Nat.ne_of_lt (Nat.lt_of_lt_of_le (I1.aR.lt e) zw)),aF ne];exact e
    ·rw[aF (Nat.ne_of_lt (Nat.lt_of_lt_of_le (I1.aR.lt Hh) zw)),bN]
    ·rw[Array.toList_append];exact TriplesOk_snoc _ _ _ _ ht
    ·intro pos cv e
     rw[Array.toList_append]at e
     rcases oj _ ht e with e|rfl
     ·obtain⟨c5,o5,f5,t5,a1,a2,a3⟩:=eF pos cv e
      have Hj:=h1 _ _ a2
      refine⟨c5,o5,f5,t5,a1,?_,a3⟩
      rw[aF (Nat.ne_of_lt (Nat.lt_of_lt_of_le (I1.aR.lt Hj) zw)),aF fun z=>by rw[z,Hh]at Hj;cases Hj]
      exact Hj
     ·exact⟨c',oc,fs,tq,rfl,bN,hd,hv⟩
   |some cv=>
    obtain⟨c',oc,fs,tq,ec,a2,a3,a4⟩:=eF t.pos cv LB
    subst ec
    refine kla_makeFunctionHit Lz I.ok.glob hg Et CH gP ht LB hB fun jR h' tk hk hsz=>?_
    have I3:Inv X pins σ H1 { s with heap:=h',toks:=tk }:=I1.kept hk
    exact fin H1 { s with heap:=h',toks:=tk } jR c' oc fs tq tk I3 (fun b z e _=>e) (T.up (fun p o x e=>h1 _ _ e) fun o e=>h1 _ _ e) (h1 _ _ a2) a3 a4
  ·cases h
 ·cases h
end
end L2
namespace L2
open PySem PySem.W PySem.Spec PyProof.Rows
structure tL(K:Frag)(x qual:Str)(st:Stmt)(f:Addr)(fd:FuncData)(c:Addr):Prop where
 ex:∃(oc:Value) (od:Option Addr) (kV doc pm:Value) (an:Option Addr) (ct:Value) (k_:Array (Option Value)),
  fd=fnOf x qual (aU st) (aP st) (ar st) .none kV doc pm an (.ref c) ct∧K.lookup f=some ⟨oc,od,.func fd,k_⟩∧codeIn K (.ref c) qual=true
 kp:keepIn K (.ref f)=true
theorem tL.toFun{K:Frag}{x qual:Str}{st:Stmt}{f:Addr}{fd:FuncData}{c:Addr}(F:tL K x qual st f fd c):d7 K x qual st f fd:=by
 obtain⟨oc,od,kV,doc,pm,an,ct,k_,h1,h2,h3⟩:=F.ex
 exact⟨⟨oc,od,kV,doc,pm,an,.ref c,ct,k_,h1,h2,h3⟩,F.kp⟩
theorem Eu{K:Frag}{x qual:Str}{st:Stmt}{f c:Addr}{oc:Value}{od an:Option Addr}{k_:Array (Option Value)}{kV doc pm ct:Value}(l:K.lookup f=some ⟨oc,od,.func (fnOf x qual (aU st) (aP st) (ar st) .none kV doc pm an (.ref c) ct),k_⟩)
  (h:codeIn K (.ref c) qual=true)(k:keepIn K (.ref f)=true):tL K x qual st f (fnOf x qual (aU st) (aP st) (ar st) .none kV doc pm an (.ref c) ct) c:=⟨⟨oc,od,kV,doc,pm,an,ct,k_,rfl,l,h⟩,k⟩
abbrev Cx.less(X:Cx)(g:Str→Bool):Cx:={ X with fn:=g }
theorem Inv.Hk{X:Cx}{pins:List (Addr×Obj)}{σ:St}{H:Hp}{s:Shared}(I:Inv X pins σ H s)(hX:∀x,X.fn x=true)(g:Str→Bool):Inv (X.less g) pins σ H s:=
 ⟨⟨I.ok.mod,I.ok.kind,I.ok.glob,I.ok.blt,I.ok.above,I.ok.inj,I.ok.has,fun x c _ e=>I.ok.Be x c (hX x) e,I.ok.hd,I.ok.frames,I.ok.C0,I.ok.C1,I.ok.bs,I.ok.pY,I.ok.sW,I.ok.sX,I.ok.iL,I.ok.vF⟩,
  I.os,I.bare,I.base,I.loc,I.cell,I.free,fun x c e=>(I.fj x c e).imp id fun z=>(by rw[hX x]at z;cases z.1),I.pin,I.aR,I.len⟩
section
variable{P:Program}{w:World}{K:Frag}{mg:Str→Option Value}{base:Heap}
theorem tL.fR{x qual:Str}{st:Stmt}{f c:Addr}{fd:FuncData}{N ps:List Str}{k n m:Nat}{B:Qm.XS}{FF:Qm.FN}(g:Str→Bool)(F:tL K x qual st f fd c)(S:aZ N ps (ar st))(hn:ps.length=n)(hm:N.length=m)(hN:n≤m)(hF:FF=Qm.eP n m B)
  (jb:∀(A:Around) (outer:List Env) (s:Shared) (H:Hp) (E:XK),cY k (A.deeper (envOfC qual (ar st) s.heap.objs.size f (.ref c)))→
   sI ((lr cQ P w K mg base N qual (ar st) f (.ref c) A outer s H E).less g).yE (aP st) B):bL P w K mg base cQ (k+1) f fd ps (dv K FF):=by
 subst hm hF
 obtain⟨oc,od,kV,doc,pm,an,ct,k_,rfl,lk,nS⟩:=F.ex
 refine⟨fun vs H Q E h=>by rw[(kK hN h).1,hn],fun A outer s H args us vs Q E hr e0 hb r pq=>?_⟩
 obtain⟨hl,Uy⟩:=kK hN pq
 have KX:K.In s.heap:=e0.mod.CY.keeps fun b o e=>(e0.bs b o e).1
 have lim:s.heap.NoLimit:=e0.mod.nolimit.keeps fun b o e=>(e0.bs b o e).1
 have yQ:∀y∈ps.zip us,(ar st).names.lookup y.1=some .local∨((ar st).names.lookup y.1=some .cell∧((cellsFrom (s.heap.objs.size+1) (ar st).names []).lookup y.1).isSome=true):=by
  rintro⟨n,v⟩ hy
  rcases S.par n (List.of_mem_zip hy).1 with q|q
  ·exact .inl q
  ·exact .inr ⟨q,cellsFrom_some _ _ _ (.inl q)⟩
 refine codeAny_call_function hr.depth (KX _ _ lk) rfl S.co S.gen rfl (codeRec_of KX nS) (hb _ _ _ _ ?_)
 refine wpAny_newFunctionEnv_cells S.kind yQ fun env he s1 x=>?_
 subst he
 refine⟨lim.keeps x.toInCall.keep,codeAny_func ?_⟩
 have I:=(qk (CX:=cQ) (E:=E) (N:=N) S hr.hd e0 (by rw[hl,hn]) r x).Hk (fun _=>rfl) g
 refine wpAny_mono ((jb A outer s H E (hr.deeper _)).yE [] s1 (start N vs) H _ I Uy) (fun fl s' hs=>?_) fun e s' hs=>hs
 have fin:∀{σ':St}{H':Hp}{v:V}{u:Value},Inv ((lr cQ P w K mg base N qual (ar st) f (.ref c) A outer s H E).less g) [] σ' H' s'→RelV v u→Q v H'→CE outer P w H s Q u s':=
  fun {σ' H' v u} J rv q=>⟨v,H',J.os,J.bare,J.base,J.aR,rv,q⟩
 cases fl with
 |ret u=>
  obtain⟨v,σ',H',J,rv,q⟩:=hs
  exact fin J rv q
 |next=>
  obtain⟨σ',H',J,q⟩:=hs
  exact fin (v:=V.bb) (u:=Value.none) J rfl q
 |brk=>
  obtain⟨_,_,_,q⟩:=hs
  exact False.elim q
 |cont=>
  obtain⟨_,_,_,q⟩:=hs
  exact False.elim q
end
theorem iy{x:Str}{c lo:Nat}:∀(names:List (Str×NameKind)) (n:Nat) (cs:List (Str×Addr)),lo≤n→(∀y c',cs.lookup y=some c'→lo≤c')→(cellsFrom n names cs).lookup x=some c→lo≤c
 |[],_,_,_,h,e=>h x c e
 |(y,k)::r,n,cs,hn,h,e=>by
  unfold cellsFrom at e
  split at e
  ·refine iy r (n+1) _ (Nat.le_succ_of_le hn) (fun z c' hz=>?_) e
   rw[List.lookup_cons]at hz
   split at hz
   ·cases hz;exact hn
   ·exact h z c' hz
  ·exact iy r n cs hn h e
theorem Hl{CX:qe}{P:Program}{w:World}{K:Frag}{mg:Str→Option Value}{base:Heap}{N:List Str}{qual:Str}{scope:Scope}{f:Addr}{cd:Value}{A:Around}{outer:List Env}{s:Shared}{H:Hp}{E:XK}:
  ∀x c,(lr CX P w K mg base N qual scope f cd A outer s H E).env.cells.lookup x=some c→s.heap.objs.size≤c:=fun x c e=>
 iy scope.names (s.heap.objs.size+1) [] (Nat.le_succ _) (fun y c' h=>by simp at h) e
def uU(ts:List Addr)(H:Hp):Prop:=(∀P∈ts,H P=some (.jH #[]))∧∀b,b∉ts→H b=none∨∃o xs,H b=some (.dP o (.lst xs))
theorem zx{P:Program}{w:World}{K:Frag}{mg mb:Str→Option Value}{k:Nat}{fa a:Addr}{fd:FuncData}{x:Str}{sp:Sp}{bg:Shared}{vs:List Value}{ns:List Int}{ts:List Addr}
  (KX:K.In bg.heap)(qB:bg.heap.Ns mainGlobals mg)(hb:bg.heap.Ns builtinsNs mb)(Uz:∀x:Str,x≠"__name__"→mb x=bootBuiltins x)(O_:bg.heap.NoLimit)(UA:∃bm ob,mg "__builtins__" =some (.ref bm)∧bm≠builtinsNs∧bg.heap.get? bm=some ob∧ob.cls= .type "module"∧ob.dict=some builtinsNs∧ob.data= .plain)(hg:bg.gens= #[])
  (hT:∀P∈ts,bg.heap.get? P=some (tabObj #[]))(Hm:∀P∈ts,K.lookup P=none∧∃c,codeHdIn K c P=true)
  (ha:bg.heap.get? a=some { cls:=.type "list",data:=.seq vs.toArray })(hi:IntsAre vs ns)(hl:ns.length≤sizeLine)(hr:cY k callerA)
  (F:∀base:Heap,K.In base→base.Ns mainGlobals mg→bL P w K mg base cQ k fa fd [x] sp)(LC:∀(s:Shared) (u:Value),BindsTo s fd ⟨[u],[]⟩ [(x,u)])
  (pq:∀H:Hp,uU ts H→cU K H a (ns.map V.int)→sp [.ref a] H (fun v _=>v= .bl true) fun _ _ _=>False):
  codeAny (model P w) callerA (.call (.ref fa) ⟨[.ref a],[]⟩) (fun r s'=>r= .ok (.ret (.bool true))∧OldK bg.heap s'.heap∧s'.os=bg.os∧AllBare s'.gens) bg:=by
 have rv:=qt hi
 have Pa:=hi.length
 have Pb:a∉ts:=fun z=>by
  have e:=hT a z
  rw[ha]at e;cases e
 have core:∀H:Hp,uU ts H→cU K H a (ns.map V.int)→dZ P w H bg.heap→(∀b,b∉ts→H b≠none→b=a)→(H a≠none→K.lookup a=none)→
   codeAny (model P w) callerA (.call (.ref fa) ⟨[.ref a],[]⟩) (fun r s'=>r= .ok (.ret (.bool true))∧OldK bg.heap s'.heap∧s'.os=bg.os∧AllBare s'.gens) bg:=by
  intro H hO hS aR hA hK
  have q_:∀{b:Addr}{o:Obj},bg.heap.get? b=some o→H b=none→(mD bg.heap H).get? b=some o:=fun e n=>Bc e n
  have apart:∀{b:Addr}{o:Obj},bg.heap.get? b=some o→(∀vs n,o.data≠.seq vs n)→(∀vs,o.data≠.fields vs)→H b=none:=fun {b o} e d1 d2=>by
   cases q:H b with
   |none=>rfl
   |some u=>
    by_cases hb:b∈ts
    ·rw[hT b hb]at e;cases e
     exact absurd rfl (d2 #[])
    ·have e':b=a:=hA b hb (by rw[q];simp)
     subst e'
     rw[ha]at e;cases e
     exact absurd rfl (d1 _ _)
  have ur:∀{b:Addr}{o:Obj}{es:Array DictEntry}{ep:Nat},bg.heap.get? b=some o→o.data= .dict es ep→H b=none:=fun {b o es ep} e d=>apart e (fun _ _ z=>by rw[d]at z;cases z) fun _ z=>by rw[d]at z;cases z
  have Hn:∀{b:Addr}{m:Str→Option Value},bg.heap.Ns b m→(mD bg.heap H).Ns b m:=fun {b m} ⟨o,es,ep,e,d,r⟩=>⟨o,es,ep,q_ e (ur e d),d,r⟩
  have Pc:K.In (mD bg.heap H):=fun b o e=>q_ (KX b o e) (by
   cases q:H b with
   |none=>rfl
   |some u=>
    by_cases hb:b∈ts
    ·rw[(Hm b hb).1]at e;cases e
    ·have e':b=a:=hA b hb (by rw[q];simp)
     subst e'
     rw[hK (by rw[q];simp)]at e;cases e)
  have hM:Mod K mg (mD bg.heap H):=⟨Pc,Hn qB,⟨mb,Hn hb,Uz⟩,let ⟨mc,h1,h2⟩:=O_;⟨mc,Hn h1,h2⟩,let ⟨bm,ob,b1,b2,b3,b4,b5,b6⟩:=UA;⟨bm,ob,b1,b2,q_ b3 (apart b3 (fun _ _ z=>by rw[b6]at z;cases z) fun _ z=>by rw[b6]at z;cases z),b4,b5,b6⟩⟩
  have e0:vT P w K mg (mD bg.heap H) callerA [] bg H:=⟨rfl,hM,fun b o e=>CW e,Nat.le_of_eq (yC _ _),trivial,fun b hb=>absurd (show b∈([]:List Addr)from hb) (by simp),aR,.of_eq hg⟩
  refine codeAny_mono ((F _ Pc (Hn qB)).run callerA [] bg H ⟨[.ref a],[]⟩ [.ref a] [.ref a] _ _ hr e0 (LC bg (.ref a)) (.cons rfl .nil) (pq H hO hS)) fun r s' h=>?_
  cases r with
  |error e=>exact False.elim h
  |ok fl=>
   cases fl with
   |next=>exact False.elim h
   |brk=>exact False.elim h
   |cont=>exact False.elim h
   |ret u=>
    obtain⟨v,H',os,bare,un,Jq,r',q⟩:=h
    have q':v= .bl true:=q
    subst q'
    obtain rfl:u=Value.bool true:=r'
    refine⟨rfl,⟨fun b o e=>?_,fun b o e=>un.there b o e (by simp)⟩,os,bare⟩
    by_cases hb:b∈ts
    ·obtain⟨more,z⟩:=un.ll b #[] (hO.1 b hb)
     have z2:s'.heap.get? b=some { cls:=.none,data:=.fields (#[]++more) }:=Jq b _ z
     obtain⟨c,hc⟩:=(Hm b hb).2
     have e2:=hT b hb
     rw[e]at e2;cases e2
     exact .inr (.inl ⟨((codeHd_of_K KX hc).tab (hT b hb)).isCodeTable,rfl,#[],more,rfl,z2⟩)
    ·refine .inl ?_
     rcases hO.2 b hb with z|⟨ob,xs,z⟩
     ·exact un.keep b o e z (by intro z;exact absurd (show b∈([]:List Addr)from z) (by simp)) (by simp)
     ·have z2:=un.jC b ob _ z
      obtain⟨e1,_⟩:=aR b _ z
      obtain⟨e2,_⟩:=Jq b _ z2
      rw[e]at e1;cases e1
      exact e2
 cases hk:K.lookup a with
 |some o=>
  have e:=KX a o hk
  rw[ha]at e
  cases e
  refine core (fun b=>if b∈ts then some (.jH #[])else none) ⟨fun P hP=>if_pos hP,fun b hb=>.inl (if_neg hb)⟩ (.inr ⟨_,vs.toArray,_,hk,rfl,rfl,rfl,by rw[List.size_toArray,Pa];exact hl,by simpa using rv⟩) (fun b u z=>?_) (fun b hb z=>absurd (if_neg hb) z) fun z=>absurd (if_neg Pb) z
  by_cases hb:b∈ts
  ·have z':=(if_pos hb).symm.trans z
   cases z'
   exact hT b hb
  ·have z':=(if_neg hb).symm.trans z
   cases z'
 |none=>
  refine core (fun b=>if b∈ts then some (.jH #[])else if b=a then some (.dP { cls:=.type "list",data:=.seq vs.toArray } (.lst (ns.map V.int)))else none) ⟨fun P hP=>if_pos hP,fun b hb=>?_⟩ (.inl (.inr ⟨{ cls:=.type "list",data:=.seq vs.toArray },(if_neg Pb).trans (if_pos rfl)⟩)) (fun b u z=>?_) (fun b hb z=>?_) fun _=>hk
  ·by_cases hc:b=a
   ·exact .inr ⟨_,_,(if_neg hb).trans (if_pos hc)⟩
   ·exact .inl ((if_neg hb).trans (if_neg hc))
  ·by_cases hb:b∈ts
   ·have z':=(if_pos hb).symm.trans z
    cases z'
    exact hT b hb
   ·by_cases hc:b=a
    ·have z':=((if_neg hb).trans (if_pos hc)).symm.trans z
     cases z'
     subst hc
     exact⟨ha,by rw[List.length_map];exact hl,vs,_,rv,ha⟩
    ·have z':=((if_neg hb).trans (if_neg hc)).symm.trans z
     cases z'
  ·by_cases hc:b=a
   ·exact hc
   ·exact absurd ((if_neg hb).trans (if_neg hc)) z
theorem B0{l:OpenLaw}{n k:Nat}{q:Program}{loose:List Str}{XP:(Str→Option Value)→Heap→Prop}{YP:World→Heap→Prop}{d:DefRec}{K:Params→Frag}{sp:Frag→Sp}{x:Str}{ts:List Addr}
  (hn:l.most=some n)(wu:n≤sizeLine)(y0:d.params.defaults=[])(hr:cY k callerA)
  (hY:∀(w:World) (h:Heap),YP w h→(K w.params).In h∧∀P∈ts,h.get? P=some (tabObj #[]))
  (F:∀(w:World) (mg:Str→Option Value) (fa:Addr) (h:Heap),(K w.params).In h→h.Ns mainGlobals mg→mg d.name=some (.ref fa)→
   (∀P∈ts,(K w.params).lookup P=none∧∃c,codeHdIn (K w.params) c P=true)∧∃fd:FuncData,(∀(s:Shared) (u:Value),BindsTo s fd ⟨[u],[]⟩ [(x,u)])∧
    ∀base:Heap,(K w.params).In base→base.Ns mainGlobals mg→bL l.prog w (K w.params) mg base cQ k fa fd [x] (sp (K w.params)))
  (pq:∀(K:Frag) (H:Hp) (a:Addr) (ns:List Int),ns.length≤n→uU ts H→cU K H a (ns.map V.int)→sp K [.ref a] H (fun v _=>v= .bl true) fun _ _ _=>False):
  WalkO q loose XP YP l.row.toRowW d [] (fun f vs=>PySem.call f vs):=by
 refine Ot.ux hn y0 fun w aW bg mg mb fa o pm cd doc a vs ns G Y ho hd nS y3 DD hints hlen hg=>?_
 obtain⟨KX,hT⟩:=hY w _ Y
 obtain⟨Hm,fd,hb,hF⟩:=F w mg fa _ KX G.T.g y3
 exact zx KX G.T.g G.T.b G.T.builtins G.T.nolimit G.T.bmain hg hT Hm DD hints (Nat.le_trans hlen wu) hr hF hb (fun H hO hS=>pq _ H a ns hlen hO hS)
def Pd(ts:List Addr)(K:Frag)(F:Qm.bD→Qm.FN):Sp:=fun vs H Q E=>∀t:Qm.bD,(∃P∈ts,codeHdIn K t.code P=true)→dv K (F t) vs H Q E
theorem Ew{K:Frag}{F:Qm.bD→Qm.FN}{ts:List Addr}{H:Hp}{a:Addr}{ns:List Int}(hO:uU ts H)(hS:cU K H a (ns.map V.int))(h:∀t:Qm.bD,∃c',F t [.ref 0] [.ro (ns.map Qm.D.int),.tab t.code t.qual]=some (.bl true,c')):
  Pd ts K F [.ref a] H (fun v _=>v= .bl true) fun _ _ _=>False:=by
 intro t ⟨P,hP,hd⟩
 obtain⟨c',h⟩:=h t
 have UB:Au K H a (ns.map V.int):=by
  rcases hS with(h|⟨o,h⟩)|h
  ·by_cases hb:a∈ts
   ·rw[hO.1 a hb]at h;cases h
   ·rcases hO.2 a hb with z|⟨o,ys,z⟩
    ·rw[z]at h;cases h
    ·rw[z]at h;cases h
  ·exact .inl ⟨o,h⟩
  ·exact .inr (.inr h)
 have zs:∀(ρ:Nat→Addr) (ms:List Int),RA K ρ 2 H (ms.map Qm.D.int) (ms.map V.int):=fun ρ ms=>by
  induction ms with
  |nil=>exact .nil
  |cons m ms ih=>exact .cons (.int m) ih
 refine⟨fun i=>if i=0 then a else P,[.ro (ns.map Qm.D.int),.tab t.code t.qual],[.ref 0],.bl true,c',⟨fun i j z y h1 h2 m1 m2 _=>?_,fun n z hz=>?_⟩,.cons (.ref (n:=0) (by simp)) .nil,h,fun aM v H' n r=>r.qL⟩
 ·have two:∀(i:Nat) (z:Qm.Cell),([.ro (ns.map Qm.D.int),.tab t.code t.qual]:Qm.Cells)[i]? =some z→z.mt=true→i=1:=fun i z h m=>by
   match i,h with
   |0,h=>
    have:z= .ro (ns.map Qm.D.int):=by simpa using h.symm
    subst this
    cases m
   |1,_=>rfl
   |i+2,h=>simp at h
  rw[two i z h1 m1,two j y h2 m2]
 ·match n,hz with
  |0,hz=>
   have:z= .ro (ns.map Qm.D.int):=by simpa using hz.symm
   subst this
   exact⟨_,UB,zs _ ns⟩
  |1,hz=>
   have:z= .tab t.code t.qual:=by simpa using hz.symm
   subst this
   exact⟨hd,#[],hO.1 P hP,trivial,fun pos cv e=>by simp[codeAmong]at e⟩
  |n+2,hz=>simp at hz
end L2
namespace L2
open PySem PySem.W PySem.Spec PyProof.Rows
def LD(st:Stmt)(e:Expr):Arguments:=match e with
 |.Lambda a _ _ _=>a
 |_=>aU st
def LF(e:Expr):Expr:=match e with
 |.Lambda _ b _ _=>b
 |_=>e
def uV(st:Stmt)(e:Expr):Scope:=match e with
 |.Lambda _ _ s _=>s
 |_=>ar st
def LG(e:Expr):Pos:=match e with
 |.Lambda _ _ _ p=>p
 |_=>⟨0,0,0,0⟩
theorem Ho{X:Cx}{t:Qm.bD}{F:Qm.FN}{k:Nat}(h:uT X.prog X.w X.K X.mg X.base k t F)(hr:cY k X.A):∀q∈[(t,F)],Er X q.1 q.2:=fun q hq=>by
 have:q=(t,F):=by simpa using hq
 subst this
 exact⟨k,h,hr⟩
end L2
namespace L2
open PySem PySem.W PyProof.Rows
def ev{α:Type}(lt:Nat→Nat→Bool):KasT α→α
 |.ret a=>a
 |.ask i j k=>ev lt (k (lt i j))
theorem iW{α β:Type}{lt:Nat→Nat→Bool}{f:α→KasT β}:∀t:KasT α,ev lt (t.bind f)=ev lt (f (ev lt t))
 |.ret _=>rfl
 |.ask i j k=>iW (k (lt i j))
structure Ord(lt:Nat→Nat→Bool):Prop where
 wV:∀a b,lt a b=true→lt b a=false
 tr:∀a b c,lt b a=false→lt c b=false→lt c a=false
section
variable{lt:Nat→Nat→Bool}
theorem Ord.uW(O:Ord lt)(a:Nat):lt a a=false:=by
 cases h:lt a a with
 |false=>rfl
 |true=>rw[O.wV a a h]at h;cases h
theorem Ord.LH(O:Ord lt){a b c:Nat}(h1:lt a b=true)(h2:lt c b=false):lt a c=true:=by
 cases h:lt a c with
 |true=>rfl
 |false=>rw[O.tr b c a h2 h]at h1;cases h1
def at_(p:Array Nat)(i:Nat):Nat:=p.getD i 0
theorem jk(p:Array Nat)(i:Nat):at_ p i=p[i]?.getD 0:=Array.getD_eq_getD_getElem? ..
def rf(lt:Nat→Nat→Bool)(p:Array Nat)(n:Nat):Prop:=∀i j,i≤j→j<n→lt (at_ p j) (at_ p i)=false
def nk(lt:Nat→Nat→Bool)(p:Array Nat)(n:Nat):Prop:=∀i j,i≤j→j<n→lt (at_ p i) (at_ p j)=false
theorem ie{p:Array Nat}{i j:Nat}(hj:j≤p.size)(k:Nat):at_ (kas_rev p i j) k=if i≤k∧k<j then at_ p (i+j - 1 - k)else at_ p k:=by
 rw[jk,kas_rev,getElem?_mirror_all hj]
 split<;>exact(jk ..).symm
theorem AO{p:Array Nat}{src d:Nat}(hs:src<p.size)(hd:d≤src)(k:Nat):at_ (bubble p src d) k=if k=src - d then at_ p src else if src - d<k∧k≤src then at_ p (k - 1)else at_ p k:=by
 rw[jk,getElem?_bubble hs d hd]
 split
 ·exact(jk ..).symm
 ·split<;>exact(jk ..).symm
theorem gr{p:Array Nat}{i j:Nat}:(kas_rev p i j).size=p.size:=mirror_size ..
theorem B2{p:Array Nat}{f n:Nat}:ev lt (kas_asc p (f+1) n)=if lt (at_ p n) (at_ p (n - 1))=true then n else ev lt (kas_asc p f (n+1)):=by
 show ev lt (if lt (at_ p n) (at_ p (n - 1))=true then KasT.ret n else kas_asc p f (n+1))=_
 split<;>rfl
theorem uX(O:Ord lt){p:Array Nat}:∀(f n m:Nat),1≤n→rf lt p n→ev lt (kas_asc p f n)=m→n≤m∧m≤n+f∧rf lt p m∧(m=n+f∨lt (at_ p m) (at_ p (m - 1))=true)
 |0,n,m,_,h,e=>by
  have e:n=m:=e
  subst e
  exact⟨Nat.le_refl _,Nat.le_refl _,h,.inl rfl⟩
 |f+1,n,m,h1,h,e=>by
  rw[B2]at e
  split at e
  ·rename_i hc
   subst e
   exact⟨Nat.le_refl _,by omega,h,.inr hc⟩
  ·rename_i hc
   have hc:lt (at_ p n) (at_ p (n - 1))=false:=by simpa using hc
   have hu:rf lt p (n+1):=fun i j eI hj=>by
    by_cases LI:j<n
    ·exact h i j eI LI
    ·have:j=n:=by omega
     subst this
     by_cases hi:i=j
     ·rw[hi];exact O.uW _
     ·exact O.tr _ _ _ (h i (j - 1) (by omega) (by omega)) hc
   obtain⟨a1,a2,a3,a4⟩:=uX O f (n+1) m (by omega) hu e
   exact⟨by omega,by omega,a3,a4.imp (fun z=>by omega) id⟩
structure tM(lt:Nat→Nat→Bool)(p:Array Nat)(n q:Nat):Prop where
 dn:nk lt p n
 le:q+1≤n
 eq:∀i j,n - (q+1)≤i→i<n→n - (q+1)≤j→j<n→lt (at_ p i) (at_ p j)=false
theorem nk.turn{p:Array Nat}{n a:Nat}(h:nk lt p n)(hn:n≤p.size)(eq:∀i j,a≤i→i<n→a≤j→j<n→lt (at_ p i) (at_ p j)=false):nk lt (kas_rev p a n) n:=fun i j eI hj=>by
 rw[ie hn,ie hn]
 by_cases hi:a≤i
 ·rw[if_pos ⟨hi,by omega⟩,if_pos ⟨by omega,hj⟩]
  exact eq _ _ (by omega) (by omega) (by omega) (by omega)
 ·rw[if_neg (by omega)]
  by_cases Ex:a≤j
  ·rw[if_pos ⟨Ex,hj⟩]
   exact h _ _ (by omega) (by omega)
  ·rw[if_neg (by omega)]
   exact h i j eI hj
theorem nk.more(O:Ord lt){p:Array Nat}{n:Nat}(h:nk lt p n)(h1: 1≤n)(hc:lt (at_ p (n - 1)) (at_ p n)=false):nk lt p (n+1):=fun i j eI hj=>by
 by_cases LI:j<n
 ·exact h i j eI LI
 ·have:j=n:=by omega
  subst this
  by_cases hi:i=j
  ·rw[hi];exact O.uW _
  ·exact O.tr _ _ _ hc (h i (j - 1) (by omega) (by omega))
theorem zy{p:Array Nat}{f n q:Nat}:ev lt (kas_desc (f+1) p n q)=if lt (at_ p n) (at_ p (n - 1))=true then(if q > 0 then ev lt (kas_desc f (kas_rev p (n - (q+1)) n) (n+1) 0)else ev lt (kas_desc f p (n+1) 0))else if lt (at_ p (n - 1)) (at_ p n)=true then(p,n,q)else ev lt (kas_desc f p (n+1) (q+1)):=by
 show ev lt (if lt (at_ p n) (at_ p (n - 1))=true then(if q > 0 then kas_desc f (kas_rev p (n - (q+1)) n) (n+1) 0 else kas_desc f p (n+1) 0)else KasT.ask (at_ p (n - 1)) (at_ p n) fun d=>if d=true then KasT.ret (p,n,q)else kas_desc f p (n+1) (q+1))=_
 split
 ·split<;>rfl
 ·show ev lt (if lt (at_ p (n - 1)) (at_ p n)=true then KasT.ret (p,n,q)else kas_desc f p (n+1) (q+1))=_
  split<;>rfl
theorem nu(O:Ord lt):∀(f:Nat) (p:Array Nat) (n q:Nat) (r:Array Nat×Nat×Nat),tM lt p n q→n+f≤p.size→ev lt (kas_desc f p n q)=r→tM lt r.1 r.2.1 r.2.2∧n≤r.2.1∧r.2.1≤n+f∧r.1.size=p.size∧r.1.Perm p
 |0,p,n,q,r,F,hs,e=>by
  have e:(p,n,q)=r:=e
  subst e
  exact⟨F,Nat.le_refl _,Nat.le_refl _,rfl,Array.Perm.refl _⟩
 |f+1,p,n,q,r,F,hs,e=>by
  have hl:=F.le
  rw[zy]at e
  split at e
  ·rename_i hc
   have eE:=O.wV _ _ hc
   split at e
   ·have hn:n≤p.size:=by omega
    have hsz:(kas_rev p (n - (q+1)) n).size=p.size:=gr
    have e1:at_ (kas_rev p (n - (q+1)) n) n=at_ p n:=by rw[ie hn,if_neg (by omega)]
    have e2:lt (at_ (kas_rev p (n - (q+1)) n) (n - 1)) (at_ p n)=false:=by
     rw[ie hn,if_pos (by omega)]
     exact O.tr _ _ _ eE (F.eq _ _ (by omega) (by omega) (by omega) (by omega))
    have F':tM lt (kas_rev p (n - (q+1)) n) (n+1) 0:=by
     refine⟨(F.dn.turn hn F.eq).more O (by omega) (by rw[e1];exact e2),by omega,fun i j h1 h2 h3 h4=>?_⟩
     have:i=j:=by omega
     rw[this];exact O.uW _
    obtain⟨a1,a2,a3,a4,a5⟩:=nu O f _ (n+1) 0 r F' (by rw[hsz];omega) e
    exact⟨a1,by omega,by omega,a4.trans hsz,a5.trans (mirror_perm ..)⟩
   ·have F':tM lt p (n+1) 0:=by
     refine⟨F.dn.more O (by omega) eE,by omega,fun i j h1 h2 h3 h4=>?_⟩
     have:i=j:=by omega
     rw[this];exact O.uW _
    obtain⟨a1,a2,a3,a4,a5⟩:=nu O f p (n+1) 0 r F' (by omega) e
    exact⟨a1,by omega,by omega,a4,a5⟩
  ·rename_i hc
   have hc:lt (at_ p n) (at_ p (n - 1))=false:=by simpa using hc
   split at e
   ·subst e
    exact⟨F,Nat.le_refl _,by show n≤n+(f+1);omega,rfl,Array.Perm.refl _⟩
   ·rename_i hd
    have hd:lt (at_ p (n - 1)) (at_ p n)=false:=by simpa using hd
    have F':tM lt p (n+1) (q+1):=by
     refine⟨F.dn.more O (by omega) hd,by omega,fun i j h1 h2 h3 h4=>?_⟩
     by_cases hi:i=n<;>by_cases hj:j=n
     ·rw[hi,hj];exact O.uW _
     ·rw[hi];exact O.tr _ _ _ (F.eq (n - 1) j (by omega) (by omega) (by omega) (by omega)) hc
     ·rw[hj];exact O.tr _ _ _ hd (F.eq i (n - 1) (by omega) (by omega) (by omega) (by omega))
     ·exact F.eq i j (by omega) (by omega) (by omega) (by omega)
    obtain⟨a1,a2,a3,a4,a5⟩:=nu O f p (n+1) (q+1) r F' (by omega) e
    exact⟨a1,by omega,by omega,a4,a5⟩
theorem nk.rev{p:Array Nat}{n:Nat}(h:nk lt p n)(hn:n≤p.size):rf lt (kas_rev p 0 n) n:=fun i j eI hj=>by
 rw[ie hn,ie hn,if_pos ⟨by omega,hj⟩,if_pos ⟨by omega,by omega⟩]
 exact h _ _ (by omega) (by omega)
structure Run(lt:Nat→Nat→Bool)(p0:Array Nat)(nrem:Nat)(r:Nat×Array Nat):Prop where
 ge: 1≤r.1
 le:r.1≤nrem
 up:rf lt r.2 r.1
 size:r.2.size=p0.size
 perm:r.2.Perm p0
theorem tN(O:Ord lt){p:Array Nat}{n nrem:Nat}{r:Nat×Array Nat}(h:nk lt p n)(h1: 1≤n)(hn:n≤nrem)(hs:nrem≤p.size)(e:ev lt (kas_tail3 n nrem p)=r):Run lt p nrem r:=by
 unfold kas_tail3 at e
 rw[iW]at e
 obtain⟨a1,a2,a3,_⟩:=uX O (nrem - n) n _ h1 (h.rev (by omega)) rfl
 subst e
 exact⟨Nat.le_trans h1 a1,Nat.le_trans a2 (by omega),a3,gr,mirror_perm ..⟩
theorem nv(O:Ord lt){p:Array Nat}{n nrem:Nat}{r:Nat×Array Nat}(h:nk lt p (n+1))(hn:n+1≤nrem)(hs:nrem≤p.size)(e:ev lt (kas_descPart n nrem p)=r):Run lt p nrem r:=by
 unfold kas_descPart at e
 rw[iW]at e
 have F:tM lt p (n+1) 0:=⟨h,by omega,fun i j h1 h2 h3 h4=>by
  have:i=j:=by omega
  rw[this];exact O.uW _⟩
 obtain⟨a1,a2,a3,a4,a5⟩:=nu O (nrem - (n+1)) p (n+1) 0 _ F (by omega) rfl
 generalize ev lt (kas_desc (nrem - (n+1)) p (n+1) 0)=z at*
 obtain⟨p',m,q⟩:=z
 have hl:=a1.le
 dsimp only at a1 a2 a3 a4 a5 e hl
 split at e
 ·have hm:m≤p'.size:=by omega
  have R:=tN O (a1.dn.turn hm a1.eq) (by omega) (by omega) (by rw[gr];omega) e
  exact⟨R.ge,R.le,R.up,R.size.trans (gr.trans a4),R.perm.trans ((mirror_perm ..).trans a5)⟩
 ·have R:=tN O a1.dn (by omega) (by omega) (by omega) e
  exact⟨R.ge,R.le,R.up,R.size.trans a4,R.perm.trans a5⟩
theorem B3(O:Ord lt){p:Array Nat}{nrem:Nat}{r:Nat×Array Nat}(h1: 1≤nrem)(hs:nrem≤p.size)(e:ev lt (kas_count nrem p)=r):Run lt p nrem r:=by
 unfold kas_count at e
 rw[iW]at e
 have u1:rf lt p 1:=fun i j eI hj=>by
  have:i=j:=by omega
  rw[this];exact O.uW _
 obtain⟨a1,a2,a3,a4⟩:=uX O (nrem - 1) 1 _ (Nat.le_refl _) u1 rfl
 generalize ev lt (kas_asc p (nrem - 1) 1)=n at*
 split at e
 ·subst e
  exact⟨a1,by show n≤nrem;omega,a3,rfl,Array.Perm.refl _⟩
 ·rename_i lL
  have lL:n≠nrem:=by simpa using lL
  have hc:lt (at_ p n) (at_ p (n - 1))=true:=a4.resolve_left (by omega)
  split at e
  ·rename_i LJ
   have e:ev lt (if lt (at_ p 0) (at_ p (n - 1))=true then KasT.ret (n,p)else kas_descPart n nrem (kas_rev p 0 n))=r:=e
   split at e
   ·subst e
    exact⟨a1,by show n≤nrem;omega,a3,rfl,Array.Perm.refl _⟩
   ·rename_i h0
    have h0:lt (at_ p 0) (at_ p (n - 1))=false:=by simpa using h0
    have eq:∀i j,0≤i→i<n→0≤j→j<n→lt (at_ p i) (at_ p j)=false:=fun i j _ hi _ hj=>by
     have b1:=a3 0 i (by omega) hi
     have b2:=a3 j (n - 1) (by omega) (by omega)
     -- Xt≤p_(n-1)≤Xu≤Xv
     exact O.tr _ _ _ b2 (O.tr _ _ _ h0 b1)
    have hn:n≤p.size:=by omega
    have d0:nk lt p n:=fun i j eI hj=>eq i j (by omega) (by omega) (by omega) hj
    have e1:at_ (kas_rev p 0 n) n=at_ p n:=by rw[ie hn,if_neg (by omega)]
    have d1:nk lt (kas_rev p 0 n) (n+1):=(d0.turn hn eq).more O (by omega) (by
     rw[e1,ie hn,if_pos (by omega)]
     exact O.tr _ _ _ (O.wV _ _ hc) (eq _ _ (by omega) (by omega) (by omega) (by omega)))
    have R:=nv O d1 (by omega) (by rw[gr];omega) e
    exact⟨R.ge,R.le,R.up,R.size.trans gr,R.perm.trans (mirror_perm ..)⟩
  ·have LJ:n=1:=by omega
   subst LJ
   have d0:nk lt p 1:=fun i j eI hj=>by
    have:i=j:=by omega
    rw[this];exact O.uW _
   exact nv O (d0.more O (by omega) (O.wV _ _ hc)) (by omega) hs e
theorem wW{p:Array Nat}{k f l r:Nat}:ev lt (kas_place p k (f+1) l r)=if l≥r then l else if lt (at_ p k) (at_ p ((l+r) / 2))=true then ev lt (kas_place p k f l ((l+r) / 2))else ev lt (kas_place p k f ((l+r) / 2+1) r):=by
 show ev lt (if l≥r then KasT.ret l else KasT.ask (at_ p k) (at_ p ((l+r) / 2)) fun c=>if c=true then kas_place p k f l ((l+r) / 2)else kas_place p k f ((l+r) / 2+1) r)=_
 split
 ·rfl
 ·show ev lt (if lt (at_ p k) (at_ p ((l+r) / 2))=true then kas_place p k f l ((l+r) / 2)else kas_place p k f ((l+r) / 2+1) r)=_
  split<;>rfl
theorem oo(O:Ord lt){p:Array Nat}{k:Nat}(h:rf lt p k):∀(f l r m:Nat),l≤r→r≤k→r - l≤f→(∀i,i<l→lt (at_ p k) (at_ p i)=false)→(∀i,r≤i→i<k→lt (at_ p k) (at_ p i)=true)→ev lt (kas_place p k f l r)=m→
  m≤k∧(∀i,i<m→lt (at_ p k) (at_ p i)=false)∧∀i,m≤i→i<k→lt (at_ p k) (at_ p i)=true
 |0,l,r,m,h1,h2,h3,h4,h5,e=>by
  have e:l=m:=e
  subst e
  exact⟨by omega,h4,fun i hi=>h5 i (by omega)⟩
 |f+1,l,r,m,h1,h2,h3,h4,h5,e=>by
  rw[wW]at e
  split at e
  ·subst e
   exact⟨by omega,h4,fun i hi=>h5 i (by omega)⟩
  ·split at e
   ·rename_i hc
    refine oo O h f l ((l+r) / 2) m (by omega) (by omega) (by omega) h4 (fun i hi hk=>?_) e
    exact O.LH hc (h _ _ hi hk)
   ·rename_i hc
    have hc:lt (at_ p k) (at_ p ((l+r) / 2))=false:=by simpa using hc
    refine oo O h f ((l+r) / 2+1) r m (by omega) h2 (by omega) (fun i hi=>?_) h5 e
    exact O.tr _ _ _ (h i ((l+r) / 2) (by omega) (by omega)) hc
theorem AS(O:Ord lt):∀(f:Nat) (p:Array Nat) (k:Nat) (r:Array Nat),1≤k→k+f≤p.size→rf lt p k→ev lt (kas_bin f p k)=r→rf lt r (k+f)∧r.size=p.size∧r.Perm p
 |0,p,k,r,_,_,h,e=>by
  have e:p=r:=e
  subst e
  exact⟨h,rfl,Array.Perm.refl _⟩
 |f+1,p,k,r,h1,hs,h,e=>by
  have e:ev lt ((kas_place p k k 0 k).bind fun l=>kas_bin f (bubble p k (k - l)) (k+1))=r:=e
  rw[iW]at e
  obtain⟨b1,b2,b3⟩:=oo O h k 0 k _ (by omega) (Nat.le_refl _) (by omega) (fun i hi=>by omega) (fun i hi hk=>by omega) rfl
  generalize ev lt (kas_place p k k 0 k)=l at*
  have hk:k<p.size:=by omega
  have u:rf lt (bubble p k (k - l)) (k+1):=fun i j eI hj=>by
   rw[AO hk (by omega),AO hk (by omega)]
   have e0:k - (k - l)=l:=by omega
   rw[e0]
   by_cases ji:j=l
   ·rw[if_pos ji]
    by_cases ii:i=l
    ·rw[if_pos ii];exact O.uW _
    ·rw[if_neg ii,if_neg (by omega)]
     exact b2 i (by omega)
   ·rw[if_neg ji]
    by_cases jl:l<j∧j≤k
    ·rw[if_pos jl]
     by_cases ii:i=l
     ·rw[if_pos ii]
      exact O.wV _ _ (b3 (j - 1) (by omega) (by omega))
     ·rw[if_neg ii]
      by_cases il:l<i∧i≤k
      ·rw[if_pos il];exact h _ _ (by omega) (by omega)
      ·rw[if_neg il];exact h _ _ (by omega) (by omega)
    ·rw[if_neg jl,if_neg (by omega),if_neg (by omega)]
     exact h _ _ eI (by omega)
  obtain⟨a1,a2,a3⟩:=AS O f (bubble p k (k - l)) (k+1) r (by omega) (by rw[bubble_size];omega) u e
  exact⟨by rw[show k+(f+1)=k+1+f by omega];exact a1,a2.trans (bubble_size ..),a3.trans (bubble_perm ..)⟩
theorem wX(O:Ord lt){n:Nat}(h2: 2≤n):rf lt (ev lt (kas_sort n)) n∧(ev lt (kas_sort n)).size=n∧(ev lt (kas_sort n)).Perm (List.toArray (List.range n)):=by
 unfold kas_sort
 rw[iW]
 have hz:(List.toArray (List.range n)).size=n:=by simp
 have R:=B3 O (p:=List.toArray (List.range n)) (nrem:=n) (by omega) (by omega) rfl
 generalize ev lt (kas_count n (List.toArray (List.range n)))=r at*
 obtain⟨m,p⟩:=r
 have g:=R.ge;have l:=R.le;have sz:=R.size
 dsimp only at g l sz ⊢
 split
 ·have e1:max m 1=m:=by omega
  rw[e1]
  obtain⟨a1,a2,a3⟩:=AS O (n - m) p m _ g (by omega) R.up rfl
  exact⟨by rw[show m+(n - m)=n by omega]at a1;exact a1,by omega,a3.trans R.perm⟩
 ·have:m=n:=by omega
  subst this
  exact⟨R.up,sz.trans hz,R.perm⟩
end
end L2
namespace L2
open PySem PySem.W PySem.Spec PyProof.Rows
section
variable{prog:Program}{w:World}{A:Around}{E:Value→Shared→Prop}{s:Shared}
theorem ny{a:Addr}{vs:List Value}{n:Nat}{P:PySem.Fin→Shared→Prop}(ho:s.heap.get? a=some (seqObj "list" vs.toArray n))(h2:vs.length<2)
  (h:P (.done (.ret .none)) { s with heap:=sortedHeap s.heap a vs ((vs.toArray.zip vs.toArray).map (·.2)) }):wpAny (model prog w) A (Builtin.«list.sort» ⟨[.ref a],[]⟩) P E s:=by
 rw[list_sort_plain]
 have fits:∀k,k<2→k≤sizeLine:=fun k z=>by rw[sizeLine_eq];omega
 refine wpAny_bind (listItems_at ho rfl (wpAny_bind (listUpdate_at ho rfl ?_ (fits _ (by simpa using h2)) (Nat.zero_le _))))
 obtain⟨e1,ph⟩:∃e1,(s.heap.update a (Obj.mapSeq fun _=>(#[]:Array Value))).get? a=some (seqObj "list" #[] e1):=⟨_,get?_update_seq ho (fun _=>#[])⟩
 refine wpAny_bind (seqEpoch_at ph rfl (wpAny_bind (wpAny_newTuple (wpAny_bind (wpAny_newList (wpAny_holding ?_) (Nat.zero_le _))) (fits _ h2))))
 have Pe:(((s.heap.update a (Obj.mapSeq fun _=>(#[]:Array Value))).push (seqObj "tuple" vs.toArray 0)).push (seqObj "list" #[] 0)).get? a=some (seqObj "list" #[] e1):=
  Heap.get?_push_of_some _ (Heap.get?_push_of_some _ ph)
 show wpAny (model prog w) A _ P E { s with heap:=((s.heap.update a (Obj.mapSeq fun _=>(#[]:Array Value))).push (seqObj "tuple" vs.toArray 0)).push (seqObj "list" #[] 0) }
 dsimp only
 have wu:vs.toArray.size<2:=by rw[List.size_toArray];omega
 rw[if_pos wu,if_pos wu]
 refine wpAny_bind (wpAny_pure ?_)
 rw[StateT.run_pure]
 refine wpAny_bind (wpAny_pure ?_)
 dsimp only
 refine wpAny_bind (seqEpoch_at Pe rfl ?_)
 refine wpAny_bind (listUpdate_at Pe rfl ?_ (Nat.zero_le _) (by rw[Array.size_map];refine Nat.le_trans (Nat.le_of_eq (by show(vs.toArray.zip vs.toArray).size=vs.length;simp)) ?_;rw[sizeLine_eq];omega))
 simp only[bne_self_eq_false,Bool.false_eq_true,if_false]
 exact wpAny_pure h
def wY(h:Heap)(vs:List Value):Heap:=((h.push (seqObj "list" #[] 0)).update h.objs.size (Obj.mapSeq (·++vs.toArray))).push (seqObj "list" vs.toArray 0)
theorem nz(h:Heap)(vs:List Value):(wY h vs).get? (h.objs.size+1)=some (seqObj "list" vs.toArray 0):=by
 have e:=Heap.get?_push_size (o:=seqObj "list" vs.toArray 0) ((h.push (seqObj "list" #[] 0)).update h.objs.size (Obj.mapSeq (·++vs.toArray))) rfl
 rwa[Heap.size_update,size_push']at e
theorem uY{l:Addr}{vs:List Value}{Q:Value→Shared→Prop}(hl:s.heap.IsList l vs.toArray)(hn:vs.length≤1000000)
  (wZ:∀(B:Around) (F:Value→Shared→Prop),wpAny (model prog w) B (Builtin.«list.sort» ⟨[.ref (s.heap.objs.size+1)],[]⟩) (fun fin s'=>fin= .done (.ret .none)∧Q (.ref (s.heap.objs.size+1)) s') F ⟨wY s.heap vs,s.gens,s.drawn,s.toks,s.os⟩):
  wpAny (model prog w) A (call (.builtin "sorted") [.ref l]) Q E s:=by
 have fits:vs.length≤sizeLine:=by rw[sizeLine_eq];omega
 have e:((s.heap.push (seqObj "list" #[] 0)).update s.heap.objs.size (Obj.mapSeq (·++vs.toArray))).objs.size=s.heap.objs.size+1:=(Heap.size_update ..).trans (size_push' ..)
 refine Calls.call_function_entry kind_sorted plain_sorted entry_sorted (args_sorted1 _) (wpAny_bind (m:=checkCount "sorted" 1 1 _) (wpAny_pure (wpAny_bind (collect_list hl (wpAny_bind (wpAny_newList ?_ (by simpa using fits))) (by simpa using fits)))))
 rw[e]
 exact wpAny_bind (wpAny_holding (wpAny_call_entry slot_list_sort ⟨_,nz s.heap vs,rfl⟩ entry_list_sort
  (wpAny_mono (wZ _ _) (fun _ _ z=>by rw[z.1];exact⟨_,rfl,wpAny_pure ⟨_,rfl,z.2⟩⟩) fun _ _ z=>z) (args_list_sort _)))
theorem sL{l:Addr}{vs:List Value}{Q:Value→Shared→Prop}(hl:s.heap.IsList l vs.toArray)(h2:vs.length<2)
  (h:Q (.ref (s.heap.objs.size+1)) { s with heap:=sortedAll s.heap vs ((vs.toArray.zip vs.toArray).map (·.2)) }):wpAny (model prog w) A (call (.builtin "sorted") [.ref l]) Q E s:=
 uY hl (by omega) fun _ _=>ny (nz _ _) h2 ⟨rfl,h⟩
end
def gZ{α:Type}(n:Nat)(t:KasT α)(Jr:α→Prop):Prop:=match t with
 |.ret a=>Jr a
 |.ask i j k=>i<n∧j<n∧∀b,gZ n (k b) Jr
theorem gZ.bind{α β:Type}{n:Nat}{f:α→KasT β}{P:α→Prop}{Q:β→Prop}:∀(t:KasT α),gZ n t P→(∀a,P a→gZ n (f a) Q)→gZ n (t.bind f) Q
 |.ret a,h,k=>k a h
 |.ask i j g,h,k=>⟨h.1,h.2.1,fun b=>gZ.bind (g b) (h.2.2 b) k⟩
structure AR(n:Nat)(p:Array Nat):Prop where
 pos: 0<n
 mem:∀x∈p.toList,x<n
section
variable{n:Nat}{p q:Array Nat}
theorem AR.perm(h:AR n p)(e:q.Perm p):AR n q:=⟨h.pos,fun x hx=>h.mem x ((Array.perm_iff_toList_perm.mp e).mem_iff.mp hx)⟩
theorem AR.get(h:AR n p)(i:Nat):p.getD i 0<n:=by
 rw[Array.getD_eq_getD_getElem?]
 cases e:p[i]? with
 |none=>exact h.pos
 |some x=>
  refine h.mem x ?_
  have e2:p.toList[i]? =some x:=by rw[Array.getElem?_toList];exact e
  exact List.mem_of_getElem? e2
theorem AR.rev(h:AR n p)(i j:Nat):AR n (kas_rev p i j):=h.perm (mirror_perm ..)
theorem rg(h:AR n p):∀f m:Nat,gZ n (kas_asc p f m) fun _=>True
 |0,_=>trivial
 |f+1,m=>⟨h.get _,h.get _,fun b=>by
  cases b with
  |true=>exact trivial
  |false=>exact rg h f (m+1)⟩
theorem kM:∀(f:Nat) (p:Array Nat) (m q:Nat),AR n p→gZ n (kas_desc f p m q) fun r=>AR n r.1
 |0,p,m,q,h=>h
 |f+1,p,m,q,h=>⟨h.get _,h.get _,fun b=>by
  cases b with
  |true=>
   show gZ n (if q > 0 then kas_desc f (kas_rev p (m - (q+1)) m) (m+1) 0 else kas_desc f p (m+1) 0) _
   split
   ·exact kM f _ _ _ (h.rev _ _)
   ·exact kM f _ _ _ h
  |false=>
   refine⟨h.get _,h.get _,fun d=>?_⟩
   cases d with
   |true=>exact h
   |false=>exact kM f p _ _ h⟩
theorem rh(h:AR n p)(m r:Nat):gZ n (kas_tail3 m r p) fun z=>AR n z.2:=gZ.bind _ (rg (h.rev _ _) _ _) fun _ _=>h.rev _ _
theorem lE(h:AR n p)(m r:Nat):gZ n (kas_descPart m r p) fun z=>AR n z.2:=gZ.bind _ (kM _ _ _ _ h) fun z hz=>by
 split
 ·exact rh (hz.rev _ _) _ _
 ·exact rh hz _ _
theorem zz(h:AR n p)(r:Nat):gZ n (kas_count r p) fun z=>AR n z.2:=gZ.bind _ (rg h _ _) fun m _=>by
 split
 ·exact h
 ·split
  ·refine⟨h.get _,h.get _,fun b=>?_⟩
   cases b with
   |true=>exact h
   |false=>exact lE (h.rev _ _) _ _
  ·exact lE h _ _
theorem lW(h:AR n p)(k:Nat):∀f l r:Nat,gZ n (kas_place p k f l r) fun _=>True
 |0,_,_=>trivial
 |f+1,l,r=>by
  show gZ n (if l≥r then KasT.ret l else _) _
  split
  ·exact trivial
  ·refine⟨h.get _,h.get _,fun b=>?_⟩
   cases b with
   |true=>exact lW h k f _ _
   |false=>exact lW h k f _ _
theorem w6:∀(f:Nat) (p:Array Nat) (k:Nat),AR n p→gZ n (kas_bin f p k) fun _=>True
 |0,_,_,_=>trivial
 |f+1,p,k,h=>gZ.bind _ (lW h k _ _ _) fun l _=>w6 f _ _ (h.perm (bubble_perm ..))
theorem tO(h: 0<n):gZ n (kas_sort n) fun _=>True:=gZ.bind _ (zz (n:=n) ⟨h,fun x hx=>by simpa using hx⟩ n) fun r hr=>by
 split
 ·exact w6 _ _ _ hr
 ·exact trivial
end
theorem oq{α:Type}{n:Nat}{lt:Nat→Nat→Bool}{cmp:Nat→Nat→(Bool→Shared→Prop)→Shared→Prop}{P:α→Prop}{G:α→Shared→Prop}{s:Shared}(hc:∀i j C,i<n→j<n→C (lt i j) s→cmp i j C s):∀(t:KasT α),gZ n t P→G (ev lt t) s→t.kasWp cmp G s
 |.ret a,_,h=>h
 |.ask i j k,q,h=>hc i j _ q.1 q.2.1 (oq hc (k (lt i j)) (q.2.2 _) h)
end L2
namespace L2
open PySem PySem.Spec PyProof.Rows PySem.W
theorem gs:∀a b:List Int,bc a b=true→bc b a=false
 |[],[],_=>rfl
 |[],_::_,h=>by simp[bc]at h
 |_::_,[],_=>by simp[bc]
 |x::a,y::b,h=>by
  by_cases e:x=y
  ·subst e
   simp[bc]at h ⊢
   exact gs a b h
  ·simp[bc,e,Ne.symm e]at h ⊢
   omega
theorem kN:∀a b c:List Int,bc a b=false→bc b c=false→bc a c=false
 |[],_,[],_,_=>by simp[bc]
 |[],_,_::_,_,_=>by simp[bc]
 |_::_,[],_,h,_=>by simp[bc]at h
 |_::_,_::_,[],_,h=>by simp[bc]at h
 |x::a,y::b,z::c,h1,h2=>by
  by_cases e:x=y
  ·subst e
   by_cases e2:x=z
   ·subst e2
    simp[bc]at h1 h2 ⊢
    exact kN a b c h1 h2
   ·simp[bc,e2]at h1 h2 ⊢
    omega
  ·by_cases e2:y=z
   ·subst e2
    simp[bc,e]at h1 h2 ⊢
    omega
   ·simp[bc,e,e2]at h1 h2
    have e3:x≠z:=by omega
    simp[bc,e3]
    omega
theorem w8(ts:List (List Int)):Ord fun i j=>bc (ts.getD j []) (ts.getD i []):=⟨fun _ _ h=>gs _ _ h,fun _ _ _ h1 h2=>kN _ _ _ h1 h2⟩
theorem ig:∀{as:List Addr}{us:List Value},Vals (as.map V.ref) us→us=as.map Value.ref
 |[],_,.nil=>rfl
 |_::_,_,.cons r t=>by
  rw[ig t]
  have:_=Value.ref _:=r
  rw[this];rfl
theorem j6:∀(as:List Addr),Vals (as.map V.ref) (as.map Value.ref)
 |[]=>.nil
 |_::r=>.cons rfl (j6 r)
theorem cK{α β:Type}{R:α→β→Prop}:∀{xs:List α}{ys:List β},Paired R xs ys→∀{i:Nat},i<xs.length→∃x y,xs[i]? =some x∧ys[i]? =some y∧R x y
 |_,_,.nil,i,h=>by simp at h
 |_,_,.cons r t,0,_=>⟨_,_,rfl,rfl,r⟩
 |_,_,.cons r t,i+1,h=>by
  obtain⟨x,y,h1,h2,h3⟩:=cK t (i:=i) (by simpa using h)
  exact⟨x,y,by simpa using h1,by simpa using h2,h3⟩
section
variable{X:Cx}{pins:List (Addr×Obj)}{σ:St}{H:Hp}{s:Shared}
theorem j7(I:Inv X pins σ H s):∀{as:List Addr}{ts:List (List Int)},Paired (fun(a:Addr) (t:List Int)=>H a=some (.tup (t.map V.int))∧t≠[]) as ts→∃fs,KatTups s.heap (as.map Value.ref) fs∧fs.length=as.length∧∀v∈fs,∃i t,v=Value.int i t
 |_,_,.nil=>⟨[],.nil,rfl,fun v hv=>nomatch hv⟩
 |_,_,.cons (a:=a) (b:=t) r tl=>by
  obtain⟨fs,h1,h2,h3⟩:=j7 I tl
  obtain⟨its,r1,⟨o,g,c,m,d⟩,_⟩:=I.tuple (dk.of r.1)
  have i1:=ints_of r1
  cases t with
  |nil=>exact absurd rfl r.2
  |cons n ns=>
   obtain⟨tk,z⟩:=BN i1
   refine⟨.int n tk::fs,.cons g c d z h1,by simp[h2],fun v hv=>?_⟩
   rcases List.mem_cons.mp hv with rfl|hv
   ·exact⟨n,tk,rfl⟩
   ·exact h3 v hv
theorem range_getD{α:Type}(d:α)(ts:List α):(List.range ts.length).map (fun i=>ts.getD i d)=ts:=by
 refine List.ext_getElem? fun i=>?_
 rw[List.getElem?_map]
 by_cases h:i<ts.length
 ·rw[List.getElem?_range h]
  simp[List.getD,h]
 ·rw[List.getElem?_eq_none (by simp;omega),List.getElem?_eq_none (by omega)];rfl
theorem w9:fN X (.builtin "sorted") (fun xs H Q=>∃(l:Addr) (as:List Addr) (ts:List (List Int)),xs=[.ref l]∧cU X.K H l (as.map V.ref)∧Paired (fun(a:Addr) (t:List Int)=>H a=some (.tup (t.map V.int))∧t≠[]) as ts∧as.length<64∧
  ∀(D:Addr) (bs:List Addr) (us:List (List Int)),H D=none→Paired (fun(a:Addr) (t:List Int)=>H a=some (.tup (t.map V.int))) bs us→us.Perm ts→us.Pairwise (fun a b=>bc a b=false)→Q (.ref D) (upd H D (.lst (bs.map V.ref)))):=by
 intro pins s σ H xs us Q I r h
 obtain⟨l,as,ts,rfl,hl,pr,Ey,q⟩:=h
 obtain⟨u,rfl,e1⟩:=vals1 r
 cases e1
 obtain⟨its,rv,pl,zl⟩:=I.list hl
 cases ig rv
 have rj:as.length=ts.length:=Paired.length pr
 by_cases h2:as.length<2
 ·refine sL pl.isList (by simpa using h2) ?_
  obtain⟨e,he⟩:=sortedAll_at s.heap (as.map Value.ref) (((as.map Value.ref).toArray.zip (as.map Value.ref).toArray).map (·.2))
  have eo:(((as.map Value.ref).toArray.zip (as.map Value.ref).toArray).map (·.2)).toList=as.map Value.ref:=by
   rw[Array.toList_map]
   show((pairsOf (as.map Value.ref)).toList).map (·.2)=_
   rw[pairsOf_toList]
   exact List.map_snd_zip (Nat.le_refl _)
  refine⟨.ref (s.heap.objs.size+1),_,I.laid (a:=s.heap.objs.size+1) (t':=s.toks) (fun _ _=>sortedAll_old) (Nat.le_succ _) (show bH X.prog X.w _ _ _ (.lst (as.map V.ref))from⟨zl,as.map Value.ref,e,j6 as,by rw[he,←Array.toArray_toList (xs:=Array.map (fun x=>x.snd) ((List.map Value.ref as).toArray.zip (List.map Value.ref as).toArray)),eo]⟩),rfl,q _ as ts (I.aR.fresh (Nat.le_succ _)) (L2.Paired.mw pr fun _ _ z=>z.1) (List.Perm.refl _) ?_⟩
  match ts,rj with
  |[],_=>exact .nil
  |[_],_=>exact List.pairwise_singleton ..
  |_::_::_,e=>simp at e;omega
 ·obtain⟨m,F⟩:=I.fr
  refine kat_sorted (vs:=as.map Value.ref) F sV pl.isList (by simpa using(by omega: 2≤as.length)) (by simpa using Ey) fun D e1 h' F' N' hD=>?_
  obtain⟨I1,wF⟩:=I.uN (out:=[]) (c:=e1) F.ns F' N' hD .nil (Nat.zero_le _)
  have zA:Paired (fun(a:Addr) (t:List Int)=>upd H D (.lst []) a=some (.tup (t.map V.int))∧t≠[]) as ts:=L2.Paired.mw pr fun a t z=>⟨eJ z.1 wF,z.2⟩
  obtain⟨fs,k1,k2,k3⟩:=j7 I1 zA
  refine kat_kind (T:=.type "int") (fs:=fs) k1 (by omega) (fun v hv=>?_) (by decide) ?_
  ·obtain⟨i,t,rfl⟩:=k3 v hv
   exact qT
  rw[List.length_map]
  have O:=w8 ts
  have S:=wX O (n:=as.length) (by omega)
  have hp:∀i∈(ev (fun i j=>bc (ts.getD j []) (ts.getD i [])) (kas_sort as.length)).toList,i<as.length:=fun i hi=>by
   have:=(Array.perm_iff_toList_perm.mp S.2.2).mem_iff.mp hi
   simpa using this
  refine oq (n:=as.length) (lt:=fun i j=>bc (ts.getD j []) (ts.getD i [])) (fun i j C hi hj hC=>?_) _ (tO (by omega)) ?_
  ·obtain⟨a,t,ea,et,ra,_⟩:=cK zA hi
   obtain⟨b,w,eb,ew,rb,_⟩:=cK zA hj
   obtain⟨Ez,r1,⟨o1,g1,c1,m1,d1⟩,_⟩:=I1.tuple (dk.of ra)
   obtain⟨lu,r2,⟨o2,g2,c2,m2,d2⟩,_⟩:=I1.tuple (dk.of rb)
   unfold kas_ask
   have v1:(as.map Value.ref).getD i Value.none= .ref a:=by simp[List.getD,ea]
   have v2:(as.map Value.ref).getD j Value.none= .ref b:=by simp[List.getD,eb]
   rw[v1,v2]
   refine kat_lt g1 d1 g2 d2 (jh 0 (by simpa using ints_of r1) (by simpa using ints_of r2) (fun _=>by simp) ?_)
   have t1:ts.getD i []=t:=by simp[List.getD,et]
   have t2:ts.getD j []=w:=by simp[List.getD,ew]
   have hC:C (bc (ts.getD j []) (ts.getD i [])) _:=hC
   rw[t1,t2]at hC
   exact hC
  ·generalize UC:ev (fun i j=>bc (ts.getD j []) (ts.getD i [])) (kas_sort as.length)=p at*
   refine KasFin.intro F' N' (.head fun z hz=>Nat.ne_of_lt (hD z hz)) fun UD c2 F2 N2=>?_
   have LK:∀l:List Nat,(∀i∈l,i<as.length)→Vals ((l.map fun i=>as.getD i 0).map V.ref) (l.map fun i=>(as.map Value.ref).getD i Value.none):=fun l=>by
    induction l with
    |nil=>exact fun _=>.nil
    |cons i l ih=>
     intro i9
     have hi:i<as.length:=i9 i List.mem_cons_self
     refine .cons ?_ (ih fun j hj=>i9 j (List.mem_cons_of_mem _ hj))
     show(as.map Value.ref).getD i Value.none=Value.ref (as.getD i 0)
     simp[List.getD,hi]
   have lp:p.toList.length=as.length:=by rw[Array.length_toList];exact S.2.1
   obtain⟨I2,_⟩:=I.uN F.ns F2 N2 hD (LK p.toList hp) (by rw[List.length_map,List.length_map,lp,sizeLine_eq];omega)
   refine⟨.ref D,_,I2,rfl,q D (p.toList.map fun i=>as.getD i 0) (p.toList.map fun i=>ts.getD i []) wF ?_ ?_ ?_⟩
   ·have:∀l:List Nat,(∀i∈l,i<as.length)→Paired (fun(a:Addr) (t:List Int)=>H a=some (.tup (t.map V.int))) (l.map fun i=>as.getD i 0) (l.map fun i=>ts.getD i []):=fun l=>by
     induction l with
     |nil=>exact fun _=>.nil
     |cons i l ih=>
      intro i9
      obtain⟨a,t,ea,et,ra,_⟩:=cK pr (i9 i List.mem_cons_self)
      refine .cons ?_ (ih fun j hj=>i9 j (List.mem_cons_of_mem _ hj))
      have t1:ts.getD i []=t:=by simp[List.getD,et]
      have a1:as.getD i 0=a:=by simp[List.getD,ea]
      show H (as.getD i 0)=some (.tup ((ts.getD i []).map V.int))
      rw[t1,a1]
      exact ra
    exact this p.toList hp
   ·have e:=(Array.perm_iff_toList_perm.mp S.2.2).map fun i=>ts.getD i []
    rw[rj]at e
    have e2:(List.range ts.length).toArray.toList=List.range ts.length:=rfl
    rw[e2,range_getD]at e
    exact e
   ·rw[List.pairwise_map,List.pairwise_iff_getElem]
    intro i j hi hj eI
    have:=S.1 i j (Nat.le_of_lt eI) (by omega)
    have a1:at_ p i=p.toList[i]:=by rw[jk];simp at hi ⊢;simp[hi]
    have a2:at_ p j=p.toList[j]:=by rw[jk];simp at hj ⊢;simp[hj]
    rw[a1,a2]at this
    exact this
end
end L2
namespace Qm
open PySem
noncomputable section
def rowOf(d:D):Option (List Int):=match d with
 |.tup xs=>nums xs
 |_=>none
def jm(a b:List Int):Bool:=!bc a b
def pT:FN:=one fun x c=>(br x c).bind fun l=>(omap rowOf l.2).bind fun rs=>if rs.length<64∧rs.all (fun r=>!r.isEmpty)=true then some (.ref c.length,c++[.lst ((rs.mergeSort jm).map fun r=>.tup (r.map .int))])else none
end
end Qm
namespace L2
open PySem PySem.Spec PyProof.Rows PySem.W
theorem iX:∀a b:List Int,bc a b=false→bc b a=false→a=b
 |[],[],_,_=>rfl
 |[],_::_,_,h=>by simp[bc]at h
 |_::_,[],h,_=>by simp[bc]at h
 |x::a,y::b,h1,h2=>by
  by_cases e:x=y
  ·subst e
   simp[bc]at h1 h2
   rw[iX a b h1 h2]
  ·simp[bc,e,Ne.symm e]at h1 h2
   omega
theorem eS:∀{xs ys:List (List Int)},xs.Perm ys→xs.Pairwise (fun a b=>bc a b=false)→ys.Pairwise (fun a b=>bc a b=false)→xs=ys
 |[],_,p,_,_=>(List.nil_perm.mp p).symm
 |x::xs,[],p,_,_=>absurd p.length_eq (by simp)
 |x::xs,y::ys,p,h1,h2=>by
  have e:x=y:=by
   have m1:x∈y::ys:=p.subset List.mem_cons_self
   have m2:y∈x::xs:=p.symm.subset List.mem_cons_self
   rcases List.mem_cons.mp m1 with e|m1
   ·exact e
   rcases List.mem_cons.mp m2 with e|m2
   ·exact e.symm
   exact iX _ _ ((List.pairwise_cons.mp h1).1 _ m2) ((List.pairwise_cons.mp h2).1 _ m1)
  subst e
  rw[eS (List.Perm.cons_inv p) (List.pairwise_cons.mp h1).2 (List.pairwise_cons.mp h2).2]
theorem w_{us ts:List (List Int)}(p:us.Perm ts)(h:us.Pairwise (fun a b=>bc a b=false)):us=ts.mergeSort Qm.jm:=by
 refine eS (p.trans (List.mergeSort_perm ..).symm) h ?_
 have:=List.pairwise_mergeSort (le:=Qm.jm) (fun a b c h1 h2=>by
  unfold Qm.jm at*
  simp only[Bool.not_eq_true',←pS]at*
  exact kN a b c h1 h2) (fun a b=>by
  unfold Qm.jm
  simp only[Bool.or_eq_true,Bool.not_eq_true',←pS]
  cases h:bc a b with
  |false=>exact .inl rfl
  |true=>exact .inr (gs _ _ h)) ts
 exact this.imp fun h=>by
  unfold Qm.jm at h
  simpa only[Bool.not_eq_true',←pS]using h
section
variable{K:PySem.W.Frag}{ρ:Nat→Addr}{N:Nat}{H:Hp}
theorem nA:∀{ds:List Qm.D}{ws:List V}{ts:List (List Int)},RA K ρ N H ds ws→Qm.omap Qm.rowOf ds=some ts→∃as:List Addr,ws=as.map V.ref∧Paired (fun(a:Addr) (t:List Int)=>H a=some (.tup (t.map V.int))) as ts
 |_,_,_,.nil,e=>by
  cases e
  exact⟨[],rfl,.nil⟩
 |_,_,_,.cons (d:=d) r t,e=>by
  simp only[Qm.omap]at e
  obtain⟨z,e1,e⟩:=aE e
  obtain⟨zs,e2,e⟩:=aE e
  cases e
  obtain⟨as,rfl,pr⟩:=nA t e2
  unfold Qm.rowOf at e1
  split at e1
  ·obtain⟨p,xs,rfl,h1,a1⟩:=r.mZ
   rw[wG a1 e1]at h1
   exact⟨p::as,rfl,.cons h1 pr⟩
  ·cases e1
theorem rk:∀{as:List Addr}{ts:List (List Int)},Paired (fun(a:Addr) (t:List Int)=>H a=some (.tup (t.map V.int))) as ts→RA K ρ N H (ts.map fun r=>Qm.D.tup (r.map .int)) (as.map V.ref)
 |_,_,.nil=>.nil
 |_,_,.cons r t=>.cons (.tup r (j5 _)) (rk t)
theorem oY{as:List Addr}{ts:List (List Int)}(h:Paired (fun(a:Addr) (t:List Int)=>H a=some (.tup (t.map V.int))) as ts)(h2:∀t∈ts,t≠[]):Paired (fun(a:Addr) (t:List Int)=>H a=some (.tup (t.map V.int))∧t≠[]) as ts:=by
 induction h with
 |nil=>exact .nil
 |cons r t ih=>exact .cons ⟨r,h2 _ List.mem_cons_self⟩ (ih fun t ht=>h2 t (List.mem_cons_of_mem _ ht))
end
theorem B4{K:PySem.W.Frag}:qN K (fun xs H Q=>∃(l:Addr) (as:List Addr) (ts:List (List Int)),xs=[.ref l]∧cU K H l (as.map V.ref)∧Paired (fun(a:Addr) (t:List Int)=>H a=some (.tup (t.map V.int))∧t≠[]) as ts∧as.length<64∧
  ∀(D:Addr) (bs:List Addr) (us:List (List Int)),H D=none→Paired (fun(a:Addr) (t:List Int)=>H a=some (.tup (t.map V.int))) bs us→us.Perm ts→us.Pairwise (fun a b=>bc a b=false)→Q (.ref D) (upd H D (.lst (bs.map V.ref)))) Qm.pT:=by
 intro ρ c H ds d c' vs Q rs ra e k
 obtain⟨x,rfl,e⟩:=ia e
 obtain⟨v,rfl,rx⟩:=ra.iT
 obtain⟨l,e1,e⟩:=aE e
 obtain⟨ts,e2,e⟩:=aE e
 split at e
 ·rename_i hz
  cases e
  obtain⟨_,hc,ws,rfl,h1,a1⟩:=rs.br rx e1
  obtain⟨as,rfl,pr⟩:=nA a1 e2
  have rj:as.length=ts.length:=Paired.length pr
  have lL:∀t∈ts,t≠[]:=fun t ht z=>by
   have:=List.all_eq_true.mp hz.2 t ht
   rw[z]at this;simp at this
  refine⟨_,as,ts,rfl,cU.of h1,oY pr lL,by rw[rj];exact hz.1,fun D bs us hD pb pm wZ=>?_⟩
  rw[w_ pm wZ]at pb
  obtain⟨n,r⟩:=Nx.alloc rs hD (rk pb)
  exact k _ _ _ n r
 ·cases e
end L2
namespace PySem
namespace SetTable
theorem ot(xs:Array Nat)(j:Nat)(hr:xs.toList.Pairwise (·< ·)):∀(fuel lo hi:Nat),hi - lo≤fuel→lo≤hi→hi≤xs.size→
  (∀i x,i<lo→xs[i]? =some x→x<j)→(∀i x,hi≤i→xs[i]? =some x→j≤x)→
  ∃r,below.go xs j fuel lo hi=r∧r≤xs.size∧(∀i x,i<r→xs[i]? =some x→x<j)∧(∀i x,r≤i→xs[i]? =some x→j≤x)
 |0,lo,hi,hf,hl,hh,h1,h2=>by
  have e:lo=hi:=by omega
  subst e
  exact⟨lo,rfl,hh,h1,h2⟩
 |fuel+1,lo,hi,hf,hl,hh,h1,h2=>by
  unfold below.go
  by_cases da:lo<hi
  ·rw[if_pos da]
   have hm:(lo+hi) / 2<xs.size:=by omega
   have em:xs[(lo+hi) / 2]? =some (xs[(lo+hi) / 2]):=Array.getElem?_eq_getElem hm
   have eg:xs.getD ((lo+hi) / 2) j=xs[(lo+hi) / 2]:=by simp[Array.getD,hm]
   have ord:∀a b x y,a<b→xs[a]? =some x→xs[b]? =some y→x<y:=fun a b x y dQ hx hy=>by
    have ha:a<xs.toList.length:=by have:=(Array.getElem?_eq_some_iff.mp hx).1;simpa using this
    have hb:b<xs.toList.length:=by have:=(Array.getElem?_eq_some_iff.mp hy).1;simpa using this
    have:=List.pairwise_iff_getElem.mp hr a b ha hb dQ
    obtain⟨_,rfl⟩:=Array.getElem?_eq_some_iff.mp hx
    obtain⟨_,rfl⟩:=Array.getElem?_eq_some_iff.mp hy
    simpa using this
   simp only[eg]
   by_cases hc:xs[(lo+hi) / 2] <j
   ·rw[if_pos hc]
    refine ot xs j hr fuel _ _ (by omega) (by omega) hh (fun i x wy hx=>?_) h2
    by_cases e:i=(lo+hi) / 2
    ·subst e;rw[em]at hx;cases hx;exact hc
    ·exact Nat.lt_trans (ord i _ _ _ (by omega) hx em) hc
   ·rw[if_neg hc]
    refine ot xs j hr fuel _ _ (by omega) (by omega) (by omega) h1 (fun i x wy hx=>?_)
    by_cases e:i=(lo+hi) / 2
    ·subst e;rw[em]at hx;cases hx;omega
    ·have:=ord _ i _ _ (by omega) em hx;omega
  ·rw[if_neg da]
   have e:lo=hi:=by omega
   subst e
   exact⟨lo,rfl,hh,h1,h2⟩
theorem ou{xs:Array Nat}(hr:xs.toList.Pairwise (·< ·))(j:Nat):below xs j≤xs.size∧(∀i x,i<below xs j→xs[i]? =some x→x<j)∧(∀i x,below xs j≤i→xs[i]? =some x→j≤x):=by
 obtain⟨r,e,h⟩:=ot xs j hr xs.size 0 xs.size (by omega) (by omega) (Nat.le_refl _) (fun i x h=>by omega) (fun i x h hx=>by
  have:=(Array.getElem?_eq_some_iff.mp hx).1;omega)
 have e':below xs j=r:=e
 rw[e']
 exact h
theorem below_at{xs:Array Nat}(hr:xs.toList.Pairwise (·< ·)){i j:Nat}(h:xs[i]? =some j):below xs j=i:=by
 obtain⟨h0,h1,h2⟩:=ou hr j
 rcases Nat.lt_trichotomy (below xs j) i with c|c|c
 ·exfalso
  have hb:below xs j<xs.size:=Nat.lt_trans c (Array.getElem?_eq_some_iff.mp h).1
  have e:=h2 _ _ (Nat.le_refl _) (Array.getElem?_eq_getElem hb)
  have:=List.pairwise_iff_getElem.mp hr (below xs j) i (by simpa using hb) (by simpa using(Array.getElem?_eq_some_iff.mp h).1) c
  obtain⟨_,e2⟩:=Array.getElem?_eq_some_iff.mp h
  simp only[Array.getElem_toList]at this
  omega
 ·exact c
 ·have:=h1 i j c h;omega
def zB(m:Nat)(p:Probe):Probe:=if p.more > 0 then { p with j:=p.j+1,more:=p.more - 1 } else
 { p with j:=(leap m p.i p.perturb).1,more:=runEnd m (leap m p.i p.perturb).1 - (leap m p.i p.perturb).1,i:=(leap m p.i p.perturb).1,perturb:=(leap m p.i p.perturb).2 }
def ru(m i pe:Nat):Probe:={ j:=i,more:=runEnd m i - i,i:=i,perturb:=pe,dummy:=none }
def pt(m:Nat)(h:Int):Nat→Probe
 |0=>ru m (bits h % (m+1)) (bits h)
 |n+1=>zB m (pt m h n)
def rn(m:Nat)(h:Int):Nat→Nat×Nat
 |0=>(bits h % (m+1),bits h)
 |k+1=>leap m (rn m h k).1 (rn m h k).2
theorem gG(m i:Nat):i≤runEnd m i∧runEnd m i - i≤9∧(i≤m→runEnd m i≤m):=by
 unfold runEnd
 split<;>omega
theorem uZ(m:Nat)(h:Int)(n i pe:Nat)(e:pt m h n=ru m i pe):∀r,r≤runEnd m i - i→pt m h (n+r)= { ru m i pe with j:=i+r,more:=runEnd m i - i - r }
 |0,_=>by simpa[ru]using e
 |r+1,hr=>by
  have ih:=uZ m h n i pe e r (by omega)
  show zB m (pt m h (n+r))=_
  rw[ih]
  unfold zB
  rw[if_pos (show runEnd m i - i - r > 0 by omega)]
  simp only[ru,Probe.mk.injEq,and_true,true_and]
  omega
theorem B5(m:Nat)(h:Int)(n i pe:Nat)(e:pt m h n=ru m i pe):pt m h (n+(runEnd m i - i)+1)=ru m (leap m i pe).1 (leap m i pe).2:=by
 have:=uZ m h n i pe e (runEnd m i - i) (Nat.le_refl _)
 show zB m (pt m h (n+(runEnd m i - i)))=_
 rw[this]
 unfold zB
 rw[if_neg (by simp)]
 rfl
def nr(m:Nat)(h:Int):Nat→Nat
 |0=>0
 |k+1=>nr m h k+(runEnd m (rn m h k).1 - (rn m h k).1)+1
theorem u5(m:Nat)(h:Int):∀k,pt m h (nr m h k)=ru m (rn m h k).1 (rn m h k).2
 |0=>rfl
 |k+1=>B5 m h _ _ _ (u5 m h k)
theorem EA(m:Nat)(h:Int):∀k,nr m h k≤10*k
 |0=>by simp[nr]
 |k+1=>by have:=(gG m (rn m h k).1).2.1;have:=EA m h k;simp only[nr];omega
theorem EB(m:Nat)(h:Int):∀{a b:Nat},a<b→nr m h a<nr m h b
 |a,b+1,dQ=>by
  rcases Nat.lt_or_eq_of_le (Nat.le_of_lt_succ dQ)with c|c
  ·have:=EB m h c;simp only[nr];omega
  ·subst c;simp only[nr];omega
theorem EC(m:Nat)(h:Int):∀k,(rn m h k).2=bits h / 32 ^ k
 |0=>by simp[rn]
 |k+1=>by
  show(rn m h k).2 / 32=_
  rw[EC m h k,Nat.div_div_eq_div_mul,Nat.pow_succ]
theorem ED(h:Int):bits h<2 ^ 64:=by unfold bits;omega
theorem EF(m:Nat)(h:Int)(k:Nat)(hk: 13≤k):(rn m h k).2=0:=by
 rw[EC]
 refine Nat.div_eq_of_lt (Nat.lt_of_lt_of_le (ED h) ?_)
 calc 2 ^ 64≤32 ^ 13:=by decide
  _≤32 ^ k:=Nat.pow_le_pow_right (by decide) hk
def lc(m i:Nat):Nat:=(i*5+1) % (m+1)
def lcs(m:Nat):Nat→Nat→Nat
 |0,i=>i
 |k+1,i=>lc m (lcs m k i)
theorem xc(m:Nat)(h:Int):∀k,(rn m h (13+k)).1=lcs m k (rn m h 13).1
 |0=>rfl
 |k+1=>by
  show(leap m (rn m h (13+k)).1 (rn m h (13+k)).2).1=_
  rw[EF m h (13+k) (by omega)]
  unfold leap
  simp only[Nat.zero_div,Nat.add_zero]
  rw[xc m h k]
  rfl
theorem EG(m:Nat)(h:Int):∀k,(rn m h k).1≤m
 |0=>Nat.le_of_lt_succ (Nat.mod_lt (bits h) (Nat.succ_pos m))
 |k+1=>Nat.le_of_lt_succ (Nat.mod_lt ((rn m h k).1*5+1+(rn m h k).2 / 32) (Nat.succ_pos m))
def Full(m:Nat):Prop:=∀i j,i≤m→j≤m→∃k,k≤m∧lcs m k i=j
def zC(m:Nat):Nat→Nat→List Nat
 |0,_=>[]
 |k+1,i=>i::zC m k (lc m i)
theorem tP(m:Nat):∀k i,lcs m (k+1) i=lcs m k (lc m i)
 |0,i=>rfl
 |k+1,i=>by
  show lc m (lcs m (k+1) i)=lc m (lcs m k (lc m i))
  rw[tP m k i]
theorem xf(m:Nat):∀n i k,k<n→(zC m n i)[k]? =some (lcs m k i)
 |0,_,_,h=>by omega
 |n+1,i,0,_=>rfl
 |n+1,i,k+1,h=>by
  show(zC m n (lc m i))[k]? =_
  rw[xf m n _ k (by omega),tP]
theorem xg(m:Nat):∀n i,(zC m n i).length=n
 |0,_=>rfl
 |n+1,i=>by simp[zC,xg m n]
theorem nB(m:Nat):∀a b i,lcs m (a+b) i=lcs m a (lcs m b i)
 |0,b,i=>by simp[lcs]
 |a+1,b,i=>by
  rw[Nat.add_right_comm]
  show lc m (lcs m (a+b) i)=lc m (lcs m a (lcs m b i))
  rw[nB m a b i]
theorem rl{m:Nat}(h1:(List.range (m+1)).all (fun j=>(zC m (m+1) 0).contains j)=true)(h2:lcs m (m+1) 0=0):Full m:=by
 have ex:∀j,j≤m→∃k,k≤m∧lcs m k 0=j:=fun j hj=>by
  have:=List.all_eq_true.mp h1 j (List.mem_range.mpr (by omega))
  have hm:j∈zC m (m+1) 0:=by simpa using this
  obtain⟨k,hk⟩:=List.getElem?_of_mem hm
  have B6:k<m+1:=by
   have:=(List.getElem?_eq_some_iff.mp hk).1
   rwa[xg]at this
  rw[xf m _ _ k B6]at hk
  exact⟨k,by omega,by injection hk⟩
 intro i j hi hj
 obtain⟨a,ha,rfl⟩:=ex i hi
 obtain⟨b,hb,rfl⟩:=ex j hj
 by_cases c:a≤b
 ·exact⟨b - a,by omega,by rw[←nB];congr 1;omega⟩
 ·refine⟨b+(m+1) - a,by omega,?_⟩
  rw[←nB,show b+(m+1) - a+a=b+(m+1)by omega,nB,h2]
theorem LL:Full 7:=rl (by decide +kernel) (by decide +kernel)
theorem Hq:Full 31:=rl (by decide +kernel) (by decide +kernel)
theorem EH:Full 127:=rl (by decide +kernel) (by decide +kernel)
theorem AU{m:Nat}(F:Full m)(h:Int){j:Nat}(hj:j≤m):∃k,k<m+14∧(rn m h k).1=j:=by
 obtain⟨k,hk,e⟩:=F (rn m h 13).1 j (EG m h 13) hj
 exact⟨13+k,by omega,by rw[xc,e]⟩
theorem zD{m:Nat}(F:Full m)(h:Int){j:Nat}(hj:j≤m):∃n,n<10*(m+14)∧(pt m h n).j=j:=by
 obtain⟨k,hk,e⟩:=AU F h hj
 exact⟨nr m h k,by have:=EA m h k;omega,by rw[u5,e];rfl⟩
theorem lX(m:Nat)(h:Int):∀n,(pt m h n).j≤m∧(pt m h n).j+(pt m h n).more=runEnd m (pt m h n).i∧(pt m h n).i≤m∧(pt m h n).dummy=none
 |0=>by
  have h1:=EG m h 0
  have h2:=gG m (rn m h 0).1
  refine⟨h1,?_,h1,rfl⟩
  show(rn m h 0).1+(runEnd m (rn m h 0).1 - (rn m h 0).1)=runEnd m (rn m h 0).1
  omega
 |n+1=>by
  obtain⟨h1,h2,h3,h4⟩:=lX m h n
  have e:pt m h (n+1)=zB m (pt m h n):=rfl
  rw[e]
  unfold zB
  have h5:=gG m (pt m h n).i
  split
  ·dsimp only
   exact⟨by omega,by omega,h3,h4⟩
  ·dsimp only
   have h6:(leap m (pt m h n).i (pt m h n).perturb).1≤m:=Nat.le_of_lt_succ (Nat.mod_lt _ (Nat.succ_pos m))
   have h7:=gG m (leap m (pt m h n).i (pt m h n).perturb).1
   exact⟨h6,by omega,h6,h4⟩
end SetTable
end PySem
namespace PySem
namespace SetTable
theorem least{p:Nat→Prop}:∀n,p n→∃m,m≤n∧p m∧∀k<m,¬p k:=by
 intro n
 induction n using Nat.strongRecOn with
 |_ n ih=>
  intro h
  by_cases c:∃k,k<n∧p k
  ·obtain⟨k,hk,pk⟩:=c
   obtain⟨m,h1,h2,h3⟩:=ih k hk pk
   exact⟨m,by omega,h2,h3⟩
  ·exact⟨n,Nat.le_refl _,h,fun k hk pk=>c ⟨k,hk,pk⟩⟩
theorem zE{l:List Nat}{m:Nat}(hl:l.length≤m):∃j,j≤m∧j∉l:=by
 refine Classical.byContradiction fun c=>?_
 have hs:List.range (m+1) ⊆ l:=fun j hj=>Classical.byContradiction fun h=>c ⟨j,by have:=List.mem_range.mp hj;omega,h⟩
 have:=(List.nodup_range (n:=m+1)).length_le_of_subset hs
 rw[List.length_range]at this
 omega
structure oz(t:SetTable)(hs:List Int):Prop where
 EI:t.dummies= #[]
 len:t.place.size=hs.length
 sM:t.place.toList.Pairwise (·< ·)
 le:∀j∈t.place.toList,j≤t.mask
 Pf:Full t.mask
 odd:t.mask % 2=1
 room:hs.length≤t.mask
 way:∀q∈t.place.toList.zip hs,∃n,(pt t.mask q.2 n).j=q.1∧∀k<n,(pt t.mask q.2 k).j∈t.place.toList
theorem rm{t:SetTable}(hr:t.place.toList.Pairwise (·< ·)){i j:Nat}(h:t.place[i]? =some j):t.slot j= .live i:=by
 unfold slot
 simp only[below_at hr h,h,beq_self_eq_true,if_true]
theorem xi{t:SetTable}(hd:t.dummies= #[]){j:Nat}(h:j∉t.place.toList):t.slot j= .empty:=by
 unfold slot
 have h1:(t.place[below t.place j]?==some j)=false:=by
  refine Bool.eq_false_iff.mpr fun e=>h ?_
  have:=eq_of_beq e
  rw[←Array.getElem?_toList]at this
  exact List.mem_of_getElem? this
 simp[h1,hd,has]
theorem oz.first{t:SetTable}{hs:List Int}(T:oz t hs)(h:Int):∃N,N<10*(t.mask+14)∧(pt t.mask h N).j∉t.place.toList∧∀k<N,(pt t.mask h k).j∈t.place.toList:=by
 obtain⟨j,hj,hn⟩:=zE (l:=t.place.toList) (m:=t.mask) (by rw[Array.length_toList,T.len];exact T.room)
 obtain⟨n,LJ,wu⟩:=zD T.Pf h hj
 obtain⟨N,h1,h2,h3⟩:=least (p:=fun n=>(pt t.mask h n).j∉t.place.toList) n (by rw[wu];exact hn)
 exact⟨N,by omega,h2,fun k hk=>Classical.byContradiction fun c=>h3 k hk c⟩
theorem fits_of{t:SetTable}{hs:List Int}(T:oz t hs):t.fits hs.length=true:=by
 unfold fits fill
 rw[T.EI,T.len]
 simp[T.room]
theorem j8{α β:Type}(a:α)(b:β):∀(p:Nat) (xs:List α) (ys:List β),xs.length=ys.length→(xs.take p++a::xs.drop p).zip (ys.take p++b::ys.drop p)=(xs.zip ys).take p++(a,b)::(xs.zip ys).drop p
 |0,xs,ys,_=>by simp
 |p+1,[],[],_=>by simp
 |p+1,[],_::_,h=>by simp at h
 |p+1,_::_,[],h=>by simp at h
 |p+1,x::xs,y::ys,h=>by simp[j8 a b p xs ys (by simpa using h)]
theorem oz.put{t:SetTable}{hs:List Int}(T:oz t hs){h:Int}{N:Nat}(hN:(pt t.mask h N).j∉t.place.toList)(hb:∀k<N,(pt t.mask h k).j∈t.place.toList)(LM:hs.length+1≤t.mask):
  oz (t.put (pt t.mask h N).j).1 (hs.take (below t.place (pt t.mask h N).j)++h::hs.drop (below t.place (pt t.mask h N).j)):=by
 generalize hj:(pt t.mask h N).j=j at*
 obtain⟨b0,b1,b2⟩:=ou T.sM j
 have ep:(t.put j).1.place.toList=t.place.toList.take (below t.place j)++j::t.place.toList.drop (below t.place j):=by
  unfold SetTable.put
  exact toList_insertAt ..
 have em:(t.put j).1.mask=t.mask:=rfl
 have ed:(t.put j).1.dummies= #[]:=by
  unfold SetTable.put
  simp[T.EI,has]
 have el:(t.put j).1.place.size=hs.length+1:=by
  rw[←Array.length_toList,ep]
  have:=T.len
  simp only[List.length_append,List.length_take,List.length_cons,List.length_drop,Array.length_toList]
  omega
 have xj:∀x,x∈t.place.toList→x∈(t.put j).1.place.toList:=fun x hx=>by
  rw[ep]
  rw[←List.take_append_drop (below t.place j) t.place.toList]at hx
  rcases List.mem_append.mp hx with h|h
  ·exact List.mem_append_left _ h
  ·exact List.mem_append_right _ (List.mem_cons_of_mem _ h)
 have sub:∀x,x∈(t.put j).1.place.toList→x=j∨x∈t.place.toList:=fun x hx=>by
  rw[ep]at hx
  rcases List.mem_append.mp hx with h|h
  ·exact .inr (List.mem_of_mem_take h)
  ·rcases List.mem_cons.mp h with h|h
   ·exact .inl h
   ·exact .inr (List.mem_of_mem_drop h)
 have Js:∀x∈t.place.toList.take (below t.place j),x<j:=fun x hx=>by
  obtain⟨i,hi⟩:=List.getElem?_of_mem hx
  rw[List.getElem?_take]at hi
  split at hi
  ·exact b1 i x (by assumption) (by rw[←Array.getElem?_toList];exact hi)
  ·cases hi
 have EJ:∀x∈t.place.toList.drop (below t.place j),j<x:=fun x hx=>by
  obtain⟨i,hi⟩:=List.getElem?_of_mem hx
  rw[List.getElem?_drop]at hi
  have:=b2 _ x (Nat.le_add_right _ i) (by rw[←Array.getElem?_toList];exact hi)
  have lL:x≠j:=fun e=>hN (by rw[←e];exact List.mem_of_getElem? hi)
  omega
 refine⟨ed,?_,?_,?_,T.Pf,T.odd,?_,?_⟩
 ·rw[el]
  simp only[List.length_append,List.length_take,List.length_cons,List.length_drop]
  omega
 ·rw[ep,List.pairwise_append]
  refine⟨T.sM.sublist (List.take_sublist ..),?_,fun x hx y hy=>?_⟩
  ·rw[List.pairwise_cons]
   exact⟨EJ,T.sM.sublist (List.drop_sublist ..)⟩
  ·rcases List.mem_cons.mp hy with rfl|hy
   ·exact Js x hx
   ·exact Nat.lt_trans (Js x hx) (EJ y hy)
 ·intro x hx
  rcases sub x hx with rfl|hx
  ·rw[em,←hj];exact(lX t.mask h N).1
  ·exact T.le x hx
 ·show _≤t.mask
  simp only[List.length_append,List.length_take,List.length_cons,List.length_drop]
  omega
 ·intro q hq
  rw[ep,j8 j h _ _ _ (by rw[Array.length_toList,T.len])]at hq
  rw[em]
  have old:q∈t.place.toList.zip hs→∃n,(pt t.mask q.2 n).j=q.1∧∀k<n,(pt t.mask q.2 k).j∈(t.put j).1.place.toList:=fun hq=>by
   obtain⟨n,h1,h2⟩:=T.way q hq
   exact⟨n,h1,fun k hk=>xj _ (h2 k hk)⟩
  rcases List.mem_append.mp hq with hq|hq
  ·exact old (List.mem_of_mem_take hq)
  ·rcases List.mem_cons.mp hq with rfl|hq
   ·exact⟨N,hj,fun k hk=>xj _ (hb k hk)⟩
   ·exact old (List.mem_of_mem_drop hq)
theorem oz.tQ{t:SetTable}{hs:List Int}(T:oz t hs)(at':Nat→Int)(h:Int){N:Nat}(hN:(pt t.mask h N).j∉t.place.toList)(hb:∀k<N,(pt t.mask h k).j∈t.place.toList):
  ∀(fuel a:Nat),a≤N→N - a<fuel→∃b,a≤b∧b≤N∧(∀k,a≤k→k<b→∃i,t.place[i]? =some (pt t.mask h k).j∧at' i≠h)∧
   ((b=N∧probe.go t at' h fuel (pt t.mask h a)=some (.empty (pt t.mask h N).j none))∨
    (b<N∧∃i,t.place[i]? =some (pt t.mask h b).j∧at' i=h∧probe.go t at' h fuel (pt t.mask h a)=some (.candidate (pt t.mask h b).j i (pt t.mask h (b+1)))))
 |0,a,_,hf=>by omega
 |fuel+1,a,ha,hf=>by
  rcases Nat.lt_or_eq_of_le ha with c|c
  ·obtain⟨i,hi⟩:=List.getElem?_of_mem (hb a c)
   rw[Array.getElem?_toList]at hi
   have es:=rm T.sM hi
   by_cases e:at' i=h
   ·refine⟨a,Nat.le_refl _,ha,fun k h1 h2=>by omega,.inr ⟨c,i,hi,e,?_⟩⟩
    unfold probe.go
    rw[es]
    simp only[e,beq_self_eq_true,if_true]
    rfl
   ·obtain⟨b,h1,h2,h3,h4⟩:=T.tQ at' h hN hb fuel (a+1) (by omega) (by omega)
    have eg:probe.go t at' h (fuel+1) (pt t.mask h a)=probe.go t at' h fuel (pt t.mask h (a+1)):=by
     conv=>lhs;unfold probe.go
     rw[es]
     have:(at' i==h)=false:=by simpa using e
     simp only[this,Bool.false_eq_true,if_false]
     rfl
    rw[eg]
    refine⟨b,by omega,h2,fun k g1 g2=>?_,h4⟩
    rcases Nat.lt_or_eq_of_le g1 with g|g
    ·exact h3 k g g2
    ·subst g;exact⟨i,hi,e⟩
  ·subst c
   refine⟨a,Nat.le_refl _,Nat.le_refl _,fun k h1 h2=>by omega,.inl ⟨rfl,?_⟩⟩
   unfold probe.go
   rw[xi T.EI hN]
   simp only[(lX t.mask h a).2.2.2]
end SetTable
end PySem
namespace PySem
namespace SetTable
def la(ow:Array (Option Nat))(j:Nat):Prop:=(ow.getD j (some 0)).isNone=false
structure oA(m:Nat)(ow:Array (Option Nat))(hs:List Int):Prop where
 size:ow.size=m+1
 val:∀j k:Nat,ow[j]? =some (some k)→∃h,hs[k]? =some h∧∃n,(pt m h n).j=j∧∀i<n,la ow (pt m h i).j
 ex:∀k,k<hs.length→∃j:Nat,ow[j]? =some (some k)
 inj:∀j j' k:Nat,ow[j]? =some (some k)→ow[j']? =some (some k)→j=j'
theorem j9{ow:Array (Option Nat)}{j:Nat}(hj:j<ow.size):la ow j↔∃k,ow[j]? =some (some k):=by
 unfold la
 have e:ow[j]? =some ow[j]:=Array.getElem?_eq_getElem hj
 have e2:ow.getD j (some 0)=ow[j]:=by simp[Array.getD,hj]
 rw[e2,e]
 cases ow[j]<;>simp
theorem EK{ow:Array (Option Nat)}{j:Nat}(hj:j<ow.size)(h:¬la ow j):ow[j]? =some none:=by
 have e:ow[j]? =some ow[j]:=Array.getElem?_eq_getElem hj
 cases h':ow[j] with
 |none=>rw[e,h']
 |some k=>exact absurd ((j9 hj).mpr ⟨k,by rw[e,h']⟩) h
theorem oA.free{m:Nat}{ow:Array (Option Nat)}{hs:List Int}(O:oA m ow hs)(hr:hs.length≤m):∃j,j≤m∧¬la ow j:=by
 refine Classical.byContradiction fun c=>?_
 have all:∀j,j≤m→∃k,ow[j]? =some (some k):=fun j hj=>(j9 (by rw[O.size];omega)).mp (Classical.byContradiction fun h=>c ⟨j,hj,h⟩)
 let f:Nat→Nat:=fun j=>(ow.getD j none).getD 0
 have fv:∀j k:Nat,ow[j]? =some (some k)→f j=k:=fun j k h=>by
  obtain⟨hj,e⟩:=Array.getElem?_eq_some_iff.mp h
  simp[f,Array.getD,hj,e]
 have nd:((List.range (m+1)).map f).Nodup:=by
  rw[List.nodup_iff_pairwise_ne,List.pairwise_map]
  refine(List.nodup_iff_pairwise_ne.mp (List.nodup_range (n:=m+1))).imp_of_mem fun {a b} ha hb dQ e=>dQ ?_
  obtain⟨k,hk⟩:=all a (by have:=List.mem_range.mp ha;omega)
  obtain⟨k',ix⟩:=all b (by have:=List.mem_range.mp hb;omega)
  have e:f a=f b:=e
  rw[fv a k hk,fv b k' ix]at e
  subst e
  exact O.inj a b k hk ix
 have sb:(List.range (m+1)).map f ⊆ List.range hs.length:=fun x hx=>by
  obtain⟨j,hj,rfl⟩:=List.mem_map.mp hx
  obtain⟨k,hk⟩:=all j (by have:=List.mem_range.mp hj;omega)
  rw[fv j k hk]
  obtain⟨h,e,_⟩:=O.val j k hk
  exact List.mem_range.mpr (List.getElem?_eq_some_iff.mp e).1
 have:=nd.length_le_of_subset sb
 simp at this
 omega
theorem xk{m:Nat}(F:Full m)(h:Int){ow:Array (Option Nat)}(hz:ow.size=m+1){j0:Nat}(Hr:j0≤m)(Hs:¬la ow j0):
  ∀(fuel r:Nat),r+fuel=m+15→(∀k<nr m h r,la ow (pt m h k).j)→∃N,layClean.free m ow fuel (rn m h r).1 (rn m h r).2=some (pt m h N).j∧¬la ow (pt m h N).j∧∀k<N,la ow (pt m h k).j
 |0,r,hf,hb=>by
  exfalso
  obtain⟨k,hk,e⟩:=AU F h Hr
  have:=hb (nr m h k) (EB m h (by omega))
  rw[u5,e]at this
  exact Hs this
 |fuel+1,r,hf,hb=>by
  have run:∀k,k≤runEnd m (rn m h r).1 - (rn m h r).1→(pt m h (nr m h r+k)).j=(rn m h r).1+k:=fun k hk=>by
   rw[uZ m h _ _ _ (u5 m h r) k hk]
  have hle:=gG m (rn m h r).1
  unfold layClean.free
  cases xl:(List.range (runEnd m (rn m h r).1+1 - (rn m h r).1)).find? fun k=>(ow.getD ((rn m h r).1+k) (some 0)).isNone with
  |some k=>
   have hp:=List.find?_some xl
   have hm:=List.mem_range.mp (List.mem_of_find?_eq_some xl)
   refine⟨nr m h r+k,?_,?_,fun i hi=>?_⟩
   ·simp only
    rw[run k (by omega)]
   ·rw[run k (by omega)]
    unfold la
    rw[hp]
    simp
   ·by_cases c:i<nr m h r
    ·exact hb i c
    ·obtain⟨d,rfl⟩:∃d,i=nr m h r+d:=⟨i - nr m h r,by omega⟩
     rw[run d (by omega)]
     rw[List.find?_range_eq_some]at xl
     have:=xl.2.2 d (by omega)
     unfold la
     simpa using this
  |none=>
   have eF:=List.find?_eq_none.mp xl
   refine xk F h hz Hr Hs fuel (r+1) (by omega) fun i hi=>?_
   by_cases c:i<nr m h r
   ·exact hb i c
   ·obtain⟨d,rfl⟩:∃d,i=nr m h r+d:=⟨i - nr m h r,by omega⟩
    simp only[nr]at hi
    rw[run d (by omega)]
    have:=eF d (List.mem_range.mpr (by omega))
    unfold la
    exact Bool.eq_false_iff.mpr this
theorem oA.step{m:Nat}{ow:Array (Option Nat)}{hs:List Int}(O:oA m ow hs){h:Int}{N:Nat}(hn:¬la ow (pt m h N).j)(hb:∀k<N,la ow (pt m h k).j):
  oA m (ow.setIfInBounds (pt m h N).j (some hs.length)) (hs++[h]):=by
 have hj:(pt m h N).j<ow.size:=by rw[O.size];have:=(lX m h N).1;omega
 have Bq:=EK hj hn
 have get:∀i:Nat,(ow.setIfInBounds (pt m h N).j (some hs.length))[i]? =if (pt m h N).j=i then some (some hs.length)else ow[i]? :=fun i=>by
  rw[Array.getElem?_setIfInBounds]
  split
  ·rename_i e;subst e;first|rw[if_pos hj]|rfl
  ·rfl
 have sz:(ow.setIfInBounds (pt m h N).j (some hs.length)).size=m+1:=by rw[Array.size_setIfInBounds,O.size]
 have Pg:∀i,i≤m→la ow i→la (ow.setIfInBounds (pt m h N).j (some hs.length)) i:=fun i hi h'=>by
  refine(j9 (by rw[sz];omega)).mpr ?_
  obtain⟨k,hk⟩:=(j9 (by rw[O.size];omega)).mp h'
  rw[get]
  split
  ·exact⟨_,rfl⟩
  ·exact⟨k,hk⟩
 refine⟨sz,fun j k hk=>?_,fun k hk=>?_,fun j j' k hk ix=>?_⟩
 ·rw[get]at hk
  split at hk
  ·rename_i e
   injection hk with hk;injection hk with hk
   subst hk
   exact⟨h,by simp,N,e,fun i hi=>Pg _ (lX m h i).1 (hb i hi)⟩
  ·obtain⟨h',e,n,e1,e2⟩:=O.val j k hk
   refine⟨h',?_,n,e1,fun i hi=>Pg _ (lX m h' i).1 (e2 i hi)⟩
   rw[List.getElem?_append_left (List.getElem?_eq_some_iff.mp e).1]
   exact e
 ·rw[List.length_append,List.length_singleton]at hk
  by_cases c:k=hs.length
  ·subst c
   exact⟨(pt m h N).j,by rw[get,if_pos rfl]⟩
  ·obtain⟨j,Ex⟩:=O.ex k (by omega)
   refine⟨j,?_⟩
   rw[get,if_neg]
   ·exact Ex
   ·intro e;subst e;rw[Bq]at Ex;cases Ex
 ·rw[get]at hk ix
  have lt:∀j:Nat,ow[j]? =some (some hs.length)→False:=fun j hj=>by
   obtain⟨_,e,_⟩:=O.val j _ hj
   have:=(List.getElem?_eq_some_iff.mp e).1
   omega
  split at hk<;>split at ix
  ·omega
  ·injection hk with hk;injection hk with hk
   subst hk
   exact(lt _ ix).elim
  ·injection ix with ix;injection ix with ix
   subst ix
   exact(lt _ hk).elim
  ·exact O.inj j j' k hk ix
theorem tR{m:Nat}(F:Full m):∀(rest:List Int) (hs:List Int) (ow:Array (Option Nat)),oA m ow hs→hs.length+rest.length≤m→
  ∃Ht,rest.foldl (init:=some (ow,hs.length)) (fun(acc:Option (Array (Option Nat)×Nat)) h=>do
   let (owner,k) ←acc
   let j ←layClean.free m owner (turns m) (bits h % (m+1)) (bits h)
   pure (owner.setIfInBounds j (some k),k+1))=some (Ht,hs.length+rest.length)∧oA m Ht (hs++rest)
 |[],hs,ow,O,_=>⟨ow,rfl,by simpa using O⟩
 |h::rest,hs,ow,O,hl=>by
  simp only[List.length_cons]at hl
  obtain⟨j0,Hr,Hs⟩:=O.free (by omega)
  obtain⟨N,e,hn,hb⟩:=xk F h O.size Hr Hs (turns m) 0 (by simp[turns]) (fun k hk=>by simp[nr]at hk)
  have e':layClean.free m ow (turns m) (bits h % (m+1)) (bits h)=some (pt m h N).j:=e
  rw[List.foldl_cons]
  simp only[Option.bind_eq_bind,Option.bind_some,e']
  have O':=O.step hn hb
  obtain⟨Ht,e1,O1⟩:=tR F rest (hs++[h]) _ O' (by simp;omega)
  rw[List.length_append,List.length_singleton]at e1
  refine⟨Ht,?_,by simpa using O1⟩
  rw[List.length_cons,show hs.length+(rest.length+1)=hs.length+1+rest.length by omega,←e1]
  rfl
theorem oA.nil(m:Nat):oA m (Array.replicate (m+1) none) []:=by
 have g:∀(j k:Nat),(Array.replicate (m+1) (none:Option Nat))[j]? =some (some k)→False:=fun j k h=>by
  rw[Array.getElem?_replicate]at h
  split at h<;>simp at h
 exact⟨by simp,fun j k h=>(g j k h).elim,fun k hk=>by simp at hk,fun j j' k h=>(g j k h).elim⟩
theorem u6{m:Nat}(F:Full m)(hs:Array Int)(hl:hs.size≤m):∃ow,layClean m hs=some ow∧oA m ow hs.toList:=by
 obtain⟨ow,e,O⟩:=tR F hs.toList [] _ (oA.nil m) (by simpa using hl)
 refine⟨ow,?_,by simpa using O⟩
 unfold layClean
 rw[←Array.foldl_toList]
 have:hs.toList.foldl (init:=some (Array.replicate (m+1) none,0)) (fun(acc:Option (Array (Option Nat)×Nat)) h=>do
   let (owner,k) ←acc
   let j ←layClean.free m owner (turns m) (bits h % (m+1)) (bits h)
   pure (owner.setIfInBounds j (some k),k+1))=some (ow,hs.toList.length):=by simpa using e
 rw[this]
 rfl
def lives(m:Nat)(ow:Array (Option Nat)):List (Nat×Nat):=(List.range (m+1)).filterMap fun j=>(ow.getD j none).map (j,·)
theorem d8{m:Nat}{ow:Array (Option Nat)}(hz:ow.size=m+1)(q:Nat×Nat):q∈lives m ow↔ow[q.1]? =some (some q.2):=by
 unfold lives
 rw[List.mem_filterMap]
 constructor
 ·rintro⟨j,hj,e⟩
  have hj:=List.mem_range.mp hj
  have e2:ow.getD j none=ow[j]:=by simp[Array.getD,hz,hj]
  rw[e2]at e
  cases h':ow[j] with
  |none=>rw[h']at e;cases e
  |some k=>
   rw[h']at e
   injection e with e
   subst e
   show ow[j]? =some (some k)
   rw[Array.getElem?_eq_getElem (by omega),h']
 ·intro e
  obtain⟨hj,e'⟩:=Array.getElem?_eq_some_iff.mp e
  refine⟨q.1,List.mem_range.mpr (by omega),?_⟩
  simp[Array.getD,hj,e']
theorem rp(m:Nat)(ow:Array (Option Nat)):((lives m ow).map (·.1)).Pairwise (·< ·):=by
 rw[List.pairwise_map]
 unfold lives
 rw[List.pairwise_filterMap]
 refine(List.pairwise_lt_range (n:=m+1)).imp fun {a b} dQ x hx y hy=>?_
 cases h1:ow.getD a none with
 |none=>rw[h1]at hx;cases hx
 |some k=>
  cases h2:ow.getD b none with
  |none=>rw[h2]at hy;cases hy
  |some k'=>
   rw[h1]at hx;rw[h2]at hy
   cases hx;cases hy
   exact dQ
theorem oA.perm{m:Nat}{ow:Array (Option Nat)}{hs:List Int}(O:oA m ow hs):((lives m ow).map (·.2)).Perm (List.range hs.length):=by
 have nd:((lives m ow).map (·.2)).Nodup:=by
  rw[List.nodup_iff_pairwise_ne,List.pairwise_map]
  have h1:=rp m ow
  rw[List.pairwise_map]at h1
  refine h1.imp_of_mem fun {a b} ha hb dQ e=>?_
  have ha:=(d8 O.size a).mp ha
  have hb:=(d8 O.size b).mp hb
  rw[e]at ha
  have:=O.inj _ _ _ ha hb
  omega
 refine(List.perm_ext_iff_of_nodup nd (List.nodup_range)).mpr fun k=>?_
 rw[List.mem_map,List.mem_range]
 constructor
 ·rintro⟨q,hq,rfl⟩
  obtain⟨h,e,_⟩:=O.val _ _ ((d8 O.size q).mp hq)
  exact(List.getElem?_eq_some_iff.mp e).1
 ·intro hk
  obtain⟨j,hj⟩:=O.ex k hk
  exact⟨(j,k),(d8 O.size (j,k)).mpr hj,rfl⟩
theorem j_{β:Type}(es:Array β):∀(l:List (Nat×Nat)),(∀q∈l,q.2<es.size)→∃ys:List β,(l.map (·.2)).filterMap (fun i=>es[i]?)=ys∧ys.length=l.length∧∀p∈(l.map (·.1)).zip ys,∃q∈l,q.1=p.1∧es[q.2]? =some p.2
 |[],_=>⟨[],rfl,rfl,fun p hp=>by simp at hp⟩
 |q::l,h=>by
  obtain⟨ys,e,h1,h2⟩:=j_ es l fun q hq=>h q (List.mem_cons_of_mem _ hq)
  have hq:q.2<es.size:=h q List.mem_cons_self
  have eq:es[q.2]? =some es[q.2]:=Array.getElem?_eq_getElem hq
  refine⟨es[q.2]::ys,?_,by simp[h1],fun p hp=>?_⟩
  ·rw[List.map_cons,List.filterMap_cons_some eq,e]
  ·rw[List.map_cons,List.zip_cons_cons]at hp
   rcases List.mem_cons.mp hp with rfl|hp
   ·exact⟨q,List.mem_cons_self,rfl,eq⟩
   ·obtain⟨q',h3,h4⟩:=h2 p hp
    exact⟨q',List.mem_cons_of_mem _ h3,h4⟩
theorem zF{β:Type}(t:SetTable)(es:Array (Int×β))(wanted:Nat){m:Nat}(hm:sizeAbove wanted - 1=m)(F:Full m)(xn:m % 2=1)(hl:es.size≤m):
  ∃t' order,t.relaid (es.map (·.1)) wanted=some (t',order)∧t'.mask=m∧t'.led=t.led∧t'.plain=t.plain∧(order.filterMap (es[·]?)).toList.Perm es.toList∧oz t' ((order.filterMap (es[·]?)).toList.map (·.1)):=by
 obtain⟨ow,e,O⟩:=u6 F (es.map (·.1)) (by simpa using hl)
 have jJ:=O.perm
 have hlen:((es.map (·.1)).toList).length=es.size:=by simp
 rw[hlen]at jJ
 have da:∀q∈lives m ow,q.2<es.size:=fun q hq=>by
  have:=jJ.mem_iff.mp (List.mem_map_of_mem hq)
  exact List.mem_range.mp this
 obtain⟨ys,ey,ly,hy⟩:=j_ es (lives m ow) da
 have el:(lives m ow).length=es.size:=by
  have:=jJ.length_eq
  simpa using this
 refine⟨{ mask:=m,place:=((lives m ow).map (·.1)).toArray,dummies:=#[],finger:=t.finger,led:=t.led,moves:=t.movedTo m,plain:=t.plain },((lives m ow).map (·.2)).toArray,?_,rfl,rfl,rfl,?_,?_⟩
 ·unfold relaid laid
  rw[hm,e]
  rfl
 ·rw[Array.toList_filterMap]
  refine(jJ.filterMap _).trans ?_
  rw[filterMap_getElem?_range]
 ·rw[Array.toList_filterMap]
  show oz _ (List.map _ (List.filterMap _ ((lives m ow).map (·.2))))
  rw[ey]
  refine⟨rfl,by simp[ly],by simpa using rp m ow,fun j hj=>?_,F,xn,by simp only[List.length_map];omega,fun q hq=>?_⟩
  ·have hj:j∈(lives m ow).map (·.1):=by simpa using hj
   obtain⟨q,hq,rfl⟩:=List.mem_map.mp hj
   have:=(Array.getElem?_eq_some_iff.mp ((d8 O.size q).mp hq)).1
   have:=O.size
   show q.1≤m
   omega
  ·have hq:q∈((lives m ow).map (·.1)).zip (ys.map (·.1)):=by simpa using hq
   rw[List.zip_map_right]at hq
   obtain⟨p,hp,rfl⟩:=List.mem_map.mp hq
   obtain⟨q',Hu,e1,e2⟩:=hy p hp
   have h1:=(d8 O.size q').mp Hu
   obtain⟨h,eh,n,en,hb⟩:=O.val _ _ h1
   have e3:h=p.2.1:=by
    simp only[Array.toList_map,List.getElem?_map,Array.getElem?_toList,e2]at eh
    simpa using eh.symm
   subst e3
   refine⟨n,by show _=p.1;rw[←e1];exact en,fun k hk=>?_⟩
   obtain⟨kk,UE⟩:=(j9 (by rw[O.size];have:=(lX m p.2.1 k).1;omega)).mp (hb k hk)
   show _∈(List.map _ (lives m ow)).toArray.toList
   rw[List.toList_toArray]
   exact List.mem_map.mpr ⟨(_,kk),(d8 O.size (_,kk)).mpr UE,rfl⟩
end SetTable
end PySem
namespace PySem
open Sem (wp)
namespace SetTable
section
variable{prog:Program}{w:World}{A:Around}{E:Value→Shared→Prop}{s:Shared}
abbrev IsT(prog:Program)(w:World)(h:Heap)(k:List Int)(a:Addr):Prop:=IsTupleKey (intKind prog w) h k a
theorem oZ{k:List Int}{vs:List Value}(h:ItemsAre (intKind prog w) k vs):∀v∈vs,∃i t,v=Value.int i t:=by
 induction h with
 |nil=>intro v hv;cases hv
 |cons h1 _ ih=>
  intro v hv
  rcases List.mem_cons.mp hv with rfl|hv
  ·obtain⟨t,e⟩:=Value.isInt_shape h1
   exact⟨_,t,e⟩
  ·exact ih v hv
theorem oB{k:List Int}{a:Addr}{Q:Bool→Shared→Prop}(hk:IsT prog w s.heap k a)(h:Q true s):wpAny (model prog w) A (hashByValue 8 (.ref a)) Q E s:=by
 have ty:=hk.typeIs
 obtain⟨o,items,n,ho,_,hd,hi⟩:=hk
 unfold hashByValue
 refine wpAny_bind (wpAny_specialOf ty F.slot_tuple_hash.lookup ?_)
 show wpAny _ _ (seqItems? (.ref a) >>= _) _ _ s
 refine wpAny_bind (wpAny_seqItems ho hd ?_)
 refine wpAny_bind ?_
 show wpAny _ _ (forIn items _ _) _ _ s
 rw[←Array.forIn_toList]
 refine wpAny_forIn_list _ (fun rest r s'=>r.1=none∧s'=s∧∀v∈rest,∃i t,v=Value.int i t) _ ?_ ?_ _ _ ⟨rfl,rfl,oZ hi⟩
 ·rintro v rest r s' ⟨hr,rfl,eF⟩
  obtain⟨i,t,rfl⟩:=eF v List.mem_cons_self
  rw[show hashByValue 7 (Value.int i t)=pure true from by simp[hashByValue]]
  refine wpAny_bind (wpAny_pure ?_)
  simp only[Bool.not_true,Bool.false_eq_true,if_false]
  exact wpAny_pure ⟨rfl,rfl,fun u uf=>eF u (List.mem_cons_of_mem _ uf)⟩
 ·rintro⟨r1,r2⟩ s' ⟨hr,rfl,_⟩
  simp only at hr
  subst hr
  exact wpAny_pure h
theorem lF{k:List Int}{a:Addr}{Q:Bool→Shared→Prop}(hk:IsT prog w s.heap k a)(h:Q false s):wpAny (model prog w) A (ofAClassStatement 8 (.ref a)) Q E s:=by
 have ty:=hk.typeIs
 obtain⟨o,items,n,ho,_,hd,hi⟩:=hk
 unfold ofAClassStatement
 refine wpAny_bind (wpAny_typeOf ty ?_)
 simp only[beq_self_eq_true,if_true]
 refine wpAny_bind (wpAny_pure ?_)
 simp only[Bool.not_true,Bool.false_eq_true,if_false]
 refine wpAny_bind (wpAny_seqItems ho hd ?_)
 show wpAny _ _ (forIn items _ _ >>= _) _ _ s
 refine wpAny_bind ?_
 rw[←Array.forIn_toList]
 refine wpAny_forIn_list _ (fun rest r s'=>r.1=none∧s'=s∧∀v∈rest,∃i t,v=Value.int i t) _ ?_ ?_ _ _ ⟨rfl,rfl,oZ hi⟩
 ·rintro v rest r s' ⟨hr,rfl,eF⟩
  obtain⟨i,t,rfl⟩:=eF v List.mem_cons_self
  rw[show ofAClassStatement 7 (Value.int i t)=pure false from by simp[ofAClassStatement]]
  refine wpAny_bind (wpAny_pure ?_)
  simp only[Bool.false_eq_true,if_false]
  exact wpAny_pure ⟨rfl,rfl,fun u uf=>eF u (List.mem_cons_of_mem _ uf)⟩
 ·rintro⟨r1,r2⟩ s' ⟨hr,rfl,_⟩
  simp only at hr
  subst hr
  exact wpAny_pure h
theorem B7{k:List Int}{a:Addr}{vs:List Value}{Q:Bool→Shared→Prop}(hk:IsT prog w s.heap k a)(hv:∀v∈vs,∃k' b,v= .ref b∧IsT prog w s.heap k' b)(h:Q false s):wpAny (model prog w) A (searchCouldBeSeen (.ref a) vs) Q E s:=by
 unfold searchCouldBeSeen
 refine wpAny_bind ?_
 refine wpAny_forIn_list _ (fun rest r s'=>r.1=none∧s'=s∧∀v∈rest,∃k' b,v= .ref b∧IsT prog w s.heap k' b) _ ?_ ?_ _ _ ⟨rfl,rfl,hv⟩
 ·rintro v rest r s' ⟨hr,rfl,eF⟩
  obtain⟨k',b,rfl,hb⟩:=eF v List.mem_cons_self
  simp only
  split
  ·exact wpAny_pure ⟨rfl,rfl,fun u uf=>eF u (List.mem_cons_of_mem _ uf)⟩
  ·refine wpAny_bind (wpAny_eqIsQuiet_tuple hk ?_)
   simp only[Bool.not_true,Bool.false_eq_true,if_false]
   refine wpAny_bind (wpAny_eqIsQuiet_tuple hb ?_)
   simp only[Bool.not_true,Bool.false_eq_true,if_false]
   refine wpAny_bind (lF hk ?_)
   simp only[Bool.false_eq_true,if_false]
   refine wpAny_bind (lF hb ?_)
   simp only[Bool.false_eq_true,if_false]
   exact wpAny_pure ⟨rfl,rfl,fun u uf=>eF u (List.mem_cons_of_mem _ uf)⟩
 ·rintro⟨r1,r2⟩ s' ⟨hr,rfl,_⟩
  simp only at hr
  subst hr
  exact wpAny_pure h
end
end SetTable
end PySem
namespace PySem
open Sem (wp)
namespace SetTable
section
variable{prog:Program}{w:World}{A:Around}{E:Value→Shared→Prop}{s:Shared}
def ff(prog:Program)(w:World)(x:List Int×Addr):Int×Value:=(tupleKeyHash (intKind prog w) x.1,.ref x.2)
theorem u7{xs:List (List Int×Addr)}{es:Array (Int×Value)}(he:es.toList=xs.map (ff prog w))(hk:∀x∈xs,IsT prog w s.heap x.1 x.2)(h:Int):
  ∀v∈(es.filter (·.1==h)).toList.map (·.2),∃k' b,v= .ref b∧IsT prog w s.heap k' b:=by
 intro v hv
 obtain⟨e,A_,rfl⟩:=List.mem_map.mp hv
 rw[Array.toList_filter]at A_
 have:=(List.mem_filter.mp A_).1
 rw[he]at this
 obtain⟨x,hx,rfl⟩:=List.mem_map.mp this
 exact⟨x.1,x.2,rfl,hk x hx⟩
theorem nC{a:Addr}{o:Obj}{es:Array (Int×Value)}{ep:Nat}{t:SetTable}{xs:List (List Int×Addr)}{x:Addr}{k:List Int}{AV:Bool}{Q:SetFound→Shared→Prop}
  (hu:A.units<cLine)(ho:s.heap.get? a=some o)(hd:o.data= .set es ep t)(he:es.toList=xs.map (ff prog w))(hk:∀x∈xs,IsT prog w s.heap x.1 x.2)
  (T:oz t (xs.map fun x=>tupleKeyHash (intKind prog w) x.1))(hx:IsT prog w s.heap k x){N:Nat}(hN:(pt t.mask (tupleKeyHash (intKind prog w) k) N).j∉t.place.toList)
  (hb:∀i<N,(pt t.mask (tupleKeyHash (intKind prog w) k) i).j∈t.place.toList)(LN:N<10*(t.mask+14))
  (h1:k∈xs.map (·.1)→∀r,Q (.there r) s)(h2:k∉xs.map (·.1)→Q (.free (pt t.mask (tupleKeyHash (intKind prog w) k) N).j false) s):
  ∀(fuel p:Nat) (zG:Option Probe),p≤N→N - p<fuel→zG.getD (t.probeStart (tupleKeyHash (intKind prog w) k))=pt t.mask (tupleKeyHash (intKind prog w) k) p→
   (∀n<p,∀(i:Nat) q,t.place[i]? =some (pt t.mask (tupleKeyHash (intKind prog w) k) n).j→xs[i]? =some q→q.1≠k)→
   wpAny (model prog w) A (setSearchFrom a (.ref x) (tupleKeyHash (intKind prog w) k) AV fuel zG) Q E s
 |0,p,_,_,hf,_,_=>by omega
 |fuel+1,p,zG,hp,hf,fM,Bq=>by
  have Jt:t.fits es.size=true:=by
   have:=fits_of T
   rwa[List.length_map,←List.length_map (f:=ff prog w),←he,Array.length_toList]at this
  have gl:∀i:Nat,es[i]? =(xs[i]?).map (ff prog w):=fun i=>by rw[←Array.getElem?_toList,he,List.getElem?_map]
  unfold setSearchFrom
  refine wpAny_bind (wpAny_setState_of ho hd Jt ?_)
  dsimp only
  have UG:t.gaveWay=false:=by unfold gaveWay;rw[T.odd];rfl
  simp only[UG,Bool.false_eq_true,if_false]
  rw[fM]
  obtain⟨b,g1,g2,g3,g4⟩:=T.tQ (fun i=>(es[i]?.map (·.1)).getD 0) (tupleKeyHash (intKind prog w) k) hN hb (10*turns t.mask) p hp (by unfold turns;omega)
  have EL:∀n,p≤n→n<b→∀(i:Nat) q,t.place[i]? =some (pt t.mask (tupleKeyHash (intKind prog w) k) n).j→xs[i]? =some q→q.1≠k:=fun n n1 n2 i q e1 e2 e3=>by
   obtain⟨i',e4,e5⟩:=g3 n n1 n2
   have e6:i'=i:=by rw[←below_at T.sM e4,←below_at T.sM e1]
   subst e6
   rw[gl,e2]at e5
   exact e5 (by show tupleKeyHash (intKind prog w) q.1=_;rw[e3])
  generalize UH:t.probe _ (tupleKeyHash (intKind prog w) k) (pt t.mask (tupleKeyHash (intKind prog w) k) p)=M
  have AW:probe.go t (fun i=>(es[i]?.map (·.1)).getD 0) (tupleKeyHash (intKind prog w) k) (10*turns t.mask) (pt t.mask (tupleKeyHash (intKind prog w) k) p)=M:=UH
  rcases g4 with⟨rfl,e⟩|⟨g5,i,e1,e2,e⟩
  ·rw[e]at AW
   subst AW
   dsimp only
   refine wpAny_pure (h2 fun hm=>?_)
   obtain⟨q,hq,e3⟩:=List.mem_map.mp hm
   obtain⟨i,hi⟩:=List.getElem?_of_mem hq
   have rq:i<t.place.size:=by rw[T.len,List.length_map];exact(List.getElem?_eq_some_iff.mp hi).1
   have ej:t.place[i]? =some t.place[i]:=Array.getElem?_eq_getElem rq
   have hz:(t.place[i],tupleKeyHash (intKind prog w) k)∈t.place.toList.zip (xs.map fun x=>tupleKeyHash (intKind prog w) x.1):=by
    refine List.mem_of_getElem? (i:=i) ?_
    rw[List.getElem?_zip_eq_some]
    exact⟨by rw[Array.getElem?_toList];exact ej,by rw[List.getElem?_map,hi];simp[e3]⟩
   obtain⟨n,n1,n2⟩:=T.way _ hz
   dsimp only at n1 n2
   have UI:n<b:=by
    rcases Nat.lt_trichotomy n b with c|c|c
    ·exact c
    ·subst c
     exact absurd (by rw[n1,←Array.getElem_toList];exact List.getElem_mem _) hN
    ·exact absurd (n2 b c) hN
   by_cases c:n<p
   ·exact Bq n c i q (by rw[n1];exact ej) hi e3
   ·exact EL n (by omega) UI i q (by rw[n1];exact ej) hi e3
  ·rw[e]at AW
   subst AW
   dsimp only
   have rq:i<xs.length:=by
    have:=(Array.getElem?_eq_some_iff.mp e1).1
    rwa[T.len,List.length_map]at this
   have Ph:xs[i]? =some xs[i]:=List.getElem?_eq_getElem rq
   have Pj:es[i]? =some (ff prog w xs[i]):=by rw[gl,Ph];rfl
   have UJ:IsT prog w s.heap xs[i].1 xs[i].2:=hk _ (List.getElem_mem rq)
   have LO:t.slot (pt t.mask (tupleKeyHash (intKind prog w) k) b).j= .live i:=rm T.sM e1
   have UK:t.sameMemory t.moves t.mask=some true:=by unfold sameMemory;simp
   split
   all_goals try (refine wpAny_bind (B7 hx (u7 he hk _) ?_);simp only[Bool.false_eq_true,if_false])
   all_goals
    rw[Pj]
    dsimp only[ff]
    refine wpAny_bind (wpAny_holding (wpAny_eqBool_tuple hu UJ hx ?_))
    refine wpAny_bind (wpAny_setState_of ho hd Jt ?_)
    dsimp only
    rw[UK,LO]
    simp only[if_true]
    rw[Pj]
    dsimp only[ff]
    have LP:isSame (.ref xs[i].2) (.ref xs[i].2)=pure true:=by simp[isSame]
    rw[LP]
    by_cases c:xs[i].1=k
    ·have hm:k∈xs.map (·.1):=List.mem_map.mpr ⟨xs[i],List.getElem_mem rq,c⟩
     rw[decide_eq_true c]
     cases AV
     ·simp only[Bool.false_and,Bool.false_eq_true,if_false]
      refine wpAny_bind (wpAny_pure (wpAny_bind (wpAny_pure ?_)))
      simp only[if_true]
      exact wpAny_pure (h1 hm _)
     ·simp only[Bool.and_self,if_true]
      exact wpAny_pure (h1 hm _)
    ·rw[decide_eq_false c]
     simp only[Bool.and_false,Bool.false_eq_true,if_false]
     refine wpAny_bind (wpAny_pure (wpAny_bind (wpAny_pure ?_)))
     simp only[if_true]
     refine nC hu ho hd he hk T hx hN hb LN h1 h2 fuel (b+1) _ (by omega) (by omega) rfl fun n hn i' q e3 e4=>?_
     by_cases d1:n<p
     ·exact Bq n d1 i' q e3 e4
     by_cases d2:n<b
     ·exact EL n (by omega) d2 i' q e3 e4
     ·have d3:n=b:=by omega
      subst d3
      have e6:i'=i:=by rw[←below_at T.sM e3,←below_at T.sM e1]
      subst e6
      rw[Ph]at e4
      cases e4
      exact c
end
end SetTable
end PySem
namespace PySem
open Sem (wp)
namespace SetTable
section
variable{prog:Program}{w:World}{A:Around}{E:Value→Shared→Prop}{s:Shared}
structure lg(prog:Program)(w:World)(ld:Bool)(o:Obj)(xs:List (List Int×Addr))(es:Array (Int×Value))(ep:Nat)(t:SetTable):Prop where
 ex:o.ExactSet
 dat:o.data= .set es ep t
 ents:es.toList=xs.map (ff prog w)
 nd:(xs.map (·.1)).Nodup
 ok:oz t (xs.map fun x=>tupleKeyHash (intKind prog w) x.1)
 Pk:xs.length*5<t.mask*3
 LQ:t.mask=7∨t.mask=31∨t.mask=127
 led:t.led=ld
 pl:t.plain=true
def gH(prog:Program)(w:World)(ld:Bool)(h:Heap)(a:Addr)(xs:List (List Int×Addr)):Prop:=
 ∃o es ep t,h.get? a=some o∧lg prog w ld o xs es ep t∧∀x∈xs,IsT prog w h x.1 x.2
theorem iY{h h':Heap}{k:List Int}{b:Addr}(x:IsT prog w h k b)(e:∀o,h.get? b=some o→h'.get? b=some o):IsT prog w h' k b:=by
 obtain⟨o,its,n,ho,r⟩:=x
 exact⟨o,its,n,e o ho,r⟩
theorem Hv{h:Heap}{k:List Int}{a b:Addr}{o:Obj}(x:IsT prog w h k b)(ho:h.get? a=some o)(hex:o.ExactSet):b≠a:=by
 obtain⟨o',its,n,mF,hc,_⟩:=x
 intro e
 subst e
 rw[ho]at mF
 cases mF
 rw[hex.1]at hc
 injection hc with hc
 exact absurd hc (by decide)
theorem lg.size{ld:Bool}{o:Obj}{xs:List (List Int×Addr)}{es:Array (Int×Value)}{ep:Nat}{t:SetTable}(S:lg prog w ld o xs es ep t):es.size=xs.length:=by
 rw[←Array.length_toList,S.ents,List.length_map]
theorem lg.fits{ld:Bool}{o:Obj}{xs:List (List Int×Addr)}{es:Array (Int×Value)}{ep:Nat}{t:SetTable}(S:lg prog w ld o xs es ep t):t.fits es.size=true:=by
 have:=fits_of S.ok
 rwa[List.length_map,←S.size]at this
theorem xp(x:Addr)(es:Array (Int×Value)):byScan (.ref x) es=false:=by simp[byScan,Value.scannable]
theorem B9{xs:List (List Int×Addr)}{es:Array (Int×Value)}(he:es.toList=xs.map (ff prog w))(p:Nat)(k:List Int)(x:Addr):
  (insertAt es p (tupleKeyHash (intKind prog w) k,Value.ref x)).toList=(xs.take p++(k,x)::xs.drop p).map (ff prog w):=by
 rw[toList_insertAt,he]
 simp[ff,List.map_take,List.map_drop]
theorem B_{α:Type}(p:Nat)(y:α)(xs:List α):(xs.take p++y::xs.drop p).Perm (y::xs):=by
 refine List.perm_middle.trans ?_
 rw[List.take_append_drop]
theorem u9:sizeAbove (grown 5) - 1=31:=by decide
theorem u_:sizeAbove (grown 19) - 1=127:=by decide
theorem gJ{xs:List (List Int×Addr)}{l:List (Int×Value)}(p:l.Perm (xs.map (ff prog w))):∃ys:List (List Int×Addr),ys.Perm xs∧l=ys.map (ff prog w):=by
 have:∀{a b:List (Int×Value)},a.Perm b→∀xs:List (List Int×Addr),b=xs.map (ff prog w)→∃ys:List (List Int×Addr),ys.Perm xs∧a=ys.map (ff prog w):=by
  intro a b pp
  induction pp with
  |nil=>intro xs e;exact⟨[],by rw[List.map_eq_nil_iff.mp e.symm],rfl⟩
  |@cons x l1 l2 _ ih=>
   intro xs e
   cases xs with
   |nil=>cases e
   |cons y ys=>
    rw[List.map_cons]at e
    injection e with e1 e2
    obtain⟨zs,h1,h2⟩:=ih ys e2
    exact⟨y::zs,h1.cons y,by rw[List.map_cons,e1,h2]⟩
  |swap x y l=>
   intro xs e
   match xs,e with
   |u::v::r,e=>
    simp only[List.map_cons]at e
    injection e with e1 e2
    injection e2 with e2 e3
    exact⟨v::u::r,List.Perm.swap u v r,by simp only[List.map_cons];rw[e1,e2,e3]⟩
  |trans _ _ UL UM=>
   intro xs e
   obtain⟨ys,h1,h2⟩:=UM xs e
   obtain⟨zs,h3,h4⟩:=UL ys h2
   exact⟨zs,h3.trans h1,h4⟩
 exact this p xs rfl
theorem EM{ld:Bool}{a:Addr}{xs:List (List Int×Addr)}{k:List Int}{x:Addr}{Q:Bool→Shared→Prop}(hu:A.units<cLine)(hx:IsT prog w s.heap k x)(hS:gH prog w ld s.heap a xs)(LM:xs.length+1≤76)
  (h:∀(b:Bool) h' ys,Heap.SameBut a s.heap h'→gH prog w ld h' a ys→ys.Perm (if k∈xs.map (·.1)then xs else(k,x)::xs)→Q b { s with heap:=h' }):
  wpAny (model prog w) A (setAddHashed a (.ref x) (tupleKeyHash (intKind prog w) k)) Q E s:=by
 obtain⟨o,es,ep,t,ho,S,hk⟩:=hS
 unfold setAddHashed setAddHashedIn
 refine wpAny_holding (wpAny_bind (wpAny_setState_of ho S.dat S.fits ?_))
 dsimp only
 rw[xp]
 simp only[Bool.false_eq_true,if_false]
 obtain⟨N,LN,hN,hb⟩:=S.ok.first (tupleKeyHash (intKind prog w) k)
 unfold setSearch
 refine wpAny_bind (nC hu ho S.dat S.ents hk S.ok hx hN hb LN (fun hm r=>?_) (fun hm=>?_) 100000 0 none (Nat.zero_le _) (by have:=S.LQ;omega) rfl (fun n hn=>by omega))
 ·dsimp only
  refine wpAny_pure ?_
  have e:s= { s with heap:=s.heap }:=by cases s;rfl
  rw[e]
  exact h false s.heap xs (Heap.SameBut.refl a s.heap) ⟨o,es,ep,t,ho,S,hk⟩ (by rw[if_pos hm])
 ·dsimp only
  refine wpAny_bind (wpAny_setState_of ho S.dat S.fits ?_)
  dsimp only
  have T1:=S.ok.put hN hb (by rw[List.length_map];have:=S.Pk;have:=S.LQ;omega)
  have Af:=S.Pk
  have Pm:=S.LQ
  rw[show(t.put (pt t.mask (tupleKeyHash (intKind prog w) k) N).j).2=below t.place (pt t.mask (tupleKeyHash (intKind prog w) k) N).j from rfl]
  generalize hj:(pt t.mask (tupleKeyHash (intKind prog w) k) N).j=j at*
  generalize hp:below t.place j=p at*
  have LR:(t.put j).1.plain=true:=S.pl
  have Pn:(t.put j).1.led=ld:=S.led
  have Hw:(t.put j).1.mask=t.mask:=rfl
  generalize Xw:(t.put j).1=t1 at*
  rw[if_pos LR]
  refine wpAny_bind (oB hx ?_)
  simp only[if_true]
  have zH:=B9 (prog:=prog) (w:=w) S.ents p k x
  generalize Xx:insertAt es p (tupleKeyHash (intKind prog w) k,Value.ref x)=g6 at*
  have pm:(xs.take p++(k,x)::xs.drop p).Perm ((k,x)::xs):=B_ p (k,x) xs
  have rz:(xs.take p++(k,x)::xs.drop p).length=xs.length+1:=by rw[pm.length_eq];rfl
  have Ca:oz t1 ((xs.take p++(k,x)::xs.drop p).map fun x=>tupleKeyHash (intKind prog w) x.1):=by
   rw[List.map_append,List.map_cons,List.map_take,List.map_drop];exact T1
  generalize Xy:xs.take p++(k,x)::xs.drop p=Hx at*
  have LS:g6.size=xs.length+1:=by rw[←Array.length_toList,zH,List.length_map,rz]
  have Po:g6.size≤sizeLine:=by rw[LS,sizeLine_eq];omega
  refine wpAny_bind (wpAny_storeSet_of ho S.dat ?_ Po)
  have Hy:(s.heap.update a (Obj.putSet g6 t1)).get? a=some { o with data:=.set g6 (ep+1) t1 }:=by
   have:=Heap.get?_update_self (Obj.putSet g6 t1) ho (by rw[putSet_of g6 t1 S.dat];rfl)
   rw[putSet_of g6 t1 S.dat]at this;exact this
  have EN:=Heap.SameBut.update s.heap a (Obj.putSet g6 t1)
  have Pp:(Hx.map (·.1)).Nodup:=((pm.map (·.1)).nodup_iff).mpr (by rw[List.map_cons,List.nodup_cons];exact⟨hm,S.nd⟩)
  have pk:Hx.Perm (if k∈xs.map (·.1)then xs else(k,x)::xs):=by rw[if_neg hm];exact pm
  have keep:∀{h':Heap},Heap.SameBut a s.heap h'→∀q∈Hx,IsT prog w h' q.1 q.2:=fun {h'} hs q hq=>by
   have Hu:IsT prog w s.heap q.1 q.2:=by
    rcases List.mem_cons.mp (pm.mem_iff.mp hq)with rfl|hq
    ·exact hx
    ·exact hk q hq
   exact iY Hu fun o' e=>(hs.2 _ (Hv Hu ho S.ex)).trans e
  split
  ·rename_i gK
   have gK:t1.tooFull=true:=by simpa using gK
   unfold tooFull fill at gK
   rw[Ca.EI,Ca.len,List.length_map,rz,Hw]at gK
   simp only[List.size_toArray,List.length_nil,Nat.add_zero,ge_iff_le,decide_eq_true_eq]at gK
   have LU:(xs.length+1=5∧t.mask=7)∨(xs.length+1=19∧t.mask=31):=by omega
   have UN:es.size+1=xs.length+1:=by rw[S.size]
   rw[UN]
   obtain⟨m,UO,F,xn,UP,UQ,UR⟩:∃m,sizeAbove (grown (xs.length+1)) - 1=m∧Full m∧m % 2=1∧g6.size≤m∧(xs.length+1)*5<m*3∧(m=7∨m=31∨m=127):=by
    rcases LU with⟨e,_⟩|⟨e,_⟩
    ·exact⟨31,by rw[e];exact u9,Hq,rfl,by omega,by omega,by omega⟩
    ·exact⟨127,by rw[e];exact u_,EH,rfl,by omega,by omega,by omega⟩
   obtain⟨t2,order,Pq,Pr,US,UT,Hz,T2⟩:=zF t1 g6 (grown (xs.length+1)) UO F xn UP
   generalize Pt:order.filterMap (g6[·]?)=Cb at*
   rw[zH]at Hz
   obtain⟨ys,py,ey⟩:=gJ Hz
   have Pu:Cb.size=g6.size:=by rw[←Array.length_toList,ey,List.length_map,py.length_eq,rz,LS]
   refine wpAny_bind ?_
   unfold setRelay
   have Pw:t1.fits g6.size=true:=by
    have:=fits_of Ca
    rwa[List.length_map,rz,←LS]at this
   refine wpAny_bind (wpAny_setState_of (s:={ s with heap:=s.heap.update a (Obj.putSet g6 t1) }) Hy rfl Pw ?_)
   dsimp only
   have LO:¬(sizeAbove (grown (xs.length+1)) > sizeLine):=by rw[sizeLine_eq];omega
   rw[if_neg LO,Pq]
   refine wpAny_bind ?_
   show wpAny _ _ (if ((order.filterMap (fun i=>g6[i]?)).size != g6.size)=true then(unsupported "internal:set-table-lost-an-element" >>= fun(_:Unit)=>pure (order.filterMap (fun i=>g6[i]?),t2))else pure (order.filterMap (fun i=>g6[i]?),t2)) _ _ _
   rw[Pt,Pu]
   simp only[bne_self_eq_false,Bool.false_eq_true,if_false]
   refine wpAny_pure ?_
   refine wpAny_storeSet_of (s:={ s with heap:=s.heap.update a (Obj.putSet g6 t1) }) Hy rfl ?_ (by rw[Pu];exact Po)
   have oh:((s.heap.update a (Obj.putSet g6 t1)).update a (Obj.putSet Cb t2)).get? a=some { o with data:=.set Cb (ep+1+1) t2 }:=
    Heap.get?_update_self (Obj.putSet Cb t2) Hy rfl
   have Ju:=EN.trans (Heap.SameBut.update (s.heap.update a (Obj.putSet g6 t1)) a (Obj.putSet Cb t2))
   refine wpAny_pure (h true _ ys Ju ⟨_,Cb,ep+1+1,t2,oh,⟨S.ex,rfl,ey,((py.map (·.1)).nodup_iff).mpr Pp,?_,?_,?_,by rw[US,Pn],by rw[UT,LR]⟩,fun q hq=>keep Ju q (py.mem_iff.mp hq)⟩ (py.trans pk))
   ·rw[ey,List.map_map]at T2
    exact T2
   ·rw[py.length_eq,rz,Pr];exact UQ
   ·rw[Pr];exact UR
  ·rename_i gK
   have gK:¬(t1.tooFull=true):=by simpa using gK
   unfold tooFull fill at gK
   rw[Ca.EI,Ca.len,List.length_map,rz,Hw]at gK
   simp only[List.size_toArray,List.length_nil,Nat.add_zero,ge_iff_le,decide_eq_true_eq]at gK
   exact wpAny_pure (h true _ Hx EN ⟨_,g6,ep+1,t1,Hy,⟨S.ex,rfl,zH,Pp,Ca,by rw[rz,Hw];omega,by rw[Hw];exact Pm,Pn,LR⟩,fun q hq=>keep EN q hq⟩ pk)
end
end SetTable
end PySem
namespace PySem
open Sem (wp)
open PyProof.Rows
set_option maxRecDepth 100000
namespace SetTable
def eT(ks:List (List Int)):List (List Int):=ks.foldl (fun acc k=>if k∈acc then acc else k::acc) []
theorem zI(ks:List (List Int))(k:List Int):eT (ks++[k])=if k∈eT ks then eT ks else k::eT ks:=by
 unfold eT
 rw[List.foldl_append]
 rfl
theorem rA:∀(ks acc:List (List Int)),(ks.foldl (fun acc k=>if k∈acc then acc else k::acc) acc).length≤acc.length+ks.length
 |[],acc=>by simp
 |k::ks,acc=>by
  rw[List.foldl_cons]
  have:=rA ks (if k∈acc then acc else k::acc)
  split at this
  ·rw[if_pos (by assumption)];simp only[List.length_cons];omega
  ·rw[if_neg (by assumption)];simp only[List.length_cons]at this ⊢;omega
theorem kO(ks:List (List Int)):(eT ks).length≤ks.length:=by have:=rA ks [];simpa[eT]using this
section
variable{prog:Program}{w:World}{A:Around}{R:Result→Shared→Prop}{I:Addr}{fp wr:List Addr}{G:Array GenState→Array GenState→Prop}{n:Nat}{P:Nat→Value→Prop}{St:Nat→Shared→Prop}{ld:Bool}
theorem gH.move{h h':Heap}{a:Addr}{xs:List (List Int×Addr)}(S:gH prog w ld h a xs)(e:∀b o,(b=a∨∃x∈xs,x.2=b)→h.get? b=some o→h'.get? b=some o):gH prog w ld h' a xs:=by
 obtain⟨o,es,ep,t,ho,S,hk⟩:=S
 exact⟨o,es,ep,t,e a o (.inl rfl) ho,S,fun x hx=>iY (hk x hx) fun o'=>e _ o' (.inr ⟨x,hx,rfl⟩)⟩
theorem sN(hu:A.units+2<cLine)(W:WalksS prog w A.in1 I fp wr G n P St)(S:Addr)(sJ:S∉fp)(as:Nat→Addr)(ks:Nat→List Int)(hP:∀i v,P i v→v= .ref (as i))(hb:n≤75)
  (HA:∀i,i<n→as i∉wr∧as i≠S):
  ∀(m i:Nat) (s:Shared) (xs:List (List Int×Addr)),n - i=m→i≤n→St i s→(∀j,j<n→IsT prog w s.heap (ks j) (as j))→gH prog w ld s.heap S xs→(∀x∈xs,∃j,j<n∧x=(ks j,as j))→
   (xs.map (·.1)).Perm (eT ((List.range i).map ks))→
   (∀s' ys,Moved (S::wr) G s s'→gH prog w ld s'.heap S ys→(ys.map (·.1)).Perm (eT ((List.range n).map ks))→(∀x∈ys,∃j,j<n∧x=(ks j,as j))→R (.ok (.ret .none)) s')→
   codeAny (model prog w) A (.builtin "set.update.loop" ⟨[.ref S,.ref I],[]⟩) R s:=by
 have Px:S∉wr:=fun h=>sJ (W.sub _ h)
 have xj:∀b∈wr,b∈S::wr:=fun b hb=>List.mem_cons_of_mem _ hb
 intro m
 induction m with
 |zero=>
  intro i s xs hk hi fM hT hS Cc jJ hR
  have LV:∀x∈xs,x.2∉wr∧x.2≠S:=fun x hx=>by obtain⟨j,hj,rfl⟩:=Cc x hx;exact HA j hj
  have wU:i=n:=by omega
  subst wU
  refine codeAny_builtin F.entry_set_update_loop ?_
  rw[Around.under_plainId F.plain_set_update_loop _]
  show wpAny _ A.in1 (pyNext (.ref I) >>= _) _ _ s
  refine wpAny_bind (W.done s _ _ fM fun s' hm=>?_)
  show wpAny _ A.in1 (ret Value.none) _ _ s'
  exact wpAny_pure (hR s' xs (hm.mono xj) (hS.move fun b o hb e=>hm.heap b o (by
   rcases hb with rfl|⟨x,hx,rfl⟩
   ·exact Px
   ·exact(LV x hx).1) e) jJ Cc)
 |succ m ih=>
  intro i s xs hk hi fM hT hS Cc jJ hR
  have LV:∀x∈xs,x.2∉wr∧x.2≠S:=fun x hx=>by obtain⟨j,hj,rfl⟩:=Cc x hx;exact HA j hj
  have da:i<n:=by omega
  refine codeAny_builtin F.entry_set_update_loop ?_
  rw[Around.under_plainId F.plain_set_update_loop _]
  show wpAny _ A.in1 (pyNext (.ref I) >>= _) _ _ s
  refine wpAny_bind (W.item i s _ _ da fM fun v s' hv Py hm=>?_)
  obtain rfl:=hP i v hv
  have uO:gH prog w ld s'.heap S xs:=hS.move fun b o hb e=>hm.heap b o (by
   rcases hb with rfl|⟨x,hx,rfl⟩
   ·exact Px
   ·exact(LV x hx).1) e
  have LW:∀j,j<n→IsT prog w s'.heap (ks j) (as j):=fun j hj=>iY (hT j hj) fun o e=>hm.heap _ o (HA j hj).1 e
  show wpAny _ A.in1 (holding [Value.ref (as i)] (setAdd S (.ref (as i))) >>= _) _ _ s'
  refine wpAny_bind (wpAny_holding ?_)
  unfold setAdd
  refine wpAny_holding ?_
  refine wpAny_bind (wpAny_pyHash_tuple (knd:=intKind prog w) (by show A.units+1<cLine;omega) (LW i da) ?_)
  have Xz:xs.length≤i:=by
   have h1:=jJ.length_eq
   have h2:=kO ((List.range i).map ks)
   simp at h1 h2
   omega
  refine EM (ld:=ld) (s:={ s' with toks:=s'.toks+((ks i).length+1) }) (by show A.units+1<cLine;omega) (LW i da) uO (by omega) fun b h' ys Eo Lj LX=>?_
  have Pz:(ys.map (·.1)).Perm (eT ((List.range (i+1)).map ks)):=by
   rw[List.range_succ,List.map_append,List.map_singleton,zI]
   refine(LX.map (·.1)).trans ?_
   by_cases c:ks i∈xs.map (·.1)
   ·rw[if_pos c,if_pos (jJ.mem_iff.mp c)];exact jJ
   ·rw[if_neg c,if_neg (fun h=>c (jJ.mem_iff.mpr h))];exact jJ.cons _
  have LY:∀x∈ys,∃j,j<n∧x=(ks j,as j):=fun x hx=>by
   have:=LX.mem_iff.mp hx
   split at this
   ·exact Cc x this
   ·rcases List.mem_cons.mp this with rfl|h
    ·exact⟨i,da,rfl⟩
    ·exact Cc x h
  refine wpAny_pure ⟨plainId_quiet F.plain_set_update_loop _,ih (i+1) _ ys (by omega) da (W.frame _ s' _ _ Py (Nat.le_add_right _ _) fun b hb o e=>?_) (fun j hj=>?_) Lj LY Pz fun vU zs PB PD hz UU=>?_⟩
  ·rw[Eo.2 b (fun h:b=S=>sJ (by rw[←h];exact hb))];exact e
  ·exact iY (LW j hj) fun o e=>(Eo.2 _ (HA j hj).2).trans e
  ·refine hR vU zs (Moved.trans W.gtrans ((hm.mono xj).then_heap (Nat.le_add_right _ _) fun b o hb e=>?_) PB) PD hz UU
   rw[Eo.2 b (fun h:b=S=>hb (by rw[h];exact List.mem_cons_self))];exact e
end
end SetTable
end PySem
namespace PySem
open Sem (wp)
open PyProof.Rows
set_option maxRecDepth 100000
namespace SetTable
abbrev iz(w:World):Obj:=⟨.type "set",none,.set #[] 0 (.fresh 0 0 (!w.params.followText "set-order")),#[]⟩
section
variable{prog:Program}{w:World}{A:Around}{E:Value→Shared→Prop}{s:Shared}
theorem xq(x:Value):codeAny (model prog w) A (.call (.builtin "set.__new__") ⟨[.type "set",x],[]⟩)
  (wants (fun v s'=>v= .ref s.heap.objs.size∧s'=⟨s.heap.push (iz w),s.gens,s.drawn,s.toks,s.os⟩) E) s:=by
 refine codeAny_call_builtin F.plain_set_new F.entry_set_new (wpAny_of_eq (F.newCall_set_1 x) ?_)
 have ss:=sub_set_self
 rcases s with⟨h0,g0,d0,t0,o0⟩
 unfold Builtin.«set.__new__» Builtin.Frozenset.newClass
 dsimp only
 wp_walk
 exact wpAny_askSetting (wpAny_pure (by dsimp only[newObj];exact wpAny_bind (wpAny_alloc (wpAny_pure (wpAny_pure ⟨rfl,rfl⟩)))))
theorem tS{Q E:Value→Shared→Prop}{R:Result→Shared→Prop}(he:∀e s,E e s→R (.error e) s)(hr:∀v s,Q v s→R (.ok (.ret v)) s):∀r s,wants Q E r s→R r s:=by
 intro r s h
 rcases r with e|f
 ·exact he _ _ h
 ·cases f<;>first|exact hr _ _ h|exact h.elim
set_option maxHeartbeats 3200000 in
theorem xr{x:Value}{Q:Value→Shared→Prop}
  (fill:wpAny (model prog w) A.in1.in1 (Builtin.«set.__init__» ⟨[.ref s.heap.objs.size,x],[]⟩)
   (fun fin s'=>match fin with
    |.done f=>wants (fun r hG=>r= .none∧Q (.ref s.heap.objs.size) hG) E (.ok f) s'
    |.again c'=>c'.quiet=true∧codeAny (model prog w) A.in1 c' (wants (fun r hG=>r= .none∧Q (.ref s.heap.objs.size) hG) E) s')
   (fun e s'=>wants (fun r hG=>r= .none∧Q (.ref s.heap.objs.size) hG) E (.error e) s') ⟨s.heap.push (iz w),s.gens,s.drawn,s.toks,s.os⟩):
  wpAny (model prog w) A (call (.type "set") [x]) Q E s:=by
 rcases F.called_set with⟨nt,cc,⟨m0,ms,mr⟩,md,-,sb,LZ⟩
 have ck:=F.typeCall_set_1 x
 have lk:=LZ.lookup
 refine wpAny_call (codeAny_of_tree (show wpAny _ _ (callAny (.type "set") _) _ _ _ from wpAny_pure ⟨Code.quiet_builtin _ (by decide +kernel),codeAny_builtin F.entry_type_call ?_⟩))
 rw[Around.under_plain (weight_type_call_type _ [x] []) rfl]
 repeat (any_goals (first|wp_step|assumption))
 refine codeAny_mono (xq x) (tS (fun _ _ z=>z) ?_)
 rintro _ _ ⟨rfl,rfl⟩
 have ty:(⟨s.heap.push (iz w),s.gens,s.drawn,s.toks,s.os⟩:Shared).TypeIs (.ref s.heap.objs.size) "set":=⟨_,Heap.get?_push_size _ rfl,rfl⟩
 have bd:=LZ.bind (.ref s.heap.objs.size)
 repeat (any_goals (first|wp_step|assumption))
 refine codeAny_mono (codeAny_call_builtin LZ.plain F.entry_set_init (check_set_init_1 ty fill)) (tS (fun _ _ z=>z) ?_)
 rintro _ _ ⟨rfl,z⟩
 repeat (any_goals (first|wp_step|exact z))
set_option maxHeartbeats 3200000 in
theorem Cd{l:Addr}{T:String}{ol io:Obj}{as:Nat→Addr}{ks:Nat→List Int}{n:Nat}{P:Nat→Value→Prop}{St:Addr→Nat→Heap→Prop}{Q:Value→Shared→Prop}(hu:A.units+16<cLine)
  (ho:s.heap.get? l=some ol)(hc:ol.cls= .type T)(n1:isSubtype (.type T) (.type "set")=pure false)(n2:isSubtype (.type T) (.type "frozenset")=pure false)(n3:(Value.type T==Value.type "dict")=false)
  (hit:∀{B:Around}{s1:Shared}{R:Value→Shared→Prop}{F:Value→Shared→Prop},s1.heap.get? l=some ol→R (.ref s1.heap.objs.size) ⟨s1.heap.push io,s1.gens,s1.drawn,s1.toks,s1.os⟩→wpAny (model prog w) B (pyIter (.ref l)) R F s1)
  (W:∀I,l≠I→Walks prog w A.in1.in1.in1 I [I,l] [I] n P (St I))(W0:∀h:Heap,h.get? l=some ol→St h.objs.size 0 (h.push io))
  (hi:∀i v,P i v→v= .ref (as i))(hT:∀j,j<n→IsT prog w s.heap (ks j) (as j))(hb:n≤75)
  (h:∀(h':Heap) (tk:Nat) (ys:List (List Int×Addr)),gH prog w (!w.params.followText "set-order") h' s.heap.objs.size ys→(ys.map (·.1)).Perm (eT ((List.range n).map ks))→
   (∀b o,b<s.heap.objs.size→s.heap.get? b=some o→h'.get? b=some o)→(∀x∈ys,∃i,i<n∧x=(ks i,as i))→Q (.ref s.heap.objs.size) { s with heap:=h',toks:=tk }):
  wpAny (model prog w) A (call (.type "set") [.ref l]) Q E s:=by
 refine xr ?_
 have below:∀b o,s.heap.get? b=some o→b<s.heap.objs.size:=fun b o e=>Heap.lt_size e
 have lb:=below l ol ho
 have up1:∀b o,s.heap.get? b=some o→(s.heap.push (iz w)).get? b=some o:=fun b o e=>Heap.get?_push_of_some _ e
 have own:(s.heap.push (iz w)).get? s.heap.objs.size=some (iz w):=Heap.get?_push_size _ rfl
 have sz:(s.heap.push (iz w)).objs.size=s.heap.objs.size+1:=by rw[Heap.size_push]
 have tl:(⟨s.heap.push (iz w),s.gens,s.drawn,s.toks,s.os⟩:Shared).TypeIs (.ref l) T:=⟨ol,up1 l ol ho,hc⟩
 unfold Builtin.«set.__init__» noKeywords Builtin.Frozenset.updateFrom
 generalize gi:pyIter=PI
 wp_walk
 subst gi
 refine hit (up1 l ol ho) (wpAny_bind (wpAny_runValue ?_))
 have ne:l≠(s.heap.push (iz w)).objs.size:=by intro e;rw[sz]at e;exact absurd lb (by rw[e];exact Nat.not_lt.mpr (Nat.le_succ _))
 refine sN (ld:=!w.params.followText "set-order") (n:=n) (I:=(s.heap.push (iz w)).objs.size) (by show A.units+1+1+2<cLine;omega) (W _ ne).toS s.heap.objs.size
  (fun m=>?_) as ks hi hb (fun j hj=>?_) n 0 _ [] rfl (Nat.zero_le _) (W0 _ (up1 l ol ho)) (fun j hj=>?_) ?_ (fun x hx=>nomatch hx) (List.Perm.refl _) fun s2 ys mv st pm ya=>?_
 ·rcases List.mem_cons.mp m with e|m
  ·rw[sz]at e;exact absurd e (Nat.ne_of_lt (Nat.lt_succ_self _))
  ·cases List.mem_singleton.mp m;exact absurd lb (Nat.lt_irrefl _)
 ·obtain⟨o,_,_,e,_⟩:=hT j hj
  have:=below _ _ e
  exact⟨fun m=>by rw[List.mem_singleton.mp m,sz]at this;exact absurd this (Nat.not_lt.mpr (Nat.le_succ _)),Nat.ne_of_lt this⟩
 ·exact iY (hT j hj) fun o e=>Heap.get?_push_of_some _ (up1 _ o e)
 ·exact⟨_,#[],0,_,Heap.get?_push_of_some _ own,⟨⟨rfl,rfl,rfl⟩,rfl,rfl,List.nodup_nil,⟨rfl,rfl,List.Pairwise.nil,fun j hj=>by simp[SetTable.fresh]at hj,LL,(show 7 % 2=1 from rfl),Nat.zero_le _,fun q hq=>by simp[SetTable.fresh]at hq⟩,(show 0*5<7*3 by decide),.inl rfl,rfl,rfl⟩,fun x hx=>nomatch hx⟩
 ·have e:s2=⟨s2.heap,s.gens,s.drawn,s2.toks,s.os⟩:=by
   rcases s2 with⟨h2,g2,d2,t2,o2⟩
   cases (show g2=s.gens from mv.gens);cases (show d2=s.drawn from mv.drawn);cases (show o2=s.os from mv.os)
   rfl
  rw[e]
  exact wpAny_pure (wpAny_pure ⟨rfl,h _ _ ys st pm (fun b o hb eb=>mv.heap b o (fun m=>by
   rcases List.mem_cons.mp m with e|m
   ·exact absurd hb (by rw[e];exact Nat.lt_irrefl _)
   ·rw[List.mem_singleton.mp m,sz]at hb;exact absurd hb (Nat.not_lt.mpr (Nat.le_succ _))) (Heap.get?_push_of_some _ (up1 b o eb))) ya⟩)
end
end SetTable
end PySem
namespace L2
open PySem PySem.Spec PyProof.Rows PySem.W
theorem va{P:Program}{w:World}:∀{t:List Int}{its:List Value},Vals (t.map V.int) its→ItemsAre (intKind P w) t its
 |[],_,.nil=>.nil
 |_::_,_,.cons r t=>.cons (by
   obtain⟨tk,e⟩:=r
   rw[e]
   exact intKind_is _ _ _ _) (va t)
section
variable{X:Cx}
end
end L2
namespace Qm
open PySem
noncomputable section
def nD(ks:List (List Int)):List (List Int):=ks.foldl (fun acc k=>if k∈acc then acc else k::acc) []
end
end Qm
namespace L2
open PySem PySem.Spec PyProof.Rows PySem.W
section
variable{X:Cx}{e1:Expr}{p0 p1 p2 pos:Pos}{f:Qm.XA}
end
end L2
namespace Qm
open PySem
end Qm
namespace Qm
open PySem
end Qm
namespace L2
open PySem PySem.Spec PyProof.Rows PySem.W
section
variable{X:Cx}{e:Expr}{te:TE}{fe:Qm.XE}{pos p2:Pos}
end
end L2
namespace L2
open PySem PySem.Spec PyProof.Rows PySem.W
section
variable{X:Cx}
end
end L2
namespace PySem
namespace SetTable
theorem xt{α:Type}(next:Nat→Nat):∀(fuel k:Nat) (left:List α) (out:Array α),left.length=fuel→(pickOrder.go next fuel k left out).toList.Perm (out.toList++left)
 |0,k,left,out,h=>by
  cases left with
  |nil=>simp[pickOrder.go]
  |cons=>simp at h
 |fuel+1,k,left,out,h=>by
  have hi:next k % left.length<left.length:=Nat.mod_lt _ (by omega)
  unfold pickOrder.go
  rw[List.getElem?_eq_getElem hi]
  dsimp only
  refine(xt next fuel (k+1) _ _ (by rw[List.length_eraseIdx_of_lt hi];omega)).trans ?_
  rw[Array.toList_push,List.append_assoc]
  refine List.Perm.append_left _ ?_
  rw[List.eraseIdx_eq_take_drop_succ]
  have e:left=left.take (next k % left.length)++left[next k % left.length]::left.drop (next k % left.length+1):=by
   rw[←List.drop_eq_getElem_cons hi,List.take_append_drop]
  conv=>rhs;rw[e]
  show(left[next k % left.length]::(List.take (next k % left.length) left++List.drop (next k % left.length+1) left)).Perm _
  exact List.perm_middle.symm
theorem zJ{α:Type}(next:Nat→Nat)(xs:Array α):(pickOrder next xs).toList.Perm xs.toList:=by
 have:=xt next xs.size 0 xs.toList #[] (by simp)
 simpa[pickOrder]using this
def gL(w:World)(a:Addr)(es:Array (Int×Value))(ep:Nat):Array (Int×Value):=if w.params.followText "set-order" =true then pickOrder (w.params.setOrder a ep) es else es
theorem fq(w:World)(a:Addr)(es:Array (Int×Value))(ep:Nat):(gL w a es ep).toList.Perm es.toList:=by
 unfold gL
 split
 ·exact zJ ..
 ·exact .rfl
def iA(t:SetTable)(i:Nat):Nat:=if i=0 then 0 else t.place.getD (i - 1) 0+1
theorem xu{t:SetTable}(hr:t.place.toList.Pairwise (·< ·)){i:Nat}(hi:i≤t.place.size):below t.place (iA t i)=i:=by
 have hs:(i=0∧iA t i=0)∨∃x,0<i∧t.place[i - 1]? =some x∧iA t i=x+1:=by
  unfold iA
  by_cases c:i=0
  ·exact .inl ⟨c,if_pos c⟩
  ·have A7:i - 1<t.place.size:=by omega
   exact .inr ⟨t.place[i - 1],by omega,Array.getElem?_eq_getElem A7,by rw[if_neg c];simp[Array.getD,A7]⟩
 generalize iA t i=sl at*
 obtain⟨h0,h1,h2⟩:=ou hr sl
 have ord:∀(a b:Nat) (x y:Nat),a<b→t.place[a]? =some x→t.place[b]? =some y→x<y:=fun a b x y dQ hx hy=>by
  have ha:a<t.place.toList.length:=by have:=(Array.getElem?_eq_some_iff.mp hx).1;simpa using this
  have hb:b<t.place.toList.length:=by have:=(Array.getElem?_eq_some_iff.mp hy).1;simpa using this
  have:=List.pairwise_iff_getElem.mp hr a b ha hb dQ
  obtain⟨_,rfl⟩:=Array.getElem?_eq_some_iff.mp hx
  obtain⟨_,rfl⟩:=Array.getElem?_eq_some_iff.mp hy
  simpa using this
 generalize below t.place sl=r at*
 rcases Nat.lt_trichotomy r i with c|c|c
 ·exfalso
  obtain⟨y,hy⟩:∃y,t.place[r]? =some y:=⟨_,Array.getElem?_eq_getElem (show r<t.place.size by omega)⟩
  have e:=h2 r y (Nat.le_refl _) hy
  rcases hs with⟨z,_⟩|⟨x,_,hx,e2⟩
  ·omega
  ·by_cases z:r=i - 1
   ·rw[z,hx]at hy
    cases hy
    omega
   ·have:=ord r (i - 1) y x (by omega) hy hx
    omega
 ·exact c
 ·exfalso
  obtain⟨y,hy⟩:∃y,t.place[i]? =some y:=⟨_,Array.getElem?_eq_getElem (show i<t.place.size by omega)⟩
  have e:=h1 i y c hy
  rcases hs with⟨_,z⟩|⟨x,h,hx,e2⟩
  ·omega
  ·have:=ord (i - 1) i x y (by omega) hx hy
   omega
section
variable{prog:Program}{w:World}{A:Around}{E:Value→Shared→Prop}{s:Shared}
def gM(w:World)(t:SetTable)(i:Nat):Nat:=if w.params.followText "set-order" =true then 0 else iA t i
theorem fF{ld:Bool}{a:Addr}{o:Obj}{xs:List (List Int×Addr)}{es:Array (Int×Value)}{ep:Nat}{t:SetTable}{i:Nat}{Q:Option (Value×Nat)→Shared→Prop}(ho:s.heap.get? a=some o)(S:lg prog w ld o xs es ep t)(sO:ld= !w.params.followText "set-order")(hi:i≤es.size)
  (h:Q (((gL w a es ep)[i]?).map fun e=>(e.2,gM w t (i+1))) s):wpAny (model prog w) A (setNext a (gM w t i) i ep) Q E s:=by
 unfold setNext
 refine wpAny_bind (wpAny_setState_of ho S.dat S.fits ?_)
 dsimp only
 unfold setsByText
 refine wpAny_bind (wpAny_bind (wpAny_askSetting (wpAny_pure ?_)))
 dsimp only
 by_cases hb:w.params.followText "set-order" =true
 ·have eo:gL w a es ep=pickOrder (w.params.setOrder a ep) es:=if_pos hb
  have ef:∀j,gM w t j=0:=fun j=>if_pos hb
  rw[eo,ef]at h
  rw[if_pos (show(model prog w).w.params.followText "set-order" =true from hb),if_neg (by simp),ef]
  refine wpAny_bind ?_
  unfold setWalk
  refine wpAny_bind (wpAny_setState_of ho S.dat S.fits ?_)
  dsimp only
  unfold setsByText
  refine wpAny_bind (wpAny_bind (wpAny_askSetting (wpAny_pure ?_)))
  dsimp only
  rw[if_pos (show(model prog w).w.params.followText "set-order" =true from hb)]
  refine wpAny_bind (wpAny_askSetting (wpAny_pure ?_))
  exact wpAny_pure h
 ·have EO:w.params.followText "set-order" =false:=by simpa using hb
  have eo:gL w a es ep=es:=if_neg hb
  have ef:∀j,gM w t j=iA t j:=fun j=>if_neg hb
  have hp:t.place.size=es.size:=by rw[S.ok.len,List.length_map,S.size]
  rw[eo,ef]at h
  have HB:¬((!t.plain&&decide (es.size > 1))=true):=by rw[S.pl];simp
  have UW:¬((!t.led&&!es.isEmpty)=true):=by rw[S.led,sO,EO];simp
  rw[if_neg (show ¬(model prog w).w.params.followText "set-order" =true from hb),ef]
  show wpAny _ _ (if (!t.plain&&decide (es.size > 1))=true then _ else _) _ _ _
  rw[if_neg HB]
  refine wpAny_bind ?_
  show wpAny _ _ (if (!t.led&&!es.isEmpty)=true then unsupported "set:maker-not-led" else pure ()) _ _ _
  rw[if_neg UW]
  refine wpAny_pure ?_
  rw[xu S.ok.sM (by omega)]
  refine wpAny_pure ?_
  by_cases wy:i<es.size
  ·have e1:es[i]? =some es[i]:=Array.getElem?_eq_getElem wy
   have e2:t.place[i]? =some (t.place[i]'(by omega)):=Array.getElem?_eq_getElem (by omega)
   have e3:iA t (i+1)=t.place[i]'(by omega)+1:=by
    unfold iA
    rw[if_neg (by omega)]
    simp[Array.getD,show i<t.place.size by omega]
   rw[e1,e3]at h
   rw[e1,e2]
   exact h
  ·have e1:es[i]? =none:=Array.getElem?_eq_none (by omega)
   rw[e1]at h ⊢
   exact h
end
end SetTable
end PySem
namespace L2
open PySem PySem.Spec PyProof.Rows
open PySem.SetTable (lg gH gL gM fF fq ff IsT gJ)
theorem iZ:Slot "set_iterator" "__next__" "set_iterator.__next__":=
 .of (owner:="set_iterator") (n:="__next__") (by rw[typeLookup_type,builtinLookup_eq_fast];kernel_rfl) (by decide +kernel) (by decide +kernel) (by decide +kernel) (.inl (by decide +kernel)) (by rw[isSubtype_type];kernel_rfl)
theorem xw:Slot "set_iterator" "__iter__" "set_iterator.__iter__":=
 .of (owner:="set_iterator") (n:="__iter__") (by rw[typeLookup_type,builtinLookup_eq_fast];kernel_rfl) (by decide +kernel) (by decide +kernel) (by decide +kernel) (.inl (by decide +kernel)) (by rw[isSubtype_type];kernel_rfl)
theorem xx:Slot "set" "__iter__" "set.__iter__":=
 .of (owner:="set") (n:="__iter__") (by rw[typeLookup_type,builtinLookup_eq_fast];kernel_rfl) (by decide +kernel) (by decide +kernel) (by decide +kernel) (.inl (by decide +kernel)) (by rw[isSubtype_type];kernel_rfl)
theorem tT:Manifest.owners.lookup (String.ofList ['r','o','t','a','r','e','t','i','_','t','e','s'].reverse)=some Manifest.sig_set_iterator:=by kernel_rfl
theorem Ce:Manifest.owners.lookup (String.ofList ['t','e','s'].reverse)=some Manifest.sig_set:=by kernel_rfl
theorem rB:entryFor table "set_iterator.__next__" =some Builtin.«set_iterator.__next__»:=entryFor_of_tree (by kernel_rfl)
theorem zK:entryFor table "set_iterator.__iter__" =some Builtin.«dict_keyiterator.__iter__»:=
 entryFor_alias (id':="dict_keyiterator.__iter__") (by kernel_rfl) (by first|rfl|decide +kernel|(unfold String.splitOn;simp +decide [String.splitOnAux])) (by decide +kernel) (by kernel_rfl)
theorem zL:entryFor table "set.__iter__" =some Builtin.«frozenset.__iter__»:=
 entryFor_alias (id':="frozenset.__iter__") (by kernel_rfl) (by first|rfl|decide +kernel|(unfold String.splitOn;simp +decide [String.splitOnAux])) (by decide +kernel) (by kernel_rfl)
theorem rC(a:Value):argsOk "set_iterator.__next__" ⟨[a],[]⟩:=by
 unfold argsOk;rw[signature?_of (id:="set_iterator.__next__") (n:=['_','_','t','x','e','n','_','_']) (o:=['r','o','t','a','r','e','t','i','_','t','e','s']) (by kernel_rfl) tT];kernel_rfl
theorem zM(a:Value):argsOk "set_iterator.__iter__" ⟨[a],[]⟩:=by
 unfold argsOk;rw[signature?_of (id:="set_iterator.__iter__") (n:=['_','_','r','e','t','i','_','_']) (o:=['r','o','t','a','r','e','t','i','_','t','e','s']) (by kernel_rfl) tT];kernel_rfl
theorem zN(a:Value):argsOk "set.__iter__" ⟨[a],[]⟩:=by
 unfold argsOk;rw[signature?_of (id:="set.__iter__") (n:=['_','_','r','e','t','i','_','_']) (o:=['t','e','s']) (by kernel_rfl) Ce];kernel_rfl
def gN(h:Heap)(it a:Addr)(f i n ep:Nat):Prop:=∃o,h.get? it=some o∧o.cls= .type "set_iterator"∧o.data= .fields #[rawInt f,rawInt i,.ref a,rawInt n,rawInt ep]
theorem gN.at{h h':Heap}{it a:Addr}{f i n ep:Nat}(x:gN h it a f i n ep)(e:∀o,h.get? it=some o→h'.get? it=some o):gN h' it a f i n ep:=let ⟨o,ho,r⟩:=x;⟨o,e _ ho,r⟩
section
variable{prog:Program}{w:World}{A:Around}{E:Value→Shared→Prop}{s:Shared}
theorem gN.typeIs{it a:Addr}{f i n ep:Nat}(x:gN s.heap it a f i n ep):s.TypeIs (.ref it) "set_iterator":=let ⟨o,ho,hc,_⟩:=x;⟨o,ho,hc⟩
theorem ER{ld:Bool}{a:Addr}{o:Obj}{xs:List (List Int×Addr)}{es:Array (Int×Value)}{ep:Nat}{t:SetTable}{Q:Value→Shared→Prop}(ho:s.heap.get? a=some o)(S:lg prog w ld o xs es ep t)
  (hQ:Q (.ref s.heap.objs.size) { s with heap:=s.heap.push { cls:=.type "set_iterator",data:=.fields #[rawInt 0,rawInt 0,.ref a,rawInt es.size,rawInt ep] } }):wpAny (model prog w) A (pyIter (.ref a)) Q E s:=by
 have hT:s.TypeIs (.ref a) "set":=⟨o,ho,S.ex.1⟩
 refine wpAny_pyIter_slot hT xx (wpAny_call_entry xx hT zL ?_ (zN _))
 unfold Builtin.«frozenset.__iter__» Builtin.Frozenset.slot0 slotArgs
 simp only[List.isEmpty_nil,Bool.not_true,Bool.false_eq_true,↓reduceIte,bind_assoc,List.length_nil,bne_self_eq_false]
 unfold Builtin.Frozenset.addrOf Builtin.Frozenset.sizeOf
 refine wpAny_bind (wpAny_pure ?_)
 try dsimp only
 refine wpAny_bind (wpAny_pure ?_)
 refine wpAny_bind (wpAny_bind (wpAny_setEntries_of ho S.dat S.fits (wpAny_pure ?_)))
 unfold setDrawn
 refine wpAny_bind (wpAny_bind (wpAny_setState_of ho S.dat S.fits ?_))
 dsimp only
 unfold setsByText
 refine wpAny_bind (wpAny_bind (wpAny_askSetting (wpAny_pure ?_)))
 refine wpAny_pure ?_
 show wpAny _ _ (if (!(model prog w).w.params.followText "set-order"&&(!t.plain&&decide (es.size > 1)))=true then _ else _) _ _ _
 rw[if_neg (by rw[S.pl];simp)]
 refine wpAny_bind (wpAny_pure (wpAny_bind (wpAny_setEpoch_of ho S.dat S.fits ?_)))
 exact wpAny_bind (wpAny_newObj_type (wpAny_pure ⟨_,rfl,"set_iterator",_,⟨_,Heap.get?_push_size _ rfl,rfl⟩,iZ.lookup,hQ⟩))
end
end L2
namespace L2
open PySem PySem.Spec PyProof.Rows
open PySem.SetTable (lg gH gL gM fF fq ff IsT gJ)
section
variable{prog:Program}{w:World}{A:Around}{E:Value→Shared→Prop}{s:Shared}
theorem ES{ld:Bool}{it a:Addr}{o:Obj}{xs:List (List Int×Addr)}{es:Array (Int×Value)}{ep:Nat}{t:SetTable}{i:Nat}{e:Int×Value}{Q:Option Value→Shared→Prop}(sO:ld= !w.params.followText "set-order")(ho:s.heap.get? a=some o)(S:lg prog w ld o xs es ep t)
  (hit:gN s.heap it a (gM w t i) i es.size ep)(hi:i≤es.size)(hx:(gL w a es ep)[i]? =some e)
  (hQ:∀h',gN h' it a (gM w t (i+1)) (i+1) es.size ep→Heap.SameBut it s.heap h'→Q (some e.2) { s with heap:=h' }):wpAny (model prog w) A (pyNext (.ref it)) Q E s:=by
 obtain⟨oi,Cf,hc,hd⟩:=id hit
 unfold pyNext
 refine wpAny_bind (wpAny_attempt (wpAny_callSpecial?_slot (name:=Str.ofString "__next__") hit.typeIs iZ
  (wpAny_call_entry iZ hit.typeIs rB ?_ (rC _))))
 unfold Builtin.«set_iterator.__next__»
 refine wpAny_bind (wpAny_of_eq (a:=(Value.ref it,[])) rfl ?_)
 dsimp only
 unfold fieldsOf
 refine wpAny_bind (wpAny_bind (wpAny_load Cf ?_))
 rw[hd]
 refine wpAny_pure ?_
 dsimp only[rawInt]
 refine wpAny_bind (wpAny_setEntries_of ho S.dat S.fits ?_)
 simp only[bne_self_eq_false,Bool.false_eq_true,if_false,Int.toNat_natCast]
 refine wpAny_bind (fF ho S sO hi ?_)
 rw[hx]
 dsimp only[Option.map_some]
 refine wpAny_bind (wpAny_setField Cf hd (by simp) ?_)
 have ph:=Heap.get?_update_self (fun o=>o.mapFields fun fs=>fs.setIfInBounds 0 (Value.int ((gM w t (i+1):Nat):Int) 0)) Cf (Obj.isFreed_of_fields (Obj.data_mapFields hd _))
 refine wpAny_bind (wpAny_setField ph (Obj.data_mapFields hd _) (by simp) ?_)
 refine wpAny_pure ⟨e.2,rfl,wpAny_pure (hQ _ ⟨_,Heap.get?_update_self _ ph (Obj.isFreed_of_fields (Obj.data_mapFields (Obj.data_mapFields hd _) _)),(Obj.cls_mapFields ..).trans ((Obj.cls_mapFields ..).trans hc),?_⟩ ((Heap.SameBut.update ..).trans (Heap.SameBut.update ..)))⟩
 rw[Obj.data_mapFields (Obj.data_mapFields hd _)]
 simp[rawInt]
theorem HC{ld:Bool}{it a:Addr}{o:Obj}{xs:List (List Int×Addr)}{es:Array (Int×Value)}{ep:Nat}{t:SetTable}{Q:Option Value→Shared→Prop}(hh:A.handled=none)(sO:ld= !w.params.followText "set-order")(ho:s.heap.get? a=some o)(S:lg prog w ld o xs es ep t)
  (hit:gN s.heap it a (gM w t es.size) es.size es.size ep)
  (hQ:∀h',Heap.ExtBut it s.heap h'→Q none { s with heap:=h' }):wpAny (model prog w) A (pyNext (.ref it)) Q E s:=by
 obtain⟨oi,Cf,hc,hd⟩:=id hit
 have hx:(gL w a es ep)[es.size]? =none:=by
  have:=(fq w a es ep).length_eq
  simp only[Array.length_toList]at this
  exact Array.getElem?_eq_none (by omega)
 unfold pyNext
 refine wpAny_bind (wpAny_attempt (wpAny_callSpecial?_slot (name:=Str.ofString "__next__") hit.typeIs iZ
  (wpAny_call_entry iZ hit.typeIs rB ?_ (rC _))))
 unfold Builtin.«set_iterator.__next__»
 refine wpAny_bind (wpAny_of_eq (a:=(Value.ref it,[])) rfl ?_)
 dsimp only
 unfold fieldsOf
 refine wpAny_bind (wpAny_bind (wpAny_load Cf ?_))
 rw[hd]
 refine wpAny_pure ?_
 dsimp only[rawInt]
 refine wpAny_bind (wpAny_setEntries_of ho S.dat S.fits ?_)
 simp only[bne_self_eq_false,Bool.false_eq_true,if_false,Int.toNat_natCast]
 refine wpAny_bind (fF ho S sO (Nat.le_refl _) ?_)
 rw[hx]
 dsimp only[Option.map_none]
 refine wpAny_bind (wpAny_setField Cf hd (by simp) ?_)
 refine wpAny_bind ?_
 simp only[newExc,newTuple]
 refine wpAny_bind (wpAny_newObj_type ?_ (by size_fits))
 refine wpAny_bind (m:=firstArgMember _ _) (wpAny_of_eq (a:=Value.none) (by first|rfl|(simp only[firstArgMember];rfl)) (wpAny_newObj_type ?_ (by size_fits)))
 simp only[raiseNew]
 refine wpAny_bind (wpAny_handled ?_)
 first|rw[show A.in1.handled=none from hh]|rw[hh]
 refine wpAny_bind (wpAny_pure (wpAny_throw ?_))
 refine wpAny_bind (wpAny_isInstance (T:="StopIteration") (b:=true) ⟨_,Heap.get?_push_size _ rfl,rfl⟩ isSubtype_stop ?_)
 exact wpAny_pure (hQ _ (((Heap.SameBut.update ..).extBut.push _).push _))
theorem ET{it a:Addr}{f i n ep:Nat}{Q:Value→Shared→Prop}(hit:gN s.heap it a f i n ep)(h:Q (.ref it) s):wpAny (model prog w) A (pyIter (.ref it)) Q E s:=by
 refine wpAny_pyIter_slot hit.typeIs xw (wpAny_call_entry xw hit.typeIs zK ?_ (zM _))
 show wpAny _ _ (ret (.ref it)) _ _ s
 exact wpAny_pure ⟨_,rfl,"set_iterator",_,hit.typeIs,iZ.lookup,h⟩
end
theorem Cg{prog:Program}{w:World}{A:Around}{ld:Bool}{o:Obj}{xs:List (List Int×Addr)}{es:Array (Int×Value)}{ep:Nat}{t:SetTable}(hh:A.handled=none)(sO:ld= !w.params.followText "set-order")(S:lg prog w ld o xs es ep t)(I a:Addr)(lL:a≠I):
  Walks prog w A I [I,a] [I] es.size (fun i v=>∃e,(gL w a es ep)[i]? =some e∧v=e.2) (fun i h=>i≤es.size∧gN h I a (gM w t i) i es.size ep∧h.get? a=some o) where
 sub:=fun b hb=>by simp at hb;simp[hb]
 frame:=fun _ _ _ x hk=>⟨x.1,x.2.1.at fun o e=>hk I (by simp) o e,hk a (by simp) o x.2.2⟩
 item:=fun i s Q E hi x hQ=>by
  have hsz:(gL w a es ep).size=es.size:=by
   have:=(fq w a es ep).length_eq
   simpa using this
  have hx:(gL w a es ep)[i]? =some ((gL w a es ep)[i]'(by omega)):=Array.getElem?_eq_getElem (by omega)
  refine ES sO x.2.2 S x.2.1 x.1 hx fun h' PF wg=>?_
  exact hQ _ h' s.toks ⟨_,hx,rfl⟩ ⟨hi,PF,(wg.2 a lL).trans x.2.2⟩ fun b o hb eo=>wg.extBut b o (fun h=>hb (by simp[h])) eo
 done:=fun s Q E x hQ=>HC hh sO x.2.2 S x.2.1 fun h' A_=>hQ h' s.toks fun b o hb eo=>A_ b o (fun h=>hb (by simp[h])) eo
 self:=fun _ _ _ _ x hQ=>ET x.2.1 hQ
end L2
namespace L2
open PySem PySem.Spec PyProof.Rows
open PySem.SetTable (lg gH gL gM fF fq ff IsT gJ)
theorem HD:typeLookup (.type "set") "__len__" =pure (some (.builtin "set.__len__")):=by rw[typeLookup_type,builtinLookup_eq_fast];kernel_rfl
section
variable{prog:Program}{w:World}{A:Around}{E:Value→Shared→Prop}{s:Shared}
theorem xy{ld:Bool}{a:Addr}{o:Obj}{xs:List (List Int×Addr)}{es:Array (Int×Value)}{ep:Nat}{t:SetTable}{Q:List Value→Shared→Prop}(hh:A.in1.handled=none)(sO:ld= !w.params.followText "set-order")(ho:s.heap.get? a=some o)(S:lg prog w ld o xs es ep t)(hn:es.size≤100)
  (hQ:∀(h':Heap) (tk:Nat) (ys:List (List Int×Addr)),(∀b u,s.heap.get? b=some u→h'.get? b=some u)→ys.Perm xs→Q (ys.map fun y=>Value.ref y.2) { s with heap:=h',toks:=tk }):wpAny (model prog w) A (collect (.ref a)) Q E s:=by
 have L1:a<s.heap.objs.size:=Heap.lt_size ho
 unfold collect
 refine wpAny_bind (wpAny_runValue (codeAny_builtin F.entry_proto_collect ?_))
 rw[Around.under_plainId F.plain_proto_collect _]
 show wpAny _ A.in1 (newList [] >>= fun l=>again (.builtin "list.__iadd__" ⟨[l,.ref a],[]⟩)) _ _ s
 refine wpAny_bind (wpAny_newObj_type (wpAny_pure ⟨plainId_quiet F.plain_list_iadd _,codeAny_builtin F.entry_list_iadd ?_⟩))
 rw[Around.under_plainId F.plain_list_iadd _]
 have b2:(s.heap.push { cls:=.type "list",data:=.seq ([]:List Value).toArray }).get? s.heap.objs.size=some { cls:=.type "list",data:=.seq ([]:List Value).toArray }:=Heap.get?_push_size _ rfl
 have ph:(s.heap.push { cls:=.type "list",data:=.seq ([]:List Value).toArray }).get? a=some o:=Heap.get?_push_of_some _ ho
 have b3:Builtin.List.listSameRef (.ref s.heap.objs.size) (.ref a)=false:=by simp[Builtin.List.listSameRef,Nat.ne_of_gt L1]
 have hsz:(s.heap.push { cls:=.type "list",data:=.seq ([]:List Value).toArray }).objs.size=s.heap.objs.size+1:=Heap.size_push _ _
 generalize hp:s.heap.push { cls:=.type "list",data:=.seq ([]:List Value).toArray } =p at*
 have UX:Shared.TypeIs { s with heap:=p } (.ref a) "set":=⟨o,ph,S.ex.1⟩
 show wpAny _ A.in1 (Builtin.List.listExtendWith (.ref s.heap.objs.size) (.ref a) (.ref s.heap.objs.size)) _ _ _
 unfold Builtin.List.listExtendWith
 refine wpAny_bind (wpAny_typeOf UX ?_)
 rw[if_neg (by rw[b3];decide)]
 refine wpAny_bind (ER (s:={ s with heap:=p }) ph S ?_)
 refine wpAny_bind (wpAny_holding ?_)
 have hk:∀b u,p.get? b=some u→(p.push { cls:=.type "set_iterator",data:=.fields #[rawInt 0,rawInt 0,.ref a,rawInt es.size,rawInt ep] }).get? b=some u:=fun b u e=>Heap.get?_push_of_some _ e
 have hit:gN (p.push { cls:=.type "set_iterator",data:=.fields #[rawInt 0,rawInt 0,.ref a,rawInt es.size,rawInt ep] }) p.objs.size a (gM w t 0) 0 es.size ep:=⟨_,Heap.get?_push_size _ rfl,rfl,by
  have:gM w t 0=0:=by unfold gM SetTable.iA;split<;>rfl
  rw[this];rfl⟩
 show wpAny _ A.in1 (Builtin.List.listLengthHint (.ref a)) _ _ { s with heap:=p.push { cls:=.type "set_iterator",data:=.fields #[rawInt 0,rawInt 0,.ref a,rawInt es.size,rawInt ep] } }
 generalize LX:p.push { cls:=.type "set_iterator",data:=.fields #[rawInt 0,rawInt 0,.ref a,rawInt es.size,rawInt ep] } =p2 at*
 have EU:Shared.TypeIs { s with heap:=p2 } (.ref a) "set":=⟨o,hk a o ph,S.ex.1⟩
 unfold Builtin.List.listLengthHint
 refine wpAny_bind (wpAny_specialOf EU HD ?_)
 (generalize Ci:("set.__len__":String)=PH;(fail_if_success (clear Ci PH));wp_delta;rw[show splitId PH=some ("set","__len__")from by subst Ci;decide +kernel];subst Ci)
 refine wpAny_bind (wpAny_isInstance (b:=true) EU (by rw[isSubtype_type];kernel_rfl) ?_)
 rw[if_neg (by decide)]
 dsimp only
 rw[if_pos (by decide +kernel)]
 refine wpAny_bind (wpAny_typeOf EU ?_)
 refine wpAny_pure ?_
 rw[if_pos (by decide +kernel)]
 refine wpAny_bind (m:=rule "list.extend.makes-room") (wpAny_rule (wpAny_bind (m:=Builtin.List.listTouch (.ref s.heap.objs.size)) ?_))
 have hold:∀b u,s.heap.get? b=some u→b<s.heap.objs.size∧p.get? b=some u:=fun b u e=>⟨Heap.lt_size e,by rw[←hp];exact Heap.get?_push_of_some _ e⟩
 generalize s.heap.objs.size=L at*
 have c2:p2.get? L=some { cls:=.type "list",data:=.seq ([]:List Value).toArray }:=hk _ _ b2
 have PJ:p.objs.size≠L:=by rw[hsz];exact Nat.succ_ne_self _
 have PK:a≠L:=Nat.ne_of_lt L1
 have UY:a≠p.objs.size:=by rw[hsz];exact Nat.ne_of_lt (Nat.lt_succ_of_lt L1)
 have W:=(Cg (A:=A.in1) hh sO S p.objs.size a UY).toS
 have a1:L∉[p.objs.size,a]:=by simp only[List.mem_cons,List.not_mem_nil,or_false,not_or];exact⟨Ne.symm PJ,Ne.symm PK⟩
 refine wpAny_bind (m:=updateSeq L (·.push .none)) (wpAny_updateSeq c2 rfl ?_)
 have g3:=Heap.get?_update_self (Obj.mapSeq (·.push Value.none)) c2 rfl
 refine wpAny_updateSeq (hz:=by seq_fits) g3 rfl ?_
 have g4:=Heap.get?_update_self (Obj.mapSeq (·.pop)) g3 rfl
 have o4:∀b o,b≠L→p2.get? b=some o→((p2.update L (Obj.mapSeq (·.push Value.none))).update L (Obj.mapSeq (·.pop))).get? b=some o:=fun b o hb e=>(Heap.get?_update_other _ _ (Ne.symm hb)).trans ((Heap.get?_update_other _ _ (Ne.symm hb)).trans e)
 have JY:id (es.size≤sizeLine):=by show es.size≤sizeLine;rw[sizeLine_eq];omega
 refine wpAny_pure ⟨plainId_quiet F.plain_extend_loop _,codeAny_extend_loopS W JY _ a1 _ es.size 0 _ _ _ rfl (Nat.zero_le _) ⟨Nat.zero_le _,hit.at fun o e=>o4 _ o PJ e,o4 a o PK (hk a o ph)⟩ g4 (ItemsOf.nil _) fun s' e_ c' hm uO ni=>?_⟩
 show wpAny _ A (load L >>= _) _ _ s'
 refine wpAny_bind (wpAny_load uO (wpAny_pure ?_))
 -- Oc XB gathered
 have jJ:=fq w a es ep
 rw[S.ents]at jJ
 obtain⟨ys,py,ey⟩:=gJ jJ
 have ea:e_.toList=ys.map fun y=>Value.ref y.2:=by
  obtain⟨h1,h2⟩:=ni
  have XC:(gL w a es ep).size=es.size:=by
   have:=(fq w a es ep).length_eq
   simpa using this
  refine List.ext_getElem? fun j=>?_
  by_cases hj:j<es.size
  ·have e1:e_[j]? =some (e_[j]'(by omega)):=Array.getElem?_eq_getElem _
   obtain⟨e,e2,e3⟩:=h2 j _ e1
   rw[←Array.getElem?_toList,ey,List.getElem?_map]at e2
   obtain⟨y,hy,rfl⟩:=Option.map_eq_some_iff.mp e2
   rw[show e_.toList[j]? =e_[j]? by simp,e1,e3,List.getElem?_map,hy]
   rfl
  ·have yl:ys.length=es.size:=by rw[py.length_eq,←S.size]
   rw[List.getElem?_eq_none (by simp;omega),List.getElem?_eq_none (by rw[List.length_map];omega)]
 rw[ea]
 obtain⟨h',g',d',Hi,Ks⟩:=s'
 have eg:g'=s.gens:=hm.gens
 have ed:d'=s.drawn:=hm.drawn
 have eo:Ks=s.os:=hm.os
 subst eg;subst ed;subst eo
 refine hQ h' Hi ys (fun b u e=>?_) py
 obtain⟨hb,UZ⟩:=hold b u e
 have PL:b≠L:=Nat.ne_of_lt hb
 refine hm.heap b u ?_ (o4 b u PL (hk b u UZ))
 simp only[List.mem_cons,List.not_mem_nil,or_false,not_or]
 exact⟨PL,by rw[hsz];exact Nat.ne_of_lt (Nat.lt_succ_of_lt hb)⟩
end
end L2
namespace L2
open PySem PySem.Spec PyProof.Rows PySem.W
def kc(vs:List Value):Sem PySem.Fin:=do
 let l ←newList vs
 let _ ←holding [l] (call (.builtin "list.sort") [l] [])
 ret l
section
variable{prog:Program}{w:World}{A:Around}{E:Value→Shared→Prop}{s:Shared}{h₀:Heap}{L:Addr}{m:Str→Option Value}{news:List (Addr×Obj)}{vs:List Value}
theorem kat_tail{Q:Value→Shared→Prop}(F:Fr h₀ L s.heap m)(N:News h₀ L s.heap news)(h2: 2≤vs.length)(Ey:vs.length<64)
  (h:∀D e1 h',Fr h₀ L h' m→News h₀ L h' ((D,seqObj "list" #[] e1)::news)→(∀q∈news,q.1<D)→
   wpAny (model prog w) A.in1.in1 (keyKind' vs.toArray) (fun κ s'=>(kas_sort vs.length).kasWp (kas_ask prog w A.in1.in1 κ vs) (fun p vU=>KasFin h₀ L m D e1 (p.toList.map fun i=>vs.getD i Value.none) (fun s3=>Q (.ref D) s3) vU) s') (fun _ _=>False) { s with heap:=h' }):
  wpAny (model prog w) A.in1 (kc vs) (fun fin s'=>∃r,fin= .done (.ret r)∧Q r s') E s:=by
 unfold kc
 refine wpAny_bind (wpAny_newList ?_ (by rw[sizeLine_eq];omega))
 have uj:(s.heap.push (seqObj "list" vs.toArray 0)).get? s.heap.objs.size=some (seqObj "list" vs.toArray 0):=Heap.get?_push_size _ rfl
 have keep:∀b o,s.heap.get? b=some o→(s.heap.push (seqObj "list" vs.toArray 0)).get? b=some o:=fun b o q=>Heap.get?_push_of_some _ q
 have hL:L<s.heap.objs.size:=F.ns.lt
 show wpAny _ _ _ _ _ { s with heap:=s.heap.push (seqObj "list" vs.toArray 0) }
 refine wpAny_bind (wpAny_holding (wpAny_call_entry slot_list_sort ⟨_,uj,rfl⟩ entry_list_sort ?body (args_list_sort _)))
 case body=>
  refine kat_list_sort (s:={ s with heap:=s.heap.push (seqObj "list" vs.toArray 0) })
   (F.kept keep) (N.grown keep) uj (Nat.ne_of_gt hL) (Heap.get?_none_of_le (Nat.le_trans F.above (Nat.le_of_lt hL)))
   (fun p hp=>Nat.ne_of_lt (Heap.lt_size (N p hp).1)) h2 Ey fun e1 h' F' N'=>?_
  refine wpAny_mono (h _ e1 h' F' N' fun q hq=>Heap.lt_size (N q hq).1) (fun κ s' hk=>?_) fun _ _ x=>x
  rw[kat_ask_eq rfl]at hk ⊢
  exact kas_wp_mono hk fun p vU ix=>ix.mono fun s3 hq=>⟨_,rfl,wpAny_pure ⟨_,rfl,hq⟩⟩
theorem xA{Q:Value→Shared→Prop}(h2:vs.length<2)
  (h:Q (.ref s.heap.objs.size) { s with heap:=sortedHeap (s.heap.push (seqObj "list" vs.toArray 0)) s.heap.objs.size vs ((vs.toArray.zip vs.toArray).map (·.2)) }):wpAny (model prog w) A.in1 (kc vs) (fun fin s'=>∃r,fin= .done (.ret r)∧Q r s') E s:=by
 unfold kc
 refine wpAny_bind (wpAny_newList ?_ (by rw[sizeLine_eq];omega))
 have uj:(s.heap.push (seqObj "list" vs.toArray 0)).get? s.heap.objs.size=some (seqObj "list" vs.toArray 0):=Heap.get?_push_size _ rfl
 show wpAny _ _ _ _ _ { s with heap:=s.heap.push (seqObj "list" vs.toArray 0) }
 refine wpAny_bind (wpAny_holding (wpAny_call_entry slot_list_sort ⟨_,uj,rfl⟩ entry_list_sort (ny uj h2 ⟨_,rfl,?_⟩) (args_list_sort _)))
 exact wpAny_pure ⟨_,rfl,h⟩
end
end L2
namespace L2
open PySem PySem.Spec PyProof.Rows PySem.W
open PySem.SetTable (lg gH eT)
section
variable{X:Cx}{pins:List (Addr×Obj)}{σ:St}{H:Hp}{s:Shared}{E:Value→Shared→Prop}
theorem xB{as:List Addr}{ts:List (List Int)}{Q:VK}(I:Inv X pins σ H s)(pr:Paired (fun(a:Addr) (t:List Int)=>H a=some (.tup (t.map V.int))∧t≠[]) as ts)(Ey:as.length<64)
  (q:∀(D:Addr) (bs:List Addr) (us:List (List Int)),H D=none→Paired (fun(a:Addr) (t:List Int)=>H a=some (.tup (t.map V.int))) bs us→us.Perm ts→us.Pairwise (fun a b=>bc a b=false)→Q (.ref D) (upd H D (.lst (bs.map V.ref)))):
  wpAny (model X.prog X.w) X.A.in1 (kc (as.map Value.ref)) (fun fin s'=>∃r,fin= .done (.ret r)∧EP X pins σ Q r s') E s:=by
 have rj:as.length=ts.length:=Paired.length pr
 by_cases h2:as.length<2
 ·refine xA (by simpa using h2) ?_
  have uj:(s.heap.push (seqObj "list" (as.map Value.ref).toArray 0)).get? s.heap.objs.size=some (seqObj "list" (as.map Value.ref).toArray 0):=Heap.get?_push_size _ rfl
  obtain⟨e,he⟩:=sortedHeap_at (out:=((as.map Value.ref).toArray.zip (as.map Value.ref).toArray).map (·.2)) uj
  have eo:(((as.map Value.ref).toArray.zip (as.map Value.ref).toArray).map (·.2)).toList=as.map Value.ref:=by
   rw[Array.toList_map]
   show((pairsOf (as.map Value.ref)).toList).map (·.2)=_
   rw[pairsOf_toList]
   exact List.map_snd_zip (Nat.le_refl _)
  have keep:∀b u,s.heap.get? b=some u→(sortedHeap (s.heap.push (seqObj "list" (as.map Value.ref).toArray 0)) s.heap.objs.size (as.map Value.ref) (((as.map Value.ref).toArray.zip (as.map Value.ref).toArray).map (·.2))).get? b=some u:=fun b u eb=>by
   have da:=Heap.lt_size eb
   rw[sortedHeap_old (Nat.ne_of_lt da) (by rw[size_push'];exact Nat.lt_succ_of_lt da)]
   exact Heap.get?_push_of_some _ eb
  refine⟨.ref s.heap.objs.size,_,I.laid (a:=s.heap.objs.size) (t':=s.toks) keep (Nat.le_refl _) (show bH X.prog X.w _ _ _ (.lst (as.map V.ref))from⟨by rw[List.length_map,sizeLine_eq];omega,as.map Value.ref,e,j6 as,by rw[he,←Array.toArray_toList (xs:=Array.map (fun x=>x.snd) ((List.map Value.ref as).toArray.zip (List.map Value.ref as).toArray)),eo]⟩),rfl,q _ as ts (I.aR.fresh (Nat.le_refl _)) (L2.Paired.mw pr fun _ _ z=>z.1) (List.Perm.refl _) ?_⟩
  match ts,rj with
  |[],_=>exact .nil
  |[_],_=>exact List.pairwise_singleton ..
  |_::_::_,e=>simp at e;omega
 ·obtain⟨m,F⟩:=I.fr
  refine kat_tail (vs:=as.map Value.ref) F sV (by simpa using(by omega: 2≤as.length)) (by simpa using Ey) fun D e1 h' F' N' hD=>?_
  obtain⟨I1,wF⟩:=I.uN (out:=[]) (c:=e1) F.ns F' N' hD .nil (Nat.zero_le _)
  have zA:Paired (fun(a:Addr) (t:List Int)=>upd H D (.lst []) a=some (.tup (t.map V.int))∧t≠[]) as ts:=L2.Paired.mw pr fun a t z=>⟨eJ z.1 wF,z.2⟩
  obtain⟨fs,k1,k2,k3⟩:=j7 I1 zA
  refine kat_kind (T:=.type "int") (fs:=fs) k1 (by omega) (fun v hv=>?_) (by decide) ?_
  ·obtain⟨i,t,rfl⟩:=k3 v hv
   exact qT
  rw[List.length_map]
  have O:=w8 ts
  have S:=wX O (n:=as.length) (by omega)
  have hp:∀i∈(ev (fun i j=>bc (ts.getD j []) (ts.getD i [])) (kas_sort as.length)).toList,i<as.length:=fun i hi=>by
   have:=(Array.perm_iff_toList_perm.mp S.2.2).mem_iff.mp hi
   simpa using this
  refine oq (n:=as.length) (lt:=fun i j=>bc (ts.getD j []) (ts.getD i [])) (fun i j C hi hj hC=>?_) _ (tO (by omega)) ?_
  ·obtain⟨a,t,ea,et,ra,_⟩:=cK zA hi
   obtain⟨b,w,eb,ew,rb,_⟩:=cK zA hj
   obtain⟨Ez,r1,⟨o1,g1,c1,m1,d1⟩,_⟩:=I1.tuple (dk.of ra)
   obtain⟨lu,r2,⟨o2,g2,c2,m2,d2⟩,_⟩:=I1.tuple (dk.of rb)
   unfold kas_ask
   have v1:(as.map Value.ref).getD i Value.none= .ref a:=by simp[List.getD,ea]
   have v2:(as.map Value.ref).getD j Value.none= .ref b:=by simp[List.getD,eb]
   rw[v1,v2]
   refine kat_lt g1 d1 g2 d2 (jh 0 (by simpa using ints_of r1) (by simpa using ints_of r2) (fun _=>by simp) ?_)
   have t1:ts.getD i []=t:=by simp[List.getD,et]
   have t2:ts.getD j []=w:=by simp[List.getD,ew]
   have hC:C (bc (ts.getD j []) (ts.getD i [])) _:=hC
   rw[t1,t2]at hC
   exact hC
  ·generalize UC:ev (fun i j=>bc (ts.getD j []) (ts.getD i [])) (kas_sort as.length)=p at*
   refine KasFin.intro F' N' (.head fun z hz=>Nat.ne_of_lt (hD z hz)) fun UD c2 F2 N2=>?_
   have LK:∀l:List Nat,(∀i∈l,i<as.length)→Vals ((l.map fun i=>as.getD i 0).map V.ref) (l.map fun i=>(as.map Value.ref).getD i Value.none):=fun l=>by
    induction l with
    |nil=>exact fun _=>.nil
    |cons i l ih=>
     intro i9
     have hi:i<as.length:=i9 i List.mem_cons_self
     refine .cons ?_ (ih fun j hj=>i9 j (List.mem_cons_of_mem _ hj))
     show(as.map Value.ref).getD i Value.none=Value.ref (as.getD i 0)
     simp[List.getD,hi]
   have lp:p.toList.length=as.length:=by rw[Array.length_toList];exact S.2.1
   obtain⟨I2,_⟩:=I.uN F.ns F2 N2 hD (LK p.toList hp) (by rw[List.length_map,List.length_map,lp,sizeLine_eq];omega)
   refine⟨.ref D,_,I2,rfl,q D (p.toList.map fun i=>as.getD i 0) (p.toList.map fun i=>ts.getD i []) wF ?_ ?_ ?_⟩
   ·have:∀l:List Nat,(∀i∈l,i<as.length)→Paired (fun(a:Addr) (t:List Int)=>H a=some (.tup (t.map V.int))) (l.map fun i=>as.getD i 0) (l.map fun i=>ts.getD i []):=fun l=>by
     induction l with
     |nil=>exact fun _=>.nil
     |cons i l ih=>
      intro i9
      obtain⟨a,t,ea,et,ra,_⟩:=cK pr (i9 i List.mem_cons_self)
      refine .cons ?_ (ih fun j hj=>i9 j (List.mem_cons_of_mem _ hj))
      have t1:ts.getD i []=t:=by simp[List.getD,et]
      have a1:as.getD i 0=a:=by simp[List.getD,ea]
      show H (as.getD i 0)=some (.tup ((ts.getD i []).map V.int))
      rw[t1,a1]
      exact ra
    exact this p.toList hp
   ·have e:=(Array.perm_iff_toList_perm.mp S.2.2).map fun i=>ts.getD i []
    rw[rj]at e
    have e2:(List.range ts.length).toArray.toList=List.range ts.length:=rfl
    rw[e2,range_getD]at e
    exact e
   ·rw[List.pairwise_map,List.pairwise_iff_getElem]
    intro i j hi hj eI
    have:=S.1 i j (Nat.le_of_lt eI) (by omega)
    have a1:at_ p i=p.toList[i]:=by rw[jk];simp at hi ⊢;simp[hi]
    have a2:at_ p j=p.toList[j]:=by rw[jk];simp at hj ⊢;simp[hj]
    rw[a1,a2]at this
    exact this
end
end L2
namespace PySem
open Sem (wp)
open PyProof.Rows
set_option maxRecDepth 100000
namespace SetTable
section
variable{prog:Program}{w:World}{A:Around}{E:Value→Shared→Prop}{s:Shared}
theorem jG{l:Addr}{items:Array Value}{as:Nat→Addr}{ks:Nat→List Int}{Q:Value→Shared→Prop}(hu:A.units+16<cLine)
  (hh:A.handled=none)(hl:s.heap.IsList l items)(hi:∀(i:Nat) v,items[i]? =some v→v= .ref (as i))(hT:∀j,j<items.size→IsT prog w s.heap (ks j) (as j))(hb:items.size≤75)
  (h:∀(h':Heap) (tk:Nat) (ys:List (List Int×Addr)),gH prog w (!w.params.followText "set-order") h' s.heap.objs.size ys→(ys.map (·.1)).Perm (eT ((List.range items.size).map ks))→
   (∀b o,b<s.heap.objs.size→s.heap.get? b=some o→h'.get? b=some o)→(∀x∈ys,∃i,i<items.size∧x=(ks i,as i))→Q (.ref s.heap.objs.size) { s with heap:=h',toks:=tk }):
  wpAny (model prog w) A (call (.type "set") [.ref l]) Q E s:=by
 obtain⟨o,ho,q⟩:=hl
 exact Cd hu ho q.1 F.sub_list_set F.sub_list_frozenset (by decide) (fun {_ _ _ _} e r=>wpAny_pyIter_list ⟨o,e,q⟩ r) (fun I ne=>Walks.list (by simp[hh]) I l ne items)
  (fun g e=>⟨⟨_,Heap.get?_push_size _ rfl,rfl,rfl⟩,o,Heap.get?_push_of_some _ e,q⟩) hi hT hb h
end
end SetTable
end PySem
namespace L2
open PySem PySem.Spec PyProof.Rows PySem.W
open PySem.SetTable (lg gH eT kO)
def Cj(K:PySem.W.Frag)(t:TA):TE:=fun σ H Q=>t σ H fun vs H1=>∃(a:Addr) (as:List Addr) (ks:List (List Int)),vs=[.ref a]∧cU K H1 a (as.map V.ref)∧Paired (fun(a:Addr) (t:List Int)=>H1 a=some (.tup (t.map V.int))) as ks∧as.length≤75∧Q (.int (eT ks).length) H1
def Ck(K:PySem.W.Frag)(t:TA):TE:=fun σ H Q=>t σ H fun vs H1=>∃(a:Addr) (as:List Addr) (ks:List (List Int)),vs=[.ref a]∧cU K H1 a (as.map V.ref)∧Paired (fun(a:Addr) (t:List Int)=>H1 a=some (.tup (t.map V.int))∧t≠[]) as ks∧as.length≤60∧
 ∀(D:Addr) (bs:List Addr) (us:List (List Int)),H1 D=none→Paired (fun(a:Addr) (t:List Int)=>H1 a=some (.tup (t.map V.int))) bs us→us.Perm (eT ks)→us.Pairwise (fun a b=>bc a b=false)→Q (.ref D) (upd H1 D (.lst (bs.map V.ref)))
theorem o6{α β γ:Type}{R:α→β→Prop}{f:γ→α}{g:γ→β}:∀{zs:List γ},(∀z∈zs,R (f z) (g z))→Paired R (zs.map f) (zs.map g)
 |[],_=>.nil
 |z::zs,h=>.cons (h z List.mem_cons_self) (o6 fun z hz=>h z (List.mem_cons_of_mem _ hz))
section
variable{X:Cx}
theorem xC{p0 p1 p2 pos:Pos}{e:Expr}{f:TA}(hc:X.calm=true)(hu:X.A.units+64<cLine)(hg:Gl X "len")(hm:X.mg "len" =none)(oh:Gl X "set")(qV:X.mg "set" =none)(ha:PA X [e] f)
  (hs:starEach [.Call (.Name "set" p1) [e] [] p2] X.env=[(false,eval (.Call (.Name "set" p1) [e] [] p2) X.env)]:=by rfl)
  (kZ:starEach [e] X.env=(false,eval e X.env)::starEach [] X.env:=by rfl)(dq:(backTo p2 (starEach [] X.env)).any (·.1)=false:=by rfl):
  PE X (.Call (.Name "len" p0) [.Call (.Name "set" p1) [e] [] p2] [] pos) (Cj X.K f):=by
 intro pins s σ H Q I h
 refine wpAny_Call_Name_kw (dX I hg hm (u:=.builtin "len") (by decide +kernel) ?_)
 refine PyProof.Rows.callWith_builtin1 ?_ hs rfl
 rw[hs]
 show wpAny _ _ (spliced [(false,eval (.Call (.Name "set" p1) [e] [] p2) X.env)]) _ _ _
 refine Calls.spliced_cons ?_
 refine wpAny_Call_Name_kw (dX I oh qV (u:=.type "set") (by decide +kernel) ?_)
 refine PyProof.Rows.callWith_type1 (bj (ha p2 pins s σ H _ I h) fun us s1 aX=>?_) kZ dq
 obtain⟨vs,H1,I1,r1,q1⟩:=aX
 obtain⟨t,as,ks,rfl,ht,pr,hz,q⟩:=q1
 obtain⟨u1,rfl,ra⟩:=vals1 r1
 cases (show u1=Value.ref t from ra)
 obtain⟨its,hv,tt,_⟩:=I1.list ht
 cases ig hv
 have rj:as.length=ks.length:=Paired.length pr
 have xD:(as.map Value.ref).toArray.size=as.length:=by simp
 refine SetTable.jG (as:=fun i=>as.getD i 0) (ks:=fun i=>ks.getD i []) (by omega) (I.ok.hd hc) tt.isList (fun i v hv=>?_) (fun j hj=>?_) (by rw[xD];exact hz) fun h' tk ys S pm hk _=>?_
 ·simp at hv
  obtain⟨a,ha,rfl⟩:=hv
  simp[List.getD,ha]
 ·rw[xD]at hj
  obtain⟨a,t',ea,et,ra⟩:=cK pr hj
  obtain⟨Ez,r1,⟨o1,g1,c1,m1,d1⟩,_⟩:=I1.tuple (dk.of ra)
  have e1:as.getD j 0=a:=by simp[List.getD,ea]
  have e2:ks.getD j []=t':=by simp[List.getD,et]
  show IsTupleKey _ _ (ks.getD j []) (as.getD j 0)
  rw[e1,e2]
  exact⟨o1,_,_,g1,c1,d1,by simpa using va r1⟩
 ·refine Calls.spliced_nil ?_
  have I2:Inv X pins σ H1 { s1 with heap:=h',toks:=tk }:=I1.kept (t':=tk) fun b o e=>hk b o (Heap.lt_size e) e
  obtain⟨o,es,ep,tb,ho,S,_⟩:=S
  have hsz:es.size=(eT ks).length:=by
   rw[S.size,←List.length_map (f:=(·.1)),pm.length_eq,xD,rj,range_getD]
  refine call_len_set (s:={ s1 with heap:=h',toks:=tk }) ho S.ex S.dat S.fits ?_ ?_
  ·rw[hsz]
   have:=kO ks
   omega
  ·rw[hsz]
   exact⟨.int (eT ks).length,H1,I2.tok _,⟨_,rfl⟩,q⟩
theorem xE{p0 p1 p2 pos:Pos}{e:Expr}{f:TA}(hc:X.calm=true)(hu:X.A.units+64<cLine)(hg:Gl X "sorted")(hm:X.mg "sorted" =none)(oh:Gl X "set")(qV:X.mg "set" =none)(ha:PA X [e] f)
  (hs:starEach [.Call (.Name "set" p1) [e] [] p2] X.env=[(false,eval (.Call (.Name "set" p1) [e] [] p2) X.env)]:=by rfl)
  (kZ:starEach [e] X.env=(false,eval e X.env)::starEach [] X.env:=by rfl)(dq:(backTo p2 (starEach [] X.env)).any (·.1)=false:=by rfl):
  PE X (.Call (.Name "sorted" p0) [.Call (.Name "set" p1) [e] [] p2] [] pos) (Ck X.K f):=by
 intro pins s σ H Q I h
 refine wpAny_Call_Name_kw (dX I hg hm (u:=.builtin "sorted") (by decide +kernel) ?_)
 refine PyProof.Rows.callWith_builtin1 ?_ hs rfl
 rw[hs]
 show wpAny _ _ (spliced [(false,eval (.Call (.Name "set" p1) [e] [] p2) X.env)]) _ _ _
 refine Calls.spliced_cons ?_
 refine wpAny_Call_Name_kw (dX I oh qV (u:=.type "set") (by decide +kernel) ?_)
 refine PyProof.Rows.callWith_type1 (bj (ha p2 pins s σ H _ I h) fun us s1 aX=>?_) kZ dq
 obtain⟨vs,H1,I1,r1,q1⟩:=aX
 obtain⟨t,as,ks,rfl,ht,pr,hz,q⟩:=q1
 obtain⟨u1,rfl,ra⟩:=vals1 r1
 cases (show u1=Value.ref t from ra)
 obtain⟨its,hv,tt,_⟩:=I1.list ht
 cases ig hv
 have rj:as.length=ks.length:=Paired.length pr
 have xD:(as.map Value.ref).toArray.size=as.length:=by simp
 have both:∀j,j<as.length→H1 (as.getD j 0)=some (.tup ((ks.getD j []).map V.int))∧ks.getD j []≠[]:=fun j hj=>by
  obtain⟨a,t',ea,et,ra,rn⟩:=cK pr hj
  have e1:as.getD j 0=a:=by simp[List.getD,ea]
  have e2:ks.getD j []=t':=by simp[List.getD,et]
  rw[e1,e2]
  exact⟨ra,rn⟩
 refine SetTable.jG (as:=fun i=>as.getD i 0) (ks:=fun i=>ks.getD i []) (by omega) (I.ok.hd hc) tt.isList (fun i v hv=>?_) (fun j hj=>?_) (by rw[xD];omega) fun h' tk ys S pm hk LY=>?_
 ·simp at hv
  obtain⟨a,ha,rfl⟩:=hv
  simp[List.getD,ha]
 ·rw[xD]at hj
  obtain⟨Ez,r1,⟨o1,g1,c1,m1,d1⟩,_⟩:=I1.tuple (dk.of (both j hj).1)
  exact⟨o1,_,_,g1,c1,d1,by simpa using va r1⟩
 ·refine Calls.spliced_nil ?_
  have I2:Inv X pins σ H1 { s1 with heap:=h',toks:=tk }:=I1.kept (t':=tk) fun b o e=>hk b o (Heap.lt_size e) e
  obtain⟨o,es,ep,tb,ho,S,_⟩:=S
  have jJ:(ys.map (·.1)).Perm (eT ks):=by rw[xD,rj,range_getD]at pm;exact pm
  have hlen:ys.length≤60:=by
   have:=jJ.length_eq
   rw[List.length_map]at this
   have:=kO ks
   omega
  refine Calls.call_function_entry kind_sorted plain_sorted entry_sorted (args_sorted1 _) ?_
  unfold Builtin.«sorted»
  refine wpAny_bind (m:=checkCount "sorted" 1 1 _) (wpAny_pure ?_)
  refine wpAny_bind (xy (s:={ s1 with heap:=h',toks:=tk }) (I.ok.hd hc) rfl ho S (by rw[S.size];omega) fun h2 PM zs wL pz=>?_)
  have I3:Inv X pins σ H1 { s1 with heap:=h2,toks:=PM }:=I2.kept (t':=PM) fun b o e=>wL b o e
  have U0:Paired (fun(a:Addr) (t:List Int)=>H1 a=some (.tup (t.map V.int))∧t≠[]) (zs.map (·.2)) (zs.map (·.1)):=o6 fun z BF=>by
   obtain⟨i,hi,rfl⟩:=LY z (pz.mem_iff.mp BF)
   rw[xD]at hi
   exact both i hi
  have tl:=xB (Q:=Q) (E:=X.xe) I3 U0 (by rw[List.length_map,pz.length_eq];omega) (fun D bs us hD pb p1 wZ=>q D bs us hD pb (p1.trans ((pz.map (·.1)).trans jJ)) wZ)
  rw[List.map_map]at tl
  exact tl
end
end L2
namespace Qm
open PySem
noncomputable section
def kQ:FN:=one fun x c=>(br x c).bind fun l=>(omap rowOf l.2).bind fun rs=>if rs.length≤75 then some (.int (nD rs).length,c)else none
def kR:FN:=one fun x c=>(br x c).bind fun l=>(omap rowOf l.2).bind fun rs=>if rs.length≤60∧rs.all (fun r=>!r.isEmpty)=true then some (.ref c.length,c++[.lst (((nD rs).mergeSort jm).map fun r=>.tup (r.map .int))])else none
end
end Qm
namespace L2
open PySem PySem.Spec PyProof.Rows PySem.W
section
variable{X:Cx}{e1:Expr}{p0 p1 p2 pos:Pos}{f:Qm.XA}
theorem xF(hg:Gl X "len")(hm:X.mg "len" =none)(oh:Gl X "set")(qV:X.mg "set" =none)(hu:X.A.units+64<cLine)(ha:QA X [e1] f)(hc:X.calm=true:=by rfl)
  (hs:starEach [.Call (.Name "set" p1) [e1] [] p2] X.env=[(false,eval (.Call (.Name "set" p1) [e1] [] p2) X.env)]:=by rfl)
  (kZ:starEach [e1] X.env=(false,eval e1 X.env)::starEach [] X.env:=by rfl)(dq:(backTo p2 (starEach [] X.env)).any (·.1)=false:=by rfl):
  QE X (.Call (.Name "len" p0) [.Call (.Name "set" p1) [e1] [] p2] [] pos) (Qm.eB Qm.kQ f):=(xC hc hu hg hm oh qV ha hs kZ dq).imp <| by
 rintro σ H Q ⟨ρ,env,c,d,c',rs,re,e,k⟩
 obtain⟨p,ea,e⟩:=aE e
 refine⟨ρ,env,c,p.1,p.2,rs,re,ea,fun aJ vs H1 n1 r1=>?_⟩
 obtain⟨x,hp,e⟩:=ia e
 rw[hp]at r1
 obtain⟨v,rfl,rx⟩:=r1.iT
 obtain⟨l,e1,e⟩:=aE e
 obtain⟨ts,e2,e⟩:=aE e
 split at e
 ·rename_i hz
  cases e
  obtain⟨_,hc,ws,rfl,h1,a1⟩:=n1.rs.br rx e1
  obtain⟨as,rfl,pr⟩:=nA a1 e2
  exact⟨_,as,ts,rfl,cU.of h1,pr,by rw[Paired.length pr];exact hz,k _ _ _ n1 (.int _)⟩
 ·cases e
theorem xG(hg:Gl X "sorted")(hm:X.mg "sorted" =none)(oh:Gl X "set")(qV:X.mg "set" =none)(hu:X.A.units+64<cLine)(ha:QA X [e1] f)(hc:X.calm=true:=by rfl)
  (hs:starEach [.Call (.Name "set" p1) [e1] [] p2] X.env=[(false,eval (.Call (.Name "set" p1) [e1] [] p2) X.env)]:=by rfl)
  (kZ:starEach [e1] X.env=(false,eval e1 X.env)::starEach [] X.env:=by rfl)(dq:(backTo p2 (starEach [] X.env)).any (·.1)=false:=by rfl):
  QE X (.Call (.Name "sorted" p0) [.Call (.Name "set" p1) [e1] [] p2] [] pos) (Qm.eB Qm.kR f):=(xE hc hu hg hm oh qV ha hs kZ dq).imp <| by
 rintro σ H Q ⟨ρ,env,c,d,c',rs,re,e,k⟩
 obtain⟨p,ea,e⟩:=aE e
 refine⟨ρ,env,c,p.1,p.2,rs,re,ea,fun aJ vs H1 n1 r1=>?_⟩
 obtain⟨x,hp,e⟩:=ia e
 rw[hp]at r1
 obtain⟨v,rfl,rx⟩:=r1.iT
 obtain⟨l,e1,e⟩:=aE e
 obtain⟨ts,e2,e⟩:=aE e
 split at e
 ·rename_i hz
  cases e
  obtain⟨_,hc,ws,rfl,h1,a1⟩:=n1.rs.br rx e1
  obtain⟨as,rfl,pr⟩:=nA a1 e2
  have lL:∀t∈ts,t≠[]:=fun t ht z=>by
   have:=List.all_eq_true.mp hz.2 t ht
   rw[z]at this;simp at this
  refine⟨_,as,ts,rfl,cU.of h1,oY pr lL,by rw[Paired.length pr];exact hz.1,fun D bs us hD pb pm wZ=>?_⟩
  rw[w_ pm wZ]at pb
  obtain⟨n,r⟩:=Nx.alloc n1.rs hD (rk pb)
  exact k _ _ _ (n1.trans n) r
 ·cases e
end
end L2
namespace L2
open PySem PySem.W PySem.Spec PyProof.Rows
def rD(st:Stmt):Expr:=match (aP st).getLast? with
 |some (.Return (some (.Call _ (_::l::_) _ _)) _)=>l
 |_=>.Constant .none 0 ⟨0,0,0,0⟩
theorem EV{N:List Str}:∀(j i':Nat) (x':Str),([]:List Nat)[j]? =some i'→([]:List Str)[j]? =some x'→N[i']? =some x':=fun _ _ _ e _=>nomatch e
theorem xH{P:Str→Prop}:∀x∈([]:List Str),P x:=fun _ h=>nomatch h
def EW(ts:List Addr)(K:Frag)(F:Qm.bD→Nat→Qm.FN):Sp:=fun vs H Q E=>∀τ:Nat,Pd ts K (fun t=>F t τ) vs H Q E
end L2
namespace My
abbrev T3:=Int×Int×Int
def cw(p:T3):Prop:=v_ p.1 p.2.1 p.2.2
def cI(p q:T3):Bool:=jc p.1 p.2.1 p.2.2 q.1 q.2.1 q.2.2
theorem EX{a b c d e f:Int}(hb: 0<b)(hd: 0<d)(hf: 0<f)(h1:a*d<c*b)(h2:c*f<e*d):a*f<e*b:=by
 have a1:a*d*f<c*b*f:=Int.mul_lt_mul_of_pos_right h1 hf
 have a2:c*f*b<e*d*b:=Int.mul_lt_mul_of_pos_right h2 hb
 have e1:a*d*f=(a*f)*d:=by grind
 have e2:c*b*f=c*f*b:=by grind
 have e3:e*d*b=(e*b)*d:=by grind
 have:(a*f)*d<(e*b)*d:=by omega
 exact Int.lt_of_mul_lt_mul_right this (Int.le_of_lt hd)
theorem L3{a b c d e f:Int}(hd: 0<d)(h1:a*d=c*b)(h2:c*f=e*d):a*f=e*b:=by
 have:(a*f)*d=(e*b)*d:=by grind
 exact Int.eq_of_mul_eq_mul_right (by omega) this
theorem HE{a b c d e f:Int}(hb: 0<b)(hd: 0<d)(hf: 0<f)(h1:a*d<c*b)(h2:c*f=e*d):a*f<e*b:=by
 have a1:a*d*f<c*b*f:=Int.mul_lt_mul_of_pos_right h1 hf
 have e1:a*d*f=(a*f)*d:=by grind
 have e2:c*b*f=(e*b)*d:=by
  rw[show c*b*f=(c*f)*b by grind,h2];grind
 have:(a*f)*d<(e*b)*d:=by omega
 exact Int.lt_of_mul_lt_mul_right this (Int.le_of_lt hd)
theorem HF{a b c d e f:Int}(hb: 0<b)(hd: 0<d)(h1:a*d=c*b)(h2:c*f<e*d):a*f<e*b:=by
 have a1:c*f*b<e*d*b:=Int.mul_lt_mul_of_pos_right h2 hb
 have e1:c*f*b=(a*f)*d:=by
  rw[show c*f*b=(c*b)*f by grind,←h1];grind
 have e2:e*d*b=(e*b)*d:=by grind
 have:(a*f)*d<(e*b)*d:=by omega
 exact Int.lt_of_mul_lt_mul_right this (Int.le_of_lt hd)
theorem fG{p q:T3}:cI p q=true↔p.1*q.2.2<q.1*p.2.2∨(p.1*q.2.2=q.1*p.2.2∧p.2.1*q.2.2<q.2.1*p.2.2):=by
 unfold cI jc
 split
 ·rename_i h
  simp only[decide_eq_true_eq]
  constructor
  ·exact fun z=>.inr ⟨h,z⟩
  ·rintro(z|z)
   ·omega
   ·exact z.2
 ·rename_i h
  simp only[decide_eq_true_eq]
  constructor
  ·exact fun z=>.inl z
  ·rintro(z|z)
   ·exact z
   ·exact absurd z.1 h
theorem rE{p q r:T3}(hp:cw p)(hq:cw q)(hr:cw r)(h1:cI p q=true)(h2:cI q r=true):cI p r=true:=by
 have p0:=hp.pos;have q0:=hq.pos;have r0:=hr.pos
 rw[fG]at h1 h2 ⊢
 rcases h1 with h1|⟨e1,h1⟩<;>rcases h2 with h2|⟨e2,h2⟩
 ·exact .inl (EX p0 q0 r0 h1 h2)
 ·exact .inl (HE p0 q0 r0 h1 e2)
 ·exact .inl (HF p0 q0 e1 h2)
 ·exact .inr ⟨L3 q0 e1 e2,EX p0 q0 r0 h1 h2⟩
theorem gu{p q:T3}(h:cI p q=true):cI q p=false:=by
 cases h2:cI q p with
 |false=>rfl
 |true=>
  rw[fG]at h h2
  rcases h with h|h<;>rcases h2 with h2|h2<;>omega
theorem xI{p q:T3}(hp:cw p)(hq:cw q)(h1:cI p q=false)(h2:cI q p=false):p=q:=by
 have n1:¬(cI p q=true):=by rw[h1];decide
 have n2:¬(cI q p=true):=by rw[h2];decide
 rw[fG]at n1 n2
 have e1:p.1*q.2.2=q.1*p.2.2:=by omega
 have e2:p.2.1*q.2.2=q.2.1*p.2.2:=by omega
 obtain⟨a,b,c⟩:=jN hp hq e1 e2
 obtain⟨x,y,w⟩:=p
 obtain⟨x',y',w'⟩:=q
 dsimp only at a b c
 subst a b c
 rfl
def PN(l:List T3)(k:Nat):List T3:=l.drop k++l.take k
theorem away{α:Type}[DecidableEq α]:∀(l:List α) (f:Nat→α),(∀i j,f i=f j→i=j)→∃i,i≤l.length∧f i∉l
 |[],f,_=>⟨0,Nat.le_refl _,by simp⟩
 |a::l,f,hf=>by
  by_cases h:∃j,j≤l.length+1∧f j=a
  ·obtain⟨j,hj,e⟩:=h
   obtain⟨i,hi,hn⟩:=away l (fun i=>if i<j then f i else f (i+1)) (fun i k e=>by
    split at e<;>split at e
    ·exact hf _ _ e
    ·have:=hf _ _ e;omega
    ·have:=hf _ _ e;omega
    ·have:=hf _ _ e;omega)
   split at hn
   ·rename_i eI
    refine⟨i,by simp;omega,fun z=>?_⟩
    rcases List.mem_cons.mp z with z|z
    ·have:=hf _ _ (z.trans e.symm);omega
    ·exact hn z
   ·rename_i eI
    refine⟨i+1,by simp;omega,fun z=>?_⟩
    rcases List.mem_cons.mp z with z|z
    ·have:=hf _ _ (z.trans e.symm);omega
    ·exact hn z
  ·obtain⟨i,hi,hn⟩:=away l f hf
   refine⟨i,by simp;omega,fun z=>?_⟩
   rcases List.mem_cons.mp z with z|z
   ·exact h ⟨i,by omega,z⟩
   ·exact hn z
end My
namespace My
abbrev P2:=Int×Int
def cr(a b:P2):Int:=a.1*b.2 - b.1*a.2
def ch:List P2→Int
 |a::b::l=>cr a b+ch (b::l)
 |_=>0
def cz:List (P2×P2)→Int
 |[]=>0
 |z::l=>cr z.1 z.2+cz l
end My
set_option maxHeartbeats 2000000
namespace My
def eY(p q:T3):P2:=(q.1*p.2.2 - p.1*q.2.2,q.2.1*p.2.2 - p.2.1*q.2.2)
def nE(a b:P2):Int:=a.1*b.2 - a.2*b.1
def pG(a b:P2):Bool:=decide (nE a b=0)&&(decide (a.1*b.1≤0)&&decide (a.2*b.2≤0))
def rI(y v k:Int):Int:=if decide (y<0)=decide (v<0)then 0 else if 0<k then(if y<0 then 1 else 0)else(if y<0 then 0 else -1)
def U1(a b:P2):Int:=rI a.2 b.2 (nE a b)
structure Sg(x y z:Int):Prop where
 pp: 0<x→0<y→0<z
 nn:x<0→y<0→0<z
 pn: 0<x→y<0→z<0
 np:x<0→0<y→z<0
 z1:x=0→z=0
 z2:y=0→z=0
theorem HG(x y:Int):Sg x y (x*y):=⟨Int.mul_pos,Int.mul_pos_of_neg_of_neg,Int.mul_neg_of_pos_of_neg,Int.mul_neg_of_neg_of_pos,fun h=>by rw[h,Int.zero_mul],fun h=>by rw[h,Int.mul_zero]⟩
theorem nF{a b:P2}:pG a b=true↔nE a b=0∧a.1*b.1≤0∧a.2*b.2≤0:=by
 unfold pG
 simp only[Bool.and_eq_true,decide_eq_true_eq]
theorem i3(z:Int): 0<z∨z=0∨z<0:=by omega
theorem Cm(a b:P2):nE b a= - nE a b:=by unfold nE;rw[Int.mul_comm b.1,Int.mul_comm b.2];omega
theorem Cn(a b:P2):pG b a=pG a b:=by
 have:pG b a=true↔pG a b=true:=by rw[nF,nF,Cm,Int.mul_comm b.1,Int.mul_comm b.2];omega
 cases h1:pG b a<;>cases h2:pG a b<;>simp_all
theorem EY(p a b:T3):nE (eY p a) (eY p b)=p.2.2*det a.1 a.2.1 a.2.2 b.1 b.2.1 b.2.2 p.1 p.2.1 p.2.2:=by
 obtain⟨p0,p1,p2⟩:=p
 obtain⟨a0,a1,a2⟩:=a
 obtain⟨b0,b1,b2⟩:=b
 simp only[nE,eY,det];grind
theorem xJ{p0 p1 p2 q0 q1 q2:Int}:jc p0 p1 p2 q0 q1 q2=true↔p0*q2<q0*p2∨(p0*q2=q0*p2∧p1*q2<q1*p2):=fG (p:=(p0,p1,p2)) (q:=(q0,q1,q2))
theorem kS{p s e:Int}(hp: 0<p)(h:p*s=e):(0<s→0<e)∧(s=0→e=0)∧(s<0→e<0):=by
 subst h
 exact⟨Int.mul_pos hp,fun h=>by rw[h,Int.mul_zero],Int.mul_neg_of_pos_of_neg hp⟩
theorem U2{y v k n1 n2 t:Int}(s2:Sg y v k)(e3:(0<y→0<n1)∧(y=0→n1=0)∧(y<0→n1<0))(e4:(0<v→0<n2)∧(v=0→n2=0)∧(v<0→n2<0))(f2:(0<t→0<n1 - n2)∧(t=0→n1 - n2=0)∧(t<0→n1 - n2<0)):
  (if t<0 then ¬0<y∧¬v<0 else ¬0<v∧¬y<0)↔k≤0:=by
 obtain⟨p1,p2,p3,p4,p5,p6⟩:=s2
 rcases i3 y with hy|hy|hy<;>rcases i3 v with hv|hv|hv
 ·have:=p1 hy hv;clear e3 e4 f2;split<;>omega
 ·have:=p6 hv;have:=e3.1 hy;have:=e4.2.1 hv;have:=f2.2.2;clear e3 e4 f2;split<;>omega
 ·have:=p3 hy hv;have:=e3.1 hy;have:=e4.2.2 hv;have:=f2.2.2;clear e3 e4 f2;split<;>omega
 ·have:=p5 hy;have:=e3.2.1 hy;have:=e4.1 hv;have:=f2.1;have:=f2.2.1;clear e3 e4 f2;split<;>omega
 ·have:=p5 hy;clear e3 e4 f2;split<;>omega
 ·have:=p5 hy;have:=e3.2.1 hy;have:=e4.2.2 hv;have:=f2.2.2;clear e3 e4 f2;split<;>omega
 ·have:=p4 hy hv;have:=e3.2.2 hy;have:=e4.1 hv;have:=f2.1;have:=f2.2.1;clear e3 e4 f2;split<;>omega
 ·have:=p6 hv;have:=e3.2.2 hy;have:=e4.2.1 hv;have:=f2.1;have:=f2.2.1;clear e3 e4 f2;split<;>omega
 ·have:=p2 hy hv;clear e3 e4 f2;split<;>omega
theorem PQ{x y u v k2 k3 k4:Int}(s2:Sg y v k2)(s3:Sg x v k3)(s4:Sg y u k4)(c:k3 - k4=0)(h:(0<x∧u<0)∨(x<0∧0<u)):k2≤0:=by
 rcases i3 v with hv|hv|hv
 ·rcases i3 y with hy|hy|hy
  ·exfalso
   rcases h with h|h
   ·have:=s3.pp h.1 hv;have:=s4.pn hy h.2;omega
   ·have:=s3.np h.1 hv;have:=s4.pp hy h.2;omega
  ·exact Int.le_of_eq (s2.z1 hy)
  ·exact Int.le_of_lt (s2.np hy hv)
 ·exact Int.le_of_eq (s2.z2 hv)
 ·rcases i3 y with hy|hy|hy
  ·exact Int.le_of_lt (s2.pn hy hv)
  ·exact Int.le_of_eq (s2.z1 hy)
  ·exfalso
   rcases h with h|h
   ·have:=s3.pn h.1 hv;have:=s4.nn hy h.2;omega
   ·have:=s3.nn h.1 hv;have:=s4.np hy h.2;omega
theorem L4{x v k:Int}(s:Sg x v k)(h:x≠0)(e:k=0):v=0:=by
 rcases i3 v with hv|hv|hv
 ·rcases i3 x with hx|hx|hx
  ·have:=s.pp hx hv;omega
  ·exact absurd hx h
  ·have:=s.np hx hv;omega
 ·exact hv
 ·rcases i3 x with hx|hx|hx
  ·have:=s.pn hx hv;omega
  ·exact absurd hx h
  ·have:=s.nn hx hv;omega
theorem Jv{x v k:Int}(s:Sg x v k)(h:v≠0)(e:k=0):x=0:=L4 ⟨fun a b=>s.pp b a,fun a b=>s.nn b a,fun a b=>s.np b a,fun a b=>s.pn b a,s.z2,s.z1⟩ h e
theorem L5{s t x y u v k1 k2:Int}(hs: 0<s)(hu:¬(0<u∨(u=0∧0<v)))(hx:¬(x<0∨(x=0∧y<0)))(h1:k1≤0)(h2:k2≤0):(if s<0∨(s=0∧t<0)then ¬(0<x∨(x=0∧0<y))∧¬(u<0∨(u=0∧v<0))else ¬(0<u∨(u=0∧0<v))∧¬(x<0∨(x=0∧y<0)))↔k1≤0∧k2≤0:=by
 rw[if_neg (by clear hu hx h1 h2;omega)]
 exact⟨fun _=>⟨h1,h2⟩,fun _=>⟨hu,hx⟩⟩
theorem L6{s t x y u v k1 k2:Int}(hs:s<0)(hx:¬(0<x∨(x=0∧0<y)))(hu:¬(u<0∨(u=0∧v<0)))(h1:k1≤0)(h2:k2≤0):(if s<0∨(s=0∧t<0)then ¬(0<x∨(x=0∧0<y))∧¬(u<0∨(u=0∧v<0))else ¬(0<u∨(u=0∧0<v))∧¬(x<0∨(x=0∧y<0)))↔k1≤0∧k2≤0:=by
 rw[if_pos (.inl hs)]
 exact⟨fun _=>⟨h1,h2⟩,fun _=>⟨hx,hu⟩⟩
theorem L7{s m n:Int}(f:(0<s→0<m - n)∧(s=0→m - n=0)∧(s<0→m - n<0))(h:n<m): 0<s:=by
 rcases i3 s with z|z|z
 ·exact z
 ·have:=f.2.1 z;clear f;omega
 ·have:=f.2.2 z;clear f;omega
theorem L8{s m n:Int}(f:(0<s→0<m - n)∧(s=0→m - n=0)∧(s<0→m - n<0))(h:m<n):s<0:=by
 rcases i3 s with z|z|z
 ·have:=f.1 z;clear f;omega
 ·have:=f.2.1 z;clear f;omega
 ·exact z
theorem nq{p q:Prop}(h:¬p)(g:¬q):¬(p∨q):=fun z=>z.elim h g
theorem ltN{a b:Int}(h:a<b):¬b<a:=Int.not_lt.mpr (Int.le_of_lt h)
theorem HH{a:Int}(h:a=0):¬0<a:=by omega
theorem nZ{a:Int}(h:a=0):¬a<0:=by omega
theorem U3{x y u v k1 k2 k3 k4 m1 m2 n1 n2 s t:Int}(s1:Sg x u k1)(s2:Sg y v k2)(s3:Sg x v k3)(s4:Sg y u k4)(c:k3 - k4=0)(e1:(0<x→0<m1)∧(x=0→m1=0)∧(x<0→m1<0))(e2:(0<u→0<m2)∧(u=0→m2=0)∧(u<0→m2<0))(e3:(0<y→0<n1)∧(y=0→n1=0)∧(y<0→n1<0))(e4:(0<v→0<n2)∧(v=0→n2=0)∧(v<0→n2<0))
  (f1:(0<s→0<m1 - m2)∧(s=0→m1 - m2=0)∧(s<0→m1 - m2<0))(f2:(0<t→0<n1 - n2)∧(t=0→n1 - n2=0)∧(t<0→n1 - n2<0)):
  (if s<0∨(s=0∧t<0)then ¬(0<x∨(x=0∧0<y))∧¬(u<0∨(u=0∧v<0))else ¬(0<u∨(u=0∧0<v))∧¬(x<0∨(x=0∧y<0)))↔k1≤0∧k2≤0:=by
 rcases i3 x with hx|hx|hx<;>rcases i3 u with hu|hu|hu
 ·have:=s1.pp hx hu
  split
  ·exact⟨fun h=>absurd (.inl hx) h.1,fun h=>absurd h.1 (Int.not_le.mpr this)⟩
  ·exact⟨fun h=>absurd (.inl hu) h.1,fun h=>absurd h.1 (Int.not_le.mpr this)⟩
 ·have k4:=s4.z2 hu
  have hv:=L4 s3 (Int.ne_of_gt hx) (by clear s1 s2 s3 s4 e1 e2 e3 e4 f1 f2;omega)
  have q:=e1.1 hx
  exact L5 (L7 f1 (by rw[e2.2.1 hu];exact q)) (nq (HH hu) fun z=>HH hv z.2) (nq (ltN hx) fun z=>Int.ne_of_gt hx z.1) (Int.le_of_eq (s1.z2 hu)) (Int.le_of_eq (s2.z2 hv))
 ·exact L5 (L7 f1 (Int.lt_trans (e2.2.2 hu) (e1.1 hx))) (nq (ltN hu) fun z=>Int.ne_of_lt hu z.1) (nq (ltN hx) fun z=>Int.ne_of_gt hx z.1) (Int.le_of_lt (s1.pn hx hu)) (PQ s2 s3 s4 c (.inl ⟨hx,hu⟩))
 ·have U4:=s3.z1 hx
  have hy:=Jv s4 (Int.ne_of_gt hu) (by clear s1 s2 s3 s4 e1 e2 e3 e4 f1 f2;omega)
  have q:=e2.1 hu
  exact L6 (L8 f1 (by rw[e1.2.1 hx];exact q)) (nq (HH hx) fun z=>HH hy z.2) (nq (ltN hu) fun z=>Int.ne_of_gt hu z.1) (Int.le_of_eq (s1.z1 hx)) (Int.le_of_eq (s2.z1 hy))
 ·have hs:s=0:=by
   have h1:=e1.2.1 hx
   have h2:=e2.2.1 hu
   rcases i3 s with z|z|z
   ·have:=f1.1 z;clear s1 s2 s3 s4 e1 e2 e3 e4 f1 f2;omega
   ·exact z
   ·have:=f1.2.2 z;clear s1 s2 s3 s4 e1 e2 e3 e4 f1 f2;omega
  have:=s1.z1 hx
  have k:=U2 s2 e3 e4 f2
  subst hx hu hs
  simp only[Int.lt_irrefl,false_or,true_and]
  rw[k]
  exact⟨fun z=>⟨Int.le_of_eq this,z⟩,fun z=>z.2⟩
 ·have U4:=s3.z1 hx
  have hy:=Jv s4 (Int.ne_of_lt hu) (by clear s1 s2 s3 s4 e1 e2 e3 e4 f1 f2;omega)
  have q:=e2.2.2 hu
  exact L5 (L7 f1 (by rw[e1.2.1 hx];exact q)) (nq (ltN hu) fun z=>Int.ne_of_lt hu z.1) (nq (nZ hx) fun z=>nZ hy z.2) (Int.le_of_eq (s1.z1 hx)) (Int.le_of_eq (s2.z1 hy))
 ·exact L6 (L8 f1 (Int.lt_trans (e1.2.2 hx) (e2.1 hu))) (nq (ltN hx) fun z=>Int.ne_of_lt hx z.1) (nq (ltN hu) fun z=>Int.ne_of_gt hu z.1) (Int.le_of_lt (s1.np hx hu)) (PQ s2 s3 s4 c (.inr ⟨hx,hu⟩))
 ·have k4:=s4.z2 hu
  have hv:=L4 s3 (Int.ne_of_lt hx) (by clear s1 s2 s3 s4 e1 e2 e3 e4 f1 f2;omega)
  have q:=e1.2.2 hx
  exact L6 (L8 f1 (by rw[e2.2.1 hu];exact q)) (nq (ltN hx) fun z=>Int.ne_of_lt hx z.1) (nq (nZ hu) fun z=>nZ hv z.2) (Int.le_of_eq (s1.z2 hu)) (Int.le_of_eq (s2.z2 hv))
 ·have:=s1.nn hx hu
  split
  ·exact⟨fun h=>absurd (.inl hu) h.2,fun h=>absurd h.1 (Int.not_le.mpr this)⟩
  ·exact⟨fun h=>absurd (.inl hx) h.2,fun h=>absurd h.1 (Int.not_le.mpr this)⟩
theorem zO{p0 p1 p2 q0 q1 q2:Int}:jc p0 p1 p2 q0 q1 q2=true↔p0*q2 - q0*p2<0∨(p0*q2 - q0*p2=0∧p1*q2 - q1*p2<0):=by rw[xJ];omega
theorem EZ{p0 p1 p2 q0 q1 q2:Int}:jc p0 p1 p2 q0 q1 q2=true↔0<q0*p2 - p0*q2∨(q0*p2 - p0*q2=0∧0<q1*p2 - p1*q2):=by rw[xJ];omega
theorem rF{p a b:T3}(hp: 0<p.2.2)(ha: 0<a.2.2)(hb: 0<b.2.2):nV p.1 p.2.1 p.2.2 a.1 a.2.1 a.2.2 b.1 b.2.1 b.2.2=pG (eY p a) (eY p b):=by
 have cd:=EY p a b
 obtain⟨p0,p1,p2⟩:=p
 obtain⟨a0,a1,a2⟩:=a
 obtain⟨b0,b1,b2⟩:=b
 dsimp only at*
 have hd:det a0 a1 a2 b0 b1 b2 p0 p1 p2=0↔nE (eY (p0,p1,p2) (a0,a1,a2)) (eY (p0,p1,p2) (b0,b1,b2))=0:=by
  rw[cd]
  exact⟨fun h=>by rw[h,Int.mul_zero],fun h=>(Int.mul_eq_zero.mp h).resolve_left (by omega)⟩
 have key:nV p0 p1 p2 a0 a1 a2 b0 b1 b2=true↔pG (eY (p0,p1,p2) (a0,a1,a2)) (eY (p0,p1,p2) (b0,b1,b2))=true:=by
  rw[nF]
  unfold nV
  by_cases h:det a0 a1 a2 b0 b1 b2 p0 p1 p2=0
  ·rw[if_pos h,←hd]
   simp only[h,true_and]
   have h':=hd.mp h
   have e:∀x y:Bool,(!x&&!y)=true↔¬x=true∧¬y=true:=by decide
   have k:=U3 (x:=a0*p2 - p0*a2) (y:=a1*p2 - p1*a2) (u:=b0*p2 - p0*b2) (v:=b1*p2 - p1*b2) (s:=a0*b2 - b0*a2) (t:=a1*b2 - b1*a2) (m1:=b2*(a0*p2 - p0*a2)) (m2:=a2*(b0*p2 - p0*b2)) (n1:=b2*(a1*p2 - p1*a2)) (n2:=a2*(b1*p2 - p1*b2)) (HG _ _) (HG _ _) (HG _ _) (HG _ _) h' (kS hb rfl) (kS ha rfl) (kS hb rfl) (kS ha rfl) (kS hp (by grind)) (kS hp (by grind))
   simp only[eY]
   rw[←k]
   have w1:jc a0 a1 a2 b0 b1 b2=true↔a0*b2 - b0*a2<0∨(a0*b2 - b0*a2=0∧a1*b2 - b1*a2<0):=zO
   have w2:jc p0 p1 p2 a0 a1 a2=true↔0<a0*p2 - p0*a2∨(a0*p2 - p0*a2=0∧0<a1*p2 - p1*a2):=EZ
   have w3:jc b0 b1 b2 p0 p1 p2=true↔b0*p2 - p0*b2<0∨(b0*p2 - p0*b2=0∧b1*p2 - p1*b2<0):=zO
   have w4:jc p0 p1 p2 b0 b1 b2=true↔0<b0*p2 - p0*b2∨(b0*p2 - p0*b2=0∧0<b1*p2 - p1*b2):=EZ
   have w5:jc a0 a1 a2 p0 p1 p2=true↔a0*p2 - p0*a2<0∨(a0*p2 - p0*a2=0∧a1*p2 - p1*a2<0):=zO
   by_cases hw:jc a0 a1 a2 b0 b1 b2=true
   ·rw[if_pos hw,if_pos (w1.mp hw),←w2,←w3];exact e _ _
   ·rw[if_neg hw,if_neg (fun g=>hw (w1.mpr g)),←w4,←w5];exact e _ _
  ·rw[if_neg h]
   simp only[Bool.false_eq_true,false_iff,not_and]
   exact fun h2=>absurd (hd.mpr h2) h
 cases h1:nV p0 p1 p2 a0 a1 a2 b0 b1 b2<;>cases h2:pG (eY (p0,p1,p2) (a0,a1,a2)) (eY (p0,p1,p2) (b0,b1,b2))<;>simp_all
def sm(f:T3→T3→Int):List (T3×T3)→Int
 |[]=>0
 |z::zs=>f z.1 z.2+sm f zs
def an(f:T3→T3→Bool)(zs:List (T3×T3)):Bool:=zs.any fun z=>f z.1 z.2
def tq(q:T3→Int):List T3→Int
 |[]=>0
 |x::xs=>q x+tq q xs
def PR(p a b:T3):Bool:=pG (eY p a) (eY p b)
def PU(p a b:T3):Int:=U1 (eY p a) (eY p b)
def wh(l:List T3)(p:T3):Int:=if an (PR p) (l.zip (PN l 1))=true then 0 else if sm (PU p) (l.zip (PN l 1))=0 then -1 else 1
end My
set_option maxHeartbeats 2000000
namespace My
inductive PV where
 |none|Jw(p:T3)|E1(p q:T3)
 deriving DecidableEq
def Co(a b c:T3):Int:=det a.1 a.2.1 a.2.2 b.1 b.2.1 b.2.2 c.1 c.2.1 c.2.2
def fw(a b:T3):T3×T3:=if cI a b=true then(a,b)else(b,a)
def PX(l r:T3×T3):PV:=
 let p:=if cI l.1 r.1=true then r.1 else l.1
 let q:=if cI l.2 r.2=true then l.2 else r.2
 if p=q then .Jw p else if cI p q=true then .E1 p q else .none
def mX(a b c d:T3):Int:=m0 a.1 a.2.1 a.2.2 b.1 b.2.1 b.2.2 c.1 c.2.1 c.2.2 d.1 d.2.1 d.2.2
def mY(a b c d:T3):Int:=m1 a.1 a.2.1 a.2.2 b.1 b.2.1 b.2.2 c.1 c.2.1 c.2.2 d.1 d.2.1 d.2.2
def mW(a b c d:T3):Int:=m2 a.1 a.2.1 a.2.2 b.1 b.2.1 b.2.2 c.1 c.2.1 c.2.2 d.1 d.2.1 d.2.2
def spT(x y w:Int):T3:=(sx x y w,sy x y w,sw x y w)
def cm(a b c d:T3):PV:=
 if sgn (Co a b c)=0∧sgn (Co a b d)=0 then PX (fw a b) (fw c d)
 else if 0<sgn (Co a b c)*sgn (Co a b d)∨0<sgn (Co c d a)*sgn (Co c d b)then .none
 else .Jw (spT (mX a b c d) (mY a b c d) (mW a b c d))
theorem vb{p q:T3}(hp:cw p)(hq:cw q):cI p q=true∨p=q∨cI q p=true:=by
 cases h1:cI p q
 ·cases h2:cI q p
  ·exact .inr (.inl (xI hp hq h1 h2))
  ·exact .inr (.inr rfl)
 ·exact .inl rfl
def le(p q:T3):Prop:=cI q p=false
def U5(u v:P2):Bool:=if u.1=v.1 then(if u.2=v.2 then false else decide (u.2 > v.2))else decide (u.1 > v.1)
def wZ(u v:P2):P2×P2:=if U5 u v=true then(v,u)else(u,v)
def sc(k:Int)(p:T3):P2:=(p.1*k,p.2.1*k)
end My
namespace My
theorem E2{u v:P2}(hu:u.1≠0∨u.2≠0):(nE (-v.1,-v.2) (u.1 - v.1,u.2 - v.2)=0∧-v.1*(u.1 - v.1)≤0∧-v.2*(u.2 - v.2)≤0)↔(u.1*v.2=u.2*v.1∧0≤u.1*v.1+u.2*v.2∧u.1*v.1+u.2*v.2≤u.1*u.1+u.2*u.2):=by
 obtain⟨a,b⟩:=u
 obtain⟨x,y⟩:=v
 unfold nE
 dsimp only at*
 have sq:∀z:Int,0≤z*z:=fun z=>by
  rcases Int.le_total 0 z with h|h
  ·exact Int.mul_nonneg h h
  ·exact Int.mul_nonneg_of_nonpos_of_nonpos h h
 constructor
 ·rintro⟨h1,h2,h3⟩
  have e1: -x*(a - x)=x*x - a*x:=by grind
  have e2: -y*(b - y)=y*y - b*y:=by grind
  have e3:(a - x)*(a - x)=a*a - a*x - (a*x - x*x):=by grind
  have e4:(b - y)*(b - y)=b*b - b*y - (b*y - y*y):=by grind
  have:=sq x
  have:=sq y
  have:=sq (a - x)
  have:=sq (b - y)
  refine⟨by grind,by omega,by omega⟩
 ·rintro⟨h1,h2,h3⟩
  have pos: 0<a*a+b*b:=by
   have:=sq a
   have:=sq b
   rcases hu with h|h
   ·have:a*a≠0:=Int.mul_ne_zero h h
    omega
   ·have:b*b≠0:=Int.mul_ne_zero h h
    omega
  have k1:(a*a+b*b)*x=(a*x+b*y)*a:=by grind
  have k2:(a*a+b*b)*y=(a*x+b*y)*b:=by grind
  generalize a*a+b*b=N at*
  generalize a*x+b*y=F at*
  have pp: 0<N*N:=Int.mul_pos pos pos
  have gg: 0≤F*(N - F):=Int.mul_nonneg h2 (by omega)
  have key:∀z w:Int,N*z=F*w→-z*(w - z)≤0:=fun z w hz=>by
   have t:N*N*(-z*(w - z))= -(F*(N - F)*(w*w)):=by
    have:N*N*(-z*(w - z))= -(N*z)*(N*w - N*z):=by grind
    rw[this,hz];grind
   have s:=Int.mul_nonneg gg (sq w)
   refine Int.not_lt.mp fun h=>?_
   have:=Int.mul_pos pp h
   omega
  exact⟨by grind,key x a k1,key y b k2⟩
def gQ(p a b:T3):P2:=(b.1*(p.2.2*a.2.2) - a.1*(p.2.2*b.2.2),b.2.1*(p.2.2*a.2.2) - a.2.1*(p.2.2*b.2.2))
def kd(p a b:T3):P2:=(p.1*(a.2.2*b.2.2) - a.1*(p.2.2*b.2.2),p.2.1*(a.2.2*b.2.2) - a.2.1*(p.2.2*b.2.2))
theorem E3{p a b:T3}(hp:cw p)(ha:cw a)(hb:cw b)(h:a≠b):nV p.1 p.2.1 p.2.2 a.1 a.2.1 a.2.2 b.1 b.2.1 b.2.2=true↔((gQ p a b).1*(kd p a b).2=(gQ p a b).2*(kd p a b).1∧0≤(gQ p a b).1*(kd p a b).1+(gQ p a b).2*(kd p a b).2∧(gQ p a b).1*(kd p a b).1+(gQ p a b).2*(kd p a b).2≤(gQ p a b).1*(gQ p a b).1+(gQ p a b).2*(gQ p a b).2):=by
 have hu:(gQ p a b).1≠0∨(gQ p a b).2≠0:=by
  by_cases h1:(gQ p a b).1=0
  ·by_cases h2:(gQ p a b).2=0
   ·exfalso
    unfold gQ at h1 h2
    dsimp only at h1 h2
    have e1:p.2.2*(b.1*a.2.2 - a.1*b.2.2)=0:=by grind
    have e2:p.2.2*(b.2.1*a.2.2 - a.2.1*b.2.2)=0:=by grind
    have p0:=hp.pos
    have f1:b.1*a.2.2 - a.1*b.2.2=0:=(Int.mul_eq_zero.mp e1).resolve_left (by omega)
    have f2:b.2.1*a.2.2 - a.2.1*b.2.2=0:=(Int.mul_eq_zero.mp e2).resolve_left (by omega)
    refine h (xI ha hb ?_ ?_)
    ·refine Bool.eq_false_iff.mpr fun z=>?_
     rcases fG.mp z with z|⟨_,z⟩<;>omega
    ·refine Bool.eq_false_iff.mpr fun z=>?_
     rcases fG.mp z with z|⟨_,z⟩<;>omega
   ·exact .inr h2
  ·exact .inl h1
 rw[←E2 hu,rF hp.pos ha.pos hb.pos,nF]
 have q1:(-(kd p a b).1,-(kd p a b).2)=(b.2.2*(eY p a).1,b.2.2*(eY p a).2):=by
  unfold kd eY
  refine Prod.ext ?_ ?_<;>dsimp only<;>grind
 have q2:((gQ p a b).1 - (kd p a b).1,(gQ p a b).2 - (kd p a b).2)=(a.2.2*(eY p b).1,a.2.2*(eY p b).2):=by
  unfold kd gQ eY
  refine Prod.ext ?_ ?_<;>dsimp only<;>grind
 have q3:=congrArg Prod.fst q1
 have q4:=congrArg Prod.snd q1
 have q5:=congrArg Prod.fst q2
 have q6:=congrArg Prod.snd q2
 dsimp only at q3 q4 q5 q6
 rw[q1,q2,q3,q4,q5,q6]
 have ba: 0<b.2.2*a.2.2:=Int.mul_pos hb.pos ha.pos
 have cr:nE (b.2.2*(eY p a).1,b.2.2*(eY p a).2) (a.2.2*(eY p b).1,a.2.2*(eY p b).2)=b.2.2*a.2.2*nE (eY p a) (eY p b):=by unfold nE;dsimp only;grind
 have s1:∀x y:Int,b.2.2*x*(a.2.2*y)=b.2.2*a.2.2*(x*y):=fun x y=>by grind
 have nn:∀z:Int,b.2.2*a.2.2*z≤0↔z≤0:=fun z=>⟨fun h=>Int.not_lt.mp fun h'=>by have:=Int.mul_pos ba h';omega,fun h=>Int.mul_nonpos_of_nonneg_of_nonpos (Int.le_of_lt ba) h⟩
 rw[cr,s1,s1,nn,nn,Int.mul_eq_zero]
 constructor
 ·rintro⟨h1,h2,h3⟩;exact⟨.inr h1,h2,h3⟩
 ·rintro⟨h1,h2,h3⟩;exact⟨h1.resolve_left (by omega),h2,h3⟩
theorem kT{p a b:T3}(hp:cw p)(ha:cw a)(hb:cw b):nV p.1 p.2.1 p.2.2 b.1 b.2.1 b.2.2 a.1 a.2.1 a.2.2=nV p.1 p.2.1 p.2.2 a.1 a.2.1 a.2.2 b.1 b.2.1 b.2.2:=by
 rw[rF hp.pos ha.pos hb.pos,rF hp.pos hb.pos ha.pos,Cn]
theorem xK{a b x y:T3}(ha:cw a)(hb:cw b)(hx:cw x)(hy:cw y)(ox:nV x.1 x.2.1 x.2.2 a.1 a.2.1 a.2.2 b.1 b.2.1 b.2.2=true)(oy:nV y.1 y.2.1 y.2.2 a.1 a.2.1 a.2.2 b.1 b.2.1 b.2.2=true)(dQ:cI a b=true)(ue:cI x y=true):
  0<(y.1*x.2.2 - x.1*y.2.2)*(b.1*a.2.2 - a.1*b.2.2)+(y.2.1*x.2.2 - x.2.1*y.2.2)*(b.2.1*a.2.2 - a.2.1*b.2.2):=by
 have d:∀{z:T3},nV z.1 z.2.1 z.2.2 a.1 a.2.1 a.2.2 b.1 b.2.1 b.2.2=true→det a.1 a.2.1 a.2.2 b.1 b.2.1 b.2.2 z.1 z.2.1 z.2.2=0:=fun {z} h=>by
  refine Decidable.byContradiction fun hn=>?_
  unfold nV at h
  rw[if_neg hn]at h
  cases h
 have dx:=d ox
 have dy:=d oy
 unfold det at dx dy
 have pa:=ha.pos
 have par:a.2.2*((b.1*a.2.2 - a.1*b.2.2)*(y.2.1*x.2.2 - x.2.1*y.2.2) - (b.2.1*a.2.2 - a.2.1*b.2.2)*(y.1*x.2.2 - x.1*y.2.2))=0:=by grind
 have par:=(Int.mul_eq_zero.mp par).resolve_left (by omega)
 have h1:=fG.mp dQ
 have h2:=fG.mp ue
 have e1:b.1*a.2.2 - a.1*b.2.2 > 0∨(b.1*a.2.2 - a.1*b.2.2=0∧b.2.1*a.2.2 - a.2.1*b.2.2 > 0):=by omega
 have e2:y.1*x.2.2 - x.1*y.2.2 > 0∨(y.1*x.2.2 - x.1*y.2.2=0∧y.2.1*x.2.2 - x.2.1*y.2.2 > 0):=by omega
 generalize b.1*a.2.2 - a.1*b.2.2=A at*
 generalize b.2.1*a.2.2 - a.2.1*b.2.2=B at*
 generalize y.1*x.2.2 - x.1*y.2.2=X at*
 generalize y.2.1*x.2.2 - x.2.1*y.2.2=Y at*
 have sq:∀z:Int,0≤z*z:=fun z=>by
  rcases Int.le_total 0 z with h|h
  ·exact Int.mul_nonneg h h
  ·exact Int.mul_nonneg_of_nonpos_of_nonpos h h
 rcases e1 with e1|⟨e1,BZ⟩<;>rcases e2 with e2|⟨e2,GS⟩
 ·have p1:=Int.mul_pos e2 e1
  have k:X*A*(Y*B)=(A*Y)*(A*Y):=by
   have:A*Y=B*X:=by omega
   calc X*A*(Y*B)=(A*Y)*(B*X):=by grind
    _=_:=by rw[←this]
  have: 0≤Y*B:=Int.not_lt.mp fun h=>by
   have:=Int.mul_neg_of_pos_of_neg p1 h
   have:=sq (A*Y)
   omega
  omega
 ·exfalso
  rw[e2]at par
  have:=Int.mul_pos e1 GS
  omega
 ·exfalso
  rw[e1]at par
  have:=Int.mul_pos BZ e2
  omega
 ·rw[e1,e2]
  have:=Int.mul_pos GS BZ
  omega
end My
namespace Qm
open PySem
section
variable{σ:Env}{c c':Cells}{d:D}{i j:Int}{b:Bool}{xs ys:List D}
@[simp] theorem PY:eC d σ c=some (d,c):=rfl
@[simp] theorem PZ{k:Nat}:eV k σ c=(σ[k]?.join).bind fun d=>some (d,c):=rfl
@[simp] theorem U6{g:G1}{a:XE}:e1 g a σ c=(a σ c).bind fun p=>g p.1 p.2:=rfl
@[simp] theorem P0{g:G2}{a b:XE}:e2 g a b σ c=(a σ c).bind fun p=>(b σ p.2).bind fun q=>g p.1 q.1 q.2:=rfl
@[simp] theorem P4:nY (.bl b)=some b:=rfl
@[simp] theorem P5:pB (.int i)=some i:=rfl
@[simp] theorem L9{a b:XE}:Ao a b σ c=(a σ c).bind fun p=>(nY p.1).bind fun k=>if k=true then b σ p.2 else some (.bl false,p.2):=rfl
@[simp] theorem P6{a b:XE}:T4 a b σ c=(a σ c).bind fun p=>(nY p.1).bind fun k=>if k=true then some (.bl true,p.2)else b σ p.2:=rfl
@[simp] theorem L_{a:XE}:Ap a σ c=(a σ c).bind fun p=>(nY p.1).bind fun k=>some (.bl (!k),p.2):=rfl
@[simp] theorem P7{t:XT}{a b:XE}:K5 t a b σ c=(t σ c).bind fun p=>if p.1=true then a σ p.2 else b σ p.2:=rfl
@[simp] theorem Ma:ao σ c=some ([],c):=rfl
@[simp] theorem HI{a:XE}{r:XA}:af a r σ c=(a σ c).bind fun p=>(r σ p.2).bind fun q=>some (p.1::q.1,q.2):=rfl
@[simp] theorem Mb{a:XA}:fW a σ c=(a σ c).bind fun p=>if p.1.length≤cD then some (.tup p.1,p.2)else none:=rfl
@[simp] theorem Mc{a:XA}:h9 a σ c=(a σ c).bind fun p=>if p.1.length≤cD then some (.ref p.2.length,p.2++[.lst p.1])else none:=rfl
@[simp] theorem HJ{F:FN}{ds:List D}{a:XA}:ax F ds a σ c=(a σ c).bind fun p=>F (p.1++ds) p.2:=rfl
@[simp] theorem U7{F:FN}{a:XA}:eB F a σ c=(a σ c).bind fun p=>F p.1 p.2:=rfl
@[simp] theorem U8{g:D→FN}{o:XE}{a:XA}:eM g o a σ c=(o σ c).bind fun p=>(br p.1 p.2).bind fun _=>(a σ p.2).bind fun q=>g p.1 q.1 q.2:=rfl
@[simp] theorem HK:zb σ c=some (none,c):=rfl
@[simp] theorem P8{g}{a:XE}{lo hi:XO}:zd g a lo hi σ c=(a σ c).bind fun p=>(lo σ p.2).bind fun l=>(hi σ l.2).bind fun h=>g p.1 l.1 h.1 h.2:=rfl
@[simp] theorem U9{a:XE}:tV a σ c=(a σ c).bind fun p=>(nY p.1).bind fun k=>some (k,p.2):=rfl
@[simp] theorem Md{a b:XT}:oR a b σ c=(a σ c).bind fun p=>if p.1=true then b σ p.2 else some (false,p.2):=rfl
@[simp] theorem P9{a b:XT}:p7 a b σ c=(a σ c).bind fun p=>if p.1=true then some (true,p.2)else b σ p.2:=rfl
@[simp] theorem Me{a:XT}:jD a σ c=(a σ c).bind fun p=>some (!p.1,p.2):=rfl
@[simp] theorem Mf:eL σ c=some (true,c):=rfl
@[simp] theorem E4{g h:G2}{a b e:XE}:pN g h a b e σ c=(a σ c).bind fun p=>(b σ p.2).bind fun q=>(g p.1 q.1 q.2).bind fun z=>(nY z.1).bind fun k=>if k=true then(e σ z.2).bind fun u=>h q.1 u.1 u.2 else some (.bl false,z.2):=rfl
@[simp] theorem Mg:bP σ c=some (.nx,σ,c):=rfl
@[simp] theorem E5{k:Nat}{e:XE}:aI k e σ c=(e σ c).bind fun p=>some (.nx,σ.set k (some p.1),p.2):=rfl
@[simp] theorem Mh{e:XE}{g:XG}:wm e g σ c=(e σ c).bind fun p=>(g p.1 σ p.2).bind fun q=>some (.nx,q.1,q.2):=rfl
@[simp] theorem Mi{is:List Nat}{a:XA}:tw is a σ c=(a σ c).bind fun p=>if p.1.length=is.length then some (.nx,(is.zip p.1).foldl (fun σ q=>σ.set q.1 (some q.2)) σ,p.2)else none:=rfl
@[simp] theorem P_{t:XT}{a b:XS}:cX t a b σ c=(t σ c).bind fun p=>if p.1=true then a σ p.2 else b σ p.2:=rfl
@[simp] theorem Mj{e:XE}:bC e σ c=(e σ c).bind fun p=>some (.rt p.1,σ,p.2):=rfl
@[simp] theorem HL{e:XE}:gC e σ c=(e σ c).bind fun p=>some (.nx,σ,p.2):=rfl
@[simp] theorem kU{k:Nat}:aL k d σ c=some (σ.set k (some d),c):=rfl
@[simp] theorem Mk:p8 [] σ c=some (σ,c):=rfl
@[simp] theorem HM{g:XG}{r:sF}:ja g r (d::xs) σ c=(g d σ c).bind fun p=>r xs p.1 p.2:=rfl
@[simp] theorem Ml{n:Nat}{g:sF}:p9 n g (.tup xs) σ c=if xs.length=n then g xs σ c else none:=rfl
def sq(b:XS)(p:Fl×Env×Cells):Option (Fl×Env×Cells):=match p.1 with
 |.nx=>b p.2.1 p.2.2
 |_=>some p
@[simp] theorem zP{a b:XS}:aB a b σ c=(a σ c).bind (sq b):=rfl
@[simp] theorem E6{b:XS}:sq b (.nx,σ,c)=b σ c:=rfl
@[simp] theorem Mm{b:XS}:sq b (.rt d,σ,c)=some (.rt d,σ,c):=rfl
def fin(p:Fl×Env×Cells):Option (D×Cells):=match p.1 with
 |.rt d=>some (d,p.2.2)
 |.nx=>some (.bb,p.2.2)
 |_=>none
theorem er{n N:Nat}{b:XS}{ds:List D}:eP n N b ds c=if ds.length=n then(b (ds.map some++List.replicate (N - n) none) c).bind fin else none:=rfl
@[simp] theorem HN:fin (.rt d,σ,c)=some (d,c):=rfl
@[simp] theorem HP:fin (.nx,σ,c)=some (.bb,c):=rfl
theorem HQ{f:Int→Int→Option D}:ii f (.int i) (.int j) c=(f i j).bind fun d=>some (d,c):=rfl
@[simp] theorem Mn:cp (.int i) (.int j) c=some (.int (i - j),c):=rfl
@[simp] theorem E7:bA (.int i) (.int j) c=some (.int (i+j),c):=rfl
@[simp] theorem Qa:sG (.int i) (.int j) c=some (.bl (decide (i<j)),c):=rfl
@[simp] theorem Qb:BD (.int i) (.int j) c=some (.bl (decide (i≤j)),c):=rfl
@[simp] theorem Qc:sH (.int i) (.int j) c=some (.bl (decide (j<i)),c):=rfl
@[simp] theorem Qd:T5 (.int i) (.int j) c=some (.bl (decide (j≤i)),c):=rfl
@[simp] theorem Mo:Aq (.int i) c=some (.int (-i),c):=rfl
theorem mulL(h:i.natAbs<2 ^ 64):MulOk i j:=Or.inr (Or.inl ⟨h⟩)
theorem mulR(h:j.natAbs<2 ^ 64):MulOk i j:=Or.inr (Or.inr ⟨h⟩)
theorem tU(h:My.Bd 90000 i)(g:My.Bd 90000 j):MulOk i j:=Or.inl ⟨h,g⟩
theorem Jx(h:i.natAbs<2 ^ 64):My.Bd 64 i:=⟨h⟩
theorem aG(h:MulOk i j):aH (.int i) (.int j) c=some (.int (i*j),c):=by unfold aH;rw[HQ,if_pos h];rfl
theorem jn(h: 0<j)(hb:My.Bd 8900 j):dr (.int i) (.int j) c=some (.int (i / j),c):=by
 unfold dr;rw[HQ,if_pos ⟨by omega,hb⟩,Int.fdiv_eq_ediv_of_nonneg i (Int.le_of_lt h)];rfl
theorem vc(h: 0<j):e9 (.int i) (.int j) c=some (.int (i % j),c):=by
 unfold e9;rw[HQ,if_pos (by omega),Int.fmod_eq_emod_of_nonneg i (Int.le_of_lt h)];rfl
@[simp] theorem tW{k:Nat}:data c (k+1) (.int i)=some (.int i):=by simp[data]
theorem xM:nZ (.int i) (.int j) c=some (decide (i=j)):=by
 have:nZ (.int i) (.int j) c=(data c 6 (.int i)).bind fun d=>(data c 6 (.int j)).bind fun e=>some (@decide (d=e) (Classical.propDecidable _)):=rfl
 rw[this,tW,tW]
 simp
@[simp] theorem E8:iR (.int i) (.int j) c=some (.bl (decide (i=j)),c):=by unfold iR;rw[xM];rfl
@[simp] theorem E9:iS (.int i) (.int j) c=some (.bl (!decide (i=j)),c):=by unfold iS;rw[xM];rfl
@[simp] theorem HR{k:Bool}:iR (.bl b) (.bl k) c=some (.bl (b==k),c):=rfl
@[simp] theorem vd{k:Bool}:iS (.bl b) (.bl k) c=some (.bl (!(b==k)),c):=rfl
@[simp] theorem zQ:bM (.tup xs) c=some xs:=rfl
theorem bF{n:Nat}(h:c[n]? =some (.lst xs)):bM (.ref n) c=some xs:=by simp[bM,h]
theorem tX{n:Nat}(h:c[n]? =some (.ro xs)):bM (.ref n) c=some xs:=by simp[bM,h]
theorem bS{n:Nat}(h:c[n]? =some (.lst xs)):br (.ref n) c=some (n,xs):=by simp[br,h]
theorem gR{x:D}:aA x (.int i) c=(bM x c).bind fun xs=>(fZ xs i).bind fun d=>some (d,c):=rfl
@[simp] theorem E_:aA (.tup xs) (.int i) c=(fZ xs i).bind fun d=>some (d,c):=rfl
@[simp] theorem Mp{α:Type}{x:α}{xs:List α}:fZ (x::xs) 0=some x:=by simp[fZ,pC]
@[simp] theorem Mq{α:Type}{x y:α}{xs:List α}:fZ (x::y::xs) 1=some y:=by
 have h:(1:Int)<((x::y::xs).length:Int):=by simp only[List.length_cons];omega
 unfold fZ pC
 rw[if_pos (by decide),if_pos h];rfl
@[simp] theorem Mr{α:Type}{x y z:α}{xs:List α}:fZ (x::y::z::xs) 2=some z:=by
 have h:(2:Int)<((x::y::z::xs).length:Int):=by simp only[List.length_cons];omega
 unfold fZ pC
 rw[if_pos (by decide),if_pos h];rfl
theorem xN{α:Type}{xs:List α}{n:Nat}{x:α}(h:xs[n]? =some x):fZ xs (n:Int)=some x:=by
 have hl:n<xs.length:=(List.getElem?_eq_some_iff.mp h).1
 unfold fZ pC
 rw[if_pos (by omega),if_pos (by omega)]
 simpa using h
theorem Cp{α:Type}{xs:List α}{x:α}:fZ (xs++[x]) (-1)=some x:=by
 unfold fZ pC
 rw[if_neg (by decide),if_pos (by simp only[List.length_append,List.length_cons,List.length_nil];omega)]
 have:((-1:Int)+((xs++[x]).length:Int)).toNat=xs.length:=by simp only[List.length_append,List.length_cons,List.length_nil];omega
 rw[this]
 simp
@[simp] theorem Ms:tE [.int i] c=some (.int (if i<0 then -i else i),c):=rfl
@[simp] theorem Fb:As [.bl b] c=some (.int (if b then 1 else 0),c):=rfl
theorem oC{x:D}:cy [x] c=(bM x c).bind fun xs=>some (.int xs.length,c):=rfl
@[simp] theorem HS:n8 [.int i,.int j] c=some (.int (if j > i then j else i),c):=rfl
@[simp] theorem HU:K7 [.int i,.int j] c=some (.int (if j<i then j else i),c):=rfl
theorem dD{n:Nat}(h:n≤10000):n≤cD:=Nat.le_trans h (by rw[eO];decide)
@[simp] theorem Mt: 1≤cD:=dD (by decide)
@[simp] theorem Mu: 2≤cD:=dD (by decide)
@[simp] theorem Mv: 3≤cD:=dD (by decide)
@[simp] theorem Mw: 4≤cD:=dD (by decide)
@[simp] theorem Mx: 5≤cD:=dD (by decide)
@[simp] theorem Mz: 6≤cD:=dD (by decide)
@[simp] theorem MA: 7≤cD:=dD (by decide)
@[simp] theorem MB: 8≤cD:=dD (by decide)
theorem HV{a:XA}(h:a σ c=some ([.int i,.int j],c'))(h1:i.natAbs<2 ^ 61)(h2:j.natAbs<2 ^ 61):jL a σ c=some (⟨dI i (j - i).toNat,[]⟩,c'):=by
 unfold jL
 rw[h,Option.bind_some]
 dsimp only
 rw[if_pos ⟨⟨by omega,by omega⟩,by omega,by omega⟩]
theorem nG{a:XA}(h:a σ c=some ([.int j],c'))(h2:j.natAbs<2 ^ 61):cx a σ c=some (⟨dI 0 j.toNat,[]⟩,c'):=by
 unfold cx
 rw[h,Option.bind_some]
 dsimp only
 rw[if_pos ⟨by omega,by omega⟩]
theorem d9:stays [] c:=fun _ h=>nomatch h
end
theorem de{ks:List (Nat×Cell)}{g:XG}{body:XS}(P:Nat→Env→Cells→Prop):
  ∀(ds:List D) (k:Nat) (σ:Env) (c:Cells),(∀i σ c,P i σ c→stays ks c)→(∀i d σ c,ds[i]? =some d→P (k+i) σ c→∃σ1 c1 uo c2,g d σ c=some (σ1,c1)∧body σ1 c1=some (.nx,uo,c2)∧P (k+i+1) uo c2)→
   P k σ c→∃σ' c',gD ks g body ds σ c=some (.nx,σ',c')∧P (k+ds.length) σ' c'
 |[],k,σ,c,hs,_,h=>⟨σ,c,by unfold gD;rw[if_pos (hs k σ c h)],h⟩
 |d::ds,k,σ,c,hs,ht,h=>by
  obtain⟨σ1,c1,uo,c2,h1,h2,h3⟩:=ht 0 d σ c rfl h
  obtain⟨σ',c',h4,h5⟩:=de P ds (k+1) uo c2 hs (fun i d' σ c hd hp=>by
   have:=ht (i+1) d' σ c (by simpa using hd) (by rw[show k+(i+1)=k+1+i by omega];exact hp)
   rwa[show k+(i+1)+1=k+1+i+1 by omega]at this) h3
  refine⟨σ',c',?_,by rw[show k+(d::ds).length=k+1+ds.length by simp only[List.length_cons];omega];exact h5⟩
  unfold gD
  rw[if_pos (hs k σ c h),h1]
  simp only[Option.bind_some,h2,h4]
end Qm
namespace xO
open PySem
noncomputable def ij:Qm.XS:=(Qm.bC (Qm.e2 Qm.sG (Qm.e2 Qm.aH (Qm.e2 Qm.aA (Qm.eV 0) (Qm.eC (.int 1))) (Qm.e2 Qm.aA (Qm.eV 1) (Qm.eC (.int 2)))) (Qm.e2 Qm.aH (Qm.e2 Qm.aA (Qm.eV 1) (Qm.eC (.int 1))) (Qm.e2 Qm.aA (Qm.eV 0) (Qm.eC (.int 2))))))
noncomputable def dE:Qm.FN:=Qm.eP 2 2 ij
noncomputable def ke:Qm.XS:=(Qm.aB (Qm.aI 2 (Qm.e2 Qm.aH (Qm.e2 Qm.aA (Qm.eV 0) (Qm.eC (.int 0))) (Qm.e2 Qm.aA (Qm.eV 1) (Qm.eC (.int 2)))))
   (Qm.aB (Qm.aI 3 (Qm.e2 Qm.aH (Qm.e2 Qm.aA (Qm.eV 1) (Qm.eC (.int 0))) (Qm.e2 Qm.aA (Qm.eV 0) (Qm.eC (.int 2)))))
   (Qm.aB (Qm.cX (Qm.tV (Qm.e2 Qm.iR (Qm.eV 2) (Qm.eV 3)))
   (Qm.bC (Qm.ax dE [] (Qm.af (Qm.eV 0) (Qm.af (Qm.eV 1) Qm.ao))))
   Qm.bP)
   (Qm.bC (Qm.e2 Qm.sG (Qm.eV 2) (Qm.eV 3))))))
noncomputable def bE:Qm.FN:=Qm.eP 2 4 ke
noncomputable def jo:Qm.XS:=(Qm.bC (Qm.fW (Qm.af (Qm.e2 Qm.cp (Qm.e2 Qm.aH (Qm.e2 Qm.aA (Qm.eV 0) (Qm.eC (.int 1))) (Qm.e2 Qm.aA (Qm.eV 1) (Qm.eC (.int 2)))) (Qm.e2 Qm.aH (Qm.e2 Qm.aA (Qm.eV 0) (Qm.eC (.int 2))) (Qm.e2 Qm.aA (Qm.eV 1) (Qm.eC (.int 1))))) (Qm.af (Qm.e2 Qm.cp (Qm.e2 Qm.aH (Qm.e2 Qm.aA (Qm.eV 0) (Qm.eC (.int 2))) (Qm.e2 Qm.aA (Qm.eV 1) (Qm.eC (.int 0)))) (Qm.e2 Qm.aH (Qm.e2 Qm.aA (Qm.eV 0) (Qm.eC (.int 0))) (Qm.e2 Qm.aA (Qm.eV 1) (Qm.eC (.int 2))))) (Qm.af (Qm.e2 Qm.cp (Qm.e2 Qm.aH (Qm.e2 Qm.aA (Qm.eV 0) (Qm.eC (.int 0))) (Qm.e2 Qm.aA (Qm.eV 1) (Qm.eC (.int 1)))) (Qm.e2 Qm.aH (Qm.e2 Qm.aA (Qm.eV 0) (Qm.eC (.int 1))) (Qm.e2 Qm.aA (Qm.eV 1) (Qm.eC (.int 0))))) Qm.ao)))))
noncomputable def d_:Qm.FN:=Qm.eP 2 2 jo
noncomputable def kW:Qm.XS:=(Qm.aB (Qm.cX (Qm.tV (Qm.e2 Qm.sH (Qm.eV 0) (Qm.eC (.int 0))))
   (Qm.bC (Qm.eC (.int 1)))
   Qm.bP)
   (Qm.aB (Qm.cX (Qm.tV (Qm.e2 Qm.sG (Qm.eV 0) (Qm.eC (.int 0))))
   (Qm.bC (Qm.e1 Qm.Aq (Qm.eC (.int 1))))
   Qm.bP)
   (Qm.bC (Qm.eC (.int 0)))))
noncomputable def gf:Qm.FN:=Qm.eP 1 1 kW
noncomputable def pU:Qm.XS:=(Qm.aB (Qm.aI 3 (Qm.ax d_ [] (Qm.af (Qm.eV 0) (Qm.af (Qm.eV 1) Qm.ao))))
   (Qm.bC (Qm.ax gf [] (Qm.af (Qm.e2 Qm.bA (Qm.e2 Qm.bA (Qm.e2 Qm.aH (Qm.e2 Qm.aA (Qm.eV 3) (Qm.eC (.int 0))) (Qm.e2 Qm.aA (Qm.eV 2) (Qm.eC (.int 0)))) (Qm.e2 Qm.aH (Qm.e2 Qm.aA (Qm.eV 3) (Qm.eC (.int 1))) (Qm.e2 Qm.aA (Qm.eV 2) (Qm.eC (.int 1))))) (Qm.e2 Qm.aH (Qm.e2 Qm.aA (Qm.eV 3) (Qm.eC (.int 2))) (Qm.e2 Qm.aA (Qm.eV 2) (Qm.eC (.int 2))))) Qm.ao))))
noncomputable def jq:Qm.FN:=Qm.eP 3 4 pU
noncomputable def jr:Qm.FN:=Qm.AM 2 (Qm.ax bE [] (Qm.af (Qm.eV 1) (Qm.af (Qm.eV 0) Qm.ao)))
noncomputable def kX(lt:Qm.bD)(bB:Nat):Qm.XS:=(Qm.aB (Qm.aI 3 (Qm.h9 Qm.ao))
   (Qm.aB (Qm.aI 4 (Qm.eC (.int 0)))
   (Qm.aB (Qm.dO (Qm.fX (Qm.eV 1)) (Qm.aL 5)
   (Qm.aB (Qm.cV (Qm.oR (Qm.tV (Qm.e2 Qm.sG (Qm.eV 4) (Qm.eB Qm.cy (Qm.af (Qm.eV 0) Qm.ao)))) (Qm.jD (Qm.tV (Qm.jj [(bB,bE)] [(lt,jr)] (Qm.eV 2) (Qm.af (Qm.eV 5) (Qm.af (Qm.e2 Qm.aA (Qm.eV 0) (Qm.eV 4)) Qm.ao)))))) (Qm.aB (Qm.gC (Qm.eM Qm.cH (Qm.eV 3) (Qm.af (Qm.e2 Qm.aA (Qm.eV 0) (Qm.eV 4)) Qm.ao)))
   (Qm.aI 4 (Qm.e2 Qm.bA (Qm.eV 4) (Qm.eC (.int 1))))))
   (Qm.gC (Qm.eM Qm.cH (Qm.eV 3) (Qm.af (Qm.eV 5) Qm.ao)))))
   (Qm.aB (Qm.gC (Qm.eM Qm.jT (Qm.eV 3) (Qm.af (Qm.zd Qm.lA (Qm.eV 0) (Qm.fP (Qm.eV 4)) Qm.zb) Qm.ao)))
   (Qm.bC (Qm.eV 3))))))
noncomputable def eu(lt:Qm.bD)(bB:Nat):Qm.FN:=Qm.eP 3 6 (kX lt bB)
noncomputable def dg(lt:Qm.bD)(bB:Nat):Qm.XS:=(Qm.aB (Qm.aI 2 (Qm.cR (Qm.uP (Qm.af (Qm.eC (.int 0)) (Qm.af (Qm.e2 Qm.cp (Qm.eB Qm.cy (Qm.af (Qm.eV 0) Qm.ao)) (Qm.eC (.int 1))) (Qm.af (Qm.eC (.int 2)) Qm.ao)))) [none,some 1,some 0] (Qm.aL 0) Qm.eL (Qm.ax (eu lt bB) [] (Qm.af (Qm.e2 Qm.aA (Qm.eV 2) (Qm.eV 0)) (Qm.af (Qm.e2 Qm.aA (Qm.eV 2) (Qm.e2 Qm.bA (Qm.eV 0) (Qm.eC (.int 1)))) (Qm.af (Qm.eV 1) Qm.ao))))))
   (Qm.aB (Qm.cX (Qm.tV (Qm.e2 Qm.iR (Qm.e2 Qm.e9 (Qm.eB Qm.cy (Qm.af (Qm.eV 0) Qm.ao)) (Qm.eC (.int 2))) (Qm.eC (.int 1))))
   (Qm.gC (Qm.eM Qm.cH (Qm.eV 2) (Qm.af (Qm.e2 Qm.aA (Qm.eV 0) (Qm.e1 Qm.Aq (Qm.eC (.int 1)))) Qm.ao)))
   Qm.bP)
   (Qm.bC (Qm.eV 2))))
noncomputable def bJ(lt:Qm.bD)(bB:Nat):Qm.FN:=Qm.eP 2 3 (dg lt bB)
noncomputable def fH(lt:Qm.bD)(bB:Nat):Qm.XS:=(Qm.aB (Qm.aI 2 (Qm.cR (Qm.fX (Qm.eV 0)) [none] (Qm.aL 0) Qm.eL (Qm.h9 (Qm.af (Qm.eV 0) Qm.ao))))
   (Qm.aB (Qm.cV (Qm.tV (Qm.e2 Qm.sH (Qm.eB Qm.cy (Qm.af (Qm.eV 2) Qm.ao)) (Qm.eC (.int 1)))) (Qm.aI 2 (Qm.ax (bJ lt bB) [] (Qm.af (Qm.eV 2) (Qm.af (Qm.eV 1) Qm.ao)))))
   (Qm.bC (Qm.K5 (Qm.tV (Qm.e2 Qm.iR (Qm.eB Qm.cy (Qm.af (Qm.eV 2) Qm.ao)) (Qm.eC (.int 1)))) (Qm.e2 Qm.aA (Qm.eV 2) (Qm.eC (.int 0))) (Qm.h9 Qm.ao)))))
noncomputable def cE(lt:Qm.bD)(bB:Nat):Qm.FN:=Qm.eP 2 3 (fH lt bB)
noncomputable def gS:Qm.XS:=(Qm.aB (Qm.cX (Qm.tV (Qm.ax bE [] (Qm.af (Qm.e2 Qm.aA (Qm.eV 0) (Qm.eC (.int 0))) (Qm.af (Qm.e2 Qm.aA (Qm.eV 0) (Qm.eC (.int 1))) Qm.ao))))
   (Qm.bC (Qm.eV 0))
   Qm.bP)
   (Qm.bC (Qm.fW (Qm.af (Qm.e2 Qm.aA (Qm.eV 0) (Qm.eC (.int 1))) (Qm.af (Qm.e2 Qm.aA (Qm.eV 0) (Qm.eC (.int 0))) Qm.ao)))))
noncomputable def dF:Qm.FN:=Qm.eP 1 1 gS
noncomputable def fy:Qm.XS:=(Qm.aB (Qm.cX (Qm.tV (Qm.e2 Qm.iS (Qm.ax jq [] (Qm.af (Qm.e2 Qm.aA (Qm.eV 1) (Qm.eC (.int 0))) (Qm.af (Qm.e2 Qm.aA (Qm.eV 1) (Qm.eC (.int 1))) (Qm.af (Qm.eV 0) Qm.ao)))) (Qm.eC (.int 0))))
   (Qm.bC (Qm.eC (.bl false)))
   Qm.bP)
   (Qm.aB (Qm.aI 2 (Qm.ax dF [] (Qm.af (Qm.eV 1) Qm.ao)))
   (Qm.bC (Qm.Ao (Qm.Ap (Qm.ax bE [] (Qm.af (Qm.eV 0) (Qm.af (Qm.e2 Qm.aA (Qm.eV 2) (Qm.eC (.int 0))) Qm.ao)))) (Qm.Ap (Qm.ax bE [] (Qm.af (Qm.e2 Qm.aA (Qm.eV 2) (Qm.eC (.int 1))) (Qm.af (Qm.eV 0) Qm.ao))))))))
noncomputable def bp:Qm.FN:=Qm.eP 2 3 fy
noncomputable def kf(lt:Qm.bD)(bB:Nat):Qm.XS:=(Qm.aB (Qm.aI 2 Qm.uR)
   (Qm.aB (Qm.dO (Qm.fX (Qm.eV 1)) (Qm.aL 3)
   (Qm.cX (Qm.tV (Qm.ax bp [] (Qm.af (Qm.eV 3) (Qm.af (Qm.eV 0) Qm.ao))))
   (Qm.kL (Qm.eV 2) (Qm.eV 3) (Qm.eC (.bl true)))
   Qm.bP))
   (Qm.aB (Qm.cX (Qm.tV (Qm.ax bE [] (Qm.af (Qm.e2 Qm.aA (Qm.eV 0) (Qm.eC (.int 0))) (Qm.af (Qm.e2 Qm.aA (Qm.eV 0) (Qm.eC (.int 1))) Qm.ao))))
   (Qm.bC (Qm.ax (cE lt bB) [] (Qm.af (Qm.eB Qm.j3 (Qm.af (Qm.eV 2) Qm.ao)) (Qm.af (Qm.eC (.adr bB)) Qm.ao))))
   Qm.bP)
   (Qm.bC (Qm.ax (cE lt bB) [] (Qm.af (Qm.eB Qm.j3 (Qm.af (Qm.eV 2) Qm.ao)) (Qm.af (Qm.wQ lt 1 []) Qm.ao)))))))
noncomputable def cL(lt:Qm.bD)(bB:Nat):Qm.FN:=Qm.eP 2 4 (kf lt bB)
noncomputable def eA:Qm.XS:=(Qm.aB (Qm.aI 2 (Qm.eC (.int 0)))
   (Qm.aB (Qm.cX (Qm.tV (Qm.e2 Qm.sG (Qm.eV 1) (Qm.eB Qm.cy (Qm.af (Qm.eV 0) Qm.ao))))
   (Qm.aI 2 (Qm.e2 Qm.aA (Qm.eV 0) (Qm.eV 1)))
   Qm.bP)
   (Qm.aB (Qm.aI 3 (Qm.e2 Qm.bA (Qm.e2 Qm.bA (Qm.e2 Qm.e9 (Qm.eB Qm.tE (Qm.af (Qm.eV 2) Qm.ao)) (Qm.eC (.int 2305843009213693951))) (Qm.e2 Qm.aH (Qm.eC (.int 7919)) (Qm.eV 1))) (Qm.eC (.int 5))))
   (Qm.aB (Qm.aI 4 (Qm.eC (.int 0)))
   (Qm.aB (Qm.dO (Qm.cx (Qm.af (Qm.eC (.int 12)) Qm.ao)) (Qm.aL 5)
   (Qm.aB (Qm.aI 3 (Qm.e2 Qm.bA (Qm.e2 Qm.aH (Qm.eV 3) (Qm.eC (.int 6364136223846793005))) (Qm.e2 Qm.aH (Qm.eC (.int 1442695040888963407)) (Qm.e2 Qm.bA (Qm.e2 Qm.bA (Qm.eV 1) (Qm.eV 5)) (Qm.eC (.int 1))))))
   (Qm.aB (Qm.aI 3 (Qm.e2 Qm.e9 (Qm.eV 3) (Qm.eC (.int 2305843009213693951))))
   (Qm.aB (Qm.aI 6 (Qm.e2 Qm.aH (Qm.e2 Qm.dr (Qm.eV 3) (Qm.eC (.int 1024))) (Qm.e2 Qm.bA (Qm.e2 Qm.bA (Qm.e2 Qm.e9 (Qm.eV 3) (Qm.eC (.int 1000003))) (Qm.e2 Qm.aH (Qm.eC (.int 7919)) (Qm.eV 5))) (Qm.eC (.int 1)))))
   (Qm.aI 4 (Qm.e2 Qm.bA (Qm.e2 Qm.aH (Qm.eV 4) (Qm.eC (.int 1099511627776))) (Qm.e2 Qm.e9 (Qm.eV 6) (Qm.eC (.int 1099511627776)))))))))
   (Qm.aB (Qm.aI 7 (Qm.e2 Qm.aH (Qm.eB Qm.tE (Qm.af (Qm.eV 2) Qm.ao)) (Qm.eB Qm.As (Qm.af (Qm.Ao (Qm.e2 Qm.sH (Qm.eB Qm.cy (Qm.af (Qm.eV 0) Qm.ao)) (Qm.eC (.int 0))) (Qm.e2 Qm.iR (Qm.e2 Qm.e9 (Qm.e2 Qm.aA (Qm.eV 0) (Qm.eC (.int 0))) (Qm.eC (.int 2))) (Qm.eC (.int 1)))) Qm.ao))))
   (Qm.bC (Qm.h9 (Qm.af (Qm.eV 7) (Qm.af (Qm.eV 4) Qm.ao))))))))))
noncomputable def cF:Qm.FN:=Qm.eP 2 8 eA
noncomputable def eU:Qm.XS:=(Qm.aB (Qm.aI 2 (Qm.eB Qm.As (Qm.af (Qm.e2 Qm.iR (Qm.e2 Qm.aA (Qm.eV 0) (Qm.eC (.int 0))) (Qm.eC (.int 0))) Qm.ao)))
   (Qm.aB (Qm.aI 3 (Qm.e2 Qm.e9 (Qm.e2 Qm.aA (Qm.eV 0) (Qm.eV 2)) (Qm.eV 1)))
   (Qm.aB (Qm.wm (Qm.e2 Qm.dr (Qm.e2 Qm.aA (Qm.eV 0) (Qm.eV 2)) (Qm.eV 1)) (Qm.Ar (Qm.eV 0) (Qm.eV 2)))
   (Qm.bC (Qm.eV 3)))))
noncomputable def au:Qm.FN:=Qm.eP 2 4 eU
noncomputable def df:Qm.XS:=(Qm.aB (Qm.aI 1 (Qm.ax au [] (Qm.af (Qm.eV 0) (Qm.af (Qm.eC (.int 5)) Qm.ao))))
   (Qm.aB (Qm.cX (Qm.tV (Qm.e2 Qm.sG (Qm.eV 1) (Qm.eC (.int 2))))
   (Qm.bC (Qm.e2 Qm.cp (Qm.ax au [] (Qm.af (Qm.eV 0) (Qm.af (Qm.eC (.int 9)) Qm.ao))) (Qm.eC (.int 4))))
   Qm.bP)
   (Qm.aB (Qm.cX (Qm.tV (Qm.e2 Qm.iR (Qm.eV 1) (Qm.eC (.int 2))))
   (Qm.bC (Qm.e2 Qm.cp (Qm.ax au [] (Qm.af (Qm.eV 0) (Qm.af (Qm.eC (.int 1999999)) Qm.ao))) (Qm.eC (.int 999999))))
   Qm.bP)
   (Qm.aB (Qm.cX (Qm.tV (Qm.e2 Qm.iR (Qm.eV 1) (Qm.eC (.int 3))))
   (Qm.bC (Qm.e2 Qm.aH (Qm.e2 Qm.cp (Qm.eC (.int 999999)) (Qm.ax au [] (Qm.af (Qm.eV 0) (Qm.af (Qm.eC (.int 3)) Qm.ao)))) (Qm.e2 Qm.cp (Qm.eC (.int 1)) (Qm.e2 Qm.aH (Qm.eC (.int 2)) (Qm.ax au [] (Qm.af (Qm.eV 0) (Qm.af (Qm.eC (.int 2)) Qm.ao)))))))
   Qm.bP)
   (Qm.bC (Qm.e2 Qm.cp (Qm.ax au [] (Qm.af (Qm.eV 0) (Qm.af (Qm.e2 Qm.bA (Qm.e2 Qm.aH (Qm.eC (.int 2)) (Qm.e2 Qm.tD (Qm.eC (.int 10)) (Qm.eC (.int 9)))) (Qm.eC (.int 1))) Qm.ao))) (Qm.e2 Qm.tD (Qm.eC (.int 10)) (Qm.eC (.int 9)))))))))
noncomputable def bK:Qm.FN:=Qm.eP 1 2 df
noncomputable def gh:Qm.XS:=(Qm.aB (Qm.aI 1 (Qm.ax au [] (Qm.af (Qm.eV 0) (Qm.af (Qm.eC (.int 5)) Qm.ao))))
   (Qm.bC (Qm.e2 Qm.bA (Qm.eC (.int 1)) (Qm.ax au [] (Qm.af (Qm.eV 0) (Qm.af (Qm.e2 Qm.aA (Qm.h9 (Qm.af (Qm.eC (.int 1)) (Qm.af (Qm.eC (.int 1)) (Qm.af (Qm.eC (.int 9)) (Qm.af (Qm.eC (.int 999999)) (Qm.af (Qm.e2 Qm.tD (Qm.eC (.int 10)) (Qm.eC (.int 9))) Qm.ao)))))) (Qm.eV 1)) Qm.ao))))))
noncomputable def cM:Qm.FN:=Qm.eP 1 2 gh
noncomputable def fA:Qm.XS:=(Qm.aB (Qm.aI 0 (Qm.eB Qm.tE (Qm.af (Qm.eV 0) Qm.ao)))
   (Qm.aB (Qm.aI 1 (Qm.eB Qm.tE (Qm.af (Qm.eV 1) Qm.ao)))
   (Qm.aB (Qm.cV (Qm.tV (Qm.e2 Qm.sH (Qm.eV 1) (Qm.eC (.int 0)))) (Qm.tw [0,1] (Qm.af (Qm.eV 1) (Qm.af (Qm.e2 Qm.e9 (Qm.eV 0) (Qm.eV 1)) Qm.ao))))
   (Qm.bC (Qm.eV 0)))))
noncomputable def cj:Qm.FN:=Qm.eP 2 2 fA
noncomputable def dR:Qm.XS:=(Qm.aB (Qm.cX (Qm.tV (Qm.e2 Qm.sG (Qm.eV 2) (Qm.eC (.int 0))))
   (Qm.tw [0,1,2] (Qm.af (Qm.e2 Qm.cp (Qm.eC (.int 0)) (Qm.eV 0)) (Qm.af (Qm.e2 Qm.cp (Qm.eC (.int 0)) (Qm.eV 1)) (Qm.af (Qm.e2 Qm.cp (Qm.eC (.int 0)) (Qm.eV 2)) Qm.ao))))
   Qm.bP)
   (Qm.aB (Qm.aI 3 (Qm.ax cj [] (Qm.af (Qm.ax cj [] (Qm.af (Qm.eV 0) (Qm.af (Qm.eV 1) Qm.ao))) (Qm.af (Qm.eV 2) Qm.ao))))
   (Qm.bC (Qm.fW (Qm.af (Qm.e2 Qm.dr (Qm.eV 0) (Qm.eV 3)) (Qm.af (Qm.e2 Qm.dr (Qm.eV 1) (Qm.eV 3)) (Qm.af (Qm.e2 Qm.dr (Qm.eV 2) (Qm.eV 3)) Qm.ao)))))))
noncomputable def aN:Qm.FN:=Qm.eP 3 4 dR
noncomputable def fI:Qm.XS:=(Qm.aB (Qm.aI 1 (Qm.ax au [] (Qm.af (Qm.eV 0) (Qm.af (Qm.eC (.int 3)) Qm.ao))))
   (Qm.aB (Qm.cX (Qm.tV (Qm.e2 Qm.iR (Qm.eV 1) (Qm.eC (.int 0))))
   (Qm.bC (Qm.ax aN [] (Qm.af (Qm.ax bK [] (Qm.af (Qm.eV 0) Qm.ao)) (Qm.af (Qm.ax bK [] (Qm.af (Qm.eV 0) Qm.ao)) (Qm.af (Qm.ax cM [] (Qm.af (Qm.eV 0) Qm.ao)) Qm.ao)))))
   Qm.bP)
   (Qm.bC (Qm.ax aN [] (Qm.af (Qm.ax au [] (Qm.af (Qm.eV 0) (Qm.af (Qm.e2 Qm.bA (Qm.eC (.int 5)) (Qm.e2 Qm.aH (Qm.eC (.int 4)) (Qm.eV 1))) Qm.ao))) (Qm.af (Qm.ax au [] (Qm.af (Qm.eV 0) (Qm.af (Qm.e2 Qm.bA (Qm.eC (.int 5)) (Qm.e2 Qm.aH (Qm.eC (.int 4)) (Qm.eV 1))) Qm.ao))) (Qm.af (Qm.e2 Qm.aA (Qm.h9 (Qm.af (Qm.eC (.int 1)) (Qm.af (Qm.eC (.int 1)) (Qm.af (Qm.eC (.int 2)) Qm.ao)))) (Qm.ax au [] (Qm.af (Qm.eV 0) (Qm.af (Qm.eC (.int 3)) Qm.ao)))) Qm.ao)))))))
noncomputable def a_:Qm.FN:=Qm.eP 1 2 fI
noncomputable def fB:Qm.XS:=(Qm.aB (Qm.dO (Qm.cx (Qm.af (Qm.e2 Qm.bA (Qm.eB Qm.cy (Qm.af (Qm.eV 1) Qm.ao)) (Qm.eC (.int 1))) Qm.ao)) (Qm.aL 2)
   (Qm.cX (Qm.tV (Qm.e2 Qm.BE (Qm.eV 0) (Qm.eV 1)))
   (Qm.aI 0 (Qm.ax aN [] (Qm.af (Qm.e2 Qm.bA (Qm.e2 Qm.aA (Qm.eV 0) (Qm.eC (.int 0))) (Qm.e2 Qm.aA (Qm.eV 0) (Qm.eC (.int 2)))) (Qm.af (Qm.e2 Qm.aA (Qm.eV 0) (Qm.eC (.int 1))) (Qm.af (Qm.e2 Qm.aA (Qm.eV 0) (Qm.eC (.int 2))) Qm.ao)))))
   Qm.bP))
   (Qm.bC (Qm.eV 0)))
noncomputable def cG:Qm.FN:=Qm.eP 2 3 fB
noncomputable def eW:Qm.XS:=(Qm.aB (Qm.aI 3 (Qm.e2 Qm.cp (Qm.ax au [] (Qm.af (Qm.eV 0) (Qm.af (Qm.eC (.int 7)) Qm.ao))) (Qm.eC (.int 1))))
   (Qm.aB (Qm.aI 4 (Qm.e2 Qm.bA (Qm.eC (.int 1)) (Qm.ax au [] (Qm.af (Qm.eV 0) (Qm.af (Qm.eC (.int 5)) Qm.ao)))))
   (Qm.aB (Qm.aI 5 (Qm.e2 Qm.bA (Qm.e2 Qm.aH (Qm.e2 Qm.aH (Qm.e2 Qm.aA (Qm.eV 1) (Qm.eC (.int 0))) (Qm.e2 Qm.aA (Qm.eV 2) (Qm.eC (.int 2)))) (Qm.e2 Qm.cp (Qm.eV 4) (Qm.eV 3))) (Qm.e2 Qm.aH (Qm.e2 Qm.aH (Qm.e2 Qm.aA (Qm.eV 2) (Qm.eC (.int 0))) (Qm.e2 Qm.aA (Qm.eV 1) (Qm.eC (.int 2)))) (Qm.eV 3))))
   (Qm.aB (Qm.aI 6 (Qm.e2 Qm.bA (Qm.e2 Qm.aH (Qm.e2 Qm.aH (Qm.e2 Qm.aA (Qm.eV 1) (Qm.eC (.int 1))) (Qm.e2 Qm.aA (Qm.eV 2) (Qm.eC (.int 2)))) (Qm.e2 Qm.cp (Qm.eV 4) (Qm.eV 3))) (Qm.e2 Qm.aH (Qm.e2 Qm.aH (Qm.e2 Qm.aA (Qm.eV 2) (Qm.eC (.int 1))) (Qm.e2 Qm.aA (Qm.eV 1) (Qm.eC (.int 2)))) (Qm.eV 3))))
   (Qm.bC (Qm.ax aN [] (Qm.af (Qm.eV 5) (Qm.af (Qm.eV 6) (Qm.af (Qm.e2 Qm.aH (Qm.e2 Qm.aH (Qm.e2 Qm.aA (Qm.eV 1) (Qm.eC (.int 2))) (Qm.e2 Qm.aA (Qm.eV 2) (Qm.eC (.int 2)))) (Qm.eV 4)) Qm.ao)))))))))
noncomputable def cu:Qm.FN:=Qm.eP 3 7 eW
noncomputable def ik:Qm.XS:=(Qm.aB (Qm.aI 3 (Qm.h9 Qm.ao))
   (Qm.aB (Qm.dO (Qm.cx (Qm.af (Qm.ax au [] (Qm.af (Qm.eV 0) (Qm.af (Qm.eC (.int 15)) Qm.ao))) Qm.ao)) (Qm.aL 4)
   (Qm.aB (Qm.aI 5 (Qm.ax au [] (Qm.af (Qm.eV 0) (Qm.af (Qm.eC (.int 6)) Qm.ao))))
   (Qm.aB (Qm.aI 6 (Qm.ax cu [] (Qm.af (Qm.eV 0) (Qm.af (Qm.eV 1) (Qm.af (Qm.eV 2) Qm.ao)))))
   (Qm.aB (Qm.cX (Qm.tV (Qm.e2 Qm.iR (Qm.eV 5) (Qm.eC (.int 0))))
   (Qm.aI 6 (Qm.e2 Qm.aA (Qm.h9 (Qm.af (Qm.eV 1) (Qm.af (Qm.eV 2) Qm.ao))) (Qm.ax au [] (Qm.af (Qm.eV 0) (Qm.af (Qm.eC (.int 2)) Qm.ao)))))
   Qm.bP)
   (Qm.aB (Qm.cX (Qm.oR (Qm.tV (Qm.e2 Qm.iR (Qm.eV 5) (Qm.eC (.int 1)))) (Qm.tV (Qm.e2 Qm.sH (Qm.eB Qm.cy (Qm.af (Qm.eV 3) Qm.ao)) (Qm.eC (.int 0)))))
   (Qm.aI 6 (Qm.e2 Qm.aA (Qm.eV 3) (Qm.ax au [] (Qm.af (Qm.eV 0) (Qm.af (Qm.eB Qm.cy (Qm.af (Qm.eV 3) Qm.ao)) Qm.ao)))))
   Qm.bP)
   (Qm.aB (Qm.cX (Qm.tV (Qm.e2 Qm.iR (Qm.eV 5) (Qm.eC (.int 2))))
   (Qm.aI 6 (Qm.ax a_ [] (Qm.af (Qm.eV 0) Qm.ao)))
   Qm.bP)
   (Qm.aB (Qm.cX (Qm.tV (Qm.e2 Qm.iR (Qm.eV 5) (Qm.eC (.int 3))))
   (Qm.aI 6 (Qm.ax aN [] (Qm.af (Qm.e2 Qm.aA (Qm.eV 6) (Qm.eC (.int 0))) (Qm.af (Qm.e2 Qm.cp (Qm.e2 Qm.bA (Qm.e2 Qm.aA (Qm.eV 6) (Qm.eC (.int 1))) (Qm.eC (.int 1))) (Qm.e2 Qm.aH (Qm.eC (.int 2)) (Qm.ax au [] (Qm.af (Qm.eV 0) (Qm.af (Qm.eC (.int 2)) Qm.ao))))) (Qm.af (Qm.e2 Qm.aA (Qm.eV 6) (Qm.eC (.int 2))) Qm.ao)))))
   Qm.bP)
   (Qm.gC (Qm.eM Qm.cH (Qm.eV 3) (Qm.af (Qm.eV 6) Qm.ao))))))))))
   (Qm.bC (Qm.eV 3))))
noncomputable def cZ:Qm.FN:=Qm.eP 3 7 ik
noncomputable def ei:Qm.XS:=(Qm.aB (Qm.aI 3 (Qm.e2 Qm.aH (Qm.e2 Qm.aH (Qm.e2 Qm.aA (Qm.eV 0) (Qm.eC (.int 2))) (Qm.e2 Qm.aA (Qm.eV 1) (Qm.eC (.int 2)))) (Qm.e2 Qm.aA (Qm.eV 2) (Qm.eC (.int 2)))))
   (Qm.aB (Qm.aI 4 (Qm.cR (Qm.cx (Qm.af (Qm.eC (.int 2)) Qm.ao)) [none,some 2,some 3,some 1] (Qm.aL 0) Qm.eL (Qm.e2 Qm.cp (Qm.e2 Qm.aH (Qm.e2 Qm.aA (Qm.eV 1) (Qm.eV 0)) (Qm.e2 Qm.dr (Qm.eV 2) (Qm.e2 Qm.aA (Qm.eV 1) (Qm.eC (.int 2))))) (Qm.e2 Qm.aH (Qm.e2 Qm.aA (Qm.eV 3) (Qm.eV 0)) (Qm.e2 Qm.dr (Qm.eV 2) (Qm.e2 Qm.aA (Qm.eV 3) (Qm.eC (.int 2))))))))
   (Qm.aB (Qm.aI 5 (Qm.cR (Qm.cx (Qm.af (Qm.eC (.int 2)) Qm.ao)) [none,some 0,some 3,some 1] (Qm.aL 0) Qm.eL (Qm.e2 Qm.cp (Qm.e2 Qm.aH (Qm.e2 Qm.aA (Qm.eV 1) (Qm.eV 0)) (Qm.e2 Qm.dr (Qm.eV 2) (Qm.e2 Qm.aA (Qm.eV 1) (Qm.eC (.int 2))))) (Qm.e2 Qm.aH (Qm.e2 Qm.aA (Qm.eV 3) (Qm.eV 0)) (Qm.e2 Qm.dr (Qm.eV 2) (Qm.e2 Qm.aA (Qm.eV 3) (Qm.eC (.int 2))))))))
   (Qm.aB (Qm.cX (Qm.tV (Qm.e2 Qm.iS (Qm.e2 Qm.aH (Qm.e2 Qm.aA (Qm.eV 4) (Qm.eC (.int 0))) (Qm.e2 Qm.aA (Qm.eV 5) (Qm.eC (.int 1)))) (Qm.e2 Qm.aH (Qm.e2 Qm.aA (Qm.eV 4) (Qm.eC (.int 1))) (Qm.e2 Qm.aA (Qm.eV 5) (Qm.eC (.int 0))))))
   (Qm.bC (Qm.eC .bb))
   Qm.bP)
   (Qm.aB (Qm.aI 6 (Qm.e2 Qm.bA (Qm.e2 Qm.aH (Qm.e2 Qm.aA (Qm.eV 4) (Qm.eC (.int 0))) (Qm.e2 Qm.aA (Qm.eV 5) (Qm.eC (.int 0)))) (Qm.e2 Qm.aH (Qm.e2 Qm.aA (Qm.eV 4) (Qm.eC (.int 1))) (Qm.e2 Qm.aA (Qm.eV 5) (Qm.eC (.int 1))))))
   (Qm.aB (Qm.cX (Qm.jD (Qm.tV (Qm.pN Qm.BD Qm.BD (Qm.eC (.int 0)) (Qm.eV 6) (Qm.e2 Qm.bA (Qm.e2 Qm.aH (Qm.e2 Qm.aA (Qm.eV 4) (Qm.eC (.int 0))) (Qm.e2 Qm.aA (Qm.eV 4) (Qm.eC (.int 0)))) (Qm.e2 Qm.aH (Qm.e2 Qm.aA (Qm.eV 4) (Qm.eC (.int 1))) (Qm.e2 Qm.aA (Qm.eV 4) (Qm.eC (.int 1))))))))
   (Qm.bC (Qm.eC .bb))
   Qm.bP)
   (Qm.bC (Qm.fW (Qm.af (Qm.e2 Qm.aH (Qm.eV 6) (Qm.e2 Qm.aA (Qm.eV 0) (Qm.eC (.int 2)))) (Qm.af (Qm.e2 Qm.aH (Qm.eV 3) (Qm.eV 3)) Qm.ao))))))))))
noncomputable def bT:Qm.FN:=Qm.eP 3 7 ei
noncomputable def gj:Qm.XS:=(Qm.aB (Qm.cX (Qm.p7 (Qm.jD (Qm.tV (Qm.eB Qm.gE (Qm.af (Qm.eV 0) (Qm.af (Qm.eC (.ty "list")) Qm.ao))))) (Qm.tV (Qm.e2 Qm.iS (Qm.eB Qm.kQ (Qm.af (Qm.eV 0) Qm.ao)) (Qm.eB Qm.cy (Qm.af (Qm.eV 0) Qm.ao)))))
   (Qm.bC (Qm.eC (.bl false)))
   Qm.bP)
   (Qm.aB (Qm.cX (Qm.tV (Qm.e2 Qm.iS (Qm.eB Qm.pT (Qm.af (Qm.eV 0) Qm.ao)) (Qm.eB Qm.kR (Qm.af (Qm.cR (Qm.fX (Qm.eV 1)) [none,some 2,some 3] (Qm.aL 0) (Qm.tV (Qm.e2 Qm.lT (Qm.ax bT [] (Qm.af (Qm.eV 0) (Qm.af (Qm.eV 1) (Qm.af (Qm.eV 2) Qm.ao)))) (Qm.eC .bb))) (Qm.eV 0)) Qm.ao))))
   (Qm.bC (Qm.eC (.bl false)))
   Qm.bP)
   (Qm.aB (Qm.dO (Qm.jL (Qm.af (Qm.eC (.int 1)) (Qm.af (Qm.eB Qm.cy (Qm.af (Qm.eV 0) Qm.ao)) Qm.ao))) (Qm.aL 4)
   (Qm.aB (Qm.wm (Qm.fW (Qm.af (Qm.e2 Qm.aA (Qm.eV 0) (Qm.e2 Qm.cp (Qm.eV 4) (Qm.eC (.int 1)))) (Qm.af (Qm.e2 Qm.aA (Qm.eV 0) (Qm.eV 4)) Qm.ao))) (Qm.p9 2 (Qm.ja (Qm.aL 5) (Qm.ja (Qm.aL 6) Qm.p8))))
   (Qm.aB (Qm.aI 7 (Qm.cR (Qm.cx (Qm.af (Qm.eC (.int 2)) Qm.ao)) [none,some 6,some 5] (Qm.aL 0) Qm.eL (Qm.e2 Qm.cp (Qm.e2 Qm.aH (Qm.e2 Qm.aA (Qm.eV 1) (Qm.eV 0)) (Qm.e2 Qm.aA (Qm.eV 2) (Qm.eC (.int 2)))) (Qm.e2 Qm.aH (Qm.e2 Qm.aA (Qm.eV 2) (Qm.eV 0)) (Qm.e2 Qm.aA (Qm.eV 1) (Qm.eC (.int 2)))))))
   (Qm.aB (Qm.aI 8 (Qm.cR (Qm.cx (Qm.af (Qm.eC (.int 2)) Qm.ao)) [none,some 3,some 2] (Qm.aL 0) Qm.eL (Qm.e2 Qm.cp (Qm.e2 Qm.aH (Qm.e2 Qm.aA (Qm.eV 1) (Qm.eV 0)) (Qm.e2 Qm.aA (Qm.eV 2) (Qm.eC (.int 2)))) (Qm.e2 Qm.aH (Qm.e2 Qm.aA (Qm.eV 2) (Qm.eV 0)) (Qm.e2 Qm.aA (Qm.eV 1) (Qm.eC (.int 2)))))))
   (Qm.cX (Qm.tV (Qm.e2 Qm.BD (Qm.e2 Qm.bA (Qm.e2 Qm.aH (Qm.e2 Qm.aA (Qm.eV 7) (Qm.eC (.int 0))) (Qm.e2 Qm.aA (Qm.eV 8) (Qm.eC (.int 0)))) (Qm.e2 Qm.aH (Qm.e2 Qm.aA (Qm.eV 7) (Qm.eC (.int 1))) (Qm.e2 Qm.aA (Qm.eV 8) (Qm.eC (.int 1))))) (Qm.eC (.int 0))))
   (Qm.bC (Qm.eC (.bl false)))
   Qm.bP)))))
   (Qm.bC (Qm.eC (.bl true))))))
noncomputable def cN:Qm.FN:=Qm.eP 4 9 gj
noncomputable def ve(lt:Qm.bD)(bB:Nat):Qm.XS:=(Qm.aB (Qm.dO (Qm.cx (Qm.af (Qm.eB Qm.n8 (Qm.af (Qm.eC (.int 1)) (Qm.af (Qm.eB Qm.cy (Qm.af (Qm.zd Qm.lA (Qm.eV 0) (Qm.fP (Qm.eC (.int 1))) (Qm.fP (Qm.eC (.int 11)))) Qm.ao)) Qm.ao))) Qm.ao)) (Qm.aL 1)
   (Qm.aB (Qm.aI 2 (Qm.ax cF [] (Qm.af (Qm.eV 0) (Qm.af (Qm.e2 Qm.bA (Qm.eC (.int 1)) (Qm.eV 1)) Qm.ao))))
   (Qm.aB (Qm.aI 3 (Qm.ax a_ [] (Qm.af (Qm.eV 2) Qm.ao)))
   (Qm.aB (Qm.aI 4 (Qm.ax cG [] (Qm.af (Qm.ax a_ [] (Qm.af (Qm.eV 2) Qm.ao)) (Qm.af (Qm.h9 (Qm.af (Qm.eV 3) Qm.ao)) Qm.ao))))
   (Qm.aB (Qm.aI 5 (Qm.ax cZ [] (Qm.af (Qm.eV 2) (Qm.af (Qm.eV 3) (Qm.af (Qm.eV 4) Qm.ao)))))
   (Qm.aB (Qm.aI 6 (Qm.eB Qm.qH (Qm.af (Qm.eV 5) Qm.ao)))
   (Qm.aB (Qm.aI 7 (Qm.ax (cL lt bB) [] (Qm.af (Qm.fW (Qm.af (Qm.eV 3) (Qm.af (Qm.eV 4) Qm.ao))) (Qm.af (Qm.eV 5) Qm.ao))))
   (Qm.aB (Qm.cX (Qm.p7 (Qm.jD (Qm.tV (Qm.ax cN [] (Qm.af (Qm.eV 7) (Qm.af (Qm.eV 5) (Qm.af (Qm.eV 3) (Qm.af (Qm.eV 4) Qm.ao))))))) (Qm.tV (Qm.e2 Qm.iS (Qm.eV 5) (Qm.eV 6))))
   (Qm.bC (Qm.eC (.bl false)))
   Qm.bP)
   (Qm.aB (Qm.cX (Qm.tV (Qm.e2 Qm.iS (Qm.ax (cL lt bB) [] (Qm.af (Qm.fW (Qm.af (Qm.eV 4) (Qm.af (Qm.eV 3) Qm.ao))) (Qm.af (Qm.eV 5) Qm.ao))) (Qm.eB Qm.gq (Qm.af (Qm.eV 7) Qm.ao))))
   (Qm.bC (Qm.eC (.bl false)))
   Qm.bP)
   (Qm.dO (Qm.fX (Qm.eV 5)) (Qm.aL 8)
   (Qm.aB (Qm.aI 9 (Qm.ax bp [] (Qm.af (Qm.eV 8) (Qm.af (Qm.fW (Qm.af (Qm.eV 3) (Qm.af (Qm.eV 4) Qm.ao))) Qm.ao))))
   (Qm.cX (Qm.p7 (Qm.jD (Qm.tV (Qm.eB Qm.gE (Qm.af (Qm.eV 9) (Qm.af (Qm.eC (.ty "bool")) Qm.ao))))) (Qm.p7 (Qm.tV (Qm.e2 Qm.iS (Qm.eV 9) (Qm.e2 Qm.lT (Qm.ax bT [] (Qm.af (Qm.eV 8) (Qm.af (Qm.eV 3) (Qm.af (Qm.eV 4) Qm.ao)))) (Qm.eC .bb)))) (Qm.tV (Qm.e2 Qm.iS (Qm.ax bp [] (Qm.af (Qm.eV 8) (Qm.af (Qm.fW (Qm.af (Qm.eV 4) (Qm.af (Qm.eV 3) Qm.ao))) Qm.ao))) (Qm.eV 9)))))
   (Qm.bC (Qm.eC (.bl false)))
   Qm.bP))))))))))))
   (Qm.bC (Qm.eC (.bl true))))
noncomputable def kg(lt:Qm.bD)(bB:Nat):Qm.FN:=Qm.eP 1 10 (ve lt bB)
end xO
namespace xO
open PySem Qm PyProof.Rows
local macro_rules|`(tactic|walk_at "bd")=>`(tactic|first|assumption|((with_reducible show My.Bd _ (_*_));refine' My.Bd.mul ?_ ?_<;>walk_at "bd")|((with_reducible show My.Bd _ (_+_));refine' My.Bd.add ?_ ?_<;>walk_at "bd")|((with_reducible show My.Bd _ (_ - _));refine' My.Bd.sub ?_ ?_<;>walk_at "bd")|((with_reducible show My.Bd _ (- _));refine' My.Bd.neg ?_<;>walk_at "bd")|(refine' Jx ?_;omega))
local macro_rules|`(tactic|walk_at "bdm")=>`(tactic|first|assumption|(refine' My.Bd.mono ?b1 ?b2;(case b1=>walk_at "bd");(case b2=>decide)))
local macro_rules|`(tactic|walk_at "mo")=>`(tactic|first|(refine mulL ?_;omega)|(refine mulR ?_;omega)|(refine tU ?_ ?_<;>walk_at "bdm"))
local macro_rules|`(tactic|walk_at "dis")=>`(tactic|first|assumption|omega|walk_at "mo"|walk_at "bdm")
local macro_rules|`(tactic|erw[$[$t:term],*])=>`(tactic|simp (disch:=walk_at "dis") only[er,zP,E5,Mh,Mi,P_,Mj,HL,Mg,PY,PZ,U6,P0,P4,P5,L9,P6,L_,P7,Ma,HI,Mb,Mc,HJ,U7,U8,HK,P8,U9,Md,P9,Me,Mf,E4,kU,Mk,HM,Ml,E6,Mm,HN,HP,Mn,E7,Qa,Qb,Qc,Qd,Mo,aG,jn,vc,E8,E9,HR,vd,zQ,E_,Mp,Mq,Mr,Ms,Fb,HS,HU,Mt,Mu,Mv,Mw,Mx,Mz,MA,MB,List.getElem?_cons_succ,List.getElem?_cons_zero,Option.join_some,Option.join_none,Option.bind_some,Option.bind_none,List.set_cons_succ,List.set_cons_zero,List.map_cons,List.map_nil,List.length_cons,List.length_nil,List.append_nil,List.nil_append,List.cons_append,List.replicate_succ,List.replicate_zero,Nat.reduceAdd,Nat.reduceSub,Nat.reduceEqDiff,if_true,if_false,Bool.false_eq_true,decide_true,decide_false,Bool.not_true,Bool.not_false,eq_self_iff_true,reduceIte,List.zip_cons_cons,List.zip_nil_right,List.zip_nil_left,List.foldl_cons,List.foldl_nil,Int.reduceLT,Int.reduceEq,Int.reduceLE,$[$t:term],*])
def cS(n:Nat)(c:Cells):Prop:=∃a b:Int,c[n]? =some (.lst [.int a,.int b])∧0≤a∧0≤b
structure Kp(n:Nat)(c c':Cells):Prop where
 len:c.length≤c'.length
 at_:∀i,i<c.length→i≠n→c'[i]? =c[i]?
theorem Kp.trans{n:Nat}{c c' pE:Cells}(a:Kp n c c')(b:Kp n c' pE):Kp n c pE:=⟨Nat.le_trans a.len b.len,fun i h h'=>(b.at_ i (Nat.lt_of_lt_of_le h a.len) h').trans (a.at_ i h h')⟩
theorem Kp.set{n:Nat}{c:Cells}{z:Cell}:Kp n c (c.set n z):=⟨by rw[List.length_set];exact Nat.le_refl _,fun i _ h=>by rw[List.getElem?_set,if_neg (fun e=>h e.symm)]⟩
theorem Kp.more{n:Nat}{c:Cells}{zs:List Cell}:Kp n c (c++zs):=⟨by rw[List.length_append];omega,fun i h _=>List.getElem?_append_left h⟩
theorem Kp.get{n i:Nat}{c c':Cells}{z:Cell}(k:Kp n c c')(h:c[i]? =some z)(hi:i≠n):c'[i]? =some z:=by
 rw[k.at_ i (List.getElem?_eq_some_iff.mp h).1 hi];exact h
theorem cS.lt{n:Nat}{c:Cells}(h:cS n c):n<c.length:=by
 obtain⟨a,b,h,_⟩:=h
 exact(List.getElem?_eq_some_iff.mp h).1
theorem cS.more{n:Nat}{c:Cells}{zs:List Cell}(h:cS n c):cS n (c++zs):=by
 have hl:=h.lt
 obtain⟨a,b,h,r⟩:=h
 exact⟨a,b,by rw[List.getElem?_append_left hl];exact h,r⟩
theorem cS.ne{n i:Nat}{c:Cells}(h:cS n c)(hi:c.length≤i):i≠n:=by have:=h.lt;omega
theorem cB{n:Nat}{c:Cells}{m:Int}(h:cS n c)(h0: 0<m)(hm:My.Bd 8900 m):∃d c',au [.ref n,.int m] c=some (.int d,c')∧0≤d∧d<m∧cS n c'∧Kp n c c':=by
 have da:=h.lt
 obtain⟨a,b,hc,a0,b0⟩:=h
 have s1:=bF hc
 have l1:=bS hc
 by_cases ha:a=0
 ·refine⟨b % m,c.set n (.lst [.int a,.int (b / m)]),?_,Int.emod_nonneg _ (by omega),Int.emod_lt_of_pos _ h0,⟨a,b / m,?_,a0,Int.ediv_nonneg b0 (by omega)⟩,Kp.set⟩
  ·subst ha
   simp[au,er,eU,gR,s1,vc h0,jn h0 hm,Ar,l1,pC]
  ·simp[da]
 ·refine⟨a % m,c.set n (.lst [.int (a / m),.int b]),?_,Int.emod_nonneg _ (by omega),Int.emod_lt_of_pos _ h0,⟨a / m,b,?_,Int.ediv_nonneg a0 (by omega),b0⟩,Kp.set⟩
  ·simp[au,er,eU,gR,s1,vc h0,jn h0 hm,Ar,l1,pC,ha]
  ·simp[da]
theorem MC{s:Nat}{c:Cells}{ns:List Int}{k:Int}(hs:c[s]? =some (.ro (ns.map D.int)))(k0: 0≤k)(k1:k<1000):∃a b,cF [.ref s,.int k] c=some (.ref c.length,c++[.lst [.int a,.int b]])∧0≤a∧0≤b:=by
 have s1:=tX hs
 -- Dh loop
 have loop:∀(z mx:Int),∃kh nH j' xP,0≤nH∧dO (cx (af (eC (.int 12)) ao)) (aL 5)
   (aB (aI 3 (e2 bA (e2 aH (eV 3) (eC (.int 6364136223846793005))) (e2 aH (eC (.int 1442695040888963407)) (e2 bA (e2 bA (eV 1) (eV 5)) (eC (.int 1))))))
   (aB (aI 3 (e2 e9 (eV 3) (eC (.int 2305843009213693951))))
   (aB (aI 6 (e2 aH (e2 dr (eV 3) (eC (.int 1024))) (e2 bA (e2 bA (e2 e9 (eV 3) (eC (.int 1000003))) (e2 aH (eC (.int 7919)) (eV 5))) (eC (.int 1)))))
   (aI 4 (e2 bA (e2 aH (eV 4) (eC (.int 1099511627776))) (e2 e9 (eV 6) (eC (.int 1099511627776))))))))
   [some (.ref s),some (.int k),some (.int z),some (.int mx),some (.int 0),none,none,none] c=some (.nx,[some (.ref s),some (.int k),some (.int z),some (.int kh),some (.int nH),j',xP,none],c):=by
  intro z mx
  have hr:cx (af (eC (.int 12)) ao) [some (.ref s),some (.int k),some (.int z),some (.int mx),some (.int 0),none,none,none] c=some (⟨dI 0 12,[]⟩,c):=nG (j:=12) rfl (by decide)
  have key:=de (ks:=[]) (g:=aL 5) (body:=(aB (aI 3 (e2 bA (e2 aH (eV 3) (eC (.int 6364136223846793005))) (e2 aH (eC (.int 1442695040888963407)) (e2 bA (e2 bA (eV 1) (eV 5)) (eC (.int 1))))))
   (aB (aI 3 (e2 e9 (eV 3) (eC (.int 2305843009213693951))))
   (aB (aI 6 (e2 aH (e2 dr (eV 3) (eC (.int 1024))) (e2 bA (e2 bA (e2 e9 (eV 3) (eC (.int 1000003))) (e2 aH (eC (.int 7919)) (eV 5))) (eC (.int 1)))))
   (aI 4 (e2 bA (e2 aH (eV 4) (eC (.int 1099511627776))) (e2 e9 (eV 6) (eC (.int 1099511627776)))))))))
   (fun _ σ c'=>∃kh nH j' xP,0≤nH∧σ=[some (.ref s),some (.int k),some (.int z),some (.int kh),some (.int nH),j',xP,none]∧c'=c) (dI 0 12) 0 [some (.ref s),some (.int k),some (.int z),some (.int mx),some (.int 0),none,none,none] c (fun _ _ _ _=>d9)
  have Fc:=key (by
    rintro i d σ c' hd ⟨kh,nH,j',xP,h1,rfl,rfl⟩
    obtain⟨hi,rfl⟩:i<12∧d= .int (0+(i:Int)):=by
     unfold dI at hd
     rw[List.getElem?_map]at hd
     by_cases hi:i<12
     ·rw[List.getElem?_range hi]at hd;cases hd;exact⟨hi,rfl⟩
     ·rw[List.getElem?_eq_none_iff.mpr (by simpa using Nat.le_of_not_lt hi)]at hd;cases hd
    have XD:=Int.emod_nonneg (kh*6364136223846793005+1442695040888963407*(k+(0+(i:Int))+1)) (show(2305843009213693951:Int)≠0 by decide)
    have XF:=Int.emod_lt_of_pos (kh*6364136223846793005+1442695040888963407*(k+(0+(i:Int))+1)) (show(0:Int)<2305843009213693951 by decide)
    refine⟨_,c',[some (.ref s),some (.int k),some (.int z),some (.int ((kh*6364136223846793005+1442695040888963407*(k+(0+(i:Int))+1)) % 2305843009213693951)),some (.int (nH*1099511627776+((kh*6364136223846793005+1442695040888963407*(k+(0+(i:Int))+1)) % 2305843009213693951) / 1024*(((kh*6364136223846793005+1442695040888963407*(k+(0+(i:Int))+1)) % 2305843009213693951) % 1000003+7919*(0+(i:Int))+1) % 1099511627776)),some (.int (0+(i:Int))),some (.int (((kh*6364136223846793005+1442695040888963407*(k+(0+(i:Int))+1)) % 2305843009213693951) / 1024*(((kh*6364136223846793005+1442695040888963407*(k+(0+(i:Int))+1)) % 2305843009213693951) % 1000003+7919*(0+(i:Int))+1))),none],c',rfl,?_,⟨_,_,_,_,?_,rfl,rfl⟩⟩
    ·simp (disch:=walk_at "dis") only[zP,E5,P0,PZ,PY,E7,aG,vc,jn,kU,List.getElem?_cons_succ,List.getElem?_cons_zero,Option.join_some,Option.bind_some,List.set_cons_succ,List.set_cons_zero,E6]
    ·have:=Int.emod_nonneg (((kh*6364136223846793005+1442695040888963407*(k+(0+(i:Int))+1)) % 2305843009213693951) / 1024*(((kh*6364136223846793005+1442695040888963407*(k+(0+(i:Int))+1)) % 2305843009213693951) % 1000003+7919*(0+(i:Int))+1)) (show(1099511627776:Int)≠0 by decide)
     omega) ⟨mx,0,none,none,Int.le_refl _,rfl,rfl⟩
  obtain⟨σ',c',e,kh,nH,j',xP,h1,h2,h3⟩:=Fc
  subst h2 h3
  refine⟨kh,nH,j',xP,h1,?_⟩
  unfold dO
  rw[hr]
  exact e
 have hl:((ns.map D.int).length:Int)=ns.length:=by simp
 -- Dh own cell
 by_cases hk:k<ns.length
 ·obtain⟨z,hz⟩:∃z,fZ (ns.map D.int) k=some (.int z):=by
   have U_:k.toNat<ns.length:=by omega
   refine⟨ns[k.toNat],?_⟩
   have:=xN (xs:=ns.map D.int) (n:=k.toNat) (x:=.int ns[k.toNat]) (by simp[U_])
   rwa[show((k.toNat:Nat):Int)=k by omega]at this
  obtain⟨w0,hw⟩:∃w0,fZ (ns.map D.int) 0=some (.int w0):=by
   cases ns with
   |nil=>simp at hk;omega
   |cons n ns=>exact⟨n,by simp⟩
  obtain⟨kh,nH,j',xP,ht,el⟩:=loop z ((if z<0 then -z else z) % 2305843009213693951+7919*k+5)
  refine⟨(if z<0 then -z else z)*(if decide (w0 % 2=1)=true then 1 else 0),nH,?_,Int.mul_nonneg (by split<;>omega) (by split<;>omega),ht⟩
  rw[cF,er,eA]
  have ix:decide (k<((ns.map D.int).length:Int))=true:=by rw[hl];exact decide_eq_true hk
  have h0:decide ((0:Int)<((ns.map D.int).length:Int))=true:=by rw[hl];exact decide_eq_true (by omega)
  erw[oC,s1,gR,ix,hz,hw,el,h0]
 ·have ix:decide (k<((ns.map D.int).length:Int))=false:=by rw[hl];exact decide_eq_false (by omega)
  obtain⟨kh,nH,j',xP,ht,el⟩:=loop 0 (0 % 2305843009213693951+7919*k+5)
  by_cases hn: 0<ns.length
  ·obtain⟨w0,hw⟩:∃w0,fZ (ns.map D.int) 0=some (.int w0):=by
    cases ns with
    |nil=>simp at hn
    |cons n ns=>exact⟨n,by simp⟩
   have h0:decide ((0:Int)<((ns.map D.int).length:Int))=true:=by rw[hl];exact decide_eq_true (by omega)
   refine⟨0*(if decide (w0 % 2=1)=true then 1 else 0),nH,?_,by simp,ht⟩
   rw[cF,er,eA]
   erw[oC,s1,gR,ix,hw,el,h0]
  ·have h0:decide ((0:Int)<((ns.map D.int).length:Int))=false:=by rw[hl];exact decide_eq_false (by omega)
   refine⟨0*(if false=true then 1 else 0),nH,?_,by simp,ht⟩
   rw[cF,er,eA]
   erw[oC,s1,gR,ix,el,h0]
theorem Jy{c:Cells}:tD (.int 10) (.int 9) c=some (.int 1000000000,c):=by
 unfold tD;rw[HQ,if_pos (by decide)];rfl
theorem AX{n:Nat}{c:Cells}(h:cS n c):∃x c',bK [.ref n] c=some (.int x,c')∧-1000000000≤x∧x≤1000000000∧cS n c'∧Kp n c c':=by
 obtain⟨d1,c1,e1,l1,u1,p1,k1⟩:=cB h (m:=5) (by decide) (by walk_at "bdm")
 by_cases h1:d1<2
 ·obtain⟨d2,c2,e2,l2,u2,p2,k2⟩:=cB p1 (m:=9) (by decide) (by walk_at "bdm")
  refine⟨d2 - 4,c2,?_,by omega,by omega,p2,k1.trans k2⟩
  erw[bK,df,e1,h1,e2]
 by_cases h2:d1=2
 ·obtain⟨d2,c2,e2,l2,u2,p2,k2⟩:=cB p1 (m:=1999999) (by decide) (by walk_at "bdm")
  refine⟨d2 - 999999,c2,?_,by omega,by omega,p2,k1.trans k2⟩
  erw[bK,df,e1,h1,h2,e2]
 by_cases h3:d1=3
 ·obtain⟨d2,c2,e2,l2,u2,p2,k2⟩:=cB p1 (m:=3) (by decide) (by walk_at "bdm")
  obtain⟨d3,c3,e3,l3,u3,p3,k3⟩:=cB p2 (m:=2) (by decide) (by walk_at "bdm")
  refine⟨(999999 - d2)*(1 - 2*d3),c3,?_,?_,?_,p3,k1.trans (k2.trans k3)⟩
  ·erw[bK,df,e1,h1,h2,h3,e2,e3]
  ·have:d3=0∨d3=1:=by omega
   rcases this with rfl|rfl<;>omega
  ·have:d3=0∨d3=1:=by omega
   rcases this with rfl|rfl<;>omega
 ·obtain⟨d2,c2,e2,l2,u2,p2,k2⟩:=cB p1 (m:=2*1000000000+1) (by decide) (by walk_at "bdm")
  refine⟨d2 - 1000000000,c2,?_,by omega,by omega,p2,k1.trans k2⟩
  erw[bK,df,e1,h1,h2,h3,Jy,e2]
theorem HW{n:Nat}{c:Cells}(h:cS n c):∃x c',cM [.ref n] c=some (.int x,c')∧1≤x∧x≤1000000000∧cS n c'∧Kp n c c':=by
 obtain⟨d1,c1,e1,l1,u1,p1,k1⟩:=cB h (m:=5) (by decide) (by walk_at "bdm")
 have key:∀m:Int,0<m→m≤1000000000→fZ [D.int 1,.int 1,.int 9,.int 999999,.int 1000000000] d1=some (.int m)→∃x c',cM [.ref n] c=some (.int x,c')∧1≤x∧x≤1000000000∧cS n c'∧Kp n c c':=by
  intro m m0 m1 ha
  obtain⟨d2,c2,e2,l2,u2,p2,k2⟩:=cB (p1.more (zs:=[.lst [.int 1,.int 1,.int 9,.int 999999,.int 1000000000]])) (m:=m) m0 (by walk_at "bdm")
  refine⟨1+d2,c2,?_,by omega,by omega,p2,k1.trans (Kp.more.trans k2)⟩
  have s2:bM (.ref c1.length) (c1++[.lst [.int 1,.int 1,.int 9,.int 999999,.int 1000000000]])=some [.int 1,.int 1,.int 9,.int 999999,.int 1000000000]:=bF (by simp)
  erw[cM,gh,e1,Jy,gR,s2,ha,e2]
 have:d1=0∨d1=1∨d1=2∨d1=3∨d1=4:=by omega
 rcases this with rfl|rfl|rfl|rfl|rfl
 ·exact key 1 (by decide) (by decide) rfl
 ·exact key 1 (by decide) (by decide) rfl
 ·exact key 9 (by decide) (by decide) rfl
 ·exact key 999999 (by decide) (by decide) rfl
 ·exact key 1000000000 (by decide) (by decide) rfl
theorem xQ{a b:Int}{c:Cells}:cj [.int a,.int b] c=some (.int (Int.gcd a b),c):=by
 have loop:∀(n:Nat) (x y:Int),0≤x→0≤y→y.natAbs=n→cV (tV (e2 sH (eV 1) (eC (.int 0)))) (tw [0,1] (af (eV 1) (af (e2 e9 (eV 0) (eV 1)) ao))) [some (.int x),some (.int y)] c=some (.nx,[some (.int (Int.gcd x y)),some (.int 0)],c):=by
  intro n
  induction n using Nat.strongRecOn with
  |_ n ih=>
   intro x y hx hy hn
   by_cases h: 0<y
   ·have h1:=Int.emod_lt_of_pos x h
    have h2:=Int.emod_nonneg x (show y≠0 by omega)
    have:=ih (x % y).natAbs (by omega) y (x % y) hy h2 rfl
    rw[My.Bw]at this
    refine lU (c':=c) (σ':=[some (.int y),some (.int (x % y))]) (c2:=c) ?_ ?_ this
    ·erw[h]
    ·erw[h]
   ·have:y=0:=by omega
    subst this
    have e:=My.gcd_zero x
    rw[if_neg (by omega)]at e
    rw[e]
    refine f_ ?_
    erw[h]
 have:=loop _ (if a<0 then -a else a) (if b<0 then -b else b) (by split<;>omega) (by split<;>omega) rfl
 rw[My.DK]at this
 erw[cj,fA,this]
def sp(x y w:Int):D:=.tup [.int x,.int y,.int w]
theorem ki{x y w:Int}{c:Cells}(hw:w≠0)(hb:My.Bd 8900 w):aN [.int x,.int y,.int w] c=some (sp (My.sx x y w) (My.sy x y w) (My.sw x y w),c):=by
 have gP:∀(z:Int),z≠0→My.Bd 8900 z→∀(n m:Int),0<(Int.gcd (Int.gcd n m:Int) z:Int)∧My.Bd 8900 (Int.gcd (Int.gcd n m:Int) z:Int):=fun z hz hb n m=>by
  have g0:=My.qx (n:=(Int.gcd n m:Int)) hz
  refine⟨g0,My.Bd.of_le hb ?_⟩
  have:=My.KN (n:=(Int.gcd n m:Int)) hz
  rw[My.qy]at this
  omega
 by_cases h:w<0
 ·obtain⟨e1,e2,e3⟩:=My.wd (x:=x) (y:=y) h
  obtain⟨g0,g1⟩:=gP (0 - w) (by omega) ⟨by have:=hb.lt;omega⟩ (0 - x) (0 - y)
  erw[aN,dR,h,xQ,e1,e2,e3]
  rfl
 ·obtain⟨e1,e2,e3⟩:=My.oT (x:=x) (y:=y) (w:=w) (by omega)
  obtain⟨g0,g1⟩:=gP w hw hb x y
  erw[aN,dR,h,xQ,e1,e2,e3]
  rfl
structure Sp(k:Nat)(x y w:Int):Prop where
 low:My.v_ x y w
 bx:My.Bd k x
 dG:My.Bd k y
 bw:My.Bd k w
theorem Sp.pos{k:Nat}{x y w:Int}(h:Sp k x y w): 0<w:=h.low.pos
theorem Sp.mono{j k:Nat}{x y w:Int}(h:Sp j x y w)(e:j≤k):Sp k x y w:=⟨h.low,h.bx.mono e,h.dG.mono e,h.bw.mono e⟩
theorem Sp.mk'{k:Nat}{x y w:Int}(hw:w≠0)(bx:My.Bd k x)(dG:My.Bd k y)(bw:My.Bd k w):Sp k (My.sx x y w) (My.sy x y w) (My.sw x y w):=
 ⟨My.kI hw,My.Bd.of_le bx (My.KO hw),My.Bd.of_le dG (My.KP hw),My.Bd.of_le bw (My.KQ hw)⟩
theorem rG{x:Int}(h1: -1000000000≤x)(h2:x≤1000000000):My.Bd 31 x:=⟨by
 have:(2:Nat) ^ 31=2147483648:=by decide
 omega⟩
theorem zR{n:Nat}{c:Cells}(h:cS n c):∃x y w c',a_ [.ref n] c=some (sp x y w,c')∧Sp 31 x y w∧cS n c'∧Kp n c c':=by
 obtain⟨d1,c1,e1,l1,u1,p1,k1⟩:=cB h (m:=3) (by decide) (by walk_at "bdm")
 by_cases h1:d1=0
 ·obtain⟨x,c2,e2,l2,u2,p2,k2⟩:=AX p1
  obtain⟨y,c3,e3,l3,u3,p3,k3⟩:=AX p2
  obtain⟨w,c4,e4,l4,u4,p4,k4⟩:=HW p3
  have hw:w≠0:=by omega
  refine⟨_,_,_,c4,?_,Sp.mk' hw (rG l2 u2) (rG l3 u3) (rG (by omega) u4),p4,k1.trans (k2.trans (k3.trans k4))⟩
  have e5:=ki (x:=x) (y:=y) (c:=c4) hw ((rG (by omega) u4).mono (by decide))
  erw[a_,fI,e1,h1,e2,e3,e4,e5]
 ·obtain⟨x,c2,e2,l2,u2,p2,k2⟩:=cB p1 (m:=5+4*d1) (by omega) (by walk_at "bdm")
  obtain⟨y,c3,e3,l3,u3,p3,k3⟩:=cB p2 (m:=5+4*d1) (by omega) (by walk_at "bdm")
  obtain⟨z,c4,e4,l4,u4,p4,k4⟩:=cB (p3.more (zs:=[.lst [.int 1,.int 1,.int 2]])) (m:=3) (by omega) (by walk_at "bdm")
  have hs:bM (.ref c3.length) c4=some [.int 1,.int 1,.int 2]:=bF (k4.get (by simp) (p3.ne (Nat.le_refl _)))
  have key:∀w:Int,w≠0→w≤2→0≤w→fZ [D.int 1,.int 1,.int 2] z=some (.int w)→∃x y w c',a_ [.ref n] c=some (sp x y w,c')∧Sp 31 x y w∧cS n c'∧Kp n c c':=by
   intro w hw w2 w0 ha
   refine⟨_,_,_,c4,?_,Sp.mk' hw (rG (x:=x) (by omega) (by omega)) (rG (x:=y) (by omega) (by omega)) (rG (by omega) (by omega)),p4,k1.trans (k2.trans (k3.trans (Kp.more.trans k4)))⟩
   have e5:=ki (x:=x) (y:=y) (c:=c4) hw (by walk_at "bdm")
   erw[a_,fI,e1,h1,e2,e3,e4,gR,hs,ha,e5]
  have:z=0∨z=1∨z=2:=by omega
  rcases this with rfl|rfl|rfl
  ·exact key 1 (by decide) (by decide) (by decide) rfl
  ·exact key 1 (by decide) (by decide) (by decide) rfl
  ·exact key 2 (by decide) (by decide) (by decide) rfl
abbrev T3:=My.T3
def sd(p:T3):D:=sp p.1 p.2.1 p.2.2
def ld(l:List T3):D:=.tup (l.map sd)
abbrev Ok(k:Nat)(p:T3):Prop:=Sp k p.1 p.2.1 p.2.2
theorem Ok.fY{k:Nat}{p:T3}(h:Ok k p):My.cw p:=h.low
theorem vf{x y w i:Int}{c:Cells}:aA (sp x y w) (.int i) c=(fZ [D.int x,.int y,.int w] i).bind fun d=>some (d,c):=rfl
theorem Qe{p q:T3}{c:Cells}(hp:Ok 1000 p)(hq:Ok 1000 q):dE [sd p,sd q] c=some (.bl (decide (p.2.1*q.2.2<q.2.1*p.2.2)),c):=by
 have a1:=hp.bx;have a2:=hp.dG;have a3:=hp.bw;have b1:=hq.bx;have b2:=hq.dG;have b3:=hq.bw
 erw[dE,ij,sd,vf]
theorem ip{p q:T3}{c:Cells}(hp:Ok 1000 p)(hq:Ok 1000 q):bE [sd p,sd q] c=some (.bl (My.cI p q),c):=by
 have a1:=hp.bx;have a2:=hp.dG;have a3:=hp.bw;have b1:=hq.bx;have b2:=hq.dG;have b3:=hq.bw
 have e:=Qe (c:=c) hp hq
 unfold sd at e ⊢
 unfold My.cI My.jc
 by_cases h:p.1*q.2.2=q.1*p.2.2
 ·rw[if_pos h]
  erw[bE,ke,vf,decide_eq_true h,e]
 ·rw[if_neg h]
  erw[bE,ke,vf,decide_eq_false h]
def pd(p:T3):PyData:=.tuple [.int p.1,.int p.2.1,.int p.2.2]
theorem HX{p q:T3}:pd p=pd q↔p=q:=by
 obtain⟨a,b,c⟩:=p
 obtain⟨x,y,z⟩:=q
 simp[pd]
theorem rH{c:Cells}{k:Nat}{p:T3}:data c (k+2) (sd p)=some (pd p):=rfl
theorem kY{α β γ:Type}{f:β→Option γ}{g:α→β}{h:α→γ}(e:∀a,f (g a)=some (h a)):∀l:List α,omap f (l.map g)=some (l.map h)
 |[]=>rfl
 |a::l=>by simp only[List.map_cons,omap,e,Option.bind_some,kY e l]
theorem AY{a:XE}{σ:Qm.Env}{c:Cells}:fP a σ c=(a σ c).bind fun p=>(pB p.1).bind fun i=>some (some i,p.2):=by
 unfold fP
 cases a σ c with
 |none=>rfl
 |some p=>obtain⟨d,c⟩:=p;cases d<;>rfl
theorem xR{x y w:Int}(h:My.v_ x y w):My.v_ (x+w) y w:=by
 exact⟨h.pos,by rw[show Int.gcd (x+w) w=Int.gcd x w by simp];exact h.low⟩
def mv(p:T3)(i:Nat):T3:=(p.1+(i:Int)*p.2.2,p.2.1,p.2.2)
theorem xS{p:T3}:mv p 0=p:=by simp[mv]
theorem xT{p:T3}{i:Nat}:mv p (i+1)=((mv p i).1+(mv p i).2.2,(mv p i).2.1,(mv p i).2.2):=by
 simp only[mv,Prod.mk.injEq,and_self,and_true]
 rw[Int.natCast_add,Int.add_mul]
 omega
theorem vg{p:T3}(h:My.cw p):∀i,My.cw (mv p i)
 |0=>by rw[xS];exact h
 |i+1=>by rw[xT];exact xR (vg h i)
theorem HY{p:T3}(h:My.cw p){i j:Nat}(e:mv p i=mv p j):i=j:=by
 have e1:p.1+(i:Int)*p.2.2=p.1+(j:Int)*p.2.2:=congrArg Prod.fst e
 have e2:(i:Int)*p.2.2=(j:Int)*p.2.2:=by omega
 have h0:p.2.2≠0:=by have:=h.pos;omega
 have:=Int.eq_of_mul_eq_mul_right h0 e2
 omega
theorem MD{K:Nat}{p:T3}(h:Ok K p){i:Nat}(hi:i≤1000):Ok (K+11) (mv p i):=by
 have a1:=h.bx;have a2:=h.dG;have a3:=h.bw
 refine⟨vg h.low i,?_,h.dG.mono (by omega),h.bw.mono (by omega)⟩
 exact(My.Bd.add h.bx (My.Bd.mul (show My.Bd 10 (i:Int)from⟨by omega⟩) h.bw)).mono (by omega)
theorem Jz{p:T3}{m:Nat}{l:List T3}{c:Cells}(h:c[m]? =some (.lst (l.map sd))):BE (sd p) (.ref m) c=some (.bl (decide (p∈l)),c):=by
 have o:omap (data c 5) (l.map sd)=some (l.map pd):=kY (fun a=>rH) l
 unfold BE K6
 rw[bF h,Option.bind_some,rH,Option.bind_some,o,Option.bind_some,Option.bind_some]
 congr 3
 rw[Bool.eq_iff_iff];simp only[decide_eq_true_eq]
 rw[List.mem_map]
 constructor
 ·rintro⟨q,h1,h2⟩
  rw[←HX.mp h2];exact h1
 ·exact fun h=>⟨p,h,rfl⟩
theorem Fd{K:Nat}{p:T3}{m:Nat}{l:List T3}{c:Cells}(hK:K≤2000)(hp:Ok K p)(h:c[m]? =some (.lst (l.map sd)))(hn:l.length≤100):∃q,cG [sd p,.ref m] c=some (sd q,c)∧Ok (K+11) q∧q∉l:=by
 have hr:cx (af (e2 bA (eB cy (af (eV 1) ao)) (eC (.int 1))) ao) [some (sd p),some (.ref m),none] c=some (⟨dI 0 (l.length+1),[]⟩,c):=by
  refine(nG (j:=(l.length:Int)+1) (c':=c) ?_ (by omega)).trans ?_
  ·erw[oC,bF h,List.length_map]
  ·rw[show((l.length:Int)+1).toNat=l.length+1 by omega]
 have key:=de (ks:=[]) (g:=aL 2) (body:=(cX (tV (e2 BE (eV 0) (eV 1)))
   (aI 0 (ax aN [] (af (e2 bA (e2 aA (eV 0) (eC (.int 0))) (e2 aA (eV 0) (eC (.int 2)))) (af (e2 aA (eV 0) (eC (.int 1))) (af (e2 aA (eV 0) (eC (.int 2))) ao)))))
   bP)) (fun i σ c'=>∃j x,j≤i∧(∀k<j,mv p k∈l)∧(mv p j∈l→j=i)∧σ=[some (sd (mv p j)),some (.ref m),x]∧c'=c) (dI 0 (l.length+1)) 0 [some (sd p),some (.ref m),none] c (fun _ _ _ _=>d9)
 have Fc:=key (by
  rintro i d σ c' hd ⟨j,x,h1,h2,h3,rfl,rfl⟩
  have hi:i<l.length+1:=by
   have:=(List.getElem?_eq_some_iff.mp hd).1
   simpa[dI]using this
  rw[Nat.zero_add]at h1 h3 ⊢
  by_cases hj:mv p j∈l
  ·have:=h3 hj
   subst this
   have low:=vg hp.low j
   have hw:=low.pos
   have e1:=ki (x:=(mv p j).1+(mv p j).2.2) (y:=(mv p j).2.1) (w:=(mv p j).2.2) (c:=c') (by omega) (hp.bw.mono (by omega))
   obtain⟨a1,a2,a3⟩:=My.DN (xR low)
   rw[a1,a2,a3]at e1
   have e2:sp ((mv p j).1+(mv p j).2.2) (mv p j).2.1 (mv p j).2.2=sd (mv p (j+1)):=by rw[xT];rfl
   rw[e2]at e1
   refine⟨_,c',[some (sd (mv p (j+1))),some (.ref m),some d],c',rfl,?_,j+1,some d,Nat.le_refl _,fun k hk=>?_,fun _=>rfl,rfl,rfl⟩
   ·have i0:aA (sd (mv p j)) (.int 0) c'=some (.int (mv p j).1,c'):=rfl
    have i1:aA (sd (mv p j)) (.int 1) c'=some (.int (mv p j).2.1,c'):=rfl
    have i2:aA (sd (mv p j)) (.int 2) c'=some (.int (mv p j).2.2,c'):=rfl
    erw[Jz h,decide_eq_true hj,i0,i1,i2,e1]
   ·rcases Nat.lt_or_eq_of_le (Nat.le_of_lt_succ hk)with hk|rfl
    ·exact h2 k hk
    ·exact hj
  ·refine⟨_,c',[some (sd (mv p j)),some (.ref m),some d],c',rfl,?_,j,some d,by omega,h2,fun z=>absurd z hj,rfl,rfl⟩
   erw[Jz h,decide_eq_false hj]) ⟨0,none,Nat.le_refl _,fun _ hk=>by omega,fun _=>rfl,by rw[xS],rfl⟩
 obtain⟨σ',c',e,j,x,h1,h2,h3,rfl,rfl⟩:=Fc
 rw[show(dI 0 (l.length+1)).length=l.length+1 by simp[dI],Nat.zero_add]at h1 h3
 refine⟨mv p j,?_,MD hp (by omega),fun hj=>?_⟩
 ·have e0:dO (cx (af (e2 bA (eB cy (af (eV 1) ao)) (eC (.int 1))) ao)) (aL 2) (cX (tV (e2 BE (eV 0) (eV 1)))
   (aI 0 (ax aN [] (af (e2 bA (e2 aA (eV 0) (eC (.int 0))) (e2 aA (eV 0) (eC (.int 2)))) (af (e2 aA (eV 0) (eC (.int 1))) (af (e2 aA (eV 0) (eC (.int 2))) ao)))))
   bP) [some (sd p),some (.ref m),none] c'=some (.nx,[some (sd (mv p j)),some (.ref m),x],c'):=by
   unfold dO
   rw[hr,Option.bind_some]
   exact e
  erw[cG,fB,e0]
 ·have:=h3 hj
  obtain⟨i,hi,hn⟩:=My.away l (mv p) (fun i k=>HY hp.low)
  exact hn (h2 i (by omega))
theorem aV{c c':Cells}{i:Nat}{z:Cell}(h:c <+:c')(e:c[i]? =some z):c'[i]? =some z:=by
 obtain⟨t,rfl⟩:=h
 rw[List.getElem?_append_left (List.getElem?_eq_some_iff.mp e).1];exact e
theorem rJ{ks:List (Nat×Cell)}{tt:XT}{te:XE}{ρ:Qm.Env}{c:Cells}(hs:stays ks c)(b:D→Bool)(v:D→D):∀(ds:List D),
  (∀d∈ds,∀c',c <+:c'→tt (some d::ρ) c'=some (b d,c'))→
  (∀d∈ds,b d=true→∀c',c <+:c'→∃zs,te (some d::ρ) c'=some (v d,c'++zs))→
  ∀(acc:List D) (zs:List Cell) (x:Option D),acc.length+ds.length≤10000→∃lh,cW c.length ks (aL 0) tt te ds (x::ρ) (c++.lst acc::zs)=some (c++.lst (acc++(ds.filter b).map v)::lh)
 |[],_,_,acc,zs,x,_=>by
  refine⟨zs,?_⟩
  have st:stays ks (c++.lst acc::zs):=fun p hp=>aV ⟨_,rfl⟩ (hs p hp)
  unfold cW
  rw[if_pos st]
  simp
 |d::ds,ht,hv,acc,zs,x,hn=>by
  have st:stays ks (c++.lst acc::zs):=fun p hp=>aV ⟨_,rfl⟩ (hs p hp)
  have e1:=ht d List.mem_cons_self (c++.lst acc::zs) ⟨_,rfl⟩
  have Fe:=fun d' hd=>ht d' (List.mem_cons_of_mem d hd)
  have Ff:=fun d' hd=>hv d' (List.mem_cons_of_mem d hd)
  rw[List.length_cons]at hn
  unfold cW
  rw[if_pos st]
  by_cases hb:b d=true
  ·obtain⟨ws,e2⟩:=hv d List.mem_cons_self hb (c++.lst acc::zs) ⟨_,rfl⟩
   have e3:(c++.lst acc::zs++ws)[c.length]? =some (.lst acc):=by simp
   have e4:(c++.lst acc::zs++ws).set c.length (.lst (acc++[v d]))=c++.lst (acc++[v d])::(zs++ws):=by simp
   obtain⟨lh,e5⟩:=rJ hs b v ds Fe Ff (acc++[v d]) (zs++ws) (some d) (by simp only[List.length_append,List.length_cons,List.length_nil];omega)
   refine⟨lh,?_⟩
   simp only[kU,List.set_cons_zero,Option.bind_some,e1,hb,if_true,e2,e3,e4]
   rw[if_pos (Nat.lt_of_lt_of_le (show acc.length<10000 by omega) (dD (Nat.le_refl _))),e5,List.filter_cons_of_pos hb]
   simp
  ·obtain⟨lh,e5⟩:=rJ hs b v ds Fe Ff acc zs (some d) (by omega)
   refine⟨lh,?_⟩
   have EO:b d=false:=by simpa using hb
   simp only[kU,List.set_cons_zero,Option.bind_some,e1,EO,Bool.false_eq_true,if_false]
   rw[e5,List.filter_cons_of_neg hb]
theorem ME{it:XI}{cap:List (Option Nat)}{tt:XT}{te:XE}{σ ρ:Qm.Env}{x:Option D}{c:Cells}{ds:List D}{ks:List (Nat×Cell)}(b:D→Bool)(v:D→D)(hi:it σ c=some (⟨ds,ks⟩,c))(hc:jS σ cap=x::ρ)(hs:stays ks c)
  (ht:∀d∈ds,∀c',c <+:c'→tt (some d::ρ) c'=some (b d,c'))(hv:∀d∈ds,b d=true→∀c',c <+:c'→∃zs,te (some d::ρ) c'=some (v d,c'++zs))(hn:ds.length≤1000):
  ∃zs,cR it cap (aL 0) tt te σ c=some (.ref c.length,c++.lst ((ds.filter b).map v)::zs):=by
 obtain⟨zs,e⟩:=rJ hs b v ds ht hv [] [] x (by simp;omega)
 refine⟨zs,?_⟩
 unfold cR
 rw[hi,Option.bind_some]
 dsimp only
 rw[hc,e]
 rfl
theorem Va{n:Nat}{i:Int}{j:Nat}(h:(0≤i∧i=j∧j<n)∨(i<0∧i+n=j)):pC n i=some j:=by
 unfold pC
 rcases h with⟨h1,h2,h3⟩|⟨h1,h2⟩
 ·rw[if_pos h1,if_pos (by omega)];congr 1;omega
 ·rw[if_neg (by omega),if_pos (by omega)];congr 1;omega
theorem i4{m:Nat}{l:List T3}{c:Cells}{i:Int}{j:Nat}{p:T3}(h:c[m]? =some (.lst (l.map sd)))(hi:(0≤i∧i=j∧j<l.length)∨(i<0∧i+l.length=j))(hp:l[j]? =some p):aA (.ref m) (.int i) c=some (sd p,c):=by
 rw[gR,bF h,Option.bind_some]
 unfold fZ
 rw[List.length_map,Va hi,Option.bind_some,List.getElem?_map,hp]
 rfl
theorem Cq{m:Nat}{c:Cells}{lo hi:Option Int}:lA (.ref m) lo hi c=(bM (.ref m) c).bind fun xs=>some (.ref c.length,c++[.lst (Qm.cutD xs lo hi)]):=rfl
theorem Cr{m:Nat}{l:List T3}{p:T3}{c:Cells}(h:c[m]? =some (.lst (l.map sd)))(hn:l.length≤1000):cH (.ref m) [sd p] c=some (.bb,c.set m (.lst ((l++[p]).map sd))):=by
 have e:cH (.ref m) [sd p] c=(br (.ref m) c).bind fun l=>if l.2.length<cD then some (.bb,c.set l.1 (.lst (l.2++[sd p])))else none:=rfl
 rw[e,bS h,Option.bind_some]
 dsimp only
 rw[List.length_map,if_pos (Nat.lt_of_lt_of_le (show l.length<10000 by omega) (dD (Nat.le_refl _))),List.map_append]
 rfl
theorem Kp.own{n m:Nat}{c c':Cells}{z:Cell}(k:Kp n c c')(h:c.length≤m):Kp n c (c'.set m z):=⟨by rw[List.length_set];exact k.len,fun i hi hn=>by rw[List.getElem?_set,if_neg (by omega)];exact k.at_ i hi hn⟩
theorem cS.own{n m:Nat}{c:Cells}{z:Cell}(h:cS n c)(hm:m≠n):cS n (c.set m z):=by
 obtain⟨a,b,h,r⟩:=h
 exact⟨a,b,by rw[List.getElem?_set,if_neg hm];exact h,r⟩
theorem MF{it:XI}{cap:List (Option Nat)}{te:XE}{σ ρ:Qm.Env}{x:Option D}{c:Cells}{ds:List D}{ks:List (Nat×Cell)}(v:D→D)(hi:it σ c=some (⟨ds,ks⟩,c))(hc:jS σ cap=x::ρ)(hs:stays ks c)
  (hv:∀d∈ds,∀c',c <+:c'→∃zs,te (some d::ρ) c'=some (v d,c'++zs))(hn:ds.length≤1000):
  ∃c',cR it cap (aL 0) eL te σ c=some (.ref c.length,c')∧c <+:c'∧c'[c.length]? =some (.lst (ds.map v)):=by
 obtain⟨zs,e⟩:=ME (tt:=eL) (fun _=>true) v hi hc hs (fun _ _ _ _=>rfl) (fun d hd _=>hv d hd) hn
 rw[List.filter_eq_self.mpr (fun _ _=>rfl)]at e
 exact⟨_,e,⟨_,rfl⟩,by simp⟩
theorem rK{a:XE}{σ:Qm.Env}{c:Cells}{m:Nat}{xs:List D}(ha:a σ c=some (.ref m,c))(h:c[m]? =some (.lst xs)):fX a σ c=some (⟨xs,[(m,.lst xs)]⟩,c):=by
 unfold fX
 rw[ha,Option.bind_some]
 dsimp only
 rw[h,Option.bind_some,bF h,Option.bind_some]
def side(p q:T3):D:=.tup [sd p,sd q]
theorem xU(r:T3)(c:Cells):aA (sd r) (.int 0) c=some (.int r.1,c):=rfl
theorem xV(r:T3)(c:Cells):aA (sd r) (.int 1) c=some (.int r.2.1,c):=rfl
theorem lj(r:T3)(c:Cells):aA (sd r) (.int 2) c=some (.int r.2.2,c):=rfl
theorem rL(a b:T3)(c:Cells):aA (side a b) (.int 0) c=some (sd a,c):=rfl
theorem rM(a b:T3)(c:Cells):aA (side a b) (.int 1) c=some (sd b,c):=rfl
theorem MG{n:Int}{c:Cells}:gf [.int n] c=some (.int (My.sgn n),c):=by
 unfold My.sgn
 by_cases h: 0<n
 ·rw[if_pos h];erw[gf,kW,decide_eq_true h]
 ·rw[if_neg h]
  by_cases h2:n<0
  ·rw[if_pos h2];erw[gf,kW,decide_eq_false h,decide_eq_true h2]
  ·rw[if_neg h2];erw[gf,kW,decide_eq_false h,decide_eq_false h2]
def dt(a b p:T3):Int:=My.det a.1 a.2.1 a.2.2 b.1 b.2.1 b.2.2 p.1 p.2.1 p.2.2
theorem Cs{p q:T3}{c:Cells}(hp:Ok 1000 p)(hq:Ok 1000 q):d_ [sd p,sd q] c=some (sd (p.2.1*q.2.2 - p.2.2*q.2.1,p.2.2*q.1 - p.1*q.2.2,p.1*q.2.1 - p.2.1*q.1),c):=by
 have a1:=hp.bx;have a2:=hp.dG;have a3:=hp.bw;have b1:=hq.bx;have b2:=hq.dG;have b3:=hq.bw
 erw[d_,jo,xU,xV,lj]
 rfl
theorem MH{a b p:T3}{c:Cells}(ha:Ok 1000 a)(hb:Ok 1000 b)(hp:Ok 1000 p):jq [sd a,sd b,sd p] c=some (.int (My.sgn (dt a b p)),c):=by
 have a1:=ha.bx;have a2:=ha.dG;have a3:=ha.bw;have b1:=hb.bx;have b2:=hb.dG;have b3:=hb.bw;have p1:=hp.bx;have p2:=hp.dG;have p3:=hp.bw
 have e:=Cs (c:=c) ha hb
 have k0:My.Bd 90000 (a.2.1*b.2.2 - a.2.2*b.2.1):=(My.Bd.sub (a2.mul b3) (a3.mul b2)).mono (by decide)
 have k1:My.Bd 90000 (a.2.2*b.1 - a.1*b.2.2):=(My.Bd.sub (a3.mul b1) (a1.mul b3)).mono (by decide)
 have k2:My.Bd 90000 (a.1*b.2.1 - a.2.1*b.1):=(My.Bd.sub (a1.mul b2) (a2.mul b1)).mono (by decide)
 have q1:=p1.mono (k:=90000) (by decide);have q2:=p2.mono (k:=90000) (by decide);have q3:=p3.mono (k:=90000) (by decide)
 have s:=MG (n:=dt a b p) (c:=c)
 unfold dt My.det at s ⊢
 erw[jq,pU,e,xU,xV,lj,aG (tU k0 q1),aG (tU k1 q2),aG (tU k2 q3),s]
theorem Ct{a b:T3}{c:Cells}(ha:Ok 1000 a)(hb:Ok 1000 b):dF [side a b] c=some (if My.cI a b=true then side a b else side b a,c):=by
 have e:=ip (c:=c) ha hb
 cases h:My.cI a b
 ·rw[h]at e
  erw[dF,gS,rL,rM,e]
  rfl
 ·rw[h]at e
  erw[dF,gS,rL,rM,e]
def eZ(p a b:T3):Bool:=My.nV p.1 p.2.1 p.2.2 a.1 a.2.1 a.2.2 b.1 b.2.1 b.2.2
theorem oD{p a b:T3}{c:Cells}(hp:Ok 1000 p)(ha:Ok 1000 a)(hb:Ok 1000 b):bp [sd p,side a b] c=some (.bl (eZ p a b),c):=by
 have e:=MH (c:=c) ha hb hp
 have f:=Ct (c:=c) ha hb
 unfold eZ My.nV
 by_cases h:dt a b p=0
 ·have hs:My.sgn (dt a b p)=0:=by rw[h];rfl
  unfold dt at h
  rw[if_pos h]
  rw[hs]at e
  by_cases HZ:My.cI a b=true
  ·rw[if_pos HZ]at f
   have zS:My.jc a.1 a.2.1 a.2.2 b.1 b.2.1 b.2.2=true:=HZ
   rw[if_pos zS]
   have g1:=ip (c:=c) hp ha
   have g2:=ip (c:=c) hb hp
   change _=some (D.bl (!My.cI p a&&!My.cI b p),c)
   cases h1:My.cI p a<;>cases h2:My.cI b p<;>rw[h1]at g1<;>rw[h2]at g2<;>erw[bp,fy,rL,rM,e,f,g1,g2]<;>rfl
  ·rw[if_neg HZ]at f
   have zS:¬My.jc a.1 a.2.1 a.2.2 b.1 b.2.1 b.2.2=true:=HZ
   rw[if_neg zS]
   have g1:=ip (c:=c) hp hb
   have g2:=ip (c:=c) ha hp
   change _=some (D.bl (!My.cI p b&&!My.cI a p),c)
   cases h1:My.cI p b<;>cases h2:My.cI a p<;>rw[h1]at g1<;>rw[h2]at g2<;>erw[bp,fy,rL,rM,e,f,g1,g2]<;>rfl
 ·have hs:¬My.sgn (dt a b p)=0:=fun g=>h (My.Bz g)
  unfold dt at h
  rw[if_neg h]
  erw[bp,fy,rL,rM,e,decide_eq_false hs]
theorem vh{i:Nat}{c:Cells}{z:Cell}(h:c[i]? =some z):i<c.length:=(List.getElem?_eq_some_iff.mp h).1
theorem bY{i:Nat}{c zs:Cells}{z:Cell}(h:c[i]? =some z):(c++zs)[i]? =some z:=by rw[List.getElem?_append_left (vh h)];exact h
theorem xW{c c':Cells}(h:c <+:c'):c.length≤c'.length:=h.length_le
theorem Fg{c c':Cells}{n:Nat}{z:Cell}(h:c <+:c')(hn:c.length≤n):c <+:c'.set n z:=by
 obtain⟨zs,rfl⟩:=h
 refine⟨zs.set (n - c.length) z,?_⟩
 rw[List.set_append_right _ _ hn]
theorem pre_app{c c' zs:Cells}(h:c <+:c'):c <+:c'++zs:=h.trans ⟨zs,rfl⟩
theorem vi{c:Cells}{n i:Nat}{z y:Cell}(h:c[i]? =some y)(hn:i≠n):(c.set n z)[i]? =some y:=by rw[List.getElem?_set,if_neg (Ne.symm hn)];exact h
theorem H_{c:Cells}{n:Nat}{z:Cell}(h:n<c.length):(c.set n z)[n]? =some z:=by rw[List.getElem?_set,if_pos rfl,if_pos h]
theorem rN{it:XI}{g:XG}{b:XS}{σ:Qm.Env}{c c1:Cells}{I:Itm}(h:it σ c=some (I,c1)):dO it g b σ c=gD I.ks g b I.ds σ c1:=by
 unfold dO
 rw[h]
 rfl
def Fr(L:Nat)(c c':Cells):Prop:=∀j z,j≠L→c[j]? =some z→c'[j]? =some z
theorem Fr.app{L:Nat}{c zs:Cells}:Fr L c (c++zs):=fun _ _ _ e=>bY e
theorem Fr.set{L:Nat}{c:Cells}{z:Cell}:Fr L c (c.set L z):=fun _ _ h e=>vi e h
theorem tY{ks:List (Nat×Cell)}{g:XG}{te:XE}{E:Qm.Env→Prop}{Rel:Nat→D→Cells→Prop}{I:Nat→Cells→Prop}{c:Cells}(hs:stays ks c)(hI:∀i u z,I i u→I i (u.set c.length z))(hR:∀i v c1 c2,Rel i v c1→Fr c.length c1 c2→Rel i v c2):∀(ds acc:List D) (zs:List Cell) (τ:Qm.Env) (k:Nat),k=acc.length→E τ→I k (c++.lst acc::zs)→
  (∀(i:Nat) d,ds[i]? =some d→∀τ c',E τ→c <+:c'→c.length<c'.length→I (k+i) c'→∃iP v ws,g d τ c'=some (iP,c')∧te iP c'=some (v,c'++ws)∧E iP∧Rel (k+i) v (c'++ws)∧I (k+i+1) (c'++ws))→acc.length+ds.length≤9000000→(∀i v,acc[i]? =some v→Rel i v (c++.lst acc::zs))→
  ∃vs lh,cW c.length ks g eL te ds τ (c++.lst acc::zs)=some (c++.lst (acc++vs)::lh)∧vs.length=ds.length∧∀i v,(acc++vs)[i]? =some v→Rel i v (c++.lst (acc++vs)::lh)
 |[],acc,zs,τ,k,_,_,_,_,_,ha=>by
  have st:stays ks (c++.lst acc::zs):=fun p hp=>aV ⟨_,rfl⟩ (hs p hp)
  refine⟨[],zs,?_,rfl,by simpa using ha⟩
  unfold cW
  rw[if_pos st]
  simp
 |d::ds,acc,zs,τ,k,hk,hE,Vb,hv,hn,ha=>by
  have st:stays ks (c++.lst acc::zs):=fun p hp=>aV ⟨_,rfl⟩ (hs p hp)
  rw[List.length_cons]at hn
  obtain⟨iP,v,ws,f1,f2,Vc,hr,A7⟩:=hv 0 d rfl τ (c++.lst acc::zs) hE ⟨_,rfl⟩ (by simp) (by simpa using Vb)
  have f3:(c++.lst acc::zs++ws)[c.length]? =some (.lst acc):=by simp
  have f4:(c++.lst acc::zs++ws).set c.length (.lst (acc++[v]))=c++.lst (acc++[v])::(zs++ws):=by simp
  have fr:Fr c.length (c++.lst acc::zs++ws) (c++.lst (acc++[v])::(zs++ws)):=by rw[←f4];exact Fr.set
  obtain⟨vs,lh,f5,f6,f7⟩:=tY hs hI hR ds (acc++[v]) (zs++ws) iP (k+1) (by simp[hk]) Vc (by rw[←f4];exact hI _ _ _ (by simpa using A7)) (fun i d' h1=>by
   have:=hv (i+1) d' (by simpa using h1)
   rwa[show k+(i+1)=k+1+i by omega]at this) (by simp only[List.length_append,List.length_cons,List.length_nil];omega) (fun i u hu=>by
   rcases Nat.lt_or_ge i acc.length with hi|hi
   ·rw[List.getElem?_append_left hi]at hu
    exact hR _ _ _ _ (hR _ _ _ _ (ha i u hu) Fr.app) fr
   ·have:i=acc.length:=by
     have:=(List.getElem?_eq_some_iff.mp hu).1
     simp at this
     omega
    subst this
    rw[List.getElem?_append_right (Nat.le_refl _),Nat.sub_self]at hu
    cases hu
    rw[←hk]
    exact hR _ _ _ _ (by simpa using hr) fr)
  refine⟨v::vs,lh,?_,by simp[f6],by simpa using f7⟩
  unfold cW
  rw[if_pos st]
  have f0:eL iP (c++.lst acc::zs)=some (true,c++.lst acc::zs):=rfl
  simp only[f1,Option.bind_some,f0,if_true,f2,f3,f4]
  rw[if_pos (show acc.length<cD by rw[eO];omega),f5]
  simp
theorem MI{it:XI}{cap:List (Option Nat)}{g:XG}{te:XE}{σ:Qm.Env}{c0 c:Cells}{ds:List D}{ks:List (Nat×Cell)}(E:Qm.Env→Prop)(Rel:Nat→D→Cells→Prop)(I:Nat→Cells→Prop)(hI:∀i u z,I i u→I i (u.set c.length z))(Vd:I 0 (c++[.lst []]))(hi:it σ c0=some (⟨ds,ks⟩,c))(hs:stays ks c)(hE:E (jS σ cap))(hR:∀i v c1 c2,Rel i v c1→Fr c.length c1 c2→Rel i v c2)
  (hv:∀(i:Nat) d,ds[i]? =some d→∀τ c',E τ→c <+:c'→c.length<c'.length→I i c'→∃iP v ws,g d τ c'=some (iP,c')∧te iP c'=some (v,c'++ws)∧E iP∧Rel i v (c'++ws)∧I (i+1) (c'++ws))(hn:ds.length≤9000000):
  ∃vs c',cR it cap g eL te σ c0=some (.ref c.length,c')∧c <+:c'∧c'[c.length]? =some (.lst vs)∧vs.length=ds.length∧∀i v,vs[i]? =some v→Rel i v c':=by
 obtain⟨vs,zs,e,e2,e3⟩:=tY (te:=te) (g:=g) (E:=E) (Rel:=Rel) (I:=I) (ks:=ks) (c:=c) hs hI hR ds [] [] (jS σ cap) 0 rfl hE Vd (fun i d h=>by rw[Nat.zero_add];exact hv i d h) (by simp;omega) (fun i v h=>by cases h)
 refine⟨vs,c++.lst vs::zs,?_,⟨_,rfl⟩,by simp,e2,by simpa using e3⟩
 unfold cR
 rw[hi,Option.bind_some]
 dsimp only
 rw[show c++[Cell.lst []]=c++.lst []::[] from rfl,e]
 rfl
theorem Fh{it:XI}{cap:List (Option Nat)}{g:XG}{te:XE}{σ:Qm.Env}{c0 c:Cells}{ds:List D}{ks:List (Nat×Cell)}(E:Qm.Env→Prop)(Rel:Nat→D→Cells→Prop)(hi:it σ c0=some (⟨ds,ks⟩,c))(hs:stays ks c)(hE:E (jS σ cap))(hR:∀i v c1 c2,Rel i v c1→Fr c.length c1 c2→Rel i v c2)
  (hv:∀(i:Nat) d,ds[i]? =some d→∀τ c',E τ→c <+:c'→c.length<c'.length→∃iP v ws,g d τ c'=some (iP,c')∧te iP c'=some (v,c'++ws)∧E iP∧Rel i v (c'++ws))(hn:ds.length≤9000000):
  ∃vs c',cR it cap g eL te σ c0=some (.ref c.length,c')∧c <+:c'∧c'[c.length]? =some (.lst vs)∧vs.length=ds.length∧∀i v,vs[i]? =some v→Rel i v c':=
 MI E Rel (fun _ _=>True) (fun _ _ _ _=>trivial) trivial hi hs hE hR (fun i d h τ c' h1 h2 h3 _=>let ⟨a,b,d,e,f,g,h⟩:=hv i d h τ c' h1 h2 h3;⟨a,b,d,e,f,g,h,trivial⟩) hn
section
variable{α:Type}(lt:α→α→Bool)
def g_:List α→List α→List α
 |l,[]=>l
 |l,y::r=>l.takeWhile (fun x=>!lt y x)++y::g_ (l.dropWhile fun x=>!lt y x) r
def iB:List α→Prop
 |x::y::l=>lt y x=false∧iB (y::l)
 |_=>True
variable{lt}
theorem oE:∀(r l:List α),(g_ lt l r).Perm (l++r)
 |[],l=>by simp[g_]
 |y::r,l=>by
  have h:=oE r (l.dropWhile fun x=>!lt y x)
  have e:l++y::r=l.takeWhile (fun x=>!lt y x)++(l.dropWhile (fun x=>!lt y x)++y::r):=by rw[←List.append_assoc,List.takeWhile_append_dropWhile]
  rw[e]
  refine List.Perm.append_left _ ?_
  exact(List.Perm.cons y h).trans List.perm_middle.symm
theorem oF{x:α}{l:List α}(h:iB lt (x::l)):iB lt l:=by
 cases l with
 |nil=>trivial
 |cons y l=>exact h.2
theorem oG{x:α}{l:List α}(h:iB lt l)(h2:∀y,l.head?=some y→lt y x=false):iB lt (x::l):=by
 cases l with
 |nil=>trivial
 |cons y l=>exact⟨h2 y rfl,h⟩
theorem xX:∀{l m:List α},iB lt l→iB lt m→(∀x y,l.getLast?=some x→m.head?=some y→lt y x=false)→iB lt (l++m)
 |[],m,_,h,_=>h
 |[x],m,_,h,h2=>oG h fun y hy=>h2 x y rfl hy
 |x::z::l,m,h,hm,h2=>⟨h.1,xX (l:=z::l) h.2 hm fun a b ha hb=>h2 a b (by simpa using ha) hb⟩
theorem tZ{p:α→Bool}:∀{l:List α},iB lt l→iB lt (l.takeWhile p)
 |[],_=>trivial
 |x::l,h=>by
  rw[List.takeWhile_cons]
  split
  ·refine oG (tZ (oF h)) fun y hy=>?_
   cases l with
   |nil=>cases hy
   |cons z l=>
    rw[List.takeWhile_cons]at hy
    split at hy
    ·cases hy;exact h.1
    ·cases hy
  ·trivial
theorem t4{p:α→Bool}:∀{l:List α},iB lt l→iB lt (l.dropWhile p)
 |[],_=>trivial
 |x::l,h=>by
  rw[List.dropWhile_cons]
  split
  ·exact t4 (oF h)
  ·exact h
theorem Cu:∀(r l:List α) {y:α},(g_ lt l r).head?=some y→l.head?=some y∨r.head?=some y
 |[],l,y,h=>.inl h
 |z::r,l,y,h=>by
  unfold g_ at h
  cases l with
  |nil=>exact .inr h
  |cons x l=>
   rw[List.takeWhile_cons]at h
   split at h
   ·exact .inl h
   ·exact .inr h
theorem t6{p:α→Bool}:∀{l:List α}{x:α},x∈l.takeWhile p→p x=true
 |[],x,h=>by cases h
 |z::l,x,h=>by
  rw[List.takeWhile_cons]at h
  split at h
  ·rename_i hz
   rcases List.mem_cons.mp h with rfl|h
   ·exact hz
   ·exact t6 h
  ·cases h
theorem zT{p:α→Bool}{l:List α}{x:α}(h:(l.takeWhile p).getLast?=some x):p x=true:=t6 (List.mem_of_getLast? h)
theorem rO{p:α→Bool}:∀{l:List α}{x:α},(l.dropWhile p).head?=some x→p x=false
 |[],x,h=>by cases h
 |z::l,x,h=>by
  rw[List.dropWhile_cons]at h
  split at h
  ·exact rO h
  ·rename_i hz
   cases h
   simpa using hz
theorem xY(Cv:∀x y,lt x y=true→lt y x=false):∀(r l:List α),iB lt l→iB lt r→iB lt (g_ lt l r)
 |[],l,h,_=>h
 |y::r,l,h,hr=>by
  unfold g_
  refine xX (tZ h) (oG (xY Cv r _ (t4 h) (oF hr)) fun z hz=>?_) fun a b ha hb=>?_
  ·rcases Cu r _ hz with hz|hz
   ·have:=rO hz
    exact Cv y z (by simpa using this)
   ·cases r with
    |nil=>cases hz
    |cons z' r=>cases hz;exact hr.1
  ·cases hb
   have:=zT ha
   simpa using this
end
section
variable{α:Type}{e:α→D}{lt:α→α→Bool}{L0:bD}{bB:Nat}{fv:D}
structure Look(L0:bD)(bB:Nat)(fv:D)(e:α→D)(lt:α→α→Bool)(ok:α→Prop):Prop where
 at_:∀(x y:α) (c:Cells) (f:XE) (a:XA) (σ:Qm.Env),f σ c=some (fv,c)→a σ c=some ([e x,e y],c)→ok x→ok y→jj [(bB,bE)] [(L0,jr)] f a σ c=some (.bl (lt x y),c)
theorem AZ{e:α→D}{l:List α}{k:Nat}{x:α}(h:l[k]? =some x):fZ (l.map e) (k:Int)=some (e x):=xN (by rw[List.getElem?_map,h];rfl)
theorem kj{e:α→D}{a:Nat}{l:List α}{c:Cells}(h:c[a]? =some (.lst (l.map e))):cy [.ref a] c=some (.int l.length,c):=by
 rw[oC,bF h]
 simp
theorem Fi{e:α→D}{a:Nat}{l:List α}{x:α}{c:Cells}(h:c[a]? =some (.lst (l.map e)))(hn:l.length<9000000):cH (.ref a) [e x] c=some (.bb,c.set a (.lst ((l++[x]).map e))):=by
 unfold cH one
 simp only[bS h,Option.bind_some,List.length_map]
 rw[if_pos (show l.length<cD by rw[eO];omega)]
 simp
theorem t7{c:Cells}{z y:Cell}:(c++[z]).set c.length y=c++[y]:=by simp
theorem bU{c:Cells}{z:Cell}:(c++[z])[c.length]? =some z:=by simp
noncomputable abbrev wT(L0:bD)(bB:Nat):XT:=oR (tV (e2 sG (eV 4) (eB cy (af (eV 0) ao)))) (jD (tV (jj [(bB,bE)] [(L0,jr)] (eV 2) (af (eV 5) (af (e2 aA (eV 0) (eV 4)) ao)))))
noncomputable abbrev wB:XS:=aB (gC (eM cH (eV 3) (af (e2 aA (eV 0) (eV 4)) ao))) (aI 4 (e2 bA (eV 4) (eC (.int 1))))
theorem Ia{ok:α→Prop}(Lk:Look L0 bB fv e lt ok){l:List α}{y:α}{a:Nat}{c:Cells}{w1:Option D}(aR:∀x∈l,ok x)(hy:ok y)(ha:c[a]? =some (.lst (l.map e)))(hl:l.length≤1000000):∀(n k:Nat) (row:List α),l.length - k=n→k≤l.length→row.length≤2000000+k→
  cV (wT L0 bB) wB [some (.ref a),w1,some fv,some (.ref c.length),some (.int k),some (e y)] (c++[.lst (row.map e)])=some (.nx,[some (.ref a),w1,some fv,some (.ref c.length),some (.int (k+((l.drop k).takeWhile fun x=>!lt y x).length:Nat)),some (e y)],c++[.lst ((row++(l.drop k).takeWhile fun x=>!lt y x).map e)]):=by
 have zS:∀row:List α,(c++[.lst (row.map e)])[a]? =some (.lst (l.map e)):=fun row=>bY ha
 intro n
 induction n with
 |zero=>
  intro k row hk hle hr
  have B6:k=l.length:=by omega
  have b1:=kj (zS row)
  have d0:l.drop k=[]:=List.drop_eq_nil_of_le (by omega)
  rw[d0]
  simp only[List.takeWhile_nil,List.length_nil,Nat.add_zero,List.append_nil]
  refine f_ ?_
  have da:decide ((k:Int)<(l.length:Int))=false:=decide_eq_false (by omega)
  erw[b1,da]
 |succ n ih=>
  intro k row hk hle hr
  have B6:k<l.length:=by omega
  have b1:=kj (zS row)
  have da:decide ((k:Int)<(l.length:Int))=true:=decide_eq_true (by omega)
  obtain⟨x,hx⟩:∃x,l[k]? =some x:=⟨_,List.getElem?_eq_getElem B6⟩
  have Ve:x∈l:=List.mem_of_getElem? hx
  have d0:l.drop k=x::l.drop (k+1):=by
   rw[List.drop_eq_getElem_cons B6]
   rw[List.getElem?_eq_getElem B6]at hx
   rw[Option.some.inj hx]
  have s1:=bF (zS row)
  have a1:=AZ (e:=e) hx
  have Ib:wT L0 bB [some (.ref a),w1,some fv,some (.ref c.length),some (.int k),some (e y)] (c++[.lst (row.map e)])=some (!lt y x,c++[.lst (row.map e)]):=by
   have cv:jj [(bB,bE)] [(L0,jr)] (eV 2) (af (eV 5) (af (e2 aA (eV 0) (eV 4)) ao)) [some (.ref a),w1,some fv,some (.ref c.length),some (.int k),some (e y)] (c++[.lst (row.map e)])=some (.bl (lt y x),c++[.lst (row.map e)]):=by
    refine Lk.at_ y x _ _ _ _ (by erw[]) (by erw[gR,s1,a1]) hy (aR x Ve)
   erw[b1,da,cv]
  cases ue:lt y x with
  |true=>
   rw[ue]at Ib
   rw[d0,List.takeWhile_cons]
   simp only[ue,Bool.not_true,Bool.false_eq_true,if_false,List.length_nil,Nat.add_zero,List.append_nil]
   exact f_ Ib
  |false=>
   rw[ue]at Ib
   rw[d0,List.takeWhile_cons]
   simp only[ue,Bool.not_false,if_true,List.length_cons]
   have ap:=Fi (e:=e) (x:=x) (bU (c:=c) (z:=.lst (row.map e))) (by omega)
   rw[t7]at ap
   have bd:wB [some (.ref a),w1,some fv,some (.ref c.length),some (.int k),some (e y)] (c++[.lst (row.map e)])=some (.nx,[some (.ref a),w1,some fv,some (.ref c.length),some (.int ((k+1:Nat):Int)),some (e y)],c++[.lst ((row++[x]).map e)]):=by
    have s2:=bS (bU (c:=c) (z:=.lst (row.map e)))
    erw[gR,s1,a1,s2,ap]
    rfl
   have r:=ih (k+1) (row++[x]) (by omega) (by omega) (by simp;omega)
   rw[show k+1+((l.drop (k+1)).takeWhile fun x=>!lt y x).length=k+(((l.drop (k+1)).takeWhile fun x=>!lt y x).length+1)by omega,List.append_assoc]at r
   exact lU Ib bd r
theorem Ic{e:α→D}{l:List α}{k:Nat}(h:k≤l.length):Qm.cutD (l.map e) (some (k:Int)) none=(l.drop k).map e:=by
 have h1:Qm.ze (l.map e).length 0 (some (k:Int))=k:=by
  show(if (k:Int)<0 then((k:Int)+(l.map e).length).toNat else min (k:Int).toNat (l.map e).length)=k
  rw[if_neg (by omega),List.length_map,Int.toNat_natCast]
  omega
 have h2:Qm.ze (l.map e).length (l.map e).length none=l.length:=by simp[Qm.ze]
 unfold Qm.cutD
 rw[h1,h2,List.take_of_length_le (by simp)]
 simp
theorem Fj{ok:α→Prop}(Lk:Look L0 bB fv e lt ok){l r:List α}{a b:Nat}{c:Cells}(hl:∀x∈l,ok x)(hr:∀x∈r,ok x)(ha:c[a]? =some (.lst (l.map e)))(hb:c[b]? =some (.lst (r.map e)))(nl:l.length≤1000000)(nr:r.length≤1000000):
  ∃ws,eu L0 bB [.ref a,.ref b,fv] c=some (.ref c.length,c++.lst ((g_ lt l r).map e)::ws):=by
 have lk:∀z,(c++[z])[b]? =some (.lst (r.map e)):=fun z=>bY hb
 have it:fX (eV 1) [some (.ref a),some (.ref b),some fv,some (.ref c.length),some (.int 0),none] (c++[.lst []])=some (⟨r.map e,[(b,.lst (r.map e))]⟩,c++[.lst []]):=rK rfl (lk _)
 obtain⟨σ',c',e1,row,k,z,rfl,rfl,h1,h2,h3⟩:=de (ks:=[(b,.lst (r.map e))]) (g:=aL 5) (body:=aB (cV (wT L0 bB) wB) (gC (eM cH (eV 3) (af (eV 5) ao))))
  (fun i σ c'=>∃row k z,σ=[some (.ref a),some (.ref b),some fv,some (.ref c.length),some (.int ((k:Nat):Int)),z]∧c'=c++[.lst (row.map e)]∧g_ lt l r=row++g_ lt (l.drop k) (r.drop i)∧k≤l.length∧row.length=k+i)
  (r.map e) 0 [some (.ref a),some (.ref b),some fv,some (.ref c.length),some (.int 0),none] (c++[.lst []])
  (by
   rintro i σ c' ⟨row,k,z,Fm,eE,_⟩ p hp
   subst eE
   cases List.mem_singleton.mp hp
   exact lk _)
  (by
   rintro i d σ c' hd ⟨row,k,z,Fm,eE,h1,h2,h3⟩
   subst Fm eE
   rw[List.getElem?_map]at hd
   obtain⟨y,hy,rfl⟩:=Option.map_eq_some_iff.mp hd
   have MJ:y∈r:=List.mem_of_getElem? hy
   have rq:i<r.length:=(List.getElem?_eq_some_iff.mp hy).1
   have w:=Ia Lk (y:=y) (w1:=some (.ref b)) hl (hr y MJ) ha nl _ k row rfl h2 (by omega)
   generalize Bn:(l.drop k).takeWhile (fun x=>!lt y x)=tk at w
   have Vf:(l.drop k).dropWhile (fun x=>!lt y x)=l.drop (k+tk.length):=by
    have h:=List.takeWhile_append_dropWhile (p:=fun x=>!lt y x) (l:=l.drop k)
    rw[Bn]at h
    have h4:=congrArg (List.drop tk.length) h
    rw[List.drop_left]at h4
    rw[←List.drop_drop]
    exact h4
   have G9:k+tk.length≤l.length:=by
    have:tk.length≤(l.drop k).length:=by rw[←Bn];exact(List.takeWhile_sublist _).length_le
    rw[List.length_drop]at this
    omega
   have ap:=Fi (e:=e) (x:=y) (bU (c:=c) (z:=.lst ((row++tk).map e))) (by simp;omega)
   rw[t7]at ap
   have s2:=bS (bU (c:=c) (z:=.lst ((row++tk).map e)))
   refine⟨_,_,[some (.ref a),some (.ref b),some fv,some (.ref c.length),some (.int ((k+tk.length:Nat):Int)),some (e y)],c++[.lst ((row++tk++[y]).map e)],rfl,?_,row++tk++[y],k+tk.length,some (e y),rfl,rfl,?_,G9,by simp;omega⟩
   ·erw[w,s2,ap]
   ·rw[h1,show 0+i+1=i+1 from by omega,show 0+i=i from by omega]
    rw[List.drop_eq_getElem_cons rq]
    have:r[i]=y:=by
     rw[List.getElem?_eq_getElem rq]at hy
     exact Option.some.inj hy
    rw[this,g_,Bn,Vf]
    simp)
  ⟨[],0,none,rfl,rfl,rfl,Nat.zero_le _,rfl⟩
 have s0:=bF (bY (zs:=[.lst (row.map e)]) ha)
 have e2:=rN (g:=aL 5) (b:=aB (cV (wT L0 bB) wB) (gC (eM cH (eV 3) (af (eV 5) ao)))) it
 rw[e1]at e2
 have e3:r.drop (0+(r.map e).length)=[]:=List.drop_eq_nil_of_le (by simp)
 rw[e3,g_]at h1
 have s2:br (.ref c.length) (c++[.lst (row.map e)]++[.lst ((l.drop k).map e)])=some (c.length,row.map e):=bS (bY bU)
 have Vg:br (.ref c.length) (c++[.lst (row.map e)])=some (c.length,row.map e):=bS bU
 have s3:br (.ref (c++[Cell.lst (row.map e)]).length) (c++[.lst (row.map e)]++[.lst ((l.drop k).map e)])=some ((c++[Cell.lst (row.map e)]).length,(l.drop k).map e):=bS bU
 have mx:jT (.ref c.length) [.ref (c++[Cell.lst (row.map e)]).length] (c++[.lst (row.map e)]++[.lst ((l.drop k).map e)])=some (.bb,c++.lst ((g_ lt l r).map e)::[.lst ((l.drop k).map e)]):=by
  unfold jT one
  simp only[s2,s3,Option.bind_some,List.length_map]
  rw[if_pos (show row.length+(l.drop k).length≤cD by rw[eO,List.length_drop,h3];simp;omega)]
  rw[h1]
  simp
 refine⟨[.lst ((l.drop k).map e)],?_⟩
 have ct:lA (.ref a) (some (k:Int)) none (c++[.lst (row.map e)])=some (.ref (c++[Cell.lst (row.map e)]).length,c++[.lst (row.map e)]++[.lst ((l.drop k).map e)]):=by
  show((bM (.ref a) (c++[.lst (row.map e)])).bind _)=_
  rw[s0,Option.bind_some,Ic h2]
 rw[eu,er,kX]
 erw[e2,Vg,AY,ct,mx,Nat.zero_le]
end
section
variable{α:Type}{e:α→D}{lt:α→α→Bool}{L0:bD}{bB:Nat}{fv:D}
structure Runs(e:α→D)(c:Cells)(ids:List Nat)(rows:List (List α)):Prop where
 len:ids.length=rows.length
 at_:∀(i n:Nat) l,ids[i]? =some n→rows[i]? =some l→c[n]? =some (.lst (l.map e))
theorem Runs.up{c c':Cells}{ids:List Nat}{rows:List (List α)}(h:Runs e c ids rows)(k:c <+:c'):Runs e c' ids rows:=⟨h.len,fun i n l h1 h2=>aV k (h.at_ i n l h1 h2)⟩
theorem Runs.get{c:Cells}{ids:List Nat}{rows:List (List α)}(h:Runs e c ids rows){i:Nat}{l:List α}(hl:rows[i]? =some l):∃n,ids[i]? =some n∧c[n]? =some (.lst (l.map e)):=by
 have hi:=(List.getElem?_eq_some_iff.mp hl).1
 rw[←h.len]at hi
 exact⟨ids[i],List.getElem?_eq_getElem hi,h.at_ i _ l (List.getElem?_eq_getElem hi) hl⟩
def nI(lt:α→α→Bool):List (List α)→List (List α)
 |a::b::r=>g_ lt a b::nI lt r
 |r=>r
theorem rP:∀(rows:List (List α)),(nI lt rows).length=(rows.length+1) / 2
 |[]=>by simp[nI]
 |[_]=>by simp[nI]
 |a::b::r=>by
  have:=rP r
  simp only[nI,List.length_cons,this]
  omega
theorem vj:∀(rows:List (List α)) (i:Nat) (a b:List α),rows[2*i]? =some a→rows[2*i+1]? =some b→(nI lt rows)[i]? =some (g_ lt a b)
 |[],i,a,b,h,_=>by simp at h
 |[_],i,a,b,h,g=>by simp at g
 |x::y::r,0,a,b,h,g=>by
  simp at h g
  subst h g
  rfl
 |x::y::r,i+1,a,b,h,g=>by
  rw[show 2*(i+1)=2*i+1+1 by omega]at h
  rw[show 2*(i+1)+1=2*i+1+1+1 by omega]at g
  exact vj r i a b (by simpa using h) (by simpa using g)
theorem xZ:∀(rows:List (List α)) (a:List α),rows.length % 2=1→rows[rows.length - 1]? =some a→(nI lt rows)[rows.length / 2]? =some a
 |[],a,h,_=>by simp at h
 |[x],a,_,h=>by simpa[nI]using h
 |x::y::r,a,h,g=>by
  have hr:r.length % 2=1:=by simp at h;omega
  have h1:(x::y::r).length - 1=(r.length - 1)+1+1:=by simp;omega
  have h2:(x::y::r).length / 2=r.length / 2+1:=by simp;omega
  rw[h1]at g
  rw[h2]
  exact xZ r a hr (by simpa using g)
theorem t8:∀(rows:List (List α)),(nI lt rows).flatten.Perm rows.flatten
 |[]=>.refl _
 |[_]=>.refl _
 |a::b::r=>by
  simp only[nI,List.flatten_cons]
  exact((oE b a).append (t8 r)).trans (by rw[List.append_assoc])
theorem rQ{P:List α→Prop}(hP:∀a b,P a→P b→P (g_ lt a b)):∀(rows:List (List α)),(∀l∈rows,P l)→∀l∈nI lt rows,P l
 |[],h=>h
 |[_],h=>h
 |a::b::r,h=>by
  intro l hl
  rcases List.mem_cons.mp hl with rfl|hl
  ·exact hP _ _ (h a (by simp)) (h b (by simp))
  ·exact rQ hP r (fun l hl=>h l (by simp[hl])) l hl
theorem rR{ids:List Nat}{i n:Nat}(h:ids[i]? =some n):fZ (ids.map D.ref) (i:Int)=some (.ref n):=AZ (e:=D.ref) h
theorem Fn{lo:Int}{n i:Nat}{d:D}(h:(jZ lo n)[i]? =some d):i<n∧d= .int (lo+i*2):=by
 unfold jZ at h
 rw[List.getElem?_map]at h
 obtain⟨j,hj,rfl⟩:=Option.map_eq_some_iff.mp h
 obtain⟨h1,h2⟩:=List.getElem?_eq_some_iff.mp hj
 simp at h1 h2
 subst h2
 exact⟨h1,rfl⟩
theorem rS{ok:α→Prop}(Lk:Look L0 bB fv e lt ok){ids:List Nat}{rows:List (List α)}{R:Nat}{c:Cells}(hR:c[R]? =some (.lst (ids.map D.ref)))(hr:Runs e c ids rows)(aR:∀l∈rows,∀x∈l,ok x)(hn:∀l∈rows,l.length≤1000000)(h2: 2≤rows.length)(h3:rows.length≤1000000):
  ∃nJ c',bJ L0 bB [.ref R,fv] c=some (.ref c.length,c')∧c <+:c'∧c'[c.length]? =some (.lst (nJ.map D.ref))∧Runs e c' nJ (nI lt rows)∧∀m∈nJ,m∈ids∨c.length≤m:=by
 have rT:=hr.len
 have bl:cy [.ref R] c=some (.int ids.length,c):=kj (e:=D.ref) hR
 have hi:uP (af (eC (.int 0)) (af (e2 cp (eB cy (af (eV 0) ao)) (eC (.int 1))) (af (eC (.int 2)) ao))) [some (.ref R),some fv,none] c=some (⟨jZ 0 (rows.length / 2),[]⟩,c):=by
  unfold uP
  have ha:af (eC (.int 0)) (af (e2 cp (eB cy (af (eV 0) ao)) (eC (.int 1))) (af (eC (.int 2)) ao)) [some (.ref R),some fv,none] c=some ([.int 0,.int (ids.length - 1),.int 2],c):=by erw[bl]
  rw[ha,Option.bind_some]
  dsimp only
  rw[if_pos ⟨rfl,⟨by omega,by omega⟩,⟨by omega,by omega⟩⟩]
  rw[show((ids.length:Int) - 1 - 0+1) / 2=((rows.length / 2:Nat):Int)by omega]
  rfl
 obtain⟨vs,c1,e1,p1,g1,l1,r1⟩:=Fh (te:=ax (eu L0 bB) [] (af (e2 aA (eV 2) (eV 0)) (af (e2 aA (eV 2) (e2 bA (eV 0) (eC (.int 1)))) (af (eV 1) ao)))) (g:=aL 0) (cap:=[none,some 1,some 0])
  (fun τ=>∃z,τ=[z,some fv,some (.ref R)]) (fun i v c'=>∃n a b,v= .ref n∧c.length<n∧rows[2*i]? =some a∧rows[2*i+1]? =some b∧c'[n]? =some (.lst ((g_ lt a b).map e))) hi d9 ⟨none,rfl⟩
  (fun i v c1 c2 ⟨n,a,b,h1,h2,h3,h4,h5⟩ fr=>⟨n,a,b,h1,h2,h3,h4,fr n _ (by omega) h5⟩)
  (by
   rintro i d hd τ c' ⟨z,MK⟩ pc lc
   subst MK
   obtain⟨NU,rfl⟩:=Fn hd
   obtain⟨a,ha⟩:∃a,rows[2*i]? =some a:=⟨_,List.getElem?_eq_getElem (by omega)⟩
   obtain⟨b,hb⟩:∃b,rows[2*i+1]? =some b:=⟨_,List.getElem?_eq_getElem (by omega)⟩
   obtain⟨na,ga,ca⟩:=hr.get ha
   obtain⟨nb,gb,cb⟩:=hr.get hb
   have ma:=List.mem_of_getElem? ha
   have mb:=List.mem_of_getElem? hb
   obtain⟨ws,em⟩:=Fj Lk (aR a ma) (aR b mb) (aV pc ca) (aV pc cb) (hn a ma) (hn b mb)
   have s0:=bF (aV pc hR)
   have t1:=rR ga
   have t2:=rR gb
   rw[show(((2*i:Nat)):Int)=0+(i:Int)*2 by omega]at t1
   rw[show(((2*i+1:Nat)):Int)=0+(i:Int)*2+1 by omega]at t2
   refine⟨[some (.int (0+i*2)),some fv,some (.ref R)],.ref c'.length,.lst ((g_ lt a b).map e)::ws,rfl,?_,⟨_,rfl⟩,c'.length,a,b,rfl,by omega,ha,hb,by simp⟩
   erw[gR,s0,t1,t2,em])
  (by simp[jZ];omega)
 have ML:vs.length=rows.length / 2:=by rw[l1];simp[jZ]
 have ref:∃ns:List Nat,vs=ns.map D.ref∧ns.length=vs.length∧∀(i n:Nat),ns[i]? =some n→c.length<n∧∃a b,rows[2*i]? =some a∧rows[2*i+1]? =some b∧c1[n]? =some (.lst ((g_ lt a b).map e)):=by
  clear e1 g1 l1 ML
  have:∀(vs:List D) (k:Nat),(∀i v,vs[i]? =some v→∃n a b,v=D.ref n∧c.length<n∧rows[2*(k+i)]? =some a∧rows[2*(k+i)+1]? =some b∧c1[n]? =some (.lst ((g_ lt a b).map e)))→∃ns:List Nat,vs=ns.map D.ref∧ns.length=vs.length∧∀(i n:Nat),ns[i]? =some n→c.length<n∧∃a b,rows[2*(k+i)]? =some a∧rows[2*(k+i)+1]? =some b∧c1[n]? =some (.lst ((g_ lt a b).map e)):=by
   intro vs
   induction vs with
   |nil=>exact fun k _=>⟨[],rfl,rfl,fun i n h=>by cases h⟩
   |cons v vs ih=>
    intro k h
    obtain⟨n,a,b,rfl,h0,h1,h2,h3⟩:=h 0 v rfl
    obtain⟨ns,rfl,h4,h5⟩:=ih (k+1) fun i v hv=>by
     have:=h (i+1) v (by simpa using hv)
     rwa[show k+(i+1)=k+1+i by omega]at this
    refine⟨n::ns,rfl,by simp,fun i m hm=>?_⟩
    cases i with
    |zero=>
     cases hm
     exact⟨h0,a,b,h1,h2,h3⟩
    |succ i=>
     have:=h5 i m (by simpa using hm)
     rwa[show k+1+i=k+(i+1)by omega]at this
  obtain⟨ns,h1,h2,h3⟩:=this vs 0 fun i v hv=>by rw[Nat.zero_add];exact r1 i v hv
  exact⟨ns,h1,h2,fun i n hn=>by have:=h3 i n hn;rwa[Nat.zero_add]at this⟩
 obtain⟨ns,rfl,ln,qB⟩:=ref
 have Qf:cy [.ref R] c1=some (.int ids.length,c1):=kj (e:=D.ref) (aV p1 hR)
 have dq:=rP (lt:=lt) rows
 rw[←ln]at ML
 by_cases xn:rows.length % 2=1
 ·obtain⟨a,ha⟩:∃a,rows[rows.length - 1]? =some a:=⟨_,List.getElem?_eq_getElem (by omega)⟩
  obtain⟨m,gm,cm⟩:=hr.get ha
  have hm:decide ((ids.length:Int) % 2=1)=true:=decide_eq_true (by omega)
  have s0:=bF (aV p1 hR)
  have t1:fZ (ids.map D.ref) (-1)=some (.ref m):=by
   have lL:ids≠[]:=fun h=>by rw[h]at rT;simp at rT;omega
   have:ids=ids.dropLast++[m]:=by
    have h4:=List.dropLast_concat_getLast lL
    rw[List.getLast_eq_getElem]at h4
    have h5:ids[ids.length - 1]'(by omega)=m:=by
     rw[←rT,List.getElem?_eq_getElem (by omega)]at gm
     exact Option.some.inj gm
    rw[h5]at h4
    exact h4.symm
   rw[this,List.map_append]
   exact Cp
  have Vh:m≠c.length:=by have:=vh cm;omega
  have s2:=bS g1
  have ap:=Fi (e:=D.ref) (x:=m) g1 (by omega)
  refine⟨ns++[m],c1.set c.length (.lst ((ns++[m]).map D.ref)),?_,Fg p1 (Nat.le_refl _),H_ (vh g1),⟨by rw[dq];simp;omega,fun i n l h1 h2=>?_⟩,fun q hq=>?_⟩
  ·rw[bJ,er,dg]
   erw[e1,Qf,hm,gR,s0,t1,s2,ap]
  ·rcases Nat.lt_or_ge i ns.length with Cw|Cw
   ·rw[List.getElem?_append_left Cw]at h1
    obtain⟨q1,a',b',q2,q3,q4⟩:=qB i n h1
    rw[vj rows i a' b' q2 q3]at h2
    cases h2
    exact vi q4 (by omega)
   ·have:i=ns.length:=by
     have:=(List.getElem?_eq_some_iff.mp h1).1
     simp at this
     omega
    subst this
    rw[List.getElem?_append_right (Nat.le_refl _),Nat.sub_self]at h1
    cases h1
    rw[ML,xZ rows a xn ha]at h2
    cases h2
    exact vi (aV p1 cm) Vh
  ·rcases List.mem_append.mp hq with hq|hq
   ·obtain⟨i,Cw⟩:=List.getElem?_of_mem hq
    exact .inr (Nat.le_of_lt (qB i q Cw).1)
   ·cases List.mem_singleton.mp hq
    exact .inl (List.mem_of_getElem? gm)
 ·have hm:decide ((ids.length:Int) % 2=1)=false:=decide_eq_false (by omega)
  refine⟨ns,c1,?_,p1,g1,⟨by rw[dq];omega,fun i n l h1 h2=>?_⟩,fun q hq=>?_⟩
  ·rw[bJ,er,dg]
   erw[e1,Qf,hm]
  ·obtain⟨q1,a',b',q2,q3,q4⟩:=qB i n h1
   rw[vj rows i a' b' q2 q3]at h2
   cases h2
   exact q4
  ·obtain⟨i,Cw⟩:=List.getElem?_of_mem hq
   exact .inr (Nat.le_of_lt (qB i q Cw).1)
theorem Fo{a b:List α}{x:α}:x∈g_ lt a b↔x∈a∨x∈b:=by rw[(oE b a).mem_iff,List.mem_append]
theorem Fp{ok:α→Prop}(Lk:Look L0 bB fv e lt ok)(Cv:∀x y,lt x y=true→lt y x=false){A:Option D}{c0:Cells}:∀(n:Nat) (ids:List Nat) (rows:List (List α)) (R:Nat) (c:Cells),rows.length=n→c[R]? =some (.lst (ids.map D.ref))→Runs e c ids rows→(∀l∈rows,iB lt l)→(∀l∈rows,∀x∈l,ok x)→rows.flatten.length≤1000000→n≤1000000→c0 <+:c→(∀m∈ids,c0.length≤m)→
  ∃nJ rV R' c',cV (tV (e2 sH (eB cy (af (eV 2) ao)) (eC (.int 1)))) (aI 2 (ax (bJ L0 bB) [] (af (eV 2) (af (eV 1) ao)))) [A,some fv,some (.ref R)] c=some (.nx,[A,some fv,some (.ref R')],c')∧c0 <+:c'∧c'[R']? =some (.lst (nJ.map D.ref))∧Runs e c' nJ rV∧rV.length≤1∧rV.flatten.Perm rows.flatten∧(∀l∈rV,iB lt l)∧(rows.length=0→rV.length=0)∧(∀m∈nJ,c0.length≤m):=by
 intro n
 induction n using Nat.strongRecOn with
 |_ n ih=>
  intro ids rows R c hn hR hr iM aR Ie XH hp Ci
  have bl:cy [.ref R] c=some (.int ids.length,c):=kj (e:=D.ref) hR
  have rT:=hr.len
  by_cases h1:rows.length≤1
  ·have hm:decide ((ids.length:Int) > 1)=false:=decide_eq_false (by omega)
   exact⟨ids,rows,R,c,f_ (by erw[bl,hm]),hp,hR,hr,h1,.refl _,iM,id,Ci⟩
  ·have hm:decide ((ids.length:Int) > 1)=true:=decide_eq_true (by omega)
   have hsz:∀l∈rows,l.length≤1000000:=fun l hl=>by
    have:=(List.sublist_flatten_of_mem hl).length_le
    omega
   obtain⟨nJ,c',e1,p1,g1,r1,m1⟩:=rS Lk hR hr aR hsz (by omega) (by omega)
   have dq:=rP (lt:=lt) rows
   have Qg:=t8 (lt:=lt) rows
   have Qh:=xW hp
   obtain⟨Qi,MM,R2,c2,f1,f2,f3,f4,f5,f6,f7,f8,f9⟩:=ih (nI lt rows).length (by omega) nJ (nI lt rows) c.length c' rfl g1 r1 (rQ (P:=iB lt) (fun a b ha hb=>xY Cv b a ha hb) rows iM) (rQ (P:=fun l=>∀x∈l,ok x) (fun a b ha hb x hx=>(Fo.mp hx).elim (ha x) (hb x)) rows aR) (by rw[Qg.length_eq];exact Ie) (by omega) (hp.trans p1) (fun m hm=>(m1 m hm).elim (Ci m) fun h=>Nat.le_trans Qh h)
   refine⟨Qi,MM,R2,c2,lU (c':=c) (c2:=c') (σ':=[A,some fv,some (.ref c.length)]) (by erw[bl,hm]) (by erw[e1]) f1,f2,f3,f4,f5,f6.trans Qg,f7,fun h=>by omega,f9⟩
theorem single:∀(xs:List α),(xs.map fun x=>[x]).flatten=xs
 |[]=>rfl
 |x::xs=>by
  rw[List.map_cons,List.flatten_cons,single xs]
  rfl
theorem rW{ok:α→Prop}(Lk:Look L0 bB fv e lt ok)(Cv:∀x y,lt x y=true→lt y x=false){xs:List α}{a:Nat}{c:Cells}(ha:c[a]? =some (.lst (xs.map e)))(aR:∀x∈xs,ok x)(hn:xs.length≤1000000):
  ∃n ys c',cE L0 bB [.ref a,fv] c=some (.ref n,c')∧c <+:c'∧c.length≤n∧c'[n]? =some (.lst (ys.map e))∧ys.Perm xs∧iB lt ys:=by
 have hi:fX (eV 0) [some (.ref a),some fv,none] c=some (⟨xs.map e,[(a,.lst (xs.map e))]⟩,c):=rK rfl ha
 obtain⟨vs,c1,e1,p1,g1,l1,r1⟩:=Fh (te:=h9 (af (eV 0) ao)) (g:=aL 0) (cap:=[none]) (fun τ=>∃z,τ=[z]) (fun i v c'=>∃n x,v= .ref n∧c.length<n∧xs[i]? =some x∧c'[n]? =some (.lst ([x].map e))) hi (fun p hp=>by cases List.mem_singleton.mp hp;exact ha) ⟨none,rfl⟩
  (fun i v c1 c2 ⟨n,x,h1,h2,h3,h4⟩ fr=>⟨n,x,h1,h2,h3,fr n _ (by omega) h4⟩)
  (by
   rintro i d hd τ c' ⟨z,MK⟩ pc lc
   subst MK
   rw[List.getElem?_map]at hd
   obtain⟨x,hx,rfl⟩:=Option.map_eq_some_iff.mp hd
   refine⟨[some (e x)],.ref c'.length,[.lst [e x]],rfl,?_,⟨_,rfl⟩,c'.length,x,rfl,lc,hx,by simp⟩
   erw[])
  (by simp;omega)
 have ref:∃ns:List Nat,vs=ns.map D.ref∧Runs e c1 ns (xs.map fun x=>[x])∧∀m∈ns,c.length≤m:=by
  clear e1 g1
  rw[List.length_map]at l1
  have:∀(vs:List D) (xs:List α),vs.length=xs.length→(∀(i:Nat) v,vs[i]? =some v→∃n x,v=D.ref n∧c.length<n∧xs[i]? =some x∧c1[n]? =some (.lst ([x].map e)))→∃ns:List Nat,vs=ns.map D.ref∧Runs e c1 ns (xs.map fun x=>[x])∧∀m∈ns,c.length≤m:=by
   intro vs
   induction vs with
   |nil=>
    intro xs hl _
    cases xs with
    |nil=>exact⟨[],rfl,⟨rfl,fun i n l h=>by cases h⟩,fun m h=>nomatch h⟩
    |cons _ _=>simp at hl
   |cons v vs ih=>
    intro xs hl h
    cases xs with
    |nil=>simp at hl
    |cons x xs=>
     obtain⟨n,x',rfl,h0,h1,h2⟩:=h 0 v rfl
     cases h1
     obtain⟨ns,rfl,h4,h5⟩:=ih xs (by simpa using hl) fun i v hv=>by
      have:=h (i+1) v (by simpa using hv)
      simpa using this
     refine⟨n::ns,rfl,⟨by simpa using h4.len,fun i m l h6 h7=>?_⟩,fun m hm=>?_⟩
     ·cases i with
      |zero=>
       cases h6
       cases h7
       exact h2
      |succ i=>exact h4.at_ i m l (by simpa using h6) (by simpa using h7)
     ·rcases List.mem_cons.mp hm with rfl|hm
      ·exact Nat.le_of_lt h0
      ·exact h5 m hm
  exact this vs xs l1 r1
 obtain⟨ns,rfl,hr,hm⟩:=ref
 have Ie:(xs.map fun x=>[x]).flatten=xs:=single xs
 obtain⟨ids,rows,R,c2,f1,f2,f3,f4,f5,f6,f7,f8,f9⟩:=Fp Lk Cv (A:=some (.ref a)) (c0:=c) _ ns (xs.map fun x=>[x]) c.length c1 rfl g1 hr (fun l hl=>by
  obtain⟨x,_,rfl⟩:=List.mem_map.mp hl
  trivial) (fun l hl y hy=>by
  obtain⟨x,hx,rfl⟩:=List.mem_map.mp hl
  cases List.mem_singleton.mp hy
  exact aR _ hx) (by rw[Ie];exact hn) (by simpa using hn) p1 hm
 rw[Ie]at f6
 have rT:=f4.len
 have bl:cy [.ref R] c2=some (.int ids.length,c2):=kj (e:=D.ref) f3
 cases Qj:rows with
 |nil=>
  subst Qj
  have Vi:ids.length=0:=rT
  have hm:decide ((ids.length:Int)=1)=false:=decide_eq_false (by omega)
  refine⟨c2.length,[],c2++[.lst []],?_,pre_app f2,xW f2,by simp,by simpa using f6,trivial⟩
  rw[cE,er,fH]
  erw[e1,f1,bl,hm,Nat.zero_le]
 |cons l rest=>
  subst Qj
  have Vj:rest=[]:=by
   cases rest with
   |nil=>rfl
   |cons _ _=>simp at f5
  subst Vj
  obtain⟨n,gn,cn⟩:=f4.get (i:=0) (l:=l) rfl
  have Vi:ids.length=1:=rT
  have hm:decide ((ids.length:Int)=1)=true:=decide_eq_true (by omega)
  have s0:=bF f3
  have t1:fZ (ids.map D.ref) 0=some (.ref n):=rR gn
  refine⟨n,l,c2,?_,f2,f9 n (List.mem_of_getElem? gn),cn,by simpa using f6,f7 l (by simp)⟩
  rw[cE,er,fH]
  erw[e1,f1,bl,hm,gR,s0,t1]
end
def kP(p:T3):List Int:=[p.1,p.2.1,p.2.2]
theorem Ig{p q:T3}:kP p=kP q↔p=q:=by
 obtain⟨a,b,c⟩:=p
 obtain⟨x,y,z⟩:=q
 simp[kP]
theorem MN(p:T3):k1 (sd p)=some (kP p):=rfl
def ins(acc:List T3)(p:T3):List T3:=if p∈acc then acc else acc++[p]
def cT(acc:List T3):Cell:=.mV (acc.map fun p=>(kP p,D.bl true))
theorem Fq(acc:List T3)(p:T3):wK (acc.map fun p=>(kP p,D.bl true)) (kP p) (.bl true)=(ins acc p).map fun p=>(kP p,D.bl true):=by
 have JA:((acc.map fun p=>(kP p,D.bl true)).any fun q=>decide (q.1=kP p))=true↔p∈acc:=by
  rw[List.any_eq_true]
  constructor
  ·rintro⟨q,hq,h⟩
   obtain⟨r,hr,rfl⟩:=List.mem_map.mp hq
   have:=Ig.mp (of_decide_eq_true h)
   rw[←this];exact hr
  ·intro h
   exact⟨_,List.mem_map_of_mem h,decide_eq_true rfl⟩
 unfold wK ins
 by_cases h:p∈acc
 ·rw[if_pos (JA.mpr h),if_pos h,List.map_map]
  refine List.map_congr_left fun q _=>?_
  dsimp only[Function.comp]
  split<;>rfl
 ·rw[if_neg (fun z=>h (JA.mp z)),if_neg h,List.map_append]
  rfl
theorem zU{acc:List T3}{p:T3}(h:acc.Nodup):(ins acc p).Nodup:=by
 unfold ins
 split
 ·exact h
 ·rename_i hp
  rw[List.nodup_append]
  exact⟨h,by simp,fun x hx y hy e=>hp (by rw[←List.mem_singleton.mp hy,←e];exact hx)⟩
theorem Fs{acc:List T3}{p x:T3}:x∈ins acc p↔x∈acc∨x=p:=by
 unfold ins
 split
 ·rename_i h
  constructor
  ·exact .inl
  ·rintro(h'|rfl)
   ·exact h'
   ·exact h
 ·simp
theorem x_{acc:List T3}{p:T3}:(ins acc p).length≤acc.length+1:=by
 unfold ins
 split
 ·omega
 ·simp
theorem Cy(L0:bD)(bB:Nat):Look L0 bB (.adr bB) sd My.cI (Ok 1000):=⟨fun x y c f a σ hf ha hx hy=>by
 unfold jj
 rw[hf]
 simp[List.lookup,ha,ip hx hy]⟩
theorem Cz(L0:bD)(bB:Nat):Look L0 bB (.qF L0 []) sd (fun x y=>My.cI y x) (Ok 1000):=⟨fun x y c f a σ hf ha hx hy=>by
 unfold jj
 rw[hf]
 have h:=ip (c:=c) hy hx
 have e:jr [sd x,sd y] c=some (.bl (My.cI y x),c):=by
  rw[jr]
  unfold AM
  rw[if_pos (show [sd x,sd y].length=2 from rfl)]
  show ax bE [] (af (eV 1) (af (eV 0) ao)) [some (sd x),some (sd y)] c=_
  erw[h]
 simp[qY,ha,e]⟩
def uniq(P:T3→Bool):List T3→List T3→List T3
 |acc,[]=>acc
 |acc,p::l=>uniq P (if P p=true then ins acc p else acc) l
theorem t9{P:T3→Bool}:∀{l acc:List T3}{x:T3},x∈uniq P acc l↔x∈acc∨(x∈l∧P x=true)
 |[],acc,x=>by simp[uniq]
 |p::l,acc,x=>by
  unfold uniq
  rw[t9]
  by_cases hp:P p=true
  ·rw[if_pos hp,Fs]
   constructor
   ·rintro((h|rfl)|⟨h,h2⟩)
    ·exact .inl h
    ·exact .inr ⟨List.mem_cons_self,hp⟩
    ·exact .inr ⟨List.mem_cons_of_mem _ h,h2⟩
   ·rintro(h|⟨h,h2⟩)
    ·exact .inl (.inl h)
    ·rcases List.mem_cons.mp h with rfl|h
     ·exact .inl (.inr rfl)
     ·exact .inr ⟨h,h2⟩
  ·rw[if_neg hp]
   constructor
   ·rintro(h|⟨h,h2⟩)
    ·exact .inl h
    ·exact .inr ⟨List.mem_cons_of_mem _ h,h2⟩
   ·rintro(h|⟨h,h2⟩)
    ·exact .inl h
    ·rcases List.mem_cons.mp h with rfl|h
     ·exact absurd h2 hp
     ·exact .inr ⟨h,h2⟩
theorem o7{P:T3→Bool}:∀{l acc:List T3},acc.Nodup→(uniq P acc l).Nodup
 |[],acc,h=>h
 |p::l,acc,h=>by
  unfold uniq
  refine o7 ?_
  split
  ·exact zU h
  ·exact h
theorem t_{P:T3→Bool}:∀{l acc:List T3},(uniq P acc l).length≤acc.length+l.length
 |[],acc=>by simp[uniq]
 |p::l,acc=>by
  unfold uniq
  have:=t_ (P:=P) (l:=l) (acc:=if P p=true then ins acc p else acc)
  have h2:(if P p=true then ins acc p else acc).length≤acc.length+1:=by
   split
   ·exact x_
   ·omega
  rw[List.length_cons]
  omega
theorem A0{L0:bD}{bB:Nat}{a b:T3}{m:Nat}{ps:List T3}{c:Cells}(ha:Ok 1000 a)(hb:Ok 1000 b)(hT:c[1]? =some (.tab L0.code L0.qual))(hm:c[m]? =some (.lst (ps.map sd)))(hp:∀p∈ps,Ok 1000 p)(hn:ps.length≤1000):
  ∃n ys c',cL L0 bB [side a b,.ref m] c=some (.ref n,c')∧c <+:c'∧c.length≤n∧c'[n]? =some (.lst (ys.map sd))∧ys.Nodup∧(∀p,p∈ys↔p∈ps∧eZ p a b=true)∧iB (fun x y=>if My.cI a b=true then My.cI x y else My.cI y x) ys:=by
 have it:fX (eV 1) [some (side a b),some (.ref m),some (.ref c.length),none] (c++[cT []])=some (⟨ps.map sd,[(m,.lst (ps.map sd))]⟩,c++[cT []]):=rK rfl (bY hm)
 obtain⟨σ',c',e1,acc,z,rfl,rfl,h1⟩:=de (ks:=[(m,.lst (ps.map sd))]) (g:=aL 3) (body:=cX (tV (ax bp [] (af (eV 3) (af (eV 0) ao)))) (kL (eV 2) (eV 3) (eC (.bl true))) bP)
  (fun i σ c'=>∃acc z,σ=[some (side a b),some (.ref m),some (.ref c.length),z]∧c'=c++[cT acc]∧uniq (fun p=>eZ p a b) [] ps=uniq (fun p=>eZ p a b) acc (ps.drop i)∧acc.length≤i)
  (ps.map sd) 0 [some (side a b),some (.ref m),some (.ref c.length),none] (c++[cT []])
  (by
   rintro i σ c' ⟨acc,z,Fm,eE,_⟩ p hp
   subst eE
   cases List.mem_singleton.mp hp
   exact bY hm)
  (by
   rintro i d σ c' hd ⟨acc,z,Fm,eE,h1,h2⟩
   subst Fm eE
   rw[List.getElem?_map]at hd
   obtain⟨y,hy,rfl⟩:=Option.map_eq_some_iff.mp hd
   have MJ:y∈ps:=List.mem_of_getElem? hy
   have rq:i<ps.length:=(List.getElem?_eq_some_iff.mp hy).1
   have oy:=oD (c:=c++[cT acc]) (hp y MJ) ha hb
   have HB:ps.drop i=y::ps.drop (i+1):=by
    rw[List.drop_eq_getElem_cons rq]
    rw[List.getElem?_eq_getElem rq]at hy
    rw[Option.some.inj hy]
   rw[show 0+i=i by omega]at h1 h2
   cases Ih:eZ y a b with
   |true=>
    rw[Ih]at oy
    have t1:lC (.ref c.length) (c++[cT acc])=some (c.length,acc.map fun p=>(kP p,D.bl true)):=by
     unfold lC
     simp[cT]
    have pt:kL (eV 2) (eV 3) (eC (.bl true)) [some (side a b),some (.ref m),some (.ref c.length),some (sd y)] (c++[cT acc])=some (.nx,[some (side a b),some (.ref m),some (.ref c.length),some (sd y)],c++[cT (ins acc y)]):=by
     unfold kL
     erw[t1,MN]
     rw[if_pos (show(acc.map fun p=>(kP p,D.bl true)).length<cD by rw[eO,List.length_map];omega),Fq]
     simp[cT]
    refine⟨_,_,_,_,rfl,(by erw[oy,pt]),ins acc y,some (sd y),rfl,rfl,?_,?_⟩
    ·rw[h1,HB,uniq,Ih,if_pos rfl,show 0+i+1=i+1 by omega]
    ·have:=x_ (acc:=acc) (p:=y)
     omega
   |false=>
    rw[Ih]at oy
    refine⟨_,_,_,_,rfl,(by erw[oy]),acc,some (sd y),rfl,rfl,?_,by omega⟩
    rw[h1,HB,uniq,Ih,if_neg (by decide),show 0+i+1=i+1 by omega])
  ⟨[],none,rfl,rfl,rfl,Nat.le_refl _⟩
 obtain⟨h1,h2⟩:=h1
 have e2:=rN (g:=aL 3) (b:=cX (tV (ax bp [] (af (eV 3) (af (eV 0) ao)))) (kL (eV 2) (eV 3) (eC (.bl true))) bP) it
 rw[e1]at e2
 have e3:ps.drop (0+(ps.map sd).length)=[]:=List.drop_eq_nil_of_le (by simp)
 rw[e3,uniq]at h1
 have A2:∀p,p∈acc↔p∈ps∧eZ p a b=true:=fun p=>by rw[←h1,t9];simp
 have Qk:acc.Nodup:=by rw[←h1];exact o7 .nil
 have hlen:acc.length≤ps.length:=by rw[←h1];have:=t_ (P:=fun p=>eZ p a b) (l:=ps) (acc:=[]);simpa using this
 have bl:j3 [.ref c.length] (c++[cT acc])=some (.ref (c++[cT acc]).length,c++[cT acc]++[.lst (acc.map sd)]):=by
  unfold j3 one lC
  simp only[bU,cT,Option.bind_some]
  rw[if_pos (show(acc.map fun p=>(kP p,D.bl true)).length≤cD by rw[eO,List.length_map];omega),List.map_map]
  rfl
 have qr:c <+:c++[cT acc]++[.lst (acc.map sd)]:=⟨_,(List.append_assoc ..).symm⟩
 have ah:=ip (c:=c++[cT acc]) ha hb
 have nw:uR [some (side a b),some (.ref m),none,none] c=some (.ref c.length,c++[cT []]):=rfl
 cases dQ:My.cI a b with
 |true=>
  obtain⟨n,ys,c2,f1,f2,f3,f4,f5,f6⟩:=rW (Cy L0 bB) (fun x y=>My.gu) (xs:=acc) (a:=(c++[cT acc]).length) (c:=c++[cT acc]++[.lst (acc.map sd)]) bU (fun x hx=>hp x ((A2 x).mp hx).1) (by omega)
  rw[dQ]at ah
  refine⟨n,ys,c2,?_,qr.trans f2,?_,f4,f5.nodup_iff.mpr Qk,fun p=>by rw[f5.mem_iff,A2],by simpa using f6⟩
  ·rw[cL,er,kf]
   erw[nw,e2,rL,rM,ah,bl,f1]
  ·simp at f3
   omega
 |false=>
  obtain⟨n,ys,c2,f1,f2,f3,f4,f5,f6⟩:=rW (Cz L0 bB) (fun x y=>My.gu) (xs:=acc) (a:=(c++[cT acc]).length) (c:=c++[cT acc]++[.lst (acc.map sd)]) bU (fun x hx=>hp x ((A2 x).mp hx).1) (by omega)
  rw[dQ]at ah
  refine⟨n,ys,c2,?_,qr.trans f2,?_,f4,f5.nodup_iff.mpr Qk,fun p=>by rw[f5.mem_iff,A2],by simpa using f6⟩
  ·have el:∀σ,wQ L0 1 [] σ (c++[cT acc]++[.lst (acc.map sd)])=some (.qF L0 [],c++[cT acc]++[.lst (acc.map sd)]):=fun σ=>by
    unfold wQ
    rw[bY (bY hT)]
    simp[qX]
   rw[cL,er,kf]
   erw[nw,e2,rL,rM,ah,bl,el,f1]
  ·simp at f3
   omega
theorem oH{lo:Int}{n i:Nat}{d:D}(h:(dI lo n)[i]? =some d):i<n∧d= .int (lo+i):=by
 unfold dI at h
 rw[List.getElem?_map]at h
 by_cases hi:i<n
 ·rw[List.getElem?_range hi]at h;cases h;exact⟨hi,rfl⟩
 ·rw[List.getElem?_eq_none_iff.mpr (by simpa using Nat.le_of_not_lt hi)]at h;cases h
theorem Ft(x y w:Int):sp x y w=sd (x,y,w):=rfl
theorem Ii{x:Int}(h1: -7≤x)(h2:x≤7):My.Bd 3 x:=⟨by
 have:x.natAbs<8:=by omega
 exact this⟩
theorem CA{n ka kb:Nat}{a b:T3}{c:Cells}(ha:Ok ka a)(hb:Ok kb b)(h1:ka≤200)(h2:kb≤200)(h:cS n c):∃q c',cu [.ref n,sd a,sd b] c=some (sd q,c')∧Ok (ka+kb+4) q∧cS n c'∧Kp n c c':=by
 obtain⟨n',c1,f1,l1,u1,p1,k1⟩:=cB h (m:=7) (by decide) (by walk_at "bdm")
 obtain⟨d',c2,f2,l2,u2,p2,k2⟩:=cB p1 (m:=5) (by decide) (by walk_at "bdm")
 have w0: 0<a.2.2*b.2.2*(1+d'):=Int.mul_pos (Int.mul_pos ha.pos hb.pos) (by omega)
 have t1:My.Bd 3 (n' - 1):=Ii (by omega) (by omega)
 have t2:My.Bd 3 (1+d'):=Ii (by omega) (by omega)
 have t3:My.Bd 3 (1+d' - (n' - 1)):=Ii (by omega) (by omega)
 have m1:=ha.bx.mul hb.bw;have m2:=hb.bx.mul ha.bw;have m3:=ha.dG.mul hb.bw;have m4:=hb.dG.mul ha.bw;have m5:=ha.bw.mul hb.bw
 have bx:My.Bd (ka+kb+4) (a.1*b.2.2*(1+d' - (n' - 1))+b.1*a.2.2*(n' - 1)):=(My.Bd.add (m1.mul t3) (m2.mul t1)).mono (by omega)
 have Vk:My.Bd (ka+kb+4) (a.2.1*b.2.2*(1+d' - (n' - 1))+b.2.1*a.2.2*(n' - 1)):=(My.Bd.add (m3.mul t3) (m4.mul t1)).mono (by omega)
 have bw:My.Bd (ka+kb+4) (a.2.2*b.2.2*(1+d')):=(m5.mul t2).mono (by omega)
 have lo:=ki (x:=a.1*b.2.2*(1+d' - (n' - 1))+b.1*a.2.2*(n' - 1)) (y:=a.2.1*b.2.2*(1+d' - (n' - 1))+b.2.1*a.2.2*(n' - 1)) (c:=c2) (show a.2.2*b.2.2*(1+d')≠0 by omega) (bw.mono (by omega))
 have hs:=Sp.mk' (show a.2.2*b.2.2*(1+d')≠0 by omega) bx Vk bw
 refine⟨(_,_,_),c2,?_,hs,p2,k1.trans k2⟩
 rw[Ft]at lo
 have ml:∀{y z:Int}{i j:Nat},My.Bd i y→My.Bd j z→i≤500→j≤500→Qm.MulOk y z:=fun h1 h2 h3 h4=>tU (h1.mono (by omega)) (h2.mono (by omega))
 erw[cu,eW,f1,f2,xU,xV,lj,aG (ml ha.bx hb.bw (by omega) (by omega)),aG (ml hb.bx ha.bw (by omega) (by omega)),aG (ml ha.dG hb.bw (by omega) (by omega)),aG (ml hb.dG ha.bw (by omega) (by omega)),aG (ml ha.bw hb.bw (by omega) (by omega)),aG (ml m1 t3 (by omega) (by omega)),aG (ml m2 t1 (by omega) (by omega)),aG (ml m3 t3 (by omega) (by omega)),aG (ml m4 t1 (by omega) (by omega)),aG (ml m5 t2 (by omega) (by omega)),lo]
 rfl
structure Lp(n m:Nat)(c0:Cells)(k:Nat)(l:List T3)(c:Cells):Prop where
 at_:c[m]? =some (.lst (l.map sd))
 len:l.length=k
 ok:∀p∈l,Ok 80 p
 JB:cS n c
 kp:Kp n c0 c
theorem Lp.add{n m k:Nat}{c0 c c':Cells}{l:List T3}{q:T3}(h:Lp n m c0 k l c)(hm:m≠n)(h0:c0.length≤m)(hc:c'[m]? =some (.lst (l.map sd)))(p':cS n c')(k':Kp n c c')(hq:Ok 80 q):Lp n m c0 (k+1) (l++[q]) (c'.set m (.lst ((l++[q]).map sd))):=
 ⟨by rw[List.getElem?_set,if_pos rfl,if_pos (List.getElem?_eq_some_iff.mp hc).1],by rw[List.length_append,h.len];rfl,fun p hp=>by
  rcases List.mem_append.mp hp with hp|hp
  ·exact h.ok p hp
  ·rw[List.mem_singleton.mp hp];exact hq,p'.own hm,(h.kp.trans k').own h0⟩
noncomputable abbrev Ij:XS:=(aB (aI 5 (ax au [] (af (eV 0) (af (eC (.int 6)) ao))))
   (aB (aI 6 (ax cu [] (af (eV 0) (af (eV 1) (af (eV 2) ao)))))
   (aB (cX (tV (e2 iR (eV 5) (eC (.int 0))))
   (aI 6 (e2 aA (h9 (af (eV 1) (af (eV 2) ao))) (ax au [] (af (eV 0) (af (eC (.int 2)) ao)))))
   bP)
   (aB (cX (oR (tV (e2 iR (eV 5) (eC (.int 1)))) (tV (e2 sH (eB cy (af (eV 3) ao)) (eC (.int 0)))))
   (aI 6 (e2 aA (eV 3) (ax au [] (af (eV 0) (af (eB cy (af (eV 3) ao)) ao)))))
   bP)
   (aB (cX (tV (e2 iR (eV 5) (eC (.int 2))))
   (aI 6 (ax a_ [] (af (eV 0) ao)))
   bP)
   (aB (cX (tV (e2 iR (eV 5) (eC (.int 3))))
   (aI 6 (ax aN [] (af (e2 aA (eV 6) (eC (.int 0))) (af (e2 cp (e2 bA (e2 aA (eV 6) (eC (.int 1))) (eC (.int 1))) (e2 aH (eC (.int 2)) (ax au [] (af (eV 0) (af (eC (.int 2)) ao))))) (af (e2 aA (eV 6) (eC (.int 2))) ao)))))
   bP)
   (gC (eM cH (eV 3) (af (eV 6) ao)))))))))
theorem MO{n:Nat}{a b:T3}{c:Cells}(ha:Ok 31 a)(hb:Ok 42 b)(h:cS n c):∃(m:Nat) (l:List T3) (c':Cells),cZ [.ref n,sd a,sd b] c=some (.ref m,c')∧c.length≤m∧c'[m]? =some (.lst (l.map sd))∧l.length≤14∧(∀p∈l,Ok 80 p)∧cS n c'∧Kp n c c':=by
 obtain⟨d,c1,f1,l1,u1,p1,k1⟩:=cB (h.more (zs:=[.lst []])) (m:=15) (by decide) (by walk_at "bdm")
 have hm:c.length≠n:=h.ne (Nat.le_refl _)
 have m1:c1[c.length]? =some (.lst (([]:List T3).map sd)):=k1.get (by simp) hm
 have key:=de (ks:=[]) (g:=aL 4) (body:=Ij) (fun i σ c'=>∃l x y z,σ=[some (.ref n),some (sd a),some (sd b),some (.ref c.length),x,y,z]∧Lp n c.length c i l c')
  (dI 0 d.toNat) 0 [some (.ref n),some (sd a),some (sd b),some (.ref c.length),none,none,none] c1 (fun _ _ _ _=>d9) (by
  rintro i dd σ c' hd ⟨l,x,y,z,rfl,P⟩
  obtain⟨hi,rfl⟩:=oH hd
  rw[Nat.zero_add]at P ⊢
  have pl:=P.len
  obtain⟨d5,c2,f2,l2,u2,p2,k2⟩:=cB P.JB (m:=6) (by decide) (by walk_at "bdm")
  obtain⟨q,c3,f3,o3,p3,k3⟩:=CA ha hb (by decide) (by decide) p2
  have rX:=k2.trans k3
  have fin:∀(p:T3) (c4:Cells),Ok 80 p→cS n c4→Kp n c' c4→(br (.ref c.length) c4=some (c.length,l.map sd)→(cH (.ref c.length) [sd p] c4=some (.bb,c4.set c.length (.lst ((l++[p]).map sd))))→Ij [some (.ref n),some (sd a),some (sd b),some (.ref c.length),some (.int (0+i)),y,z] c'=some (.nx,[some (.ref n),some (sd a),some (sd b),some (.ref c.length),some (.int (0+i)),some (.int d5),some (sd p)],c4.set c.length (.lst ((l++[p]).map sd))))→∃σ1 c1 uo c2,aL 4 (.int (0+i)) [some (.ref n),some (sd a),some (sd b),some (.ref c.length),x,y,z] c'=some (σ1,c1)∧Ij σ1 c1=some (.nx,uo,c2)∧∃l x y z,uo=[some (.ref n),some (sd a),some (sd b),some (.ref c.length),x,y,z]∧Lp n c.length c (i+1) l c2:=by
   intro p c4 hp pp kk hh
   have m4:c4[c.length]? =some (.lst (l.map sd)):=kk.get P.at_ hm
   exact⟨_,c',_,_,rfl,hh (bS m4) (Cr m4 (by omega)),l++[p],_,_,_,rfl,P.add hm (Nat.le_refl _) m4 pp kk hp⟩
  have m3:c3[c.length]? =some (.lst (l.map sd)):=rX.get P.at_ hm
  have Ql:Ok 80 q:=o3.mono (by decide)
  have c5:d5=0∨d5=1∨d5=2∨d5=3∨4≤d5:=by omega
  rcases c5 with rfl|rfl|rfl|rfl|h5
  ·obtain⟨d6,c4,f4,l4,u4,p4,k4⟩:=cB (p3.more (zs:=[.lst [sd a,sd b]])) (m:=2) (by decide) (by walk_at "bdm")
   have m4:c4[c3.length]? =some (.lst ([a,b].map sd)):=k4.get (by simp) (p3.ne (Nat.le_refl _))
   have kk:Kp n c' c4:=rX.trans (Kp.more.trans k4)
   have c6:d6=0∨d6=1:=by omega
   rcases c6 with rfl|rfl
   ·have g4:=i4 (i:=0) (j:=0) (p:=a) m4 (.inl ⟨by decide,rfl,by simp⟩) rfl
    exact fin a c4 (ha.mono (by decide)) p4 kk fun f6 f5=>by erw[f6,f2,f3,f4,g4,kj (e:=sd) (kk.get P.at_ hm),f5]
   ·have g4:=i4 (i:=1) (j:=1) (p:=b) m4 (.inl ⟨by decide,rfl,by simp⟩) rfl
    exact fin b c4 (hb.mono (by decide)) p4 kk fun f6 f5=>by erw[f6,f2,f3,f4,g4,kj (e:=sd) (kk.get P.at_ hm),f5]
  ·have bl:=kj (e:=sd) m3
   by_cases hl:l.length=0
   ·have hz:decide ((l.length:Int) > 0)=false:=decide_eq_false (by omega)
    exact fin q c3 Ql p3 rX fun f6 f5=>by erw[f6,f2,f3,bl,hz,f5]
   ·have hz:decide ((l.length:Int) > 0)=true:=decide_eq_true (by omega)
    obtain⟨d6,c4,f4,l4,u4,p4,k4⟩:=cB p3 (m:=l.length) (by omega) (by refine Jx ?_ |>.mono ?_<;>omega)
    have kk:Kp n c' c4:=rX.trans k4
    have m4:c4[c.length]? =some (.lst (l.map sd)):=kk.get P.at_ hm
    have hj:d6.toNat<l.length:=by omega
    have g4:=i4 (i:=d6) (j:=d6.toNat) (p:=l[d6.toNat]) m4 (.inl ⟨l4,by omega,hj⟩) (List.getElem?_eq_getElem hj)
    exact fin l[d6.toNat] c4 (P.ok _ (List.getElem_mem _)) p4 kk fun f6 f5=>by erw[f6,f2,f3,bl,hz,f4,g4,f5]
  ·obtain⟨x1,y1,w1,c4,f4,s4,p4,k4⟩:=zR p3
   have Vl:a_ [.ref n] c3=some (sd (x1,y1,w1),c4):=f4
   exact fin (x1,y1,w1) c4 (Sp.mono s4 (by decide)) p4 (rX.trans k4) fun f6 f5=>by erw[f6,f2,f3,Vl,f5]
  ·obtain⟨d6,c4,f4,l4,u4,p4,k4⟩:=cB p3 (m:=2) (by decide) (by walk_at "bdm")
   have t1:My.Bd 3 (1 - 2*d6):=Ii (by omega) (by omega)
   have t2:q.2.1+1 - 2*d6=q.2.1+(1 - 2*d6):=by omega
   have t3:My.Bd 80 (q.2.1+1 - 2*d6):=by rw[t2];exact(o3.dG.add t1).mono (by decide)
   have hw:q.2.2≠0:=by have:=o3.pos;omega
   have lo:=ki (x:=q.1) (y:=q.2.1+1 - 2*d6) (c:=c4) hw (o3.bw.mono (by decide))
   rw[Ft]at lo
   exact fin (My.sx q.1 (q.2.1+1 - 2*d6) q.2.2,My.sy q.1 (q.2.1+1 - 2*d6) q.2.2,My.sw q.1 (q.2.1+1 - 2*d6) q.2.2) c4 (Sp.mk' hw (o3.bx.mono (by decide)) t3 (o3.bw.mono (by decide))) p4 (rX.trans k4) fun f6 f5=>by erw[f6,f2,f3,f4,xU,xV,lj,lo,f5]
  ·have e0:decide (d5=0)=false:=decide_eq_false (by omega)
   have e1:decide (d5=1)=false:=decide_eq_false (by omega)
   have e2:decide (d5=2)=false:=decide_eq_false (by omega)
   have e3:decide (d5=3)=false:=decide_eq_false (by omega)
   exact fin q c3 Ql p3 rX fun f6 f5=>by erw[f6,f2,f3,e0,e1,e2,e3,f5])
  ⟨[],none,none,none,rfl,m1,rfl,fun p hp=>(nomatch hp),p1,Kp.more.trans k1⟩
 obtain⟨σ',c',e,l,x,y,z,rfl,P⟩:=key
 have hr:cx (af (ax au [] (af (eV 0) (af (eC (.int 15)) ao))) ao) [some (.ref n),some (sd a),some (sd b),some (.ref c.length),none,none,none] (c++[.lst []])=some (⟨dI 0 d.toNat,[]⟩,c1):=nG (j:=d) (by erw[f1]) (by omega)
 have e0:=rN (g:=aL 4) (b:=Ij) hr
 rw[e]at e0
 have pl:=P.len
 rw[show(dI 0 d.toNat).length=d.toNat by simp[dI]]at pl
 refine⟨c.length,l,c',?_,Nat.le_refl _,P.at_,by omega,P.ok,P.JB,P.kp⟩
 rw[cZ,er,ik]
 erw[Nat.zero_le,e0]
theorem vk{cap:List (Option Nat)}{te:XE}{σ ρ:Qm.Env}{x:Option D}{c:Cells}{u v:Int}(hc:jS σ cap=x::ρ)(h0:∀c',te (some (.int 0)::ρ) c'=some (.int u,c'))(h1:∀c',te (some (.int 1)::ρ) c'=some (.int v,c')):
  ∃c',cR (cx (af (eC (.int 2)) ao)) cap (aL 0) eL te σ c=some (.ref c.length,c')∧c <+:c'∧c'[c.length]? =some (.lst [.int u,.int v]):=by
 have r:dI 0 (2:Int).toNat=[.int 0,.int 1]:=rfl
 have hr:cx (af (eC (.int 2)) ao) σ c=some (⟨[.int 0,.int 1],[]⟩,c):=by rw[←r];exact nG (j:=2) rfl (by decide)
 exact MF (fun d=>match d with|.int 0=>.int u|_=>.int v) hr hc d9 (fun d hd c' _=>by
  rcases List.mem_cons.mp hd with rfl|hd
  ·exact⟨[],by rw[h0,List.append_nil];rfl⟩
  ·cases List.mem_singleton.mp hd
   exact⟨[],by rw[h1,List.append_nil];rfl⟩) (by simp)
theorem ml{i j:Nat}{y z:Int}(h1:My.Bd i y)(h2:My.Bd j z)(h3:i≤5000:=by decide)(h4:j≤5000:=by decide):Qm.MulOk y z:=tU (h1.mono (by omega)) (h2.mono (by omega))
theorem pV{m:Nat}{u v:Int}{c:Cells}(h:c[m]? =some (.lst [.int u,.int v])):aA (.ref m) (.int 0) c=some (.int u,c)∧aA (.ref m) (.int 1) c=some (.int v,c):=by
 rw[gR,gR,bF h]
 exact⟨rfl,rfl⟩
theorem JC{p a b:T3}{c:Cells}(hp:Ok 80 p)(ha:Ok 80 a)(hb:Ok 80 b)(h:a≠b):∃(v:D) (c':Cells),bT [sd p,sd a,sd b] c=some (v,c')∧c <+:c'∧∀pE,lT v .bb pE=some (.bl (eZ p a b),pE):=by
 have m1:=hp.bw.mul ha.bw
 have m2:=m1.mul hb.bw
 have m3:=hp.bw.mul hb.bw
 have m4:=ha.bw.mul hb.bw
 have w1:p.2.2*a.2.2*b.2.2 / b.2.2=p.2.2*a.2.2:=Int.mul_ediv_cancel _ (by have:=hb.pos;omega)
 have w2:p.2.2*a.2.2*b.2.2 / a.2.2=p.2.2*b.2.2:=by
  rw[Int.mul_right_comm];exact Int.mul_ediv_cancel _ (by have:=ha.pos;omega)
 have w3:p.2.2*a.2.2*b.2.2 / p.2.2=a.2.2*b.2.2:=by
  rw[Int.mul_assoc];exact Int.mul_ediv_cancel_left _ (by have:=hp.pos;omega)
 have g1:=fun c=>jn (i:=p.2.2*a.2.2*b.2.2) (c:=c) hb.pos (hb.bw.mono (by decide))
 have g2:=fun c=>jn (i:=p.2.2*a.2.2*b.2.2) (c:=c) ha.pos (ha.bw.mono (by decide))
 have g3:=fun c=>jn (i:=p.2.2*a.2.2*b.2.2) (c:=c) hp.pos (hp.bw.mono (by decide))
 simp only[w1,w2,w3]at g1 g2 g3
 obtain⟨c1,e1,k1,q1⟩:=vk (c:=c) (te:=(e2 cp (e2 aH (e2 aA (eV 1) (eV 0)) (e2 dr (eV 2) (e2 aA (eV 1) (eC (.int 2))))) (e2 aH (e2 aA (eV 3) (eV 0)) (e2 dr (eV 2) (e2 aA (eV 3) (eC (.int 2))))))) (σ:=[some (sd p),some (sd a),some (sd b),some (.int (p.2.2*a.2.2*b.2.2)),none,none,none]) (cap:=[none,some 2,some 3,some 1]) (u:=(My.gQ p a b).1) (v:=(My.gQ p a b).2) rfl
  (fun c=>by erw[xU,lj,g1,g2,aG (ml hb.bx m1),aG (ml ha.bx m3)];rfl) (fun c=>by erw[xV,lj,g1,g2,aG (ml hb.dG m1),aG (ml ha.dG m3)];rfl)
 obtain⟨c2,e2,k2,q2⟩:=vk (c:=c1) (te:=(e2 cp (e2 aH (e2 aA (eV 1) (eV 0)) (e2 dr (eV 2) (e2 aA (eV 1) (eC (.int 2))))) (e2 aH (e2 aA (eV 3) (eV 0)) (e2 dr (eV 2) (e2 aA (eV 3) (eC (.int 2))))))) (σ:=[some (sd p),some (sd a),some (sd b),some (.int (p.2.2*a.2.2*b.2.2)),some (.ref c.length),none,none]) (cap:=[none,some 0,some 3,some 1]) (u:=(My.kd p a b).1) (v:=(My.kd p a b).2) rfl
  (fun c=>by erw[xU,lj,g2,g3,aG (ml hp.bx m4),aG (ml ha.bx m3)];rfl) (fun c=>by erw[xV,lj,g2,g3,aG (ml hp.dG m4),aG (ml ha.dG m3)];rfl)
 have b1:My.Bd 241 (My.gQ p a b).1:=(hb.bx.mul m1).sub (ha.bx.mul m3)
 have b2:My.Bd 241 (My.gQ p a b).2:=(hb.dG.mul m1).sub (ha.dG.mul m3)
 have b3:My.Bd 241 (My.kd p a b).1:=(hp.bx.mul m4).sub (ha.bx.mul m3)
 have b4:My.Bd 241 (My.kd p a b).2:=(hp.dG.mul m4).sub (ha.dG.mul m3)
 have fi:=My.E3 hp.fY ha.fY hb.fY h
 change eZ p a b=true↔_ at fi
 generalize My.gQ p a b=U at*
 generalize My.kd p a b=V at*
 obtain⟨x1,x2⟩:=pV (aV k2 q1)
 obtain⟨x3,x4⟩:=pV q2
 have F:=(b1.mul b3).add (b2.mul b4)
 by_cases t1:U.1*V.2=U.2*V.1
 ·by_cases t2: 0≤U.1*V.1+U.2*V.2
  ·by_cases t3:U.1*V.1+U.2*V.2≤U.1*U.1+U.2*U.2
   ·refine⟨.tup [.int ((U.1*V.1+U.2*V.2)*p.2.2),.int (p.2.2*a.2.2*b.2.2*(p.2.2*a.2.2*b.2.2))],c2,?_,k1.trans k2,fun pE=>?_⟩
    ·rw[bT,er,ei]
     erw[lj,aG (ml hp.bw ha.bw),aG (ml m1 hb.bw),e1,e2,x1,x2,x3,x4,aG (ml b1 b4),aG (ml b2 b3),aG (ml b1 b3),aG (ml b2 b4),aG (ml b1 b1),aG (ml b2 b2),decide_eq_true t1,decide_eq_true t2,decide_eq_true t3,aG (ml F hp.bw),aG (ml m2 m2)]
    ·rw[fi.mpr ⟨t1,t2,t3⟩];rfl
   ·refine⟨.bb,c2,?_,k1.trans k2,fun pE=>?_⟩
    ·rw[bT,er,ei]
     erw[lj,aG (ml hp.bw ha.bw),aG (ml m1 hb.bw),e1,e2,x1,x2,x3,x4,aG (ml b1 b4),aG (ml b2 b3),aG (ml b1 b3),aG (ml b2 b4),aG (ml b1 b1),aG (ml b2 b2),decide_eq_true t1,decide_eq_true t2,decide_eq_false t3]
    ·rw[show eZ p a b=false from Bool.eq_false_iff.mpr fun z=>t3 (fi.mp z).2.2];rfl
  ·refine⟨.bb,c2,?_,k1.trans k2,fun pE=>?_⟩
   ·rw[bT,er,ei]
    erw[lj,aG (ml hp.bw ha.bw),aG (ml m1 hb.bw),e1,e2,x1,x2,x3,x4,aG (ml b1 b4),aG (ml b2 b3),aG (ml b1 b3),aG (ml b2 b4),aG (ml b1 b1),aG (ml b2 b2),decide_eq_true t1,decide_eq_false t2]
   ·rw[show eZ p a b=false from Bool.eq_false_iff.mpr fun z=>t2 (fi.mp z).2.1];rfl
 ·refine⟨.bb,c2,?_,k1.trans k2,fun pE=>?_⟩
  ·rw[bT,er,ei]
   erw[lj,aG (ml hp.bw ha.bw),aG (ml m1 hb.bw),e1,e2,x1,x2,x3,x4,aG (ml b1 b4),aG (ml b2 b3),decide_eq_false t1]
  ·rw[show eZ p a b=false from Bool.eq_false_iff.mpr fun z=>t1 (fi.mp z).1];rfl
theorem gs:∀a b:List Int,bc a b=true→bc b a=false
 |[],[],_=>rfl
 |[],_::_,h=>by simp[bc]at h
 |_::_,[],_=>by simp[bc]
 |x::a,y::b,h=>by
  by_cases e:x=y
  ·subst e
   simp[bc]at h ⊢
   exact gs a b h
  ·simp[bc,e,Ne.symm e]at h ⊢
   omega
theorem kN:∀a b c:List Int,bc a b=false→bc b c=false→bc a c=false
 |[],_,[],_,_=>by simp[bc]
 |[],_,_::_,_,_=>by simp[bc]
 |_::_,[],_,h,_=>by simp[bc]at h
 |_::_,_::_,[],_,h=>by simp[bc]at h
 |x::a,y::b,z::c,h1,h2=>by
  by_cases e:x=y
  ·subst e
   by_cases e2:x=z
   ·subst e2
    simp[bc]at h1 h2 ⊢
    exact kN a b c h1 h2
   ·simp[bc,e2]at h1 h2 ⊢
    omega
  ·by_cases e2:y=z
   ·subst e2
    simp[bc,e]at h1 h2 ⊢
    omega
   ·simp[bc,e,e2]at h1 h2
    have e3:x≠z:=by omega
    simp[bc,e3]
    omega
theorem iX:∀a b:List Int,bc a b=false→bc b a=false→a=b
 |[],[],_,_=>rfl
 |[],_::_,_,h=>by simp[bc]at h
 |_::_,[],h,_=>by simp[bc]at h
 |x::a,y::b,h1,h2=>by
  by_cases e:x=y
  ·subst e
   simp[bc]at h1 h2
   rw[iX a b h1 h2]
  ·simp[bc,e,Ne.symm e]at h1 h2
   omega
theorem eS:∀{xs ys:List (List Int)},xs.Perm ys→xs.Pairwise (fun a b=>bc a b=false)→ys.Pairwise (fun a b=>bc a b=false)→xs=ys
 |[],_,p,_,_=>(List.nil_perm.mp p).symm
 |x::xs,[],p,_,_=>absurd p.length_eq (by simp)
 |x::xs,y::ys,p,h1,h2=>by
  have e:x=y:=by
   have m1:x∈y::ys:=p.subset List.mem_cons_self
   have m2:y∈x::xs:=p.symm.subset List.mem_cons_self
   rcases List.mem_cons.mp m1 with e|m1
   ·exact e
   rcases List.mem_cons.mp m2 with e|m2
   ·exact e.symm
   exact iX _ _ ((List.pairwise_cons.mp h1).1 _ m2) ((List.pairwise_cons.mp h2).1 _ m1)
  subst e
  rw[eS (List.Perm.cons_inv p) (List.pairwise_cons.mp h1).2 (List.pairwise_cons.mp h2).2]
theorem A3(ts:List (List Int)):(ts.mergeSort jm).Pairwise fun a b=>bc a b=false:=by
 have:=List.pairwise_mergeSort (le:=jm) (fun a b c h1 h2=>by
  unfold jm at*
  simp only[Bool.not_eq_true']at*
  exact kN a b c h1 h2) (fun a b=>by
  unfold jm
  simp only[Bool.or_eq_true,Bool.not_eq_true']
  cases h:bc a b with
  |false=>exact .inl rfl
  |true=>exact .inr (gs _ _ h)) ts
 exact this.imp fun h=>by
  unfold jm at h
  simpa only[Bool.not_eq_true']using h
theorem CB{ts us:List (List Int)}(p:ts.Perm us):ts.mergeSort jm=us.mergeSort jm:=
 eS ((List.mergeSort_perm ..).trans (p.trans (List.mergeSort_perm ..).symm)) (A3 ts) (A3 us)
theorem rY(x:List Int):∀(ks acc:List (List Int)),(ks.foldl (fun acc k=>if k∈acc then acc else k::acc) acc).length≤acc.length+ks.length
 |[],acc=>by simp
 |k::ks,acc=>by
  rw[List.foldl_cons]
  have:=rY x ks (if k∈acc then acc else k::acc)
  split at this
  ·rw[if_pos (by assumption)];simp only[List.length_cons];omega
  ·rw[if_neg (by assumption)];simp only[List.length_cons]at this ⊢;omega
theorem foldM_eq:∀(ks acc:List (List Int)),(ks.foldl (fun acc k=>if k∈acc then acc else k::acc) acc).length=acc.length+ks.length↔ks.Nodup∧∀k∈ks,k∉acc
 |[],acc=>by simp
 |k::ks,acc=>by
  rw[List.foldl_cons]
  by_cases h:k∈acc
  ·rw[if_pos h]
   have:=rY [] ks acc
   constructor
   ·intro e;simp only[List.length_cons]at e;omega
   ·rintro⟨_,g⟩;exact absurd h (g k List.mem_cons_self)
  ·rw[if_neg h]
   have ih:=foldM_eq ks (k::acc)
   simp only[List.length_cons]at ih ⊢
   rw[show acc.length+(ks.length+1)=acc.length+1+ks.length by omega,ih,List.nodup_cons]
   constructor
   ·rintro⟨g1,g2⟩
    refine⟨⟨fun hk=>g2 k hk List.mem_cons_self,g1⟩,fun x hx=>?_⟩
    rcases List.mem_cons.mp hx with rfl|hx
    ·exact h
    ·exact fun z=>g2 x hx (List.mem_cons_of_mem _ z)
   ·rintro⟨⟨g1,g2⟩,g3⟩
    refine⟨g2,fun x hx z=>?_⟩
    rcases List.mem_cons.mp z with rfl|z
    ·exact g1 hx
    ·exact g3 x (List.mem_cons_of_mem _ hx) z
def i5(p:T3):List Int:=[p.1,p.2.1,p.2.2]
theorem yc{p q:T3}(h:i5 p=i5 q):p=q:=by
 obtain⟨a,b,c⟩:=p
 obtain⟨x,y,z⟩:=q
 simpa[i5]using h
theorem yd(l:List T3):(Qm.nD (l.map i5)).length=l.length↔l.Nodup:=by
 have:=foldM_eq (l.map i5) []
 unfold Qm.nD
 simp only[List.length_nil,Nat.zero_add,List.length_map,List.not_mem_nil,not_false_eq_true,implies_true,and_true]at this
 rw[this,List.nodup_iff_pairwise_ne,List.nodup_iff_pairwise_ne,List.pairwise_map]
 exact⟨fun h=>h.imp fun g e=>g (by rw[e]),fun h=>h.imp fun g e=>g (yc e)⟩
theorem ua{c:Cells}{k n:Nat}{l:List D}(h:c[n]? =some (.lst l)):data c (k+1) (.ref n)=(omap (data c k) l).bind fun ds=>some (.list ds):=by
 simp only[data,h]
theorem ye{c:Cells}{k:Nat}:∀r:List Int,omap (data c (k+1)) (r.map D.int)=some (r.map PyData.int)
 |[]=>rfl
 |x::r=>by
  simp only[List.map_cons,omap,ye (c:=c) (k:=k) r]
  rfl
theorem ub{c:Cells}:∀rs:List (List Int),∃ds,omap (data c 5) (rs.map fun r=>D.tup (r.map .int))=some ds
 |[]=>⟨[],rfl⟩
 |r::rs=>by
  obtain⟨ds,h⟩:=ub (c:=c) rs
  have e:data c 5 (.tup (r.map .int))=some (.tuple (r.map PyData.int)):=by
   show(omap (data c 4) (r.map D.int)).bind (fun ds=>some (PyData.tuple ds))=_
   rw[ye (c:=c) (k:=3) r]
   rfl
  refine⟨.tuple (r.map PyData.int)::ds,?_⟩
  simp only[List.map_cons,omap,h,e,Option.bind_some]
theorem Ik{n:Nat}{l:List D}{c:Cells}(h:c[n]? =some (.lst l)):qH [.ref n] c=some (.ref c.length,c++[.lst l]):=by
 unfold qH one
 simp only[bF h,Option.bind_some]
theorem Qn{n:Nat}{l:List D}{c:Cells}(h:c[n]? =some (.lst l))(hn:l.length≤1000):gq [.ref n] c=some (.ref c.length,c++[.lst l.reverse]):=by
 unfold gq
 simp only[bS h,Option.bind_some]
 rw[if_pos (by rw[eO];omega)]
theorem Qo{n:Nat}{l:List D}{c:Cells}(h:c[n]? =some (.lst l)):gE [.ref n,.ty "list"] c=some (.bl true,c):=by
 simp[gE,uE,two,h]
theorem Fu:∀(ks acc:List (List Int)),acc.Nodup→(ks.foldl (fun acc k=>if k∈acc then acc else k::acc) acc).Nodup∧∀x,x∈ks.foldl (fun acc k=>if k∈acc then acc else k::acc) acc↔x∈acc∨x∈ks
 |[],acc,h=>⟨h,fun x=>by simp⟩
 |k::ks,acc,h=>by
  rw[List.foldl_cons]
  by_cases hk:k∈acc
  ·rw[if_pos hk]
   obtain⟨h1,h2⟩:=Fu ks acc h
   refine⟨h1,fun x=>?_⟩
   rw[h2,List.mem_cons]
   constructor
   ·rintro(z|z)
    ·exact .inl z
    ·exact .inr (.inr z)
   ·rintro(z|rfl|z)
    ·exact .inl z
    ·exact .inl hk
    ·exact .inr z
  ·rw[if_neg hk]
   obtain⟨h1,h2⟩:=Fu ks (k::acc) (List.nodup_cons.mpr ⟨hk,h⟩)
   refine⟨h1,fun x=>?_⟩
   rw[h2,List.mem_cons,List.mem_cons]
   constructor
   ·rintro((z|z)|z)
    ·exact .inr (.inl z)
    ·exact .inl z
    ·exact .inr (.inr z)
   ·rintro(z|z|z)
    ·exact .inl (.inr z)
    ·exact .inl (.inl z)
    ·exact .inr z
theorem CC{ys zs:List T3}(nd:ys.Nodup)(h:∀p,p∈ys↔p∈zs):(ys.map i5).Perm (Qm.nD (zs.map i5)):=by
 obtain⟨h1,h2⟩:=Fu (zs.map i5) [] .nil
 refine(List.perm_ext_iff_of_nodup ?_ h1).mpr fun x=>?_
 ·rw[List.nodup_iff_pairwise_ne]at nd ⊢
  rw[List.pairwise_map]
  exact nd.imp fun g e=>g (yc e)
 ·refine Iff.trans ?_ (h2 x).symm
  rw[List.mem_map,List.mem_map]
  constructor
  ·rintro⟨p,hp,e⟩;exact .inr ⟨p,(h p).mp hp,e⟩
  ·rintro(z|⟨p,hp,e⟩)
   ·cases z
   ·exact⟨p,(h p).mpr hp,e⟩
theorem zV(l:List T3):omap rowOf (l.map sd)=some (l.map i5):=kY (f:=rowOf) (g:=sd) (h:=i5) (fun a=>rfl) l
theorem ne3(l:List T3):(l.map i5).all (fun r=>!r.isEmpty)=true:=by
 rw[List.all_map]
 exact List.all_eq_true.mpr fun _ _=>rfl
theorem Il{xs:List T3}{n:Nat}{c:Cells}(h:c[n]? =some (.lst (xs.map sd)))(hn:xs.length<64):pT [.ref n] c=some (.ref c.length,c++[.lst (((xs.map i5).mergeSort jm).map fun r=>.tup (r.map .int))]):=by
 unfold pT one
 simp only[bS h,Option.bind_some,zV]
 rw[if_pos ⟨by simpa using hn,ne3 xs⟩]
theorem Im{xs:List T3}{n:Nat}{c:Cells}(h:c[n]? =some (.lst (xs.map sd)))(hn:xs.length≤60):kR [.ref n] c=some (.ref c.length,c++[.lst (((Qm.nD (xs.map i5)).mergeSort jm).map fun r=>.tup (r.map .int))]):=by
 unfold kR one
 simp only[bS h,Option.bind_some,zV]
 rw[if_pos ⟨by simpa using hn,ne3 xs⟩]
theorem MP{xs:List T3}{n:Nat}{c:Cells}(h:c[n]? =some (.lst (xs.map sd)))(hn:xs.length≤75):kQ [.ref n] c=some (.int (Qm.nD (xs.map i5)).length,c):=by
 unfold kQ one
 simp only[bS h,Option.bind_some,zV]
 rw[if_pos (by simpa using hn)]
theorem vm{c:Cells}{a b:Nat}{l:List D}(ha:c[a]? =some (.lst l))(hb:c[b]? =some (.lst l))(hd:∃ds,omap (data c 5) l=some ds):iS (.ref a) (.ref b) c=some (.bl false,c):=by
 obtain⟨ds,hd⟩:=hd
 have h1:data c 6 (.ref a)=some (.list ds):=by rw[ua ha,hd];rfl
 have h2:data c 6 (.ref b)=some (.list ds):=by rw[ua hb,hd];rfl
 unfold iS
 rw[show nZ (.ref a) (.ref b) c=(data c 6 (.ref a)).bind fun d=>(data c 6 (.ref b)).bind fun e=>some (@decide (d=e) (Classical.propDecidable _))from rfl,h1,h2]
 simp
theorem A4{c:Cells}(l:List T3):∃ds,omap (data c 5) (l.map sd)=some ds:=⟨_,kY (f:=data c 5) (g:=sd) (h:=pd) (fun _=>rH) l⟩
theorem oI{ks:List (Nat×Cell)}{tt:XT}{te:XE}{ρ:Qm.Env}{c:Cells}(hs:stays ks c)(b:T3→Bool):∀(l:List T3),
  (∀d∈l,∀c',c <+:c'→∃zs,tt (some (sd d)::ρ) c'=some (b d,c'++zs))→
  (∀d∈l,∀c',te (some (sd d)::ρ) c'=some (sd d,c'))→
  ∀(acc:List D) (zs:List Cell) (x:Option D),acc.length+l.length≤10000→∃lh,cW c.length ks (aL 0) tt te (l.map sd) (x::ρ) (c++.lst acc::zs)=some (c++.lst (acc++(l.filter b).map sd)::lh)
 |[],_,_,acc,zs,x,_=>by
  refine⟨zs,?_⟩
  have st:stays ks (c++.lst acc::zs):=fun p hp=>aV ⟨_,rfl⟩ (hs p hp)
  rw[List.map_nil]
  unfold cW
  rw[if_pos st]
  simp
 |d::l,ht,hv,acc,zs,x,hn=>by
  have st:stays ks (c++.lst acc::zs):=fun p hp=>aV ⟨_,rfl⟩ (hs p hp)
  obtain⟨ws,e1⟩:=ht d List.mem_cons_self (c++.lst acc::zs) ⟨_,rfl⟩
  rw[show c++.lst acc::zs++ws=c++.lst acc::(zs++ws)by simp]at e1
  have Fe:=fun d' hd=>ht d' (List.mem_cons_of_mem d hd)
  have Ff:=fun d' hd=>hv d' (List.mem_cons_of_mem d hd)
  rw[List.length_cons]at hn
  rw[List.map_cons]
  unfold cW
  rw[if_pos st]
  by_cases hb:b d=true
  ·have e2:=hv d List.mem_cons_self (c++.lst acc::(zs++ws))
   have e3:(c++.lst acc::(zs++ws))[c.length]? =some (.lst acc):=by simp
   have e4:(c++.lst acc::(zs++ws)).set c.length (.lst (acc++[sd d]))=c++.lst (acc++[sd d])::(zs++ws):=by simp
   obtain⟨lh,e5⟩:=oI hs b l Fe Ff (acc++[sd d]) (zs++ws) (some (sd d)) (by simp only[List.length_append,List.length_cons,List.length_nil];omega)
   refine⟨lh,?_⟩
   simp only[kU,List.set_cons_zero,Option.bind_some,e1,hb,if_true,e2,e3,e4]
   rw[if_pos (Nat.lt_of_lt_of_le (show acc.length<10000 by omega) (dD (Nat.le_refl _))),e5,List.filter_cons_of_pos hb]
   simp
  ·obtain⟨lh,e5⟩:=oI hs b l Fe Ff acc (zs++ws) (some (sd d)) (by omega)
   refine⟨lh,?_⟩
   have EO:b d=false:=by simpa using hb
   simp only[kU,List.set_cons_zero,Option.bind_some,e1,EO,Bool.false_eq_true,if_false]
   rw[e5,List.filter_cons_of_neg hb]
theorem MQ{it:XI}{cap:List (Option Nat)}{tt:XT}{te:XE}{σ ρ:Qm.Env}{x:Option D}{c:Cells}{l:List T3}{ks:List (Nat×Cell)}(b:T3→Bool)(hi:it σ c=some (⟨l.map sd,ks⟩,c))(hc:jS σ cap=x::ρ)(hs:stays ks c)
  (ht:∀d∈l,∀c',c <+:c'→∃zs,tt (some (sd d)::ρ) c'=some (b d,c'++zs))(hv:∀d∈l,∀c',te (some (sd d)::ρ) c'=some (sd d,c'))(hn:l.length≤1000):
  ∃c',cR it cap (aL 0) tt te σ c=some (.ref c.length,c')∧c <+:c'∧c'[c.length]? =some (.lst ((l.filter b).map sd)):=by
 obtain⟨zs,e⟩:=oI hs b l ht hv [] [] x (by simp;omega)
 refine⟨c++.lst ((l.filter b).map sd)::zs,?_,⟨_,rfl⟩,by simp⟩
 unfold cR
 rw[hi,Option.bind_some]
 dsimp only
 rw[hc,e]
 rfl
noncomputable abbrev Qp:XS:=(aB (wm (fW (af (e2 aA (eV 0) (e2 cp (eV 4) (eC (.int 1)))) (af (e2 aA (eV 0) (eV 4)) ao))) (p9 2 (ja (aL 5) (ja (aL 6) p8))))
   (aB (aI 7 (cR (cx (af (eC (.int 2)) ao)) [none,some 6,some 5] (aL 0) eL (e2 cp (e2 aH (e2 aA (eV 1) (eV 0)) (e2 aA (eV 2) (eC (.int 2)))) (e2 aH (e2 aA (eV 2) (eV 0)) (e2 aA (eV 1) (eC (.int 2)))))))
   (aB (aI 8 (cR (cx (af (eC (.int 2)) ao)) [none,some 3,some 2] (aL 0) eL (e2 cp (e2 aH (e2 aA (eV 1) (eV 0)) (e2 aA (eV 2) (eC (.int 2)))) (e2 aH (e2 aA (eV 2) (eV 0)) (e2 aA (eV 1) (eC (.int 2)))))))
   (cX (tV (e2 BD (e2 bA (e2 aH (e2 aA (eV 7) (eC (.int 0))) (e2 aA (eV 8) (eC (.int 0)))) (e2 aH (e2 aA (eV 7) (eC (.int 1))) (e2 aA (eV 8) (eC (.int 1))))) (eC (.int 0))))
   (bC (eC (.bl false)))
   bP))))
theorem Qq{f s:Nat}{a b:T3}{ys:List T3}{c:Cells}(ha:Ok 80 a)(hb:Ok 80 b)(oy:∀p∈ys,Ok 80 p)(hf:c[f]? =some (.lst (ys.map sd)))(hw:∀(i:Nat) x y,ys[i]? =some x→ys[i+1]? =some y→0<(y.1*x.2.2 - x.1*y.2.2)*(b.1*a.2.2 - a.1*b.2.2)+(y.2.1*x.2.2 - x.2.1*y.2.2)*(b.2.1*a.2.2 - a.2.1*b.2.2))(hn:ys.length≤60):
  ∃z4 z5 z6 z7 z8 c',dO (jL (af (eC (.int 1)) (af (eB cy (af (eV 0) ao)) ao))) (aL 4) Qp [some (.ref f),some (.ref s),some (sd a),some (sd b),none,none,none,none,none] c=some (.nx,[some (.ref f),some (.ref s),some (sd a),some (sd b),z4,z5,z6,z7,z8],c')∧c <+:c':=by
 have bl:=kj (e:=sd) hf
 have hr:jL (af (eC (.int 1)) (af (eB cy (af (eV 0) ao)) ao)) [some (.ref f),some (.ref s),some (sd a),some (sd b),none,none,none,none,none] c=some (⟨dI 1 ((ys.length:Int) - 1).toNat,[]⟩,c):=HV (i:=1) (j:=ys.length) (c':=c) (by erw[bl]) (by decide) (by omega)
 obtain⟨σ',c',e,z4,z5,z6,z7,z8,rfl,kk⟩:=de (ks:=[]) (g:=aL 4) (body:=Qp) (fun i σ c'=>∃z4 z5 z6 z7 z8,σ=[some (.ref f),some (.ref s),some (sd a),some (sd b),z4,z5,z6,z7,z8]∧c <+:c')
  (dI 1 ((ys.length:Int) - 1).toNat) 0 [some (.ref f),some (.ref s),some (sd a),some (sd b),none,none,none,none,none] c (fun _ _ _ _=>d9) (by
  rintro i dd σ c' hd ⟨z4,z5,z6,z7,z8,rfl,kk⟩
  obtain⟨hi,rfl⟩:=oH hd
  have h1:i<ys.length:=by omega
  have h2:i+1<ys.length:=by omega
  have gx:=List.getElem?_eq_getElem h1
  have gy:=List.getElem?_eq_getElem h2
  have ox:=oy _ (List.getElem_mem h1)
  have yf:=oy _ (List.getElem_mem h2)
  have XJ:=hw i _ _ gx gy
  generalize ys[i]=x at*
  generalize ys[i+1]=y at*
  have xl:=aV kk hf
  have g1:=i4 (i:=1+(i:Int) - 1) (j:=i) (p:=x) xl (.inl ⟨by omega,by omega,h1⟩) gx
  have g2:=i4 (i:=1+(i:Int)) (j:=i+1) (p:=y) xl (.inl ⟨by omega,by omega,h2⟩) gy
  obtain⟨c1,e1,k1,q1⟩:=vk (c:=c') (te:=(e2 cp (e2 aH (e2 aA (eV 1) (eV 0)) (e2 aA (eV 2) (eC (.int 2)))) (e2 aH (e2 aA (eV 2) (eV 0)) (e2 aA (eV 1) (eC (.int 2)))))) (σ:=[some (.ref f),some (.ref s),some (sd a),some (sd b),some (.int (1+i)),some (sd x),some (sd y),z7,z8]) (cap:=[none,some 6,some 5]) (u:=y.1*x.2.2 - x.1*y.2.2) (v:=y.2.1*x.2.2 - x.2.1*y.2.2) rfl
   (fun c=>by erw[xU,lj,aG (ml yf.bx ox.bw),aG (ml ox.bx yf.bw)]) (fun c=>by erw[xV,lj,aG (ml yf.dG ox.bw),aG (ml ox.dG yf.bw)])
  obtain⟨c2,e2,k2,q2⟩:=vk (c:=c1) (te:=(e2 cp (e2 aH (e2 aA (eV 1) (eV 0)) (e2 aA (eV 2) (eC (.int 2)))) (e2 aH (e2 aA (eV 2) (eV 0)) (e2 aA (eV 1) (eC (.int 2)))))) (σ:=[some (.ref f),some (.ref s),some (sd a),some (sd b),some (.int (1+i)),some (sd x),some (sd y),some (.ref c'.length),z8]) (cap:=[none,some 3,some 2]) (u:=b.1*a.2.2 - a.1*b.2.2) (v:=b.2.1*a.2.2 - a.2.1*b.2.2) rfl
   (fun c=>by erw[xU,lj,aG (ml hb.bx ha.bw),aG (ml ha.bx hb.bw)]) (fun c=>by erw[xV,lj,aG (ml hb.dG ha.bw),aG (ml ha.dG hb.bw)])
  have b1:=(yf.bx.mul ox.bw).sub (ox.bx.mul yf.bw)
  have b2:=(yf.dG.mul ox.bw).sub (ox.dG.mul yf.bw)
  have b3:=(hb.bx.mul ha.bw).sub (ha.bx.mul hb.bw)
  have b4:=(hb.dG.mul ha.bw).sub (ha.dG.mul hb.bw)
  generalize y.1*x.2.2 - x.1*y.2.2=X at*
  generalize y.2.1*x.2.2 - x.2.1*y.2.2=Y at*
  generalize b.1*a.2.2 - a.1*b.2.2=A at*
  generalize b.2.1*a.2.2 - a.2.1*b.2.2=B at*
  obtain⟨x1,x2⟩:=pV (aV k2 q1)
  obtain⟨x3,x4⟩:=pV q2
  have le:decide (X*A+Y*B≤0)=false:=decide_eq_false (by omega)
  refine⟨_,c',[some (.ref f),some (.ref s),some (sd a),some (sd b),some (.int (1+i)),some (sd x),some (sd y),some (.ref c'.length),some (.ref c1.length)],c2,rfl,?_,_,_,_,_,_,rfl,kk.trans (k1.trans k2)⟩
  erw[g1,g2,e1,e2,x1,x2,x3,x4,aG (ml b1 b3),aG (ml b2 b4),le])
  ⟨none,none,none,none,none,rfl,List.prefix_refl _⟩
 refine⟨z4,z5,z6,z7,z8,c',?_,kk⟩
 rw[rN hr]
 exact e
theorem Io{f s:Nat}{a b:T3}{ys ps:List T3}{c:Cells}(ha:Ok 80 a)(hb:Ok 80 b)(dQ:a≠b)(op:∀p∈ps,Ok 80 p)(hf:c[f]? =some (.lst (ys.map sd)))(hs:c[s]? =some (.lst (ps.map sd)))(nd:ys.Nodup)(hm:∀p,p∈ys↔p∈ps∧eZ p a b=true)(hw:∀(i:Nat) x y,ys[i]? =some x→ys[i+1]? =some y→0<(y.1*x.2.2 - x.1*y.2.2)*(b.1*a.2.2 - a.1*b.2.2)+(y.2.1*x.2.2 - x.2.1*y.2.2)*(b.2.1*a.2.2 - a.2.1*b.2.2))(hn:ys.length≤60)(wu:ps.length≤60):
  ∃c',cN [.ref f,.ref s,sd a,sd b] c=some (.bl true,c')∧c <+:c':=by
 have i1:=Qo hf
 have n1:=MP hf (by omega)
 have l1:=kj (e:=sd) hf
 have m1:(Qm.nD (ys.map i5)).length=ys.length:=(yd ys).mpr nd
 rw[m1]at n1
 have t1:=Il hf (by omega)
 have Qr:=bY (zs:=[.lst (((ys.map i5).mergeSort jm).map fun r=>.tup (r.map .int))]) hs
 have it:fX (eV 1) [some (.ref f),some (.ref s),some (sd a),some (sd b),none,none,none,none,none] (c++[.lst (((ys.map i5).mergeSort jm).map fun r=>.tup (r.map .int))])=some (⟨ps.map sd,[(s,.lst (ps.map sd))]⟩,_):=rK rfl Qr
 obtain⟨c2,e2,k2,q2⟩:=MQ (tt:=(tV (e2 lT (ax bT [] (af (eV 0) (af (eV 1) (af (eV 2) ao)))) (eC .bb)))) (te:=eV 0) (cap:=[none,some 2,some 3]) (x:=none) (ρ:=[some (sd a),some (sd b)]) (fun p=>eZ p a b) it rfl (fun p hp=>by cases List.mem_singleton.mp hp;exact Qr) (fun d hd c' _=>by
   obtain⟨v,c3,f1,⟨zs,rfl⟩,f3⟩:=JC (c:=c') (op d hd) ha hb dQ
   exact⟨zs,by erw[f1,f3]⟩) (fun d hd c'=>rfl) (by omega)
 have hl:(ps.filter fun p=>eZ p a b).length≤ps.length:=List.length_filter_le ..
 have t3:=Im q2 (by omega)
 have pm:(ys.map i5).Perm (Qm.nD ((ps.filter fun p=>eZ p a b).map i5)):=CC nd fun p=>by rw[hm,List.mem_filter]
 rw[←CB pm]at t3
 generalize hR:((ys.map i5).mergeSort jm).map (fun r=>D.tup (r.map .int))=R at*
 have q3:=vm (c:=c2++[.lst R]) (a:=c.length) (b:=c2.length) (l:=R) (bY (aV k2 bU)) bU (by rw[←hR];exact ub _)
 have kk:c <+:c2++[.lst R]:=(pre_app (List.prefix_refl c) |>.trans k2).trans ⟨_,rfl⟩
 obtain⟨z4,z5,z6,z7,z8,c',e4,k4⟩:=Qq (s:=s) ha hb (fun p hp=>op p ((hm p).mp hp).1) (aV kk hf) hw hn
 refine⟨c',?_,kk.trans k4⟩
 rw[cN,er,gj]
 erw[i1,n1,l1,t1,e2,t3,q3,e4]
def dir(a b x y:T3):Bool:=if My.cI a b=true then My.cI x y else My.cI y x
theorem Fv{a b x y:T3}(hx:My.cw x)(hy:My.cw y)(h:dir a b y x=false)(n:x≠y):dir a b x y=true:=by
 unfold dir at*
 split at h
 ·rw[if_pos (by assumption)]
  rcases My.vb hx hy with z|z|z
  ·exact z
  ·exact absurd z n
  ·rw[z]at h;cases h
 ·rw[if_neg (by assumption)]
  rcases My.vb hx hy with z|z|z
  ·rw[z]at h;cases h
  ·exact absurd z n
  ·exact z
theorem Ip{a b x y z:T3}(hx:My.cw x)(hy:My.cw y)(hz:My.cw z)(h:dir a b x y=true)(g:dir a b y z=true):dir a b x z=true:=by
 unfold dir at*
 split at h
 ·rename_i q
  rw[if_pos q]at g ⊢
  exact My.rE hx hy hz h g
 ·rename_i q
  rw[if_neg q]at g ⊢
  exact My.rE hz hy hx g h
theorem CD{a b x y:T3}(h:dir a b x y=true):dir a b y x=false:=by
 unfold dir at*
 split at h
 ·rename_i q
  rw[if_pos q]
  exact My.gu h
 ·rename_i q
  rw[if_neg q]
  exact My.gu h
theorem CF{a b x y:T3}(ha:My.cw a)(hb:My.cw b)(n:a≠b):dir b a x y=dir a b y x:=by
 unfold dir
 rcases My.vb ha hb with z|z|z
 ·rw[if_pos z,if_neg (by rw[My.gu z];decide)]
 ·exact absurd z n
 ·rw[if_pos z,if_neg (by rw[My.gu z];decide)]
theorem vn{a b:T3}:∀{l:List T3},iB (dir a b) l→l.Nodup→(∀p∈l,My.cw p)→l.Pairwise fun x y=>dir a b x y=true
 |[],_,_,_=>.nil
 |[x],_,_,_=>by simp
 |x::y::l,h,nd,ok=>by
  have ih:=vn (l:=y::l) h.2 (List.nodup_cons.mp nd).2 fun p hp=>ok p (List.mem_cons_of_mem _ hp)
  have hx:=ok x List.mem_cons_self
  have hy:=ok y (List.mem_cons_of_mem _ List.mem_cons_self)
  have h1:dir a b x y=true:=Fv hx hy h.1 fun e=>(List.nodup_cons.mp nd).1 (e ▸ List.mem_cons_self)
  refine List.pairwise_cons.mpr ⟨fun z hz=>?_,ih⟩
  rcases List.mem_cons.mp hz with rfl|hz
  ·exact h1
  ·exact Ip hx hy (ok z (List.mem_cons_of_mem _ (List.mem_cons_of_mem _ hz))) h1 ((List.pairwise_cons.mp ih).1 z hz)
theorem Qs{a b:T3}{ys:List T3}(ha:My.cw a)(hb:My.cw b)(n:a≠b)(ok:∀p∈ys,My.cw p)(on:∀p∈ys,eZ p a b=true)(pw:ys.Pairwise fun x y=>dir a b x y=true)(i:Nat)(x y:T3)(gx:ys[i]? =some x)(gy:ys[i+1]? =some y):
  0<(y.1*x.2.2 - x.1*y.2.2)*(b.1*a.2.2 - a.1*b.2.2)+(y.2.1*x.2.2 - x.2.1*y.2.2)*(b.2.1*a.2.2 - a.2.1*b.2.2):=by
 have mx:=List.mem_of_getElem? gx
 have my:=List.mem_of_getElem? gy
 have h:dir a b x y=true:=by
  obtain⟨h1,rfl⟩:=List.getElem?_eq_some_iff.mp gx
  obtain⟨h2,rfl⟩:=List.getElem?_eq_some_iff.mp gy
  exact List.pairwise_iff_getElem.mp pw i (i+1) h1 h2 (by omega)
 have hx:=ok x mx
 have hy:=ok y my
 unfold dir at h
 split at h
 ·rename_i q
  exact My.xK ha hb hx hy (on x mx) (on y my) q h
 ·rename_i q
  have q':My.cI b a=true:=by
   rcases My.vb ha hb with z|z|z
   ·exact absurd z q
   ·exact absurd z n
   ·exact z
  have:=My.xK hb ha hy hx ((My.kT hy ha hb).trans (on y my)) ((My.kT hx ha hb).trans (on x mx)) q' h
  have e:(y.1*x.2.2 - x.1*y.2.2)*(b.1*a.2.2 - a.1*b.2.2)+(y.2.1*x.2.2 - x.2.1*y.2.2)*(b.2.1*a.2.2 - a.2.1*b.2.2)=(x.1*y.2.2 - y.1*x.2.2)*(a.1*b.2.2 - b.1*a.2.2)+(x.2.1*y.2.2 - y.2.1*x.2.2)*(a.2.1*b.2.2 - b.2.1*a.2.2):=by grind
  rw[e]
  exact this
theorem MR{a b:T3}{ys zs:List T3}(ha:My.cw a)(hb:My.cw b)(n:a≠b)(nd:ys.Nodup)(Vm:zs.Nodup)(h:∀p,p∈zs↔p∈ys)(py:ys.Pairwise fun x y=>dir a b x y=true)(pz:zs.Pairwise fun x y=>dir b a x y=true):zs=ys.reverse:=by
 refine List.Perm.eq_of_pairwise (le:=fun x y=>dir b a x y=true) (fun x y _ _ h1 h2=>?_) pz ?_ ?_
 ·rw[CD h1]at h2;cases h2
 ·rw[List.pairwise_reverse]
  exact py.imp fun g=>by rw[CF ha hb n];exact g
 ·exact((List.perm_ext_iff_of_nodup Vm nd).mpr h).trans (List.reverse_perm ys).symm
theorem A5:∀{ys ps:List T3},ys.Nodup→(∀p∈ys,p∈ps)→ys.length≤ps.length
 |[],_,_,_=>Nat.zero_le _
 |y::ys,ps,nd,h=>by
  have hy:=h y List.mem_cons_self
  have hl:=List.length_erase_of_mem hy
  have hp:=List.length_pos_of_mem hy
  have:=A5 (ys:=ys) (ps:=ps.erase y) (List.nodup_cons.mp nd).2 fun p hp=>(List.mem_erase_of_ne (a:=p) (b:=y) fun e=>(List.nodup_cons.mp nd).1 (by rw[←e];exact hp)).mpr (h p (List.mem_cons_of_mem _ hp))
  rw[List.length_cons]
  omega
theorem fJ{a b:XS}{σ σ1:Qm.Env}{c c1:Cells}{r:Option (Fl×Qm.Env×Cells)}(h1:a σ c=some (.nx,σ1,c1))(h2:b σ1 c1=r):aB a b σ c=r:=by
 rw[zP,h1,Option.bind_some]
 exact h2
noncomputable abbrev MS:XS:=(aB (aI 9 (ax bp [] (af (eV 8) (af (fW (af (eV 3) (af (eV 4) ao))) ao))))
   (cX (p7 (jD (tV (eB gE (af (eV 9) (af (eC (.ty "bool")) ao))))) (p7 (tV (e2 iS (eV 9) (e2 lT (ax bT [] (af (eV 8) (af (eV 3) (af (eV 4) ao)))) (eC .bb)))) (tV (e2 iS (ax bp [] (af (eV 8) (af (fW (af (eV 4) (af (eV 3) ao))) ao))) (eV 9)))))
   (bC (eC (.bl false)))
   bP))
noncomputable abbrev yg(lt:Qm.bD)(bB:Nat):XS:=(aB (aI 2 (ax cF [] (af (eV 0) (af (e2 bA (eC (.int 1)) (eV 1)) ao))))
   (aB (aI 3 (ax a_ [] (af (eV 2) ao)))
   (aB (aI 4 (ax cG [] (af (ax a_ [] (af (eV 2) ao)) (af (h9 (af (eV 3) ao)) ao))))
   (aB (aI 5 (ax cZ [] (af (eV 2) (af (eV 3) (af (eV 4) ao)))))
   (aB (aI 6 (eB qH (af (eV 5) ao)))
   (aB (aI 7 (ax (cL lt bB) [] (af (fW (af (eV 3) (af (eV 4) ao))) (af (eV 5) ao))))
   (aB (cX (p7 (jD (tV (ax cN [] (af (eV 7) (af (eV 5) (af (eV 3) (af (eV 4) ao))))))) (tV (e2 iS (eV 5) (eV 6))))
   (bC (eC (.bl false)))
   bP)
   (aB (cX (tV (e2 iS (ax (cL lt bB) [] (af (fW (af (eV 4) (af (eV 3) ao))) (af (eV 5) ao))) (eB gq (af (eV 7) ao))))
   (bC (eC (.bl false)))
   bP)
   (dO (fX (eV 5)) (aL 8)
   MS)))))))))
def Keeps(lt:Qm.bD)(ns:List Int)(σ:Qm.Env)(c:Cells):Prop:=c[0]? =some (.ro (ns.map D.int))∧c[1]? =some (.tab lt.code lt.qual)∧∃x1 x2 x3 x4 x5 x6 x7 x8 x9,σ=[some (.ref 0),x1,x2,x3,x4,x5,x6,x7,x8,x9]
theorem vd{x:Bool}{c:Cells}:iS (.bl x) (.bl x) c=some (.bl false,c):=by
 unfold iS
 rw[show nZ (.bl x) (.bl x) c=some (x==x)from rfl]
 simp
theorem Vn{s k pl kp fo x8 x9:Option D}{a b:T3}{m:Nat}{ps:List T3}{c:Cells}(ha:Ok 80 a)(hb:Ok 80 b)(dQ:a≠b)(op:∀p∈ps,Ok 80 p)(hm:c[m]? =some (.lst (ps.map sd))):
  ∃z8 z9 c',dO (fX (eV 5)) (aL 8) MS [s,k,pl,some (sd a),some (sd b),some (.ref m),kp,fo,x8,x9] c=some (.nx,[s,k,pl,some (sd a),some (sd b),some (.ref m),kp,fo,z8,z9],c')∧c <+:c':=by
 have it:fX (eV 5) [s,k,pl,some (sd a),some (sd b),some (.ref m),kp,fo,x8,x9] c=some (⟨ps.map sd,[(m,.lst (ps.map sd))]⟩,c):=rK rfl hm
 obtain⟨σ',c',e,z8,z9,rfl,kk⟩:=de (ks:=[(m,.lst (ps.map sd))]) (g:=aL 8) (body:=MS) (fun _ σ c'=>∃z8 z9,σ=[s,k,pl,some (sd a),some (sd b),some (.ref m),kp,fo,z8,z9]∧c <+:c') (ps.map sd) 0 [s,k,pl,some (sd a),some (sd b),some (.ref m),kp,fo,x8,x9] c
  (by
   rintro i σ c' ⟨_,_,_,h⟩ p hp
   cases List.mem_singleton.mp hp
   exact aV h hm) (by
  rintro i d σ c' hd ⟨z8,z9,rfl,kk⟩
  rw[List.getElem?_map]at hd
  obtain⟨p,hp,rfl⟩:=Option.map_eq_some_iff.mp hd
  have o:=op p (List.mem_of_getElem? hp)
  have e1:=oD (c:=c') (o.mono (k:=1000) (by decide)) (ha.mono (k:=1000) (by decide)) (hb.mono (k:=1000) (by decide))
  obtain⟨v,c2,e2,k2,e3⟩:=JC (c:=c') o ha hb dQ
  have e4:=oD (c:=c2) (o.mono (k:=1000) (by decide)) (hb.mono (k:=1000) (by decide)) (ha.mono (k:=1000) (by decide))
  rw[show eZ p b a=eZ p a b from My.kT o.fY ha.fY hb.fY]at e4
  have e5:gE [.bl (eZ p a b),.ty "bool"] c'=some (.bl true,c'):=rfl
  refine⟨_,c',[s,k,pl,some (sd a),some (sd b),some (.ref m),kp,fo,some (sd p),some (.bl (eZ p a b))],c2,rfl,?_,_,_,rfl,kk.trans k2⟩
  have BZ:bp [sd p,.tup [sd a,sd b]] c'=some (.bl (eZ p a b),c'):=e1
  have Vo:bp [sd p,.tup [sd b,sd a]] c2=some (.bl (eZ p a b),c2):=e4
  have bq:(eZ p a b==eZ p a b)=true:=by simp
  erw[BZ,e5,e2,e3,vd,Vo,bq,Bool.not_true]) ⟨_,_,rfl,List.prefix_refl _⟩
 refine⟨z8,z9,c',?_,kk⟩
 rw[rN it]
 exact e
theorem MT{lt:Qm.bD}{bB:Nat}{ns:List Int}{k:Int}{x2 x3 x4 x5 x6 x7 x8 x9:Option D}{c:Cells}(k0: 0≤k)(k1:k<900)(h0:c[0]? =some (.ro (ns.map D.int)))(ht:c[1]? =some (.tab lt.code lt.qual)):
  ∃σ' c',yg lt bB [some (.ref 0),some (.int k),x2,x3,x4,x5,x6,x7,x8,x9] c=some (.nx,σ',c')∧Keeps lt ns σ' c':=by
 have Xb: 1<c.length:=(List.getElem?_eq_some_iff.mp ht).1
 obtain⟨u,v,f1,a0,b0⟩:=MC (k:=1+k) h0 (by omega) (by omega)
 have P1:cS c.length (c++[.lst [.int u,.int v]]):=⟨u,v,List.getElem?_concat_length,a0,b0⟩
 generalize Ll:c++[Cell.lst [.int u,.int v]]=c1 at f1 P1
 have z1:c1[0]? =some (.ro (ns.map D.int)):=by rw[←Ll];exact aV ⟨_,rfl⟩ h0
 have y1:c1[1]? =some (.tab lt.code lt.qual):=by rw[←Ll];exact aV ⟨_,rfl⟩ ht
 obtain⟨xa,ya,wa,c2,f2,s2,p2,k2⟩:=zR P1
 obtain⟨xb,yb,wb,c3,f3,s3,p3,k3⟩:=zR p2
 obtain⟨b,f4,o4,n4⟩:=Fd (K:=31) (p:=(xb,yb,wb)) (m:=c3.length) (l:=[(xa,ya,wa)]) (c:=c3++[.lst [sd (xa,ya,wa)]]) (by decide) s3 List.getElem?_concat_length (by simp)
 have Vp:a_ [.ref c.length] c1=some (sd (xa,ya,wa),c2):=f2
 have Vq:a_ [.ref c.length] c2=some (sd (xb,yb,wb),c3):=f3
 have oa:Ok 31 (xa,ya,wa):=s2
 generalize (xa,ya,wa)=a at*
 generalize (xb,yb,wb)=b' at*
 have dQ:a≠b:=fun e=>n4 (by rw[e];simp)
 obtain⟨m,ps,c5,f5,l5,g5,n5,CG,p5,k5⟩:=MO oa o4 (p3.more (zs:=[.lst [sd a]]))
 have A8:Ok 80 a:=oa.mono (by decide)
 have B8:Ok 80 b:=o4.mono (by decide)
 have A1:Ok 1000 a:=oa.mono (by decide)
 have B1:Ok 1000 b:=o4.mono (by decide)
 have Qt:Kp c.length c1 c5:=k2.trans (k3.trans (Kp.more.trans k5))
 have y5:=Qt.get y1 (by omega)
 have f6:=Ik g5
 obtain⟨n,ys,c7,f7,k7,l7,g7,Iq,m7,Vr⟩:=A0 (bB:=bB) A1 B1 (bY (zs:=[.lst (ps.map sd)]) y5) (bY g5) (fun p hp=>(CG p hp).mono (by decide)) (by omega)
 have oy:∀p∈ys,Ok 80 p:=fun p hp=>CG p ((m7 p).mp hp).1
 have Qu:=vn (a:=a) (b:=b) Vr Iq fun p hp=>(oy p hp).fY
 have ly:ys.length≤ps.length:=by
  exact A5 Iq fun p hp=>((m7 p).mp hp).1
 obtain⟨c8,f8,k8⟩:=Io (s:=m) A8 B8 dQ CG g7 (aV k7 (bY g5)) Iq m7 (Qs A8.fY B8.fY dQ (fun p hp=>(oy p hp).fY) (fun p hp=>((m7 p).mp hp).2) Qu) (by omega) (by omega)
 have Ir:=k7.trans k8
 have g8:=aV Ir (bY (zs:=[.lst (ps.map sd)]) g5)
 have e8:=vm (c:=c8) g8 (aV Ir (bU (c:=c5) (z:=.lst (ps.map sd)))) (A4 ps)
 obtain⟨n2,zs,c9,f9,k9,l9,g9,Qv,m9,Vs⟩:=A0 (bB:=bB) B1 A1 (aV Ir (bY (zs:=[.lst (ps.map sd)]) y5)) g8 (fun p hp=>(CG p hp).mono (by decide)) (by omega)
 have mz:∀p,p∈zs↔p∈ys:=fun p=>by
  rw[m9,m7]
  refine and_congr_right fun hp=>?_
  rw[show eZ p b a=eZ p a b from My.kT (CG p hp).fY A8.fY B8.fY]
 have Vt:=vn (a:=b) (b:=a) Vs Qv fun p hp=>(oy p ((mz p).mp hp)).fY
 have ez:=MR A8.fY B8.fY dQ Iq Qv mz Qu Vt
 have zW:=Qn (aV (k8.trans k9) g7) (by rw[List.length_map];omega)
 rw[←List.map_reverse,←ez]at zW
 have Vu:=vm (c:=c9++[.lst (zs.map sd)]) (a:=n2) (b:=c9.length) (bY g9) bU (A4 zs)
 obtain⟨z8,z9,CI,CJ,Fw⟩:=Vn (s:=some (.ref 0)) (k:=some (.int k)) (pl:=some (.ref c.length)) (kp:=some (.ref c5.length)) (fo:=some (.ref n)) (x8:=x8) (x9:=x9) A8 B8 dQ CG (bY (zs:=[.lst (zs.map sd)]) (aV k9 g8))
 have kE:c5 <+:CI:=(pre_app (List.prefix_refl c5)).trans (Ir.trans (k9.trans ((pre_app (List.prefix_refl c9)).trans Fw)))
 refine⟨[some (.ref 0),some (.int k),some (.ref c.length),some (sd a),some (sd b),some (.ref m),some (.ref c5.length),some (.ref n),z8,z9],CI,?_,aV kE (Qt.get z1 (by omega)),aV kE y5,_,_,_,_,_,_,_,_,_,rfl⟩
 have Vv:cL lt bB [.tup [sd a,sd b],.ref m] (c5++[.lst (ps.map sd)])=some (.ref n,c7):=f7
 have Vw:cL lt bB [.tup [sd b,sd a],.ref m] c8=some (.ref n2,c9):=f9
 refine fJ (σ1:=[some (.ref 0),some (.int k),some (.ref c.length),x3,x4,x5,x6,x7,x8,x9]) (c1:=c1) (by erw[f1]) ?_
 refine fJ (σ1:=[some (.ref 0),some (.int k),some (.ref c.length),some (sd a),x4,x5,x6,x7,x8,x9]) (c1:=c2) (by erw[Vp]) ?_
 refine fJ (σ1:=[some (.ref 0),some (.int k),some (.ref c.length),some (sd a),some (sd b),x5,x6,x7,x8,x9]) (c1:=c3++[.lst [sd a]]) (by erw[Vq,f4]) ?_
 refine fJ (σ1:=[some (.ref 0),some (.int k),some (.ref c.length),some (sd a),some (sd b),some (.ref m),x6,x7,x8,x9]) (c1:=c5) (by erw[f5]) ?_
 refine fJ (σ1:=[some (.ref 0),some (.int k),some (.ref c.length),some (sd a),some (sd b),some (.ref m),some (.ref c5.length),x7,x8,x9]) (c1:=c5++[.lst (ps.map sd)]) (by erw[f6]) ?_
 refine fJ (σ1:=[some (.ref 0),some (.int k),some (.ref c.length),some (sd a),some (sd b),some (.ref m),some (.ref c5.length),some (.ref n),x8,x9]) (c1:=c7) (by erw[Vv]) ?_
 refine fJ (σ1:=[some (.ref 0),some (.int k),some (.ref c.length),some (sd a),some (sd b),some (.ref m),some (.ref c5.length),some (.ref n),x8,x9]) (c1:=c8) (by erw[f8,e8]) ?_
 refine fJ (σ1:=[some (.ref 0),some (.int k),some (.ref c.length),some (sd a),some (sd b),some (.ref m),some (.ref c5.length),some (.ref n),x8,x9]) (c1:=c9++[.lst (zs.map sd)]) (by erw[Vw,zW,Vu]) ?_
 exact CJ
noncomputable abbrev JD(lt:Qm.bD)(bB:Nat):XS:=(aB (dO (cx (af (eB n8 (af (eC (.int 1)) (af (eB cy (af (zd lA (eV 0) (fP (eC (.int 1))) (fP (eC (.int 11)))) ao)) ao))) ao)) (aL 1) (yg lt bB)) (bC (eC (.bl true))))
theorem CK(lt:Qm.bD)(bB:Nat):ve lt bB=JD lt bB:=rfl
theorem CL(lt:Qm.bD)(bB:Nat)(ns:List Int)(h:ns.length≤63):∃c,kg lt bB [.ref 0] [.ro (ns.map Qm.D.int),.tab lt.code lt.qual]=some (.bl true,c):=by
 have key:=de (ks:=[]) (g:=aL 1) (body:=yg lt bB) (fun _ σ c=>Keeps lt ns σ c)
 have cl:(Qm.cutD (ns.map D.int) (some 1) (some 11)).length≤63:=by
  unfold Qm.cutD
  rw[List.length_take,List.length_drop,List.length_map]
  omega
 generalize Qw:Qm.cutD (ns.map D.int) (some 1) (some 11)=cut at cl
 have h0:([Cell.ro (ns.map D.int),.tab lt.code lt.qual]:Cells)[0]? =some (.ro (ns.map D.int)):=rfl
 have h1:([Cell.ro (ns.map D.int),.tab lt.code lt.qual]:Cells)[1]? =some (.tab lt.code lt.qual):=rfl
 generalize Qh:([Cell.ro (ns.map D.int),.tab lt.code lt.qual]:Cells)=c0 at h0 h1
 have hs:bM (.ref c0.length) (c0++[.lst cut])=some cut:=bF List.getElem?_concat_length
 have hr:(cx (af (eB n8 (af (eC (.int 1)) (af (eB cy (af (zd lA (eV 0) (fP (eC (.int 1))) (fP (eC (.int 11)))) ao)) ao))) ao)) [some (.ref 0),none,none,none,none,none,none,none,none,none] c0=some (⟨dI 0 (if (cut.length:Int) > 1 then(cut.length:Int)else 1).toNat,[]⟩,c0++[.lst cut]):=by
  refine nG (j:=if (cut.length:Int) > 1 then(cut.length:Int)else 1) ?_ (by split<;>omega)
  erw[AY,Cq,tX h0,Qw,oC,hs]
 obtain⟨σ',c',e,K⟩:=key (dI 0 (if (cut.length:Int) > 1 then(cut.length:Int)else 1).toNat) 0 [some (.ref 0),none,none,none,none,none,none,none,none,none] (c0++[.lst cut]) (fun _ _ _ _=>d9) (by
  rintro i d σ c hd ⟨z,y,x1,x2,x3,x4,x5,x6,x7,x8,x9,rfl⟩
  obtain⟨hi,rfl⟩:=oH hd
  have wy:i<63:=by split at hi<;>omega
  obtain⟨σ',c',e,K⟩:=MT (bB:=bB) (x2:=x2) (x3:=x3) (x4:=x4) (x5:=x5) (x6:=x6) (x7:=x7) (x8:=x8) (x9:=x9) (k:=0+i) (by omega) (by omega) z y
  exact⟨_,c,σ',c',rfl,e,K⟩) ⟨aV ⟨_,rfl⟩ h0,aV ⟨_,rfl⟩ h1,none,none,none,none,none,none,none,none,none,rfl⟩
 refine⟨c',?_⟩
 have e0:dO (cx (af (eB n8 (af (eC (.int 1)) (af (eB cy (af (zd lA (eV 0) (fP (eC (.int 1))) (fP (eC (.int 11)))) ao)) ao))) ao)) (aL 1) (yg lt bB) [some (.ref 0),none,none,none,none,none,none,none,none,none] c0=some (.nx,σ',c'):=by
  unfold dO
  rw[hr,Option.bind_some]
  exact e
 generalize hE:dO _ (aL 1) (yg lt bB)=EE at e0
 rw[kg,er,CK,JD,hE]
 erw[e0]
end xO
set_option maxHeartbeats 4000000
namespace xO
open PySem L2
def top(i:Nat):Stmt:=PySem.Challenge.pw_sheetlay_k16_spots_along_a_side.main.body.getD i (.Pass ⟨0,0,0,0⟩)
def iq(c:Nat):Qm.bD:=⟨LD (top 12) (rD (top 12)),LF (rD (top 12)),uV (top 12) (rD (top 12)),("along":Str)++".<locals>."++"<lambda>",c,LG (rD (top 12)),[]⟩
set_option genInjectivity false in
structure Qx where
 tc:Addr
 tp:Addr
 kl:Addr
 km:FuncData
 cO:Addr
 rZ:FuncData
 lY:Addr
 lZ:FuncData
 vo:Addr
 vp:FuncData
 vq:Addr
 vt:FuncData
 oJ:Addr
 oK:FuncData
 fT:Addr
 fU:FuncData
 kn:Addr
 ko:FuncData
 l_:Addr
 me:FuncData
 mf:Addr
 mh:FuncData
 r8:Addr
 r_:FuncData
 kr:Addr
 ku:FuncData
 js:Addr
 jt:FuncData
 ju:Addr
 jv:FuncData
 jw:Addr
 jx:FuncData
 iC:Addr
 iD:FuncData
 iE:Addr
 iF:FuncData
 kx:Addr
 ky:FuncData
 iG:Addr
 iH:FuncData
 gT:Addr
 gU:FuncData
 kz:Addr
 kA:FuncData
 mi:Addr
 mj:FuncData
 jy:Addr
 jz:FuncData
 zX:Addr
 se:FuncData
structure Txt(K:PySem.W.Frag)(mg:Str→Option Value)(t:Qx):Prop where
 tn:K.lookup t.tp=none
 th:PySem.W.codeHdIn K t.tc t.tp=true
 dE:d7 K "is_below" "is_below" (top 1) t.kl t.km
 yh:mg "is_below" =some (.ref t.kl)
 yi:Binds K t.km ["p","q"] []
 bE:d7 K "ahead" "ahead" (top 2) t.cO t.rZ
 i6:mg "ahead" =some (.ref t.cO)
 i7:Binds K t.rZ ["p","q"] []
 d_:d7 K "crossed" "crossed" (top 3) t.lY t.lZ
 zY:mg "crossed" =some (.ref t.lY)
 zZ:Binds K t.lZ ["p","q"] []
 gf:d7 K "sign" "sign" (top 4) t.vo t.vp
 Iu:mg "sign" =some (.ref t.vo)
 Iv:Binds K t.vp ["n"] []
 jq:d7 K "turn" "turn" (top 5) t.vq t.vt
 Iw:mg "turn" =some (.ref t.vq)
 Iy:Binds K t.vt ["a","b","c"] []
 eu:d7 K "merged" "merged" (top 6) t.oJ t.oK
 CM:mg "merged" =some (.ref t.oJ)
 CN:Binds K t.oK ["left","right","first"] []
 bJ:d7 K "merged_pairs" "merged_pairs" (top 7) t.fT t.fU
 pH:mg "merged_pairs" =some (.ref t.fT)
 pI:Binds K t.fU ["runs","first"] []
 cE:d7 K "in_order" "in_order" (top 8) t.kn t.ko
 o8:mg "in_order" =some (.ref t.kn)
 o9:Binds K t.ko ["some","first"] []
 dF:d7 K "forward" "forward" (top 10) t.l_ t.me
 z0:mg "forward" =some (.ref t.l_)
 z3:Binds K t.me ["side"] []
 bp:d7 K "on_side" "on_side" (top 11) t.mf t.mh
 mm:mg "on_side" =some (.ref t.mf)
 mn:Binds K t.mh ["p","side"] []
 cL:tL K "along" "along" (top 12) t.r8 t.r_ t.tc
 yj:mg "along" =some (.ref t.r8)
 yk:Binds K t.r_ ["side","some"] []
 cF:d7 K "_law_pool" "_law_pool" (top 14) t.kr t.ku
 ym:mg "_law_pool" =some (.ref t.kr)
 yn:Binds K t.ku ["_law_script","_law_k"] []
 au:d7 K "_law_digit" "_law_digit" (top 15) t.js t.jt
 aS:mg "_law_digit" =some (.ref t.js)
 aT:Binds K t.jt ["_law_pool_here","_law_many"] []
 bK:d7 K "_law_drawn" "_law_drawn" (top 16) t.ju t.jv
 nK:mg "_law_drawn" =some (.ref t.ju)
 nM:Binds K t.jv ["_law_pool_here"] []
 cM:d7 K "_law_below" "_law_below" (top 17) t.jw t.jx
 vv:mg "_law_below" =some (.ref t.jw)
 vw:Binds K t.jx ["_law_pool_here"] []
 cj:d7 K "_law_shared" "_law_shared" (top 18) t.iC t.iD
 lG:mg "_law_shared" =some (.ref t.iC)
 lH:Binds K t.iD ["_law_a","_law_b"] []
 aN:d7 K "_law_lowest" "_law_lowest" (top 19) t.iE t.iF
 dS:mg "_law_lowest" =some (.ref t.iE)
 dW:Binds K t.iF ["_law_x","_law_y","_law_w"] []
 a_:d7 K "_law_spot" "_law_spot" (top 20) t.kx t.ky
 kB:mg "_law_spot" =some (.ref t.kx)
 kC:Binds K t.ky ["_law_pool_here"] []
 cG:d7 K "_law_unlike" "_law_unlike" (top 21) t.iG t.iH
 sP:mg "_law_unlike" =some (.ref t.iG)
 sQ:Binds K t.iH ["_law_p","_law_some_here"] []
 cu:d7 K "_law_between" "_law_between" (top 22) t.gT t.gU
 sf:mg "_law_between" =some (.ref t.gT)
 sh:Binds K t.gU ["_law_pool_here","_law_a","_law_b"] []
 cZ:d7 K "_law_some" "_law_some" (top 23) t.kz t.kA
 yo:mg "_law_some" =some (.ref t.kz)
 yp:Binds K t.kA ["_law_pool_here","_law_a","_law_b"] []
 bT:d7 K "_law_far" "_law_far" (top 24) t.mi t.mj
 si:mg "_law_far" =some (.ref t.mi)
 sj:Binds K t.mj ["_law_p","_law_a","_law_b"] []
 cN:d7 K "_law_right" "_law_right" (top 25) t.jy t.jz
 vx:mg "_law_right" =some (.ref t.jy)
 vy:Binds K t.jz ["_law_found","_law_some_here","_law_a","_law_b"] []
 kg:d7 K "law" "law" (top 26) t.zX t.se
 MU:mg "law" =some (.ref t.zX)
 Vx:Binds K t.se ["_law_script"] []
 kD:mg "abs" =none
 nN:mg "bool" =none
 oM:mg "int" =none
 di:mg "isinstance" =none
 dw:mg "len" =none
 gk:mg "list" =none
 sk:mg "max" =none
 cP:mg "range" =none
 fK:mg "reversed" =none
 oN:mg "set" =none
 gv:mg "sorted" =none
section
open L2.Zu
variable{P:Program}{w:World}{K:PySem.W.Frag}{mg:Str→Option Value}{base:Heap}{t:Qx}
theorem vz:aZ ["p","q"] ["p","q"] (ar (top 1)):=⟨rfl,rfl,rfl,by decide +kernel,rfl,by decide +kernel,by decide +kernel⟩
theorem vA(T:Txt K mg t):bL P w K mg base cQ 1 t.kl t.km ["p","q"] (dv K dE):=by
 refine T.dE.fR (n:=2) (m:=2) (B:=ij) vz rfl rfl (by decide) rfl fun cf A outer s H E hr=>?_
 unfold ij
 exact(aw (aQ (kJ lN lV (av az aC (aj (ae 0 (pv 0)) ai (fun _ _=>rfl)) (aj (ae 1 (pv 1)) ai (fun _ _=>rfl))) (av az aC (aj (ae 1 (pv 1)) ai (fun _ _=>rfl)) (aj (ae 0 (pv 0)) ai (fun _ _=>rfl))) (aY _))))
theorem oO:aZ ["p","q","one","other"] ["p","q"] (ar (top 2)):=⟨rfl,rfl,rfl,by decide +kernel,rfl,by decide +kernel,by decide +kernel⟩
theorem gw(T:Txt K mg t):bL P w K mg base cQ 2 t.cO t.rZ ["p","q"] (dv K bE):=by
 refine T.bE.fR (n:=2) (m:=4) (B:=ke) oO rfl rfl (by decide) rfl fun cf A outer s H E hr=>?_
 unfold ke
 exact(aq (aK (i:=2) oO.nd rfl (Or.inl rfl) (av az aC (aj (ae 0 (pv 0)) ai (fun _ _=>rfl)) (aj (ae 1 (pv 1)) ai (fun _ _=>rfl))))
   (aq (aK (i:=3) oO.nd rfl (Or.inl rfl) (av az aC (aj (ae 1 (pv 1)) ai (fun _ _=>rfl)) (aj (ae 0 (pv 0)) ai (fun _ _=>rfl))))
   (aq (bZ (bt (dY hr.units) fS (ae 2 (pv 2)) (ae 3 (pv 3)) (aY _)) (aw (aQ (ay [] (vA T) (hr.mono (by decide)) (by rfl) T.yh T.dE.kp T.yi .nil (fun _ _ _=>.nil) (ag (ae 0 (pv 0)) (ag (ae 1 (pv 1)) ak))))) bf)
   (aw (aQ (kJ lN lV (ae 2 (pv 2)) (ae 3 (pv 3)) (aY _)))))))
theorem yq:aZ ["p","q"] ["p","q"] (ar (top 3)):=⟨rfl,rfl,rfl,by decide +kernel,rfl,by decide +kernel,by decide +kernel⟩
theorem yr(T:Txt K mg t):bL P w K mg base cQ 1 t.lY t.lZ ["p","q"] (dv K d_):=by
 refine T.d_.fR (n:=2) (m:=2) (B:=jo) yq rfl rfl (by decide) rfl fun cf A outer s H E hr=>?_
 unfold jo
 exact(aw (aQ (gc (ag (av b_ cg (av az aC (aj (ae 0 (pv 0)) ai (fun _ _=>rfl)) (aj (ae 1 (pv 1)) ai (fun _ _=>rfl))) (av az aC (aj (ae 0 (pv 0)) ai (fun _ _=>rfl)) (aj (ae 1 (pv 1)) ai (fun _ _=>rfl)))) (ag (av b_ cg (av az aC (aj (ae 0 (pv 0)) ai (fun _ _=>rfl)) (aj (ae 1 (pv 1)) ai (fun _ _=>rfl))) (av az aC (aj (ae 0 (pv 0)) ai (fun _ _=>rfl)) (aj (ae 1 (pv 1)) ai (fun _ _=>rfl)))) (ag (av b_ cg (av az aC (aj (ae 0 (pv 0)) ai (fun _ _=>rfl)) (aj (ae 1 (pv 1)) ai (fun _ _=>rfl))) (av az aC (aj (ae 0 (pv 0)) ai (fun _ _=>rfl)) (aj (ae 1 (pv 1)) ai (fun _ _=>rfl)))) ak))))))
theorem Fx:aZ ["n"] ["n"] (ar (top 4)):=⟨rfl,rfl,rfl,by decide +kernel,rfl,by decide +kernel,by decide +kernel⟩
theorem Fy(T:Txt K mg t):bL P w K mg base cQ 1 t.vo t.vp ["n"] (dv K gf):=by
 refine T.gf.fR (n:=1) (m:=1) (B:=kW) Fx rfl rfl (by decide) rfl fun cf A outer s H E hr=>?_
 unfold kW
 exact(aq (bZ (bt qc qM (ae 0 (pv 0)) ai (aY _)) (aw (aQ ai)) bf)
   (aq (bZ (bt lN lV (ae 0 (pv 0)) ai (aY _)) (aw (aQ (Ax ai))) bf)
   (aw (aQ ai))))
theorem yt:aZ ["a","b","c","row"] ["a","b","c"] (ar (top 5)):=⟨rfl,rfl,rfl,by decide +kernel,rfl,by decide +kernel,by decide +kernel⟩
theorem Fz(T:Txt K mg t):bL P w K mg base cQ 2 t.vq t.vt ["a","b","c"] (dv K jq):=by
 refine T.jq.fR (n:=3) (m:=4) (B:=pU) yt rfl rfl (by decide) rfl fun cf A outer s H E hr=>?_
 unfold pU
 exact(aq (aK (i:=3) yt.nd rfl (Or.inl rfl) (ay [] (yr T) (hr.mono (by decide)) (by rfl) T.zY T.d_.kp T.zZ .nil (fun _ _ _=>.nil) (ag (ae 0 (pv 0)) (ag (ae 1 (pv 1)) ak))))
   (aw (aQ (ay [] (Fy T) (hr.mono (by decide)) (by rfl) T.Iu T.gf.kp T.Iv .nil (fun _ _ _=>.nil) (ag (av bh bG (av bh bG (av az aC (aj (ae 3 (pv 3)) ai (fun _ _=>rfl)) (aj (ae 2 (pv 2)) ai (fun _ _=>rfl))) (av az aC (aj (ae 3 (pv 3)) ai (fun _ _=>rfl)) (aj (ae 2 (pv 2)) ai (fun _ _=>rfl)))) (av az aC (aj (ae 3 (pv 3)) ai (fun _ _=>rfl)) (aj (ae 2 (pv 2)) ai (fun _ _=>rfl)))) ak)))))
theorem yu:∀y∈(uV (top 12) (rD (top 12))).names,y.2=NameKind.free→y.1∈([]:List Str):=by decide +kernel
theorem FA:∀x∈(["p","q"]:List Str),(uV (top 12) (rD (top 12))).names.lookup x=some NameKind.local:=by decide +kernel
theorem FC:∀y∈(uV (top 12) (rD (top 12))).names,y.2≠NameKind.cell:=by decide +kernel
theorem FD{c:Nat}:tJ ["p","q"] ["p","q"] (iq c):=⟨rfl,rfl,rfl,by decide +kernel,rfl,FA,xH,FC,fun x h=>yu (x,.free) (PySem.mem_of_lookup h) rfl,fun _ _ _ _ us hl=>match us,hl with|[_,_],_=>rfl⟩
theorem FE(T:Txt K mg t):uT P w K mg base 3 (iq t.tc) jr:=by
 refine Hc (N:=["p","q"]) (ps:=["p","q"]) FD rfl fun f c' bX A outer s H hr=>?_
 exact(ay [] (gw T) (hr.mono (by decide)) (by rfl) T.i6 T.bE.kp T.i7 .nil (fun _ _ _=>.nil) (ag (ae 1 (pv 1)) (ag (ae 0 (pv 0)) ak)))
theorem gW:aZ ["left","right","first","row","k","thing"] ["left","right","first"] (ar (top 6)):=⟨rfl,rfl,rfl,by decide +kernel,rfl,by decide +kernel,by decide +kernel⟩
theorem z_(T:Txt K mg t):bL P w K mg base cQ 4 t.oJ t.oK ["left","right","first"] (dv K (eu (iq t.tc) t.cO)):=by
 refine T.eu.fR (n:=3) (m:=6) (B:=(kX (iq t.tc) t.cO)) gW rfl rfl (by decide) rfl fun cf A outer s H E hr=>?_
 unfold kX
 exact(aq (aK (i:=3) gW.nd rfl (Or.inl rfl) (gd ak))
   (aq (aK (i:=4) gW.nd rfl (Or.inl rfl) ai)
   (aq (ib PassesOwn.never rfl (jX (ae 1 (pv 1))) (cq (i:=5) gW.nd rfl (Or.inl rfl)) (aq (oe PassesOwn.never (PW.pt (AB (bt lN lV (ae 4 (pv 4)) (bz bu dN (by rfl) T.dw dM (ag (ae 0 (pv 0)) ak)) (aY _)) (wq (m_ (jf (BX _ _ (BW (gw T) (hr.mono (by decide)) T.bE.kp T.i7 En) (Ho (FE T) (hr.mono (by decide))) (ae 2 (pv 2)) (ag (ae 5 (pv 5)) (ag (aj (ae 0 (pv 0)) (ae 4 (pv 4)) (fun _ _=>rfl)) ak)))))))) (aq (jW (wt PySem.F.slot_list_append PySem.F.type_list_append gA jg (ae 3 (pv 3)) (ag (aj (ae 0 (pv 0)) (ae 4 (pv 4)) (fun _ _=>rfl)) ak)))
   (aw (aK (i:=4) gW.nd rfl (Or.inl rfl) (av bh bG (ae 4 (pv 4)) ai)))))
   (aw (jW (wt PySem.F.slot_list_append PySem.F.type_list_append gA jg (ae 3 (pv 3)) (ag (ae 5 (pv 5)) ak))))))
   (aq (jW (wt PySem.F.slot_list_extend PySem.F.type_list_extend yX zi (ae 3 (pv 3)) (ag (tH (ae 0 (pv 0)) (qO (ae 4 (pv 4))) D3) ak)))
   (aw (aQ (ae 3 (pv 3))))))))
theorem i8:aZ ["runs","first","pairs"] ["runs","first"] (ar (top 7)):=⟨rfl,rfl,rfl,by decide +kernel,rfl,by decide +kernel,by decide +kernel⟩
theorem oP(T:Txt K mg t):bL P w K mg base cQ 5 t.fT t.fU ["runs","first"] (dv K (bJ (iq t.tc) t.cO)):=by
 refine T.bJ.fR (n:=2) (m:=3) (B:=(dg (iq t.tc) t.cO)) i8 rfl rfl (by decide) rfl fun cf A outer s H E hr=>?_
 unfold dg
 exact(aq (iU (i:=2) (N':=["k","first","runs"]) (cap:=[none,some 1,some 0]) (jd (sc:=ar (top 7)) (NN:=["runs","first","pairs"]) rfl rfl rfl (by decide +kernel) (by decide +kernel) (by decide +kernel) (by decide +kernel)) rfl (zr (by rfl) T.cP (ag ai (ag (av b_ cg (bz bu dN (by rfl) T.dw dM (ag (ae 0 (pv 0)) ak)) ai) (ag ai ak)))) (fun _ _ _ _=>(cq (i:=0) (show List.Nodup (["k","first","runs"]:List Str)by decide +kernel) rfl (Or.inl rfl))) (fun _ _ _ _=>fm) (fun _ _ _ _=>(ay [] (z_ T) (hr.mono (by decide)) (by rfl) T.CM T.eu.kp T.CN .nil (fun _ _ _=>.nil) (ag (aj (ae 2 (pv 2)) (ae 0 (pv 0)) (fun _ _=>rfl)) (ag (aj (ae 2 (pv 2)) (av bh bG (ae 0 (pv 0)) ai) (fun _ _=>rfl)) (ag (ae 1 (pv 1)) ak))))) i8.nd rfl (Or.inl rfl) (by rfl))
   (aq (bZ (bt (dY hr.units) fS (av fD h_ (bz bu dN (by rfl) T.dw dM (ag (ae 0 (pv 0)) ak)) ai) ai (aY _)) (aw (jW (wt PySem.F.slot_list_append PySem.F.type_list_append gA jg (ae 2 (pv 2)) (ag (aj (ae 0 (pv 0)) (Ax ai) (fun _ _=>rfl)) ak)))) bf)
   (aw (aQ (ae 2 (pv 2))))))
theorem jA:aZ ["some","first","runs"] ["some","first"] (ar (top 8)):=⟨rfl,rfl,rfl,by decide +kernel,rfl,by decide +kernel,by decide +kernel⟩
theorem nO(T:Txt K mg t):bL P w K mg base cQ 6 t.kn t.ko ["some","first"] (dv K (cE (iq t.tc) t.cO)):=by
 refine T.cE.fR (n:=2) (m:=3) (B:=(fH (iq t.tc) t.cO)) jA rfl rfl (by decide) rfl fun cf A outer s H E hr=>?_
 unfold fH
 exact(aq (iU (i:=2) (N':=["thing"]) (cap:=[none]) (jd (sc:=ar (top 8)) (NN:=["some","first","runs"]) rfl rfl rfl (by decide +kernel) (by decide +kernel) (by decide +kernel) (by decide +kernel)) rfl (jX (ae 0 (pv 0))) (fun _ _ _ _=>(cq (i:=0) (show List.Nodup (["thing"]:List Str)by decide +kernel) rfl (Or.inl rfl))) (fun _ _ _ _=>fm) (fun _ _ _ _=>(gd (ag (ae 0 (pv 0)) ak))) jA.nd rfl (Or.inl rfl) (by rfl))
   (aq (oe PassesOwn.never (bt qc qM (bz bu dN (by rfl) T.dw dM (ag (ae 2 (pv 2)) ak)) ai (aY _)) (aw (aK (i:=2) jA.nd rfl (Or.inl rfl) (ay [] (oP T) (hr.mono (by decide)) (by rfl) T.pH T.bJ.kp T.pI .nil (fun _ _ _=>.nil) (ag (ae 2 (pv 2)) (ag (ae 1 (pv 1)) ak))))))
   (aw (aQ (BG (bt (dY hr.units) fS (bz bu dN (by rfl) T.dw dM (ag (ae 2 (pv 2)) ak)) ai (aY _)) (aj (ae 2 (pv 2)) ai (fun _ _=>rfl)) (gd ak))))))
theorem yw:aZ ["side"] ["side"] (ar (top 10)):=⟨rfl,rfl,rfl,by decide +kernel,rfl,by decide +kernel,by decide +kernel⟩
theorem yx(T:Txt K mg t):bL P w K mg base cQ 3 t.l_ t.me ["side"] (dv K dF):=by
 refine T.dF.fR (n:=1) (m:=1) (B:=gS) yw rfl rfl (by decide) rfl fun cf A outer s H E hr=>?_
 unfold gS
 exact(aq (bZ (jf (ay [] (gw T) (hr.mono (by decide)) (by rfl) T.i6 T.bE.kp T.i7 .nil (fun _ _ _=>.nil) (ag (aj (ae 0 (pv 0)) ai (fun _ _=>rfl)) (ag (aj (ae 0 (pv 0)) ai (fun _ _=>rfl)) ak)))) (aw (aQ (ae 0 (pv 0)))) bf)
   (aw (aQ (gc (ag (aj (ae 0 (pv 0)) ai (fun _ _=>rfl)) (ag (aj (ae 0 (pv 0)) ai (fun _ _=>rfl)) ak))))))
theorem o_:aZ ["p","side","ends"] ["p","side"] (ar (top 11)):=⟨rfl,rfl,rfl,by decide +kernel,rfl,by decide +kernel,by decide +kernel⟩
theorem kF(T:Txt K mg t):bL P w K mg base cQ 4 t.mf t.mh ["p","side"] (dv K bp):=by
 refine T.bp.fR (n:=2) (m:=3) (B:=fy) o_ rfl rfl (by decide) rfl fun cf A outer s H E hr=>?_
 unfold fy
 exact(aq (bZ (bt (ic hr.units) jY (ay [] (Fz T) (hr.mono (by decide)) (by rfl) T.Iw T.jq.kp T.Iy .nil (fun _ _ _=>.nil) (ag (aj (ae 1 (pv 1)) ai (fun _ _=>rfl)) (ag (aj (ae 1 (pv 1)) ai (fun _ _=>rfl)) (ag (ae 0 (pv 0)) ak)))) ai (aY _)) (aw (aQ iu)) bf)
   (aq (aK (i:=2) o_.nd rfl (Or.inl rfl) (ay [] (yx T) (hr.mono (by decide)) (by rfl) T.z0 T.dF.kp T.z3 .nil (fun _ _ _=>.nil) (ag (ae 1 (pv 1)) ak)))
   (aw (aQ (Az (AA (ay [] (gw T) (hr.mono (by decide)) (by rfl) T.i6 T.bE.kp T.i7 .nil (fun _ _ _=>.nil) (ag (ae 0 (pv 0)) (ag (aj (ae 2 (pv 2)) ai (fun _ _=>rfl)) ak)))) (Ay (AA (ay [] (gw T) (hr.mono (by decide)) (by rfl) T.i6 T.bE.kp T.i7 .nil (fun _ _ _=>.nil) (ag (aj (ae 2 (pv 2)) ai (fun _ _=>rfl)) (ag (ae 0 (pv 0)) ak))))))))))
theorem oQ:aZ ["side","some","found","p"] ["side","some"] (ar (top 12)):=⟨rfl,rfl,rfl,by decide +kernel,rfl,by decide +kernel,by decide +kernel⟩
theorem uc(T:Txt K mg t):bL P w K mg base cQ 7 t.r8 t.r_ ["side","some"] (dv K (cL (iq t.tc) t.cO)):=by
 refine T.cL.fR (fun _=>true) (n:=2) (m:=4) (B:=(kf (iq t.tc) t.cO)) oQ rfl rfl (by decide) rfl fun A outer s H E hr=>?_
 unfold kf
 exact(aq (aK (i:=2) oQ.nd rfl (Or.inl rfl) BU)
   (aq (ib PassesOwn.never rfl (jX (ae 1 (pv 1))) (cq (i:=3) oQ.nd rfl (Or.inl rfl)) (aw (bZ (jf (ay [] (kF T) (hr.mono (by decide)) (by rfl) T.mm T.bp.kp T.mn .nil (fun _ _ _=>.nil) (ag (ae 3 (pv 3)) (ag (ae 0 (pv 0)) ak)))) (aw (BV hr.units (ae 2 (pv 2)) (ae 3 (pv 3)) iu)) bf)))
   (aq (bZ (jf (ay [] (gw T) (hr.mono (by decide)) (by rfl) T.i6 T.bE.kp T.i7 .nil (fun _ _ _=>.nil) (ag (aj (ae 0 (pv 0)) ai (fun _ _=>rfl)) (ag (aj (ae 0 (pv 0)) ai (fun _ _=>rfl)) ak)))) (aw (aQ (ay [] (nO T) (hr.mono (by decide)) (by rfl) T.o8 T.cE.kp T.o9 .nil (fun _ _ _=>.nil) (ag (gF (oW rfl) qW (by rfl) T.gk mQ (ag (ae 2 (pv 2)) ak)) (ag (Ln (by rfl) T.i6) ak))))) bf)
   (aw (aQ (ay [] (nO T) (hr.mono (by decide)) (by rfl) T.o8 T.cE.kp T.o9 .nil (fun _ _ _=>.nil) (ag (gF (oW rfl) qW (by rfl) T.gk mQ (ag (ae 2 (pv 2)) ak)) (ag (Hg (t:=iq t.tc) (n:=1) (is:=[]) rfl rfl rfl yu xH rfl EV (Hl (CX:=cQ) (P:=P) (w:=w) (K:=K) (mg:=mg) (base:=base) (N:=[]) (A:=A) (outer:=outer) (s:=s) (H:=H) (E:=E))) ak))))))))
theorem bV:aZ ["_law_script","_law_k","_law_cell","_law_mixed","_law_total","_law_j","_law_more","_law_own"] ["_law_script","_law_k"] (ar (top 14)):=⟨rfl,rfl,rfl,by decide +kernel,rfl,by decide +kernel,by decide +kernel⟩
theorem vB(T:Txt K mg t):bL P w K mg base cQ 1 t.kr t.ku ["_law_script","_law_k"] (dv K cF):=by
 refine T.cF.fR (n:=2) (m:=8) (B:=eA) bV rfl rfl (by decide) rfl fun cf A outer s H E hr=>?_
 unfold eA
 exact(aq (aK (i:=2) bV.nd rfl (Or.inl rfl) ai)
   (aq (bZ (bt lN lV (ae 1 (pv 1)) (bz bu dN (by rfl) T.dw dM (ag (ae 0 (pv 0)) ak)) (aY _)) (aw (aK (i:=2) bV.nd rfl (Or.inl rfl) (aj (ae 0 (pv 0)) (ae 1 (pv 1)) (fun _ _=>rfl)))) bf)
   (aq (aK (i:=3) bV.nd rfl (Or.inl rfl) (av bh bG (av bh bG (av fD h_ (bz kH pR (by rfl) T.kD pM (ag (ae 2 (pv 2)) ak)) ai) (av az aC ai (ae 1 (pv 1)))) ai))
   (aq (aK (i:=4) bV.nd rfl (Or.inl rfl) ai)
   (aq (ib PassesOwn.never rfl (dC (by rfl) T.cP (ag ai ak)) (cq (i:=5) bV.nd rfl (Or.inl rfl)) (aq (aK (i:=3) bV.nd rfl (Or.inl rfl) (av bh bG (av az aC (ae 3 (pv 3)) ai) (av az aC ai (av bh bG (av bh bG (ae 1 (pv 1)) (ae 5 (pv 5))) ai))))
   (aq (aK (i:=3) bV.nd rfl (Or.inl rfl) (av fD h_ (ae 3 (pv 3)) ai))
   (aq (aK (i:=6) bV.nd rfl (Or.inl rfl) (av az aC (av dJ eR (ae 3 (pv 3)) ai) (av bh bG (av bh bG (av fD h_ (ae 3 (pv 3)) ai) (av az aC ai (ae 5 (pv 5)))) ai)))
   (aw (aK (i:=4) bV.nd rfl (Or.inl rfl) (av bh bG (av az aC (ae 4 (pv 4)) ai) (av fD h_ (ae 6 (pv 6)) ai))))))))
   (aq (aK (i:=7) bV.nd rfl (Or.inl rfl) (av az aC (bz kH pR (by rfl) T.kD pM (ag (ae 2 (pv 2)) ak)) (gF qd wx (by rfl) T.oM Ak (ag (Az (kJ qc qM (bz bu dN (by rfl) T.dw dM (ag (ae 0 (pv 0)) ak)) ai (aY _)) (Ay (kJ (dY hr.units) fS (av fD h_ (aj (ae 0 (pv 0)) ai (fun _ _=>rfl)) ai) ai (aY _)))) ak))))
   (aw (aQ (gd (ag (ae 7 (pv 7)) (ag (ae 4 (pv 4)) ak)))))))))))
theorem iI:aZ ["_law_pool_here","_law_many","_law_at","_law_digit_here"] ["_law_pool_here","_law_many"] (ar (top 15)):=⟨rfl,rfl,rfl,by decide +kernel,rfl,by decide +kernel,by decide +kernel⟩
theorem aO(T:Txt K mg t):bL P w K mg base cQ 1 t.js t.jt ["_law_pool_here","_law_many"] (dv K au):=by
 refine T.au.fR (n:=2) (m:=4) (B:=eU) iI rfl rfl (by decide) rfl fun cf A outer s H E hr=>?_
 unfold eU
 exact(aq (aK (i:=2) iI.nd rfl (Or.inl rfl) (gF qd wx (by rfl) T.oM Ak (ag (kJ (dY hr.units) fS (aj (ae 0 (pv 0)) ai (fun _ _=>rfl)) ai (aY _)) ak)))
   (aq (aK (i:=3) iI.nd rfl (Or.inl rfl) (av fD h_ (aj (ae 0 (pv 0)) (ae 2 (pv 2)) (fun _ _=>rfl)) (ae 1 (pv 1))))
   (aq (AE (av dJ eR (aj (ae 0 (pv 0)) (ae 2 (pv 2)) (fun _ _=>rfl)) (ae 1 (pv 1))) (G4 (ae 0 (pv 0)) (ae 2 (pv 2))))
   (aw (aQ (ae 3 (pv 3)))))))
theorem lI:aZ ["_law_pool_here","_law_pick"] ["_law_pool_here"] (ar (top 16)):=⟨rfl,rfl,rfl,by decide +kernel,rfl,by decide +kernel,by decide +kernel⟩
theorem lJ(T:Txt K mg t):bL P w K mg base cQ 2 t.ju t.jv ["_law_pool_here"] (dv K bK):=by
 refine T.bK.fR (n:=1) (m:=2) (B:=df) lI rfl rfl (by decide) rfl fun cf A outer s H E hr=>?_
 unfold df
 exact(aq (aK (i:=1) lI.nd rfl (Or.inl rfl) (ay [] (aO T) (hr.mono (by decide)) (by rfl) T.aS T.au.kp T.aT .nil (fun _ _ _=>.nil) (ag (ae 0 (pv 0)) (ag ai ak))))
   (aq (bZ (bt lN lV (ae 1 (pv 1)) ai (aY _)) (aw (aQ (av b_ cg (ay [] (aO T) (hr.mono (by decide)) (by rfl) T.aS T.au.kp T.aT .nil (fun _ _ _=>.nil) (ag (ae 0 (pv 0)) (ag ai ak))) ai))) bf)
   (aq (bZ (bt (dY hr.units) fS (ae 1 (pv 1)) ai (aY _)) (aw (aQ (av b_ cg (ay [] (aO T) (hr.mono (by decide)) (by rfl) T.aS T.au.kp T.aT .nil (fun _ _ _=>.nil) (ag (ae 0 (pv 0)) (ag ai ak))) ai))) bf)
   (aq (bZ (bt (dY hr.units) fS (ae 1 (pv 1)) ai (aY _)) (aw (aQ (av az aC (av b_ cg ai (ay [] (aO T) (hr.mono (by decide)) (by rfl) T.aS T.au.kp T.aT .nil (fun _ _ _=>.nil) (ag (ae 0 (pv 0)) (ag ai ak)))) (av b_ cg ai (av az aC ai (ay [] (aO T) (hr.mono (by decide)) (by rfl) T.aS T.au.kp T.aT .nil (fun _ _ _=>.nil) (ag (ae 0 (pv 0)) (ag ai ak)))))))) bf)
   (aw (aQ (av b_ cg (ay [] (aO T) (hr.mono (by decide)) (by rfl) T.aS T.au.kp T.aT .nil (fun _ _ _=>.nil) (ag (ae 0 (pv 0)) (ag (av bh bG (av az aC ai (av uq uH ai ai)) ai) ak))) (av uq uH ai ai))))))))
theorem lK:aZ ["_law_pool_here","_law_pick"] ["_law_pool_here"] (ar (top 17)):=⟨rfl,rfl,rfl,by decide +kernel,rfl,by decide +kernel,by decide +kernel⟩
theorem sR(T:Txt K mg t):bL P w K mg base cQ 2 t.jw t.jx ["_law_pool_here"] (dv K cM):=by
 refine T.cM.fR (n:=1) (m:=2) (B:=gh) lK rfl rfl (by decide) rfl fun cf A outer s H E hr=>?_
 unfold gh
 exact(aq (aK (i:=1) lK.nd rfl (Or.inl rfl) (ay [] (aO T) (hr.mono (by decide)) (by rfl) T.aS T.au.kp T.aT .nil (fun _ _ _=>.nil) (ag (ae 0 (pv 0)) (ag ai ak))))
   (aw (aQ (av bh bG ai (ay [] (aO T) (hr.mono (by decide)) (by rfl) T.aS T.au.kp T.aT .nil (fun _ _ _=>.nil) (ag (ae 0 (pv 0)) (ag (aj (gd (ag ai (ag ai (ag ai (ag ai (ag (av uq uH ai ai) ak)))))) (ae 1 (pv 1)) (fun _ _=>rfl)) ak)))))))
theorem eX:aZ ["_law_a","_law_b"] ["_law_a","_law_b"] (ar (top 18)):=⟨rfl,rfl,rfl,by decide +kernel,rfl,by decide +kernel,by decide +kernel⟩
theorem kG(T:Txt K mg t):bL P w K mg base cQ 1 t.iC t.iD ["_law_a","_law_b"] (dv K cj):=by
 refine T.cj.fR (n:=2) (m:=2) (B:=fA) eX rfl rfl (by decide) rfl fun cf A outer s H E hr=>?_
 unfold fA
 exact(aq (aK (i:=0) eX.nd rfl (Or.inl rfl) (bz kH pR (by rfl) T.kD pM (ag (ae 0 (pv 0)) ak)))
   (aq (aK (i:=1) eX.nd rfl (Or.inl rfl) (bz kH pR (by rfl) T.kD pM (ag (ae 1 (pv 1)) ak)))
   (aq (oe PassesOwn.never (bt qc qM (ae 1 (pv 1)) ai (aY _)) (aw (D8 (i:=0) (j:=1) rfl eX.nd rfl rfl (by decide) rfl rfl (ag (ae 1 (pv 1)) (ag (av fD h_ (ae 0 (pv 0)) (ae 1 (pv 1))) ak)) (by rfl))))
   (aw (aQ (ae 0 (pv 0)))))))
theorem gX:aZ ["_law_x","_law_y","_law_w","_law_part"] ["_law_x","_law_y","_law_w"] (ar (top 19)):=⟨rfl,rfl,rfl,by decide +kernel,rfl,by decide +kernel,by decide +kernel⟩
theorem dH(T:Txt K mg t):bL P w K mg base cQ 2 t.iE t.iF ["_law_x","_law_y","_law_w"] (dv K aN):=by
 refine T.aN.fR (n:=3) (m:=4) (B:=dR) gX rfl rfl (by decide) rfl fun cf A outer s H E hr=>?_
 unfold dR
 exact(aq (bZ (bt lN lV (ae 2 (pv 2)) ai (aY _)) (aw (D9 (i:=0) (j:=1) (l:=2) rfl gX.nd rfl rfl rfl (by decide) (by decide) (by decide) rfl rfl rfl (ag (av b_ cg ai (ae 0 (pv 0))) (ag (av b_ cg ai (ae 1 (pv 1))) (ag (av b_ cg ai (ae 2 (pv 2))) ak))) (by rfl))) bf)
   (aq (aK (i:=3) gX.nd rfl (Or.inl rfl) (ay [] (kG T) (hr.mono (by decide)) (by rfl) T.lG T.cj.kp T.lH .nil (fun _ _ _=>.nil) (ag (ay [] (kG T) (hr.mono (by decide)) (by rfl) T.lG T.cj.kp T.lH .nil (fun _ _ _=>.nil) (ag (ae 0 (pv 0)) (ag (ae 1 (pv 1)) ak))) (ag (ae 2 (pv 2)) ak))))
   (aw (aQ (gc (ag (av dJ eR (ae 0 (pv 0)) (ae 3 (pv 3))) (ag (av dJ eR (ae 1 (pv 1)) (ae 3 (pv 3))) (ag (av dJ eR (ae 2 (pv 2)) (ae 3 (pv 3))) ak))))))))
theorem nP:aZ ["_law_pool_here","_law_pick"] ["_law_pool_here"] (ar (top 20)):=⟨rfl,rfl,rfl,by decide +kernel,rfl,by decide +kernel,by decide +kernel⟩
theorem jB(T:Txt K mg t):bL P w K mg base cQ 3 t.kx t.ky ["_law_pool_here"] (dv K a_):=by
 refine T.a_.fR (n:=1) (m:=2) (B:=fI) nP rfl rfl (by decide) rfl fun cf A outer s H E hr=>?_
 unfold fI
 exact(aq (aK (i:=1) nP.nd rfl (Or.inl rfl) (ay [] (aO T) (hr.mono (by decide)) (by rfl) T.aS T.au.kp T.aT .nil (fun _ _ _=>.nil) (ag (ae 0 (pv 0)) (ag ai ak))))
   (aq (bZ (bt (dY hr.units) fS (ae 1 (pv 1)) ai (aY _)) (aw (aQ (ay [] (dH T) (hr.mono (by decide)) (by rfl) T.dS T.aN.kp T.dW .nil (fun _ _ _=>.nil) (ag (ay [] (lJ T) (hr.mono (by decide)) (by rfl) T.nK T.bK.kp T.nM .nil (fun _ _ _=>.nil) (ag (ae 0 (pv 0)) ak)) (ag (ay [] (lJ T) (hr.mono (by decide)) (by rfl) T.nK T.bK.kp T.nM .nil (fun _ _ _=>.nil) (ag (ae 0 (pv 0)) ak)) (ag (ay [] (sR T) (hr.mono (by decide)) (by rfl) T.vv T.cM.kp T.vw .nil (fun _ _ _=>.nil) (ag (ae 0 (pv 0)) ak)) ak)))))) bf)
   (aw (aQ (ay [] (dH T) (hr.mono (by decide)) (by rfl) T.dS T.aN.kp T.dW .nil (fun _ _ _=>.nil) (ag (ay [] (aO T) (hr.mono (by decide)) (by rfl) T.aS T.au.kp T.aT .nil (fun _ _ _=>.nil) (ag (ae 0 (pv 0)) (ag (av bh bG ai (av az aC ai (ae 1 (pv 1)))) ak))) (ag (ay [] (aO T) (hr.mono (by decide)) (by rfl) T.aS T.au.kp T.aT .nil (fun _ _ _=>.nil) (ag (ae 0 (pv 0)) (ag (av bh bG ai (av az aC ai (ae 1 (pv 1)))) ak))) (ag (aj (gd (ag ai (ag ai (ag ai ak)))) (ay [] (aO T) (hr.mono (by decide)) (by rfl) T.aS T.au.kp T.aT .nil (fun _ _ _=>.nil) (ag (ae 0 (pv 0)) (ag ai ak))) (fun _ _=>rfl)) ak))))))))
theorem gY:aZ ["_law_p","_law_some_here","_law_k"] ["_law_p","_law_some_here"] (ar (top 21)):=⟨rfl,rfl,rfl,by decide +kernel,rfl,by decide +kernel,by decide +kernel⟩
theorem so(T:Txt K mg t):bL P w K mg base cQ 3 t.iG t.iH ["_law_p","_law_some_here"] (dv K cG):=by
 refine T.cG.fR (n:=2) (m:=3) (B:=fB) gY rfl rfl (by decide) rfl fun cf A outer s H E hr=>?_
 unfold fB
 exact(aq (ib PassesOwn.never rfl (dC (by rfl) T.cP (ag (av bh bG (bz bu dN (by rfl) T.dw dM (ag (ae 1 (pv 1)) ak)) ai) ak)) (cq (i:=2) gY.nd rfl (Or.inl rfl)) (aw (bZ (bt (G7 hr.units) Lg (ae 0 (pv 0)) (ae 1 (pv 1)) (by with_unfolding_all rfl)) (aw (aK (i:=0) gY.nd rfl (Or.inl rfl) (ay [] (dH T) (hr.mono (by decide)) (by rfl) T.dS T.aN.kp T.dW .nil (fun _ _ _=>.nil) (ag (av bh bG (aj (ae 0 (pv 0)) ai (fun _ _=>rfl)) (aj (ae 0 (pv 0)) ai (fun _ _=>rfl))) (ag (aj (ae 0 (pv 0)) ai (fun _ _=>rfl)) (ag (aj (ae 0 (pv 0)) ai (fun _ _=>rfl)) ak)))))) bf)))
   (aw (aQ (ae 0 (pv 0)))))
theorem dh:aZ ["_law_pool_here","_law_a","_law_b","_law_n","_law_d","_law_x","_law_y"] ["_law_pool_here","_law_a","_law_b"] (ar (top 22)):=⟨rfl,rfl,rfl,by decide +kernel,rfl,by decide +kernel,by decide +kernel⟩
theorem pJ(T:Txt K mg t):bL P w K mg base cQ 3 t.gT t.gU ["_law_pool_here","_law_a","_law_b"] (dv K cu):=by
 refine T.cu.fR (n:=3) (m:=7) (B:=eW) dh rfl rfl (by decide) rfl fun cf A outer s H E hr=>?_
 unfold eW
 exact(aq (aK (i:=3) dh.nd rfl (Or.inl rfl) (av b_ cg (ay [] (aO T) (hr.mono (by decide)) (by rfl) T.aS T.au.kp T.aT .nil (fun _ _ _=>.nil) (ag (ae 0 (pv 0)) (ag ai ak))) ai))
   (aq (aK (i:=4) dh.nd rfl (Or.inl rfl) (av bh bG ai (ay [] (aO T) (hr.mono (by decide)) (by rfl) T.aS T.au.kp T.aT .nil (fun _ _ _=>.nil) (ag (ae 0 (pv 0)) (ag ai ak)))))
   (aq (aK (i:=5) dh.nd rfl (Or.inl rfl) (av bh bG (av az aC (av az aC (aj (ae 1 (pv 1)) ai (fun _ _=>rfl)) (aj (ae 2 (pv 2)) ai (fun _ _=>rfl))) (av b_ cg (ae 4 (pv 4)) (ae 3 (pv 3)))) (av az aC (av az aC (aj (ae 2 (pv 2)) ai (fun _ _=>rfl)) (aj (ae 1 (pv 1)) ai (fun _ _=>rfl))) (ae 3 (pv 3)))))
   (aq (aK (i:=6) dh.nd rfl (Or.inl rfl) (av bh bG (av az aC (av az aC (aj (ae 1 (pv 1)) ai (fun _ _=>rfl)) (aj (ae 2 (pv 2)) ai (fun _ _=>rfl))) (av b_ cg (ae 4 (pv 4)) (ae 3 (pv 3)))) (av az aC (av az aC (aj (ae 2 (pv 2)) ai (fun _ _=>rfl)) (aj (ae 1 (pv 1)) ai (fun _ _=>rfl))) (ae 3 (pv 3)))))
   (aw (aQ (ay [] (dH T) (hr.mono (by decide)) (by rfl) T.dS T.aN.kp T.dW .nil (fun _ _ _=>.nil) (ag (ae 5 (pv 5)) (ag (ae 6 (pv 6)) (ag (av az aC (av az aC (aj (ae 1 (pv 1)) ai (fun _ _=>rfl)) (aj (ae 2 (pv 2)) ai (fun _ _=>rfl))) (ae 4 (pv 4))) ak))))))))))
theorem cC:aZ ["_law_pool_here","_law_a","_law_b","_law_found","_law_k","_law_pick","_law_p"] ["_law_pool_here","_law_a","_law_b"] (ar (top 23)):=⟨rfl,rfl,rfl,by decide +kernel,rfl,by decide +kernel,by decide +kernel⟩
theorem vC(T:Txt K mg t):bL P w K mg base cQ 4 t.kz t.kA ["_law_pool_here","_law_a","_law_b"] (dv K cZ):=by
 refine T.cZ.fR (n:=3) (m:=7) (B:=ik) cC rfl rfl (by decide) rfl fun cf A outer s H E hr=>?_
 unfold ik
 exact(aq (aK (i:=3) cC.nd rfl (Or.inl rfl) (gd ak))
   (aq (ib PassesOwn.never rfl (dC (by rfl) T.cP (ag (ay [] (aO T) (hr.mono (by decide)) (by rfl) T.aS T.au.kp T.aT .nil (fun _ _ _=>.nil) (ag (ae 0 (pv 0)) (ag ai ak))) ak)) (cq (i:=4) cC.nd rfl (Or.inl rfl)) (aq (aK (i:=5) cC.nd rfl (Or.inl rfl) (ay [] (aO T) (hr.mono (by decide)) (by rfl) T.aS T.au.kp T.aT .nil (fun _ _ _=>.nil) (ag (ae 0 (pv 0)) (ag ai ak))))
   (aq (aK (i:=6) cC.nd rfl (Or.inl rfl) (ay [] (pJ T) (hr.mono (by decide)) (by rfl) T.sf T.cu.kp T.sh .nil (fun _ _ _=>.nil) (ag (ae 0 (pv 0)) (ag (ae 1 (pv 1)) (ag (ae 2 (pv 2)) ak)))))
   (aq (bZ (bt (dY hr.units) fS (ae 5 (pv 5)) ai (aY _)) (aw (aK (i:=6) cC.nd rfl (Or.inl rfl) (aj (gd (ag (ae 1 (pv 1)) (ag (ae 2 (pv 2)) ak))) (ay [] (aO T) (hr.mono (by decide)) (by rfl) T.aS T.au.kp T.aT .nil (fun _ _ _=>.nil) (ag (ae 0 (pv 0)) (ag ai ak))) (fun _ _=>rfl)))) bf)
   (aq (bZ (PW.pt (AB (bt (dY hr.units) fS (ae 5 (pv 5)) ai (aY _)) (wq (bt qc qM (bz bu dN (by rfl) T.dw dM (ag (ae 3 (pv 3)) ak)) ai (aY _))))) (aw (aK (i:=6) cC.nd rfl (Or.inl rfl) (aj (ae 3 (pv 3)) (ay [] (aO T) (hr.mono (by decide)) (by rfl) T.aS T.au.kp T.aT .nil (fun _ _ _=>.nil) (ag (ae 0 (pv 0)) (ag (bz bu dN (by rfl) T.dw dM (ag (ae 3 (pv 3)) ak)) ak))) (fun _ _=>rfl)))) bf)
   (aq (bZ (bt (dY hr.units) fS (ae 5 (pv 5)) ai (aY _)) (aw (aK (i:=6) cC.nd rfl (Or.inl rfl) (ay [] (jB T) (hr.mono (by decide)) (by rfl) T.kB T.a_.kp T.kC .nil (fun _ _ _=>.nil) (ag (ae 0 (pv 0)) ak)))) bf)
   (aq (bZ (bt (dY hr.units) fS (ae 5 (pv 5)) ai (aY _)) (aw (aK (i:=6) cC.nd rfl (Or.inl rfl) (ay [] (dH T) (hr.mono (by decide)) (by rfl) T.dS T.aN.kp T.dW .nil (fun _ _ _=>.nil) (ag (aj (ae 6 (pv 6)) ai (fun _ _=>rfl)) (ag (av b_ cg (av bh bG (aj (ae 6 (pv 6)) ai (fun _ _=>rfl)) ai) (av az aC ai (ay [] (aO T) (hr.mono (by decide)) (by rfl) T.aS T.au.kp T.aT .nil (fun _ _ _=>.nil) (ag (ae 0 (pv 0)) (ag ai ak))))) (ag (aj (ae 6 (pv 6)) ai (fun _ _=>rfl)) ak)))))) bf)
   (aw (jW (wt PySem.F.slot_list_append PySem.F.type_list_append gA jg (ae 3 (pv 3)) (ag (ae 6 (pv 6)) ak)))))))))))
   (aw (aQ (ae 3 (pv 3))))))
theorem fL:aZ ["_law_p","_law_a","_law_b","_law_w","_law_one","_law_other","_law_far_here"] ["_law_p","_law_a","_law_b"] (ar (top 24)):=⟨rfl,rfl,rfl,by decide +kernel,rfl,by decide +kernel,by decide +kernel⟩
theorem pf(T:Txt K mg t):bL P w K mg base cQ 1 t.mi t.mj ["_law_p","_law_a","_law_b"] (dv K bT):=by
 refine T.bT.fR (n:=3) (m:=7) (B:=ei) fL rfl rfl (by decide) rfl fun cf A outer s H E hr=>?_
 unfold ei
 exact(aq (aK (i:=3) fL.nd rfl (Or.inr rfl) (av az aC (av az aC (aj (ae 0 (pv 0)) ai (fun _ _=>rfl)) (aj (ae 1 (pv 1)) ai (fun _ _=>rfl))) (aj (ae 2 (pv 2)) ai (fun _ _=>rfl))))
   (aq (iU (i:=4) (N':=["_law_k","_law_b","_law_w","_law_a"]) (cap:=[none,some 2,some 3,some 1]) (jd (sc:=ar (top 24)) (NN:=["_law_p","_law_a","_law_b","_law_w","_law_one","_law_other","_law_far_here"]) rfl rfl rfl (by decide +kernel) (by decide +kernel) (by decide +kernel) (by decide +kernel)) rfl (dC (by rfl) T.cP (ag ai ak)) (fun _ _ _ _=>(cq (i:=0) (show List.Nodup (["_law_k","_law_b","_law_w","_law_a"]:List Str)by decide +kernel) rfl (Or.inl rfl))) (fun _ _ _ _=>fm) (fun _ _ _ _=>(av b_ cg (av az aC (aj (ae 1 (pv 1)) (ae 0 (pv 0)) (fun _ _=>rfl)) (av dJ eR (ae 2 (pv 2)) (aj (ae 1 (pv 1)) ai (fun _ _=>rfl)))) (av az aC (aj (ae 3 (pv 3)) (ae 0 (pv 0)) (fun _ _=>rfl)) (av dJ eR (ae 2 (pv 2)) (aj (ae 3 (pv 3)) ai (fun _ _=>rfl)))))) fL.nd rfl (Or.inl rfl) (by rfl))
   (aq (iU (i:=5) (N':=["_law_k","_law_p","_law_w","_law_a"]) (cap:=[none,some 0,some 3,some 1]) (jd (sc:=ar (top 24)) (NN:=["_law_p","_law_a","_law_b","_law_w","_law_one","_law_other","_law_far_here"]) rfl rfl rfl (by decide +kernel) (by decide +kernel) (by decide +kernel) (by decide +kernel)) rfl (dC (by rfl) T.cP (ag ai ak)) (fun _ _ _ _=>(cq (i:=0) (show List.Nodup (["_law_k","_law_p","_law_w","_law_a"]:List Str)by decide +kernel) rfl (Or.inl rfl))) (fun _ _ _ _=>fm) (fun _ _ _ _=>(av b_ cg (av az aC (aj (ae 1 (pv 1)) (ae 0 (pv 0)) (fun _ _=>rfl)) (av dJ eR (ae 2 (pv 2)) (aj (ae 1 (pv 1)) ai (fun _ _=>rfl)))) (av az aC (aj (ae 3 (pv 3)) (ae 0 (pv 0)) (fun _ _=>rfl)) (av dJ eR (ae 2 (pv 2)) (aj (ae 3 (pv 3)) ai (fun _ _=>rfl)))))) fL.nd rfl (Or.inl rfl) (by rfl))
   (aq (bZ (bt (ic hr.units) jY (av az aC (aj (ae 4 (pv 4)) ai (fun _ _=>rfl)) (aj (ae 5 (pv 5)) ai (fun _ _=>rfl))) (av az aC (aj (ae 4 (pv 4)) ai (fun _ _=>rfl)) (aj (ae 5 (pv 5)) ai (fun _ _=>rfl))) (aY _)) (aw (aQ pO)) bf)
   (aq (aK (i:=6) fL.nd rfl (Or.inl rfl) (av bh bG (av az aC (aj (ae 4 (pv 4)) ai (fun _ _=>rfl)) (aj (ae 5 (pv 5)) ai (fun _ _=>rfl))) (av az aC (aj (ae 4 (pv 4)) ai (fun _ _=>rfl)) (aj (ae 5 (pv 5)) ai (fun _ _=>rfl)))))
   (aq (bZ (m_ (BI yK zh yK zh ai (ae 6 (pv 6)) (av bh bG (av az aC (aj (ae 4 (pv 4)) ai (fun _ _=>rfl)) (aj (ae 4 (pv 4)) ai (fun _ _=>rfl))) (av az aC (aj (ae 4 (pv 4)) ai (fun _ _=>rfl)) (aj (ae 4 (pv 4)) ai (fun _ _=>rfl)))))) (aw (aQ pO)) bf)
   (aw (aQ (gc (ag (av az aC (ae 6 (pv 6)) (aj (ae 0 (pv 0)) ai (fun _ _=>rfl))) (ag (av az aC (ae 3 (pv 3)) (ae 3 (pv 3))) ak)))))))))))
theorem dj:aZ ["_law_found","_law_some_here","_law_a","_law_b","_law_k","_law_one","_law_other","_law_way","_law_whole"] ["_law_found","_law_some_here","_law_a","_law_b"] (ar (top 25)):=⟨rfl,rfl,rfl,by decide +kernel,rfl,by decide +kernel,by decide +kernel⟩
theorem sS(T:Txt K mg t):bL P w K mg base cQ 2 t.jy t.jz ["_law_found","_law_some_here","_law_a","_law_b"] (dv K cN):=by
 refine T.cN.fR (n:=4) (m:=9) (B:=gj) dj rfl rfl (by decide) rfl fun cf A outer s H E hr=>?_
 unfold gj
 exact(aq (bZ (PW.pt (uK (m_ (jf (bz mP qS (by rfl) T.di jO (ag (ae 0 (pv 0)) (ag (tG (.ty "list") (vK (v:=.ty "list") (by rfl) T.gk mQ rfl) fun _ _ _=>.ty "list") ak))))) (uJ (bt (ic hr.units) jY (xF (by rfl) T.dw (by rfl) T.oN hr.units (ag (ae 0 (pv 0)) ak)) (bz bu dN (by rfl) T.dw dM (ag (ae 0 (pv 0)) ak)) (aY _))))) (aw (aQ iu)) bf)
   (aq (bZ (bt (ic hr.units) jY (bz w9 B4 (by rfl) T.gv zm (ag (ae 0 (pv 0)) ak)) (xG (by rfl) T.gv (by rfl) T.oN hr.units (ag (Ee (N':=["_law_p","_law_a","_law_b"]) (cap:=[none,some 2,some 3]) (jd (sc:=ar (top 25)) (NN:=["_law_found","_law_some_here","_law_a","_law_b","_law_k","_law_one","_law_other","_law_way","_law_whole"]) rfl rfl rfl (by decide +kernel) (by decide +kernel) (by decide +kernel) (by decide +kernel)) rfl (jX (ae 1 (pv 1))) (fun _ _ _ _=>(cq (i:=0) (show List.Nodup (["_law_p","_law_a","_law_b"]:List Str)by decide +kernel) rfl (Or.inl rfl))) (fun _ _ _ _=>(BK (bt vS wC (ay [] (pf T) (hr.mono (by decide)) (by rfl) T.si T.bT.kp T.sj .nil (fun _ _ _=>.nil) (ag (ae 0 (pv 0)) (ag (ae 1 (pv 1)) (ag (ae 2 (pv 2)) ak)))) pO (aY _)))) (fun _ _ _ _=>(ae 0 (pv 0)))) ak)) (aY _)) (aw (aQ iu)) bf)
   (aq (ib PassesOwn.never rfl (zj (by rfl) T.cP (ag ai (ag (bz bu dN (by rfl) T.dw dM (ag (ae 0 (pv 0)) ak)) ak))) (cq (i:=4) dj.nd rfl (Or.inl rfl)) (aq (AE (gc (ag (aj (ae 0 (pv 0)) (av b_ cg (ae 4 (pv 4)) ai) (fun _ _=>rfl)) (ag (aj (ae 0 (pv 0)) (ae 4 (pv 4)) (fun _ _=>rfl)) ak))) (G3 rfl (tI (cq (i:=5) dj.nd rfl (Or.inr rfl)) (tI (cq (i:=6) dj.nd rfl (Or.inr rfl)) D_))))
   (aq (iU (i:=7) (N':=["_law_j","_law_other","_law_one"]) (cap:=[none,some 6,some 5]) (jd (sc:=ar (top 25)) (NN:=["_law_found","_law_some_here","_law_a","_law_b","_law_k","_law_one","_law_other","_law_way","_law_whole"]) rfl rfl rfl (by decide +kernel) (by decide +kernel) (by decide +kernel) (by decide +kernel)) rfl (dC (by rfl) T.cP (ag ai ak)) (fun _ _ _ _=>(cq (i:=0) (show List.Nodup (["_law_j","_law_other","_law_one"]:List Str)by decide +kernel) rfl (Or.inl rfl))) (fun _ _ _ _=>fm) (fun _ _ _ _=>(av b_ cg (av az aC (aj (ae 1 (pv 1)) (ae 0 (pv 0)) (fun _ _=>rfl)) (aj (ae 2 (pv 2)) ai (fun _ _=>rfl))) (av az aC (aj (ae 2 (pv 2)) (ae 0 (pv 0)) (fun _ _=>rfl)) (aj (ae 1 (pv 1)) ai (fun _ _=>rfl))))) dj.nd rfl (Or.inl rfl) (by rfl))
   (aq (iU (i:=8) (N':=["_law_j","_law_b","_law_a"]) (cap:=[none,some 3,some 2]) (jd (sc:=ar (top 25)) (NN:=["_law_found","_law_some_here","_law_a","_law_b","_law_k","_law_one","_law_other","_law_way","_law_whole"]) rfl rfl rfl (by decide +kernel) (by decide +kernel) (by decide +kernel) (by decide +kernel)) rfl (dC (by rfl) T.cP (ag ai ak)) (fun _ _ _ _=>(cq (i:=0) (show List.Nodup (["_law_j","_law_b","_law_a"]:List Str)by decide +kernel) rfl (Or.inl rfl))) (fun _ _ _ _=>fm) (fun _ _ _ _=>(av b_ cg (av az aC (aj (ae 1 (pv 1)) (ae 0 (pv 0)) (fun _ _=>rfl)) (aj (ae 2 (pv 2)) ai (fun _ _=>rfl))) (av az aC (aj (ae 2 (pv 2)) (ae 0 (pv 0)) (fun _ _=>rfl)) (aj (ae 1 (pv 1)) ai (fun _ _=>rfl))))) dj.nd rfl (Or.inl rfl) (by rfl))
   (aw (bZ (bt yK zh (av bh bG (av az aC (aj (ae 7 (pv 7)) ai (fun _ _=>rfl)) (aj (ae 8 (pv 8)) ai (fun _ _=>rfl))) (av az aC (aj (ae 7 (pv 7)) ai (fun _ _=>rfl)) (aj (ae 8 (pv 8)) ai (fun _ _=>rfl)))) ai (aY _)) (aw (aQ iu)) bf))))))
   (aw (aQ iu)))))
theorem fC:aZ ["_law_script","_law_k","_law_pool_here","_law_a","_law_b","_law_some_here","_law_kept","_law_found","_law_p","_law_told"] ["_law_script"] (ar (top 26)):=⟨rfl,rfl,rfl,by decide +kernel,rfl,by decide +kernel,by decide +kernel⟩
theorem Iz(T:Txt K mg t):bL P w K mg base cQ 8 t.zX t.se ["_law_script"] (dv K (kg (iq t.tc) t.cO)):=by
 refine T.kg.fR (n:=1) (m:=10) (B:=(ve (iq t.tc) t.cO)) fC rfl rfl (by decide) rfl fun cf A outer s H E hr=>?_
 unfold ve
 exact(aq (ib PassesOwn.never rfl (dC (by rfl) T.cP (ag (bz (yM rfl) D6 (by rfl) T.sk GR (ag ai (ag (bz bu dN (by rfl) T.dw dM (ag (tH (ae 0 (pv 0)) (qO ai) (qO ai)) ak)) ak))) ak)) (cq (i:=1) fC.nd rfl (Or.inl rfl)) (aq (aK (i:=2) fC.nd rfl (Or.inl rfl) (ay [] (vB T) (hr.mono (by decide)) (by rfl) T.ym T.cF.kp T.yn .nil (fun _ _ _=>.nil) (ag (ae 0 (pv 0)) (ag (av bh bG ai (ae 1 (pv 1))) ak))))
   (aq (aK (i:=3) fC.nd rfl (Or.inl rfl) (ay [] (jB T) (hr.mono (by decide)) (by rfl) T.kB T.a_.kp T.kC .nil (fun _ _ _=>.nil) (ag (ae 2 (pv 2)) ak)))
   (aq (aK (i:=4) fC.nd rfl (Or.inl rfl) (ay [] (so T) (hr.mono (by decide)) (by rfl) T.sP T.cG.kp T.sQ .nil (fun _ _ _=>.nil) (ag (ay [] (jB T) (hr.mono (by decide)) (by rfl) T.kB T.a_.kp T.kC .nil (fun _ _ _=>.nil) (ag (ae 2 (pv 2)) ak)) (ag (gd (ag (ae 3 (pv 3)) ak)) ak))))
   (aq (aK (i:=5) fC.nd rfl (Or.inl rfl) (ay [] (vC T) (hr.mono (by decide)) (by rfl) T.yo T.cZ.kp T.yp .nil (fun _ _ _=>.nil) (ag (ae 2 (pv 2)) (ag (ae 3 (pv 3)) (ag (ae 4 (pv 4)) ak)))))
   (aq (aK (i:=6) fC.nd rfl (Or.inl rfl) (gF sA D7 (by rfl) T.gk mQ (ag (ae 5 (pv 5)) ak)))
   (aq (aK (i:=7) fC.nd rfl (Or.inl rfl) (ay [] (uc T) (hr.mono (by decide)) (by rfl) T.yj T.cL.kp T.yk .nil (fun _ _ _=>.nil) (ag (gc (ag (ae 3 (pv 3)) (ag (ae 4 (pv 4)) ak))) (ag (ae 5 (pv 5)) ak))))
   (aq (bZ (PW.pt (uK (m_ (jf (ay [] (sS T) (hr.mono (by decide)) (by rfl) T.vx T.cN.kp T.vy .nil (fun _ _ _=>.nil) (ag (ae 7 (pv 7)) (ag (ae 5 (pv 5)) (ag (ae 3 (pv 3)) (ag (ae 4 (pv 4)) ak))))))) (uJ (bt (ic hr.units) jY (ae 5 (pv 5)) (ae 6 (pv 6)) (aY _))))) (aw (aQ iu)) bf)
   (aq (bZ (bt (ic hr.units) jY (ay [] (uc T) (hr.mono (by decide)) (by rfl) T.yj T.cL.kp T.yk .nil (fun _ _ _=>.nil) (ag (gc (ag (ae 4 (pv 4)) (ag (ae 3 (pv 3)) ak))) (ag (ae 5 (pv 5)) ak))) (wI (by rfl) T.gk (by rfl) T.fK (ag (ae 7 (pv 7)) ak)) (aY _)) (aw (aQ iu)) bf)
   (aw (ib PassesOwn.never rfl (jX (ae 5 (pv 5))) (cq (i:=8) fC.nd rfl (Or.inl rfl)) (aq (aK (i:=9) fC.nd rfl (Or.inl rfl) (ay [] (kF T) (hr.mono (by decide)) (by rfl) T.mm T.bp.kp T.mn .nil (fun _ _ _=>.nil) (ag (ae 8 (pv 8)) (ag (gc (ag (ae 3 (pv 3)) (ag (ae 4 (pv 4)) ak))) ak))))
   (aw (bZ (PW.pt (uK (m_ (jf (bz mP qS (by rfl) T.di jO (ag (ae 9 (pv 9)) (ag (tG (.ty "bool") (vK (v:=.ty "bool") (by rfl) T.nN DO rfl) fun _ _ _=>.ty "bool") ak))))) (uK (bt (ic hr.units) jY (ae 9 (pv 9)) (kJ vS wC (ay [] (pf T) (hr.mono (by decide)) (by rfl) T.si T.bT.kp T.sj .nil (fun _ _ _=>.nil) (ag (ae 8 (pv 8)) (ag (ae 3 (pv 3)) (ag (ae 4 (pv 4)) ak)))) pO (aY _)) (aY _)) (uJ (bt (ic hr.units) jY (ay [] (kF T) (hr.mono (by decide)) (by rfl) T.mm T.bp.kp T.mn .nil (fun _ _ _=>.nil) (ag (ae 8 (pv 8)) (ag (gc (ag (ae 4 (pv 4)) (ag (ae 3 (pv 3)) ak))) ak))) (ae 9 (pv 9)) (aY _)))))) (aw (aQ iu)) bf))))))))))))))
   (aw (aQ iu)))
end
theorem IA{K:PySem.W.Frag}{h:Heap}{mg:Str→Option Value}(X:K.In h)(G:h.Ns mainGlobals mg)
  {f0:Addr}{Vy Vz:Option Addr}{VA:Array (Option Value)}{VB VC VD VE Qy VF:Value}
  {f1:Addr}{VG VH:Option Addr}{VI:Array (Option Value)}{VJ VL VM VN Qz VO:Value}
  {f2:Addr}{VP VQ:Option Addr}{Gy:Array (Option Value)}{VR VS VT Hz QB VU:Value}
  {f3:Addr}{VV VW:Option Addr}{VX:Array (Option Value)}{VY VZ V0 V1 QC V2:Value}
  {f4:Addr}{V3 V4:Option Addr}{V5:Array (Option Value)}{V6 V7 V8 V9 QD V_:Value}
  {f5:Addr}{Wa Wb:Option Addr}{Wc:Array (Option Value)}{Wd We Wf Wg QF Wh:Value}
  {f6:Addr}{Wi Wj:Option Addr}{Wk:Array (Option Value)}{Wl Wm Wn Wo QH Wq:Value}
  {f7:Addr}{Wr Ws:Option Addr}{Wt:Array (Option Value)}{Wu Wv Ww Wx QJ Wy:Value}
  {f8:Addr}{Wz WA:Option Addr}{WB:Array (Option Value)}{WC WD WE WG QK WH:Value}
  {f9:Addr}{WI WJ:Option Addr}{WK:Array (Option Value)}{WL WM WN WO QL WQ:Value}
  {zW:Addr}{QM QN:Option Addr}{QP:Array (Option Value)}{QQ QR QU QV QX:Value}{A6 tp:Addr}
  {CJ:Addr}{QY QZ:Option Addr}{Q0:Array (Option Value)}{Q1 Q2 Q3 Q4 JE Q5:Value}
  {IB:Addr}{Q6 Q7:Option Addr}{Q8:Array (Option Value)}{Q9 Q_ Ra Rb JF Rc:Value}
  {IC:Addr}{Rf Rg:Option Addr}{Rh:Array (Option Value)}{Ri Rj Rk Rl JG Rm:Value}
  {ID:Addr}{Rn Ro:Option Addr}{Rp:Array (Option Value)}{Rq Rr Rt Ru JH Rv:Value}
  {IE:Addr}{Rw Rx:Option Addr}{Ry:Array (Option Value)}{Rz RB RC RF JI RG:Value}
  {IF:Addr}{RH RI:Option Addr}{RJ:Array (Option Value)}{RL RM RN RO JJ RP:Value}
  {IG:Addr}{RQ RT:Option Addr}{RU:Array (Option Value)}{RV RW RX RY JK RZ:Value}
  {IH:Addr}{R0 R1:Option Addr}{R3:Array (Option Value)}{R4 R5 R6 R7 JL R8:Value}
  {II:Addr}{R9 R_:Option Addr}{Sa:Array (Option Value)}{Sb Sd Se Sf JM Sh:Value}
  {IJ:Addr}{Si Sj:Option Addr}{Sk:Array (Option Value)}{Sl Sm Sn So JN Sq:Value}
  {IK:Addr}{Sr Ss:Option Addr}{Su:Array (Option Value)}{Sv Sw Sx Sy JO Sz:Value}
  {IL:Addr}{SA SD:Option Addr}{SE:Array (Option Value)}{SF SG SH SI JP SJ:Value}
  {IM:Addr}{SK SM:Option Addr}{SN:Array (Option Value)}{SO SR SS SU JQ SV:Value}
  (a0:PySem.W.nsIn K mainGlobals "is_below" =some (some (.ref f0)))
  (l0:K.lookup f0=some ⟨VB,Vy,.func (PySem.W.fnOf "is_below" "is_below" (aU (top 1)) (aP (top 1)) (ar (top 1)) .none VC VD VE Vz Qy VF),VA⟩)
  (c0:PySem.W.codeIn K Qy "is_below" =true)(k0:PySem.W.keepIn K (.ref f0)=true)
  (a1:PySem.W.nsIn K mainGlobals "ahead" =some (some (.ref f1)))
  (l1:K.lookup f1=some ⟨VJ,VG,.func (PySem.W.fnOf "ahead" "ahead" (aU (top 2)) (aP (top 2)) (ar (top 2)) .none VL VM VN VH Qz VO),VI⟩)
  (c1:PySem.W.codeIn K Qz "ahead" =true)(k1:PySem.W.keepIn K (.ref f1)=true)
  (a2:PySem.W.nsIn K mainGlobals "crossed" =some (some (.ref f2)))
  (l2:K.lookup f2=some ⟨VR,VP,.func (PySem.W.fnOf "crossed" "crossed" (aU (top 3)) (aP (top 3)) (ar (top 3)) .none VS VT Hz VQ QB VU),Gy⟩)
  (c2:PySem.W.codeIn K QB "crossed" =true)(k2:PySem.W.keepIn K (.ref f2)=true)
  (a3:PySem.W.nsIn K mainGlobals "sign" =some (some (.ref f3)))
  (l3:K.lookup f3=some ⟨VY,VV,.func (PySem.W.fnOf "sign" "sign" (aU (top 4)) (aP (top 4)) (ar (top 4)) .none VZ V0 V1 VW QC V2),VX⟩)
  (c3:PySem.W.codeIn K QC "sign" =true)(k3:PySem.W.keepIn K (.ref f3)=true)
  (a4:PySem.W.nsIn K mainGlobals "turn" =some (some (.ref f4)))
  (l4:K.lookup f4=some ⟨V6,V3,.func (PySem.W.fnOf "turn" "turn" (aU (top 5)) (aP (top 5)) (ar (top 5)) .none V7 V8 V9 V4 QD V_),V5⟩)
  (c4:PySem.W.codeIn K QD "turn" =true)(k4:PySem.W.keepIn K (.ref f4)=true)
  (a5:PySem.W.nsIn K mainGlobals "merged" =some (some (.ref f5)))
  (l5:K.lookup f5=some ⟨Wd,Wa,.func (PySem.W.fnOf "merged" "merged" (aU (top 6)) (aP (top 6)) (ar (top 6)) .none We Wf Wg Wb QF Wh),Wc⟩)
  (c5:PySem.W.codeIn K QF "merged" =true)(k5:PySem.W.keepIn K (.ref f5)=true)
  (a6:PySem.W.nsIn K mainGlobals "merged_pairs" =some (some (.ref f6)))
  (l6:K.lookup f6=some ⟨Wl,Wi,.func (PySem.W.fnOf "merged_pairs" "merged_pairs" (aU (top 7)) (aP (top 7)) (ar (top 7)) .none Wm Wn Wo Wj QH Wq),Wk⟩)
  (c6:PySem.W.codeIn K QH "merged_pairs" =true)(k6:PySem.W.keepIn K (.ref f6)=true)
  (a7:PySem.W.nsIn K mainGlobals "in_order" =some (some (.ref f7)))
  (l7:K.lookup f7=some ⟨Wu,Wr,.func (PySem.W.fnOf "in_order" "in_order" (aU (top 8)) (aP (top 8)) (ar (top 8)) .none Wv Ww Wx Ws QJ Wy),Wt⟩)
  (c7:PySem.W.codeIn K QJ "in_order" =true)(k7:PySem.W.keepIn K (.ref f7)=true)
  (a8:PySem.W.nsIn K mainGlobals "forward" =some (some (.ref f8)))
  (l8:K.lookup f8=some ⟨WC,Wz,.func (PySem.W.fnOf "forward" "forward" (aU (top 10)) (aP (top 10)) (ar (top 10)) .none WD WE WG WA QK WH),WB⟩)
  (c8:PySem.W.codeIn K QK "forward" =true)(k8:PySem.W.keepIn K (.ref f8)=true)
  (a9:PySem.W.nsIn K mainGlobals "on_side" =some (some (.ref f9)))
  (l9:K.lookup f9=some ⟨WL,WI,.func (PySem.W.fnOf "on_side" "on_side" (aU (top 11)) (aP (top 11)) (ar (top 11)) .none WM WN WO WJ QL WQ),WK⟩)
  (c9:PySem.W.codeIn K QL "on_side" =true)(k9:PySem.W.keepIn K (.ref f9)=true)
  (MV:PySem.W.nsIn K mainGlobals "along" =some (some (.ref zW)))
  (MW:K.lookup zW=some ⟨QQ,QM,.func (PySem.W.fnOf "along" "along" (aU (top 12)) (aP (top 12)) (ar (top 12)) .none QR QU QV QN (.ref A6) QX),QP⟩)
  (MX:PySem.W.codeIn K (.ref A6) "along" =true)(MY:PySem.W.keepIn K (.ref zW)=true)
  (MZ:PySem.W.nsIn K mainGlobals "_law_pool" =some (some (.ref CJ)))
  (M0:K.lookup CJ=some ⟨Q1,QY,.func (PySem.W.fnOf "_law_pool" "_law_pool" (aU (top 14)) (aP (top 14)) (ar (top 14)) .none Q2 Q3 Q4 QZ JE Q5),Q0⟩)
  (CI:PySem.W.codeIn K JE "_law_pool" =true)(Fw:PySem.W.keepIn K (.ref CJ)=true)
  (M1:PySem.W.nsIn K mainGlobals "_law_digit" =some (some (.ref IB)))
  (M3:K.lookup IB=some ⟨Q9,Q6,.func (PySem.W.fnOf "_law_digit" "_law_digit" (aU (top 15)) (aP (top 15)) (ar (top 15)) .none Q_ Ra Rb Q7 JF Rc),Q8⟩)
  (M4:PySem.W.codeIn K JF "_law_digit" =true)(M5:PySem.W.keepIn K (.ref IB)=true)
  (M6:PySem.W.nsIn K mainGlobals "_law_drawn" =some (some (.ref IC)))
  (M7:K.lookup IC=some ⟨Ri,Rf,.func (PySem.W.fnOf "_law_drawn" "_law_drawn" (aU (top 16)) (aP (top 16)) (ar (top 16)) .none Rj Rk Rl Rg JG Rm),Rh⟩)
  (M8:PySem.W.codeIn K JG "_law_drawn" =true)(M9:PySem.W.keepIn K (.ref IC)=true)
  (M_:PySem.W.nsIn K mainGlobals "_law_below" =some (some (.ref ID)))
  (Na:K.lookup ID=some ⟨Rq,Rn,.func (PySem.W.fnOf "_law_below" "_law_below" (aU (top 17)) (aP (top 17)) (ar (top 17)) .none Rr Rt Ru Ro JH Rv),Rp⟩)
  (Nb:PySem.W.codeIn K JH "_law_below" =true)(Nc:PySem.W.keepIn K (.ref ID)=true)
  (Nd:PySem.W.nsIn K mainGlobals "_law_shared" =some (some (.ref IE)))
  (Nf:K.lookup IE=some ⟨Rz,Rw,.func (PySem.W.fnOf "_law_shared" "_law_shared" (aU (top 18)) (aP (top 18)) (ar (top 18)) .none RB RC RF Rx JI RG),Ry⟩)
  (Ng:PySem.W.codeIn K JI "_law_shared" =true)(Nh:PySem.W.keepIn K (.ref IE)=true)
  (Ni:PySem.W.nsIn K mainGlobals "_law_lowest" =some (some (.ref IF)))
  (Nj:K.lookup IF=some ⟨RL,RH,.func (PySem.W.fnOf "_law_lowest" "_law_lowest" (aU (top 19)) (aP (top 19)) (ar (top 19)) .none RM RN RO RI JJ RP),RJ⟩)
  (Nk:PySem.W.codeIn K JJ "_law_lowest" =true)(Nl:PySem.W.keepIn K (.ref IF)=true)
  (Nm:PySem.W.nsIn K mainGlobals "_law_spot" =some (some (.ref IG)))
  (Nn:K.lookup IG=some ⟨RV,RQ,.func (PySem.W.fnOf "_law_spot" "_law_spot" (aU (top 20)) (aP (top 20)) (ar (top 20)) .none RW RX RY RT JK RZ),RU⟩)
  (Np:PySem.W.codeIn K JK "_law_spot" =true)(Nq:PySem.W.keepIn K (.ref IG)=true)
  (Nr:PySem.W.nsIn K mainGlobals "_law_unlike" =some (some (.ref IH)))
  (Nt:K.lookup IH=some ⟨R4,R0,.func (PySem.W.fnOf "_law_unlike" "_law_unlike" (aU (top 21)) (aP (top 21)) (ar (top 21)) .none R5 R6 R7 R1 JL R8),R3⟩)
  (Nu:PySem.W.codeIn K JL "_law_unlike" =true)(Nv:PySem.W.keepIn K (.ref IH)=true)
  (Nw:PySem.W.nsIn K mainGlobals "_law_between" =some (some (.ref II)))
  (Ny:K.lookup II=some ⟨Sb,R9,.func (PySem.W.fnOf "_law_between" "_law_between" (aU (top 22)) (aP (top 22)) (ar (top 22)) .none Sd Se Sf R_ JM Sh),Sa⟩)
  (Nz:PySem.W.codeIn K JM "_law_between" =true)(NA:PySem.W.keepIn K (.ref II)=true)
  (NB:PySem.W.nsIn K mainGlobals "_law_some" =some (some (.ref IJ)))
  (NC:K.lookup IJ=some ⟨Sl,Si,.func (PySem.W.fnOf "_law_some" "_law_some" (aU (top 23)) (aP (top 23)) (ar (top 23)) .none Sm Sn So Sj JN Sq),Sk⟩)
  (ND:PySem.W.codeIn K JN "_law_some" =true)(NF:PySem.W.keepIn K (.ref IJ)=true)
  (NG:PySem.W.nsIn K mainGlobals "_law_far" =some (some (.ref IK)))
  (NH:K.lookup IK=some ⟨Sv,Sr,.func (PySem.W.fnOf "_law_far" "_law_far" (aU (top 24)) (aP (top 24)) (ar (top 24)) .none Sw Sx Sy Ss JO Sz),Su⟩)
  (NI:PySem.W.codeIn K JO "_law_far" =true)(NJ:PySem.W.keepIn K (.ref IK)=true)
  (NK:PySem.W.nsIn K mainGlobals "_law_right" =some (some (.ref IL)))
  (NL:K.lookup IL=some ⟨SF,SA,.func (PySem.W.fnOf "_law_right" "_law_right" (aU (top 25)) (aP (top 25)) (ar (top 25)) .none SG SH SI SD JP SJ),SE⟩)
  (NM:PySem.W.codeIn K JP "_law_right" =true)(NO:PySem.W.keepIn K (.ref IL)=true)
  (NP:PySem.W.nsIn K mainGlobals "law" =some (some (.ref IM)))
  (NQ:K.lookup IM=some ⟨SO,SK,.func (PySem.W.fnOf "law" "law" (aU (top 26)) (aP (top 26)) (ar (top 26)) .none SR SS SU SM JQ SV),SN⟩)
  (NR:PySem.W.codeIn K JQ "law" =true)(rX:PySem.W.keepIn K (.ref IM)=true)
  (kD:PySem.W.nsIn K mainGlobals "abs" =some none)
  (nN:PySem.W.nsIn K mainGlobals "bool" =some none)
  (oM:PySem.W.nsIn K mainGlobals "int" =some none)
  (di:PySem.W.nsIn K mainGlobals "isinstance" =some none)
  (dw:PySem.W.nsIn K mainGlobals "len" =some none)
  (gk:PySem.W.nsIn K mainGlobals "list" =some none)
  (sk:PySem.W.nsIn K mainGlobals "max" =some none)
  (cP:PySem.W.nsIn K mainGlobals "range" =some none)
  (fK:PySem.W.nsIn K mainGlobals "reversed" =some none)
  (oN:PySem.W.nsIn K mainGlobals "set" =some none)
  (gv:PySem.W.nsIn K mainGlobals "sorted" =some none)
  (tn:K.lookup tp=none)(th:PySem.W.codeHdIn K A6 tp=true)
  :∃t,Txt K mg t∧(∀(s:Shared) (v:Value),BindsTo s t.se ⟨[v],[]⟩ [("_law_script",v)])∧t.tp=tp:=by
 have F0:=bR (st:=top 1) l0 c0 k0
 have b0:=F0.binds (ps:=["p","q"]) fun _ _ _ _ _ _ us hl=>match us,hl with|[_,_],_=>rfl
 have F1:=bR (st:=top 2) l1 c1 k1
 have b1:=F1.binds (ps:=["p","q"]) fun _ _ _ _ _ _ us hl=>match us,hl with|[_,_],_=>rfl
 have F2:=bR (st:=top 3) l2 c2 k2
 have b2:=F2.binds (ps:=["p","q"]) fun _ _ _ _ _ _ us hl=>match us,hl with|[_,_],_=>rfl
 have F3:=bR (st:=top 4) l3 c3 k3
 have b3:=F3.binds (ps:=["n"]) fun _ _ _ _ _ _ us hl=>match us,hl with|[_],_=>rfl
 have F4:=bR (st:=top 5) l4 c4 k4
 have b4:=F4.binds (ps:=["a","b","c"]) fun _ _ _ _ _ _ us hl=>match us,hl with|[_,_,_],_=>rfl
 have F5:=bR (st:=top 6) l5 c5 k5
 have b5:=F5.binds (ps:=["left","right","first"]) fun _ _ _ _ _ _ us hl=>match us,hl with|[_,_,_],_=>rfl
 have F6:=bR (st:=top 7) l6 c6 k6
 have b6:=F6.binds (ps:=["runs","first"]) fun _ _ _ _ _ _ us hl=>match us,hl with|[_,_],_=>rfl
 have F7:=bR (st:=top 8) l7 c7 k7
 have b7:=F7.binds (ps:=["some","first"]) fun _ _ _ _ _ _ us hl=>match us,hl with|[_,_],_=>rfl
 have F8:=bR (st:=top 10) l8 c8 k8
 have b8:=F8.binds (ps:=["side"]) fun _ _ _ _ _ _ us hl=>match us,hl with|[_],_=>rfl
 have F9:=bR (st:=top 11) l9 c9 k9
 have b9:=F9.binds (ps:=["p","side"]) fun _ _ _ _ _ _ us hl=>match us,hl with|[_,_],_=>rfl
 have SW:=Eu (st:=top 12) MW MX MY
 have WR:=SW.toFun.binds (ps:=["side","some"]) fun _ _ _ _ _ _ us hl=>match us,hl with|[_,_],_=>rfl
 have SX:=bR (st:=top 14) M0 CI Fw
 have WS:=SX.binds (ps:=["_law_script","_law_k"]) fun _ _ _ _ _ _ us hl=>match us,hl with|[_,_],_=>rfl
 have SY:=bR (st:=top 15) M3 M4 M5
 have WT:=SY.binds (ps:=["_law_pool_here","_law_many"]) fun _ _ _ _ _ _ us hl=>match us,hl with|[_,_],_=>rfl
 have S0:=bR (st:=top 16) M7 M8 M9
 have WU:=S0.binds (ps:=["_law_pool_here"]) fun _ _ _ _ _ _ us hl=>match us,hl with|[_],_=>rfl
 have S1:=bR (st:=top 17) Na Nb Nc
 have WV:=S1.binds (ps:=["_law_pool_here"]) fun _ _ _ _ _ _ us hl=>match us,hl with|[_],_=>rfl
 have S2:=bR (st:=top 18) Nf Ng Nh
 have WW:=S2.binds (ps:=["_law_a","_law_b"]) fun _ _ _ _ _ _ us hl=>match us,hl with|[_,_],_=>rfl
 have S3:=bR (st:=top 19) Nj Nk Nl
 have WX:=S3.binds (ps:=["_law_x","_law_y","_law_w"]) fun _ _ _ _ _ _ us hl=>match us,hl with|[_,_,_],_=>rfl
 have S4:=bR (st:=top 20) Nn Np Nq
 have WY:=S4.binds (ps:=["_law_pool_here"]) fun _ _ _ _ _ _ us hl=>match us,hl with|[_],_=>rfl
 have S5:=bR (st:=top 21) Nt Nu Nv
 have WZ:=S5.binds (ps:=["_law_p","_law_some_here"]) fun _ _ _ _ _ _ us hl=>match us,hl with|[_,_],_=>rfl
 have S6:=bR (st:=top 22) Ny Nz NA
 have W2:=S6.binds (ps:=["_law_pool_here","_law_a","_law_b"]) fun _ _ _ _ _ _ us hl=>match us,hl with|[_,_,_],_=>rfl
 have S7:=bR (st:=top 23) NC ND NF
 have W3:=S7.binds (ps:=["_law_pool_here","_law_a","_law_b"]) fun _ _ _ _ _ _ us hl=>match us,hl with|[_,_,_],_=>rfl
 have S8:=bR (st:=top 24) NH NI NJ
 have W4:=S8.binds (ps:=["_law_p","_law_a","_law_b"]) fun _ _ _ _ _ _ us hl=>match us,hl with|[_,_,_],_=>rfl
 have S9:=bR (st:=top 25) NL NM NO
 have W5:=S9.binds (ps:=["_law_found","_law_some_here","_law_a","_law_b"]) fun _ _ _ _ _ _ us hl=>match us,hl with|[_,_,_,_],_=>rfl
 have S_:=bR (st:=top 26) NQ NR rX
 have W6:=S_.binds (ps:=["_law_script"]) fun _ _ _ _ _ _ us hl=>match us,hl with|[_],_=>rfl
 exact⟨⟨A6,tp,f0,_,f1,_,f2,_,f3,_,f4,_,f5,_,f6,_,f7,_,f8,_,f9,_,zW,_,CJ,_,IB,_,IC,_,ID,_,IE,_,IF,_,IG,_,IH,_,II,_,IJ,_,IK,_,IL,_,IM,_⟩,⟨tn,th,F0,PySem.W.mg_of X G a0,b0,F1,PySem.W.mg_of X G a1,b1,F2,PySem.W.mg_of X G a2,b2,F3,PySem.W.mg_of X G a3,b3,F4,PySem.W.mg_of X G a4,b4,F5,PySem.W.mg_of X G a5,b5,F6,PySem.W.mg_of X G a6,b6,F7,PySem.W.mg_of X G a7,b7,F8,PySem.W.mg_of X G a8,b8,F9,PySem.W.mg_of X G a9,b9,SW,PySem.W.mg_of X G MV,WR,SX,PySem.W.mg_of X G MZ,WS,SY,PySem.W.mg_of X G M1,WT,S0,PySem.W.mg_of X G M6,WU,S1,PySem.W.mg_of X G M_,WV,S2,PySem.W.mg_of X G Nd,WW,S3,PySem.W.mg_of X G Ni,WX,S4,PySem.W.mg_of X G Nm,WY,S5,PySem.W.mg_of X G Nr,WZ,S6,PySem.W.mg_of X G Nw,W2,S7,PySem.W.mg_of X G NB,W3,S8,PySem.W.mg_of X G NG,W4,S9,PySem.W.mg_of X G NK,W5,S_,PySem.W.mg_of X G NP,W6,PySem.W.mg_none_of X G kD,PySem.W.mg_none_of X G nN,PySem.W.mg_none_of X G oM,PySem.W.mg_none_of X G di,PySem.W.mg_none_of X G dw,PySem.W.mg_none_of X G gk,PySem.W.mg_none_of X G sk,PySem.W.mg_none_of X G cP,PySem.W.mg_none_of X G fK,PySem.W.mg_none_of X G oN,PySem.W.mg_none_of X G gv⟩,fun s v=>.of_eq rfl,rfl⟩
theorem walk{l:PySem.W.OpenLaw}{q:Program}{loose:List Str}{XP:(Str→Option Value)→Heap→Prop}{YP:World→Heap→Prop}{d:DefRec}{K:Params→PySem.W.Frag}{ts:List Addr}(hn:l.most=some 63)(y0:d.params.defaults=[])
  (hY:∀(w:World) (h:Heap),YP w h→(K w.params).In h∧∀P∈ts,h.get? P=some (PySem.W.tabObj #[]))
  (F:∀(w:World) (mg:Str→Option Value) (fa:Addr) (h:Heap),(K w.params).In h→h.Ns mainGlobals mg→mg d.name=some (.ref fa)→
   (∀P∈ts,(K w.params).lookup P=none∧∃c,PySem.W.codeHdIn (K w.params) c P=true)∧∃fd:FuncData,(∀(s:Shared) (u:Value),BindsTo s fd ⟨[u],[]⟩ [("_law_script",u)])∧∀base:Heap,(K w.params).In base→base.Ns mainGlobals mg→bL l.prog w (K w.params) mg base cQ 8 fa fd ["_law_script"] (EW ts (K w.params) kg)):
  PySem.W.WalkO q loose XP YP l.row.toRowW d [] (fun f vs=>PySem.call f vs):=
 L2.B0 (n:=63) (k:=8) (x:="_law_script") (sp:=fun K=>EW ts K kg) hn (by decide) y0 ⟨rfl,by decide,by decide⟩ hY F (fun K H a ns hl hO hS τ=>Ew hO hS fun t=>CL t τ ns hl)
theorem fin{P:Program}{w:World}{K:PySem.W.Frag}{mg:Str→Option Value}{fa tp:Addr}(y3:mg "law" =some (.ref fa))(TT:∃t,Txt K mg t∧(∀(s:Shared) (v:Value),BindsTo s t.se ⟨[v],[]⟩ [("_law_script",v)])∧t.tp=tp):
  (∀P∈[tp],K.lookup P=none∧∃c,PySem.W.codeHdIn K c P=true)∧∃fd:FuncData,(∀(s:Shared) (u:Value),BindsTo s fd ⟨[u],[]⟩ [("_law_script",u)])∧∀base:Heap,K.In base→base.Ns mainGlobals mg→bL P w K mg base cQ 8 fa fd ["_law_script"] (EW [tp] K kg):=by
 obtain⟨t,T,hb,rfl⟩:=TT
 have e0:=y3.symm.trans T.MU
 cases e0
 refine⟨fun P hP=>?_,_,hb,fun base _ _=>(Iz T).imp fun _ _ _ _ q=>q t.cO (iq t.tc) ⟨t.tp,by simp,T.th⟩⟩
 have:P=t.tp:=by simpa using hP
 subst this
 exact⟨T.tn,t.tc,T.th⟩
end xO
open PySem PySem.W PyProof.Rows
local macro_rules (kind:=Lean.Parser.Term.structInst)|stx=>do
 if (stx.find? fun x=>x.isIdent&&x.getId.eraseMacroScopes==`globals).isSome then Lean.Macro.throwError "as a whole" else Lean.Macro.throwUnsupported
set_option maxRecDepth 100000 in
set_option maxHeartbeats 0 in
theorem PySem.Challenge.cw_sheetlay_k16_spots_along_a_side_holds : PySem.Challenge.rw_sheetlay_k16_spots_along_a_side.Holds := by
 w_on;o_law;k_head;(case hw=>w_witness2)
 k_fill
 refine xO.walk (l:=PySem.Challenge.rw_sheetlay_k16_spots_along_a_side) rfl rfl (fun w h Y=>⟨PySem.W.km_in_of Y,PySem.W.km_tabs_of Y⟩) ?F
 case F=>
  intro w mg fa h KX G y3
  refine xO.fin (K:=L2.Ou KX) y3 ?_
  dsimp only[L2.Ou]
  refine' xO.IA KX G ?a0 ?l0 ?c0 ?k0 ?a1 ?l1 ?c1 ?k1 ?a2 ?l2 ?c2 ?k2 ?a3 ?l3 ?c3 ?k3 ?a4 ?l4 ?c4 ?k4 ?a5 ?l5 ?c5 ?k5 ?a6 ?l6 ?c6 ?k6 ?a7 ?l7 ?c7 ?k7 ?a8 ?l8 ?c8 ?k8 ?a9 ?l9 ?c9 ?k9 ?MV ?MW ?MX ?MY ?MZ ?M0 ?CI ?Fw ?M1 ?M3 ?M4 ?M5 ?M6 ?M7 ?M8 ?M9 ?M_ ?Na ?Nb ?Nc ?Nd ?Nf ?Ng ?Nh ?Ni ?Nj ?Nk ?Nl ?Nm ?Nn ?Np ?Nq ?Nr ?Nt ?Nu ?Nv ?Nw ?Ny ?Nz ?NA ?NB ?NC ?ND ?NF ?NG ?NH ?NI ?NJ ?NK ?NL ?NM ?NO ?NP ?NQ ?NR ?rX ?kD ?nN ?oM ?di ?dw ?gk ?sk ?cP ?fK ?oN ?gv ?tn ?th
  (case a0=>k_is)
  (case l0=>k_is)
  (case c0=>k_is)
  (case k0=>k_is)
  (case a1=>k_is)
  (case l1=>k_is)
  (case c1=>k_is)
  (case k1=>k_is)
  (case a2=>k_is)
  (case l2=>k_is)
  (case c2=>k_is)
  (case k2=>k_is)
  (case a3=>k_is)
  (case l3=>k_is)
  (case c3=>k_is)
  (case k3=>k_is)
  (case a4=>k_is)
  (case l4=>k_is)
  (case c4=>k_is)
  (case k4=>k_is)
  (case a5=>k_is)
  (case l5=>k_is)
  (case c5=>k_is)
  (case k5=>k_is)
  (case a6=>k_is)
  (case l6=>k_is)
  (case c6=>k_is)
  (case k6=>k_is)
  (case a7=>k_is)
  (case l7=>k_is)
  (case c7=>k_is)
  (case k7=>k_is)
  (case a8=>k_is)
  (case l8=>k_is)
  (case c8=>k_is)
  (case k8=>k_is)
  (case a9=>k_is)
  (case l9=>k_is)
  (case c9=>k_is)
  (case k9=>k_is)
  (case MV=>k_is)
  (case MW=>k_is)
  (case MX=>k_is)
  (case MY=>k_is)
  (case MZ=>k_is)
  (case M0=>k_is)
  (case CI=>k_is)
  (case Fw=>k_is)
  (case M1=>k_is)
  (case M3=>k_is)
  (case M4=>k_is)
  (case M5=>k_is)
  (case M6=>k_is)
  (case M7=>k_is)
  (case M8=>k_is)
  (case M9=>k_is)
  (case M_=>k_is)
  (case Na=>k_is)
  (case Nb=>k_is)
  (case Nc=>k_is)
  (case Nd=>k_is)
  (case Nf=>k_is)
  (case Ng=>k_is)
  (case Nh=>k_is)
  (case Ni=>k_is)
  (case Nj=>k_is)
  (case Nk=>k_is)
  (case Nl=>k_is)
  (case Nm=>k_is)
  (case Nn=>k_is)
  (case Np=>k_is)
  (case Nq=>k_is)
  (case Nr=>k_is)
  (case Nt=>k_is)
  (case Nu=>k_is)
  (case Nv=>k_is)
  (case Nw=>k_is)
  (case Ny=>k_is)
  (case Nz=>k_is)
  (case NA=>k_is)
  (case NB=>k_is)
  (case NC=>k_is)
  (case ND=>k_is)
  (case NF=>k_is)
  (case NG=>k_is)
  (case NH=>k_is)
  (case NI=>k_is)
  (case NJ=>k_is)
  (case NK=>k_is)
  (case NL=>k_is)
  (case NM=>k_is)
  (case NO=>k_is)
  (case NP=>k_is)
  (case NQ=>k_is)
  (case NR=>k_is)
  (case rX=>k_is)
  (case kD=>k_is)
  (case nN=>k_is)
  (case oM=>k_is)
  (case di=>k_is)
  (case dw=>k_is)
  (case gk=>k_is)
  (case sk=>k_is)
  (case cP=>k_is)
  (case fK=>k_is)
  (case oN=>k_is)
  (case gv=>k_is)
  (case tn=>kernel_rfl)
  (case th=>kernel_rfl)
